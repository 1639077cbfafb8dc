import PyProof.Rows.All
import Wide.All
import OpenK.AllK
import Wide.FinOn
import HandS.ForMost
import HandS.Wide
import HandS.Style
import HandS.EndBits
import HandS.Conv
import PyProof.ReprLen
import PyProof.ReprReads
import PyProof.ReprRoads
import HandS.TupSets
import KE.KDictKeyed
import HandS.Strs
import KE.SortData
import KE.LtData
import HandS.Comp
import HandS.SetBool
import HandS.DictComp
import HandS.IsInst
import HandS.FStr
import HandS.Star
import HandS.ClsMeth
import HandS.Property
import HandS.Walk
import HandS.More
import KE.KDictWalk
import KE.KDictCopyH
import KE.KeyNested
import PyProof.Rows.TupTab
import PyProof.DictMoreH
import HandS.TupLen
import HandS.Deep
import PyProof.TupleOfSeq
import PyProof.P3In
import HandS.WordsExc
import HandS.HotCalls
import PyProof.Rows.TupAdd
import HandS.Evl
import KE.DataFind
import KE.Datum
import HandS.Text
import HandS.RaiseMore
import HandS.TupMul
import HandS.Words
import PySem.Challenge.RW_mustwait_k15_texts_of_histories
-- ===== K15A =====
set_option Elab.async false
set_option linter.all false
set_option maxRecDepth 100000
set_option maxHeartbeats 4000000
namespace My
open PySem L2
def top (i : Nat) : Stmt := PySem.Challenge.pw_mustwait_k15_texts_of_histories.main.body.getD i (.Pass ⟨0, 0, 0, 0⟩)
abbrev sFeed : Stmt := top 39
abbrev sDigit : Stmt := top 40

/-- bits of the script's numbers -/
def Bits (ks : List Int) : Prop := ∀ k ∈ ks, Builtin.Int.intBits k ≤ 1048576
/-- a feed at p: its numbers at c, the mixed number, how many draws there were -/
structure FeedAt (H : Hp) (p c : Addr) (ks : List Int) (w n : Int) : Prop where
  ob : H p = some (.lst [.ref c, .int w, .int n])
  cs : H c = some (.lst (ks.map V.int))
  bits : Bits ks
  len : ks.length ≤ 63
  w0 : 0 ≤ w
  w1 : w < 2147483648
  n0 : 0 ≤ n
theorem FeedAt.ne {H : Hp} {p c : Addr} {ks : List Int} {w n : Int} (F : FeedAt H p c ks w n) : c ≠ p := by
  intro e
  have h1 := F.ob
  have h2 := F.cs
  rw [e, h1] at h2
  have h3 := HO.lst.inj (Option.some.inj h2)
  cases ks with
  | nil => cases h3
  | cons k r =>
    injection h3 with h4 _
    cases h4
/-- all that was tracked is as it was, but for these two -/
def Save (p c : Addr) (H H' : Hp) : Prop := ∀ b o, H b = some o → b ≠ p → b ≠ c → H' b = some o
theorem Save.refl (p c : Addr) (H : Hp) : Save p c H H := fun _ _ h _ _ => h
theorem Save.trans {p c : Addr} {H H1 H2 : Hp} (a : Save p c H H1) (b : Save p c H1 H2) : Save p c H H2 := fun x o h h1 h2 => b x o (a x o h h1 h2) h1 h2
theorem Save.of {p c : Addr} {H H1 : Hp} (a : Same H H1) : Save p c H H1 := fun x o h _ _ => a x o h

/-- _law_feed(script): a new feed -/
def spFeed (K : PySem.W.Frag) : Sp := fun vs H Q _ => ∃ (a : Addr) (ns : List Int), vs = [.ref a] ∧ SqL K H a (ns.map V.int) ∧ ns.length ≤ 63 ∧ Bits ns ∧
  ∀ (p c : Addr) (ks : List Int) (w : Int) (H' : Hp), Same H H' → H p = none → H c = none → FeedAt H' p c ks w 0 → Q (.ref p) H'
/-- _law_digit(feed, many): a number below many -/
def spDigit : Sp := fun vs H Q _ => ∃ (p c : Addr) (ks : List Int) (w n m : Int), vs = [.ref p, .int m] ∧ FeedAt H p c ks w n ∧ n < 1000000 ∧ 0 < m ∧ m < 1000000 ∧
  ∀ (i : Int) (ks' : List Int) (H' : Hp), 0 ≤ i → i < m → FeedAt H' p c ks' w (n + 1) → Save p c H H' → Q (.int i) H'

theorem cut63 (xs : List V) : cutV xs none (some (63 : Int)) = xs.take 63 := by
  unfold cutV HT.sIx
  simp [List.take_eq_take_min]
theorem lay_ints : ∀ ks : List Int, PyData.canLayAll0 (ks.map PyData.int) = true
  | [] => by simp only [List.map_nil, PyData.canLayAll0]
  | k :: r => by simp only [List.map_cons, PyData.canLayAll0, PyData.canLay0, lay_ints r, Bool.and_self]
theorem deep_ints : ∀ ks : List Int, PyData.depthAll (ks.map PyData.int) ≤ 1
  | [] => by simp only [List.map_nil, PyData.depthAll]; omega
  | k :: r => by
    have ih := deep_ints r
    simp only [List.map_cons, PyData.depthAll, PyData.depth]
    omega
theorem shaped_ints (ks : List Int) : SeqAt.shaped (.list (ks.map PyData.int)) = true := by
  have h := deep_ints ks
  unfold SeqAt.shaped
  rw [Bool.and_eq_true]
  refine ⟨by simp only [PyData.canLay0, lay_ints], decide_eq_true ?_⟩
  simp only [PyData.depth]
  omega
theorem dp_ints {K : PySem.W.Frag} {H : Hp} : ∀ ks : List Int, DpAll K H (ks.map V.int) (ks.map PyData.int)
  | [] => .nil
  | k :: r => .cons (.int k) (dp_ints r)
theorem some_ints : ∀ (ks : List Int) (z : Int), PyData.eqv (.list ((ks ++ [z]).map PyData.int)) (.list []) = false
  | [], z => by simp [PyData.eqv, PyData.eqvAll]
  | k :: r, z => by simp [PyData.eqv, PyData.eqvAll]
theorem bits_mono {i j : Int} (h0 : 0 ≤ i) (h : i ≤ j) : Builtin.Int.intBits i ≤ Builtin.Int.intBits j := by
  unfold Builtin.Int.intBits
  by_cases e : i = 0
  · subst e
    simp
  · have ej : ¬ j = 0 := by omega
    have e1 : (i == 0) = false := by simpa using e
    have e2 : (j == 0) = false := by simpa using ej
    rw [e1, e2]
    have h2 : i.natAbs ≤ j.natAbs := by omega
    have h3 : i.natAbs ≠ 0 := by omega
    have h4 : j.natAbs ≠ 0 := by omega
    have := (Nat.le_log2 h4).mpr (Nat.le_trans (Nat.log2_self_le h3) h2)
    simp
    exact this
section
variable {P : Program} {w : World} {K : PySem.W.Frag} {mg : Str → Option Value} {base : Heap}
theorem scF : FnScope ["_law_script", "_law_cells", "_law_mixed", "_law_one"] ["_law_script"] (defScope sFeed) := ⟨rfl, rfl, rfl, by decide +kernel, rfl, by decide +kernel, by decide +kernel⟩
theorem ok_feed {f : Addr} {fd : FuncData} (F : Fun K "_law_deck" "_law_deck" sFeed f fd) (mlist : mg "list" = none) : FnOk P w K mg base CX0 1 f fd ["_law_script"] (spFeed K) := by
  refine F.ok scF (fun vs H Q E h => ?_) (fun cdv A outer s H vs Q E hr h => ?_)
  · obtain ⟨a, ns, rfl, _⟩ := h
    rfl
  · obtain ⟨a, ns, rfl, hS, hlen, hbits, k⟩ := h
    refine ⟨_, pss_cons (ps_par (i := 1) (j := 2) rfl scF.nd rfl rfl (by decide) rfl rfl
        (pa_cons (pe_callTy call_list_of (by rfl) mlist (by decide +kernel) (pa_cons (pe_slice sl_list (pv 0) po_none (po_some pe_int)) pa_nil)) (pa_cons pe_int pa_nil)) (by rfl))
      (pss_cons (ps_for PassesOwn.never rfl (pi_list (pv 1)) (pg_name (i := 3) scF.nd rfl (Or.inl rfl))
        (pss_one (ps_set (i := 2) scF.nd rfl (Or.inl rfl)
          (pe_op op_mod (pe_op op_add (pe_op op_add (pe_op op_mul (pv 2) pe_int) (pe_op op_mod (pv 3) pe_int)) pe_int) pe_int))))
      (pss_one (ps_ret (pe_lst (pa_cons (pe_revL (pv 1)) (pa_cons (pv 2) (pa_cons pe_int pa_nil))))))), ?_⟩
    refine ⟨_, rfl, 63, rfl, a, _, rfl, hS, fun q hq => ⟨q, _, rfl, .inl (SqL.of upd_same), fun l hl => ⟨_, _, rfl, ?_⟩⟩⟩
    have nlq : l ≠ q := fun e => by
      rw [e, upd_same] at hl
      cases hl
    have hl0 : H l = none := by
      rw [upd_ne nlq] at hl
      exact hl
    have s0 : Same H (upd (upd H q (.lst (cutV (ns.map V.int) none (some 63)))) l (.lst (cutV (ns.map V.int) none (some 63)))) := fun b o e => by
      rw [upd_ne (ne_of_none e hl0), upd_ne (ne_of_none e hq)]
      exact e
    have ecut : cutV (ns.map V.int) none (some 63) = (ns.take 63).map V.int := by rw [cut63, List.map_take]
    refine ⟨_, rfl, l, rfl, ⟨_, SqL.of upd_same⟩, for_list (K := K) (a := l) (xs := (ns.take 63).map V.int) (fun i σ H2 => ∃ (y : Int) (v : Option V), σ = [some (.ref a), some (.ref l), some (.int y), v] ∧ 0 ≤ y ∧ y < 2147483629 ∧ Same H H2 ∧ H2 l = some (.lst ((ns.take 63).map V.int)))
      ⟨90151, none, rfl, by decide, by decide, s0, by rw [upd_same, ecut]⟩ (fun i σ H2 _ ⟨_, _, _, _, _, _, e⟩ => SqL.of e) ?_ ?_⟩
    · rintro i x σ H2 hi ⟨y, v, rfl, y0, y1, s2, hc⟩
      obtain ⟨z, rfl⟩ : ∃ z, x = V.int z := by
        rw [List.getElem?_map] at hi
        cases e : (ns.take 63)[i]? with
        | none =>
          rw [e] at hi
          cases hi
        | some z =>
          rw [e] at hi
          exact ⟨z, (Option.some.inj hi).symm⟩
      refine ⟨_, rfl, _, _, rfl, rfl, .inl ⟨by omega, by omega⟩, _, rfl, _, _, rfl, rfl, (by show (0 : Int) < _; decide), _, _, rfl, rfl, _, _, rfl, rfl, _, _, rfl, rfl, (by show (0 : Int) < _; decide), ?_⟩
      exact ⟨_, _, rfl, Int.emod_nonneg _ (by decide), Int.emod_lt_of_pos _ (by decide), s2, hc⟩
    · rintro σ H2 ⟨y, v, rfl, y0, y1, s2, hc⟩
      refine ⟨_, rfl, l, _, rfl, SqL.of hc, fun c hcn => ⟨_, rfl, by show 3 ≤ sizeLine; decide, fun p hp => ?_⟩⟩
      have npc : p ≠ c := fun e => by
        rw [e, upd_same] at hp
        cases hp
      have hp0 : H2 p = none := by
        rw [upd_ne npc] at hp
        exact hp
      refine k p c (ns.take 63).reverse y _ (fun b o e => ?_) (s2.free hp0) (s2.free hcn) ⟨upd_same, ?_, ?_, ?_, y0, by omega, by decide⟩
      · rw [upd_ne (ne_of_none (s2 b o e) hp0), upd_ne (ne_of_none (s2 b o e) hcn)]
        exact s2 b o e
      · rw [upd_ne (Ne.symm npc), upd_same, List.map_reverse]
      · exact fun z hz => hbits z (List.mem_of_mem_take (List.mem_reverse.mp hz))
      · rw [List.length_reverse, List.length_take]
        omega
theorem scD : FnScope ["_law_deck_here", "_law_count", "_law_top", "_law_number"] ["_law_deck_here", "_law_count"] (defScope sDigit) := ⟨rfl, rfl, rfl, by decide +kernel, rfl, by decide +kernel, by decide +kernel⟩
theorem draw_b1 {z t : Int} (t0 : 0 ≤ t) (t1 : t < 1000001) : -(2 ^ 64 : Int) < z % 2147483563 + 69621 * t + 7 ∧ z % 2147483563 + 69621 * t + 7 < 2 ^ 64 := by
  have b0 := Int.emod_nonneg z (show (2147483563 : Int) ≠ 0 by decide)
  have b1 := Int.emod_lt_of_pos z (show (0 : Int) < 2147483563 by decide)
  constructor <;> omega
theorem ok_digit {f : Addr} {fd : FuncData} (F : Fun K "_law_draw" "_law_draw" sDigit f fd) : FnOk P w K mg base CX0 1 f fd ["_law_deck_here", "_law_count"] spDigit := by
  refine F.ok scD (fun vs H Q E h => ?_) (fun cdv A outer s H vs Q E hr h => ?_)
  · obtain ⟨p, c, ks, y, n, m, rfl, _⟩ := h
    rfl
  · obtain ⟨p, c, ks, y, n, m, rfl, FA, hn, m0, m1, k⟩ := h
    have hu := hu_of hr
    have ncp := FA.ne
    have w0 := FA.w0
    have w1 := FA.w1
    have n0 := FA.n0
    refine ⟨_, pss_cons (ps_asg (pe_op op_add (pe_ix ix_list (pv 0) pe_int (fun _ _ => rfl)) pe_int) (pg_sub (pv 0) pe_int set_list))
      (pss_cons (ps_set (i := 2) scD.nd rfl (Or.inl rfl) (pe_ix ix_list (pv 0) pe_int (fun _ _ => rfl)))
      (pss_cons (ps_if (pt_cmpR (op_neD hr.units) (pe_ix ix_list (pv 0) pe_int (fun _ _ => rfl)) (pe_lst pa_nil) (nomark _))
        (pss_cons (ps_set (i := 2) scD.nd rfl (Or.inl rfl) (pe_bm0 PySem.F.plainAttrs_list PySem.F.slot_list_pop PySem.F.type_list_pop mt_pop (pe_ix ix_list (pv 0) pe_int (fun _ _ => rfl))))
        (pss_one (ps_if (pt_cmpR op_ge (pv 2) (pe_op op_pow pe_int pe_int) (nomark _))
          (pss_cons (ps_expr (pe_bm PySem.F.plainAttrs_list PySem.F.slot_list_append PySem.F.type_list_append mt_append (pe_ix ix_list (pv 0) pe_int (fun _ _ => rfl)) (pa_cons (pe_op op_fdivW (pv 2) (pv 1)) pa_nil)))
          (pss_one (ps_ret (pe_op op_mod (pv 2) (pv 1))))) pss_nil))) pss_nil)
      (pss_cons (ps_set (i := 3) scD.nd rfl (Or.inl rfl) (pe_op op_mod (pe_op op_mul (pe_op op_add (pe_op op_add (pe_op op_mod (pv 2) pe_int) (pe_op op_mul pe_int (pe_ix ix_list (pv 0) pe_int (fun _ _ => rfl)))) pe_int) pe_int) pe_int))
      (pss_cons (ps_set (i := 3) scD.nd rfl (Or.inl rfl) (pe_op op_mod (pe_op op_add (pe_op op_add (pe_op op_mul (pv 3) (pv 3)) (pe_op op_mul pe_int (pe_ix ix_list (pv 0) pe_int (fun _ _ => rfl)))) pe_int) pe_int))
      (pss_one (ps_ret (pe_op op_mod (pe_op op_fdiv (pe_op op_mod (pe_op op_mul (pv 3) (pe_op op_add (pe_op op_fdiv (pv 3) pe_int) pe_int)) pe_int) pe_int) (pv 1)))))))), ?_⟩
    -- deck[2] = deck[2] + 1
    refine ⟨_, rfl, p, _, 2, .int n, rfl, rfl, SqL.of FA.ob, rfl, _, _, rfl, rfl, _, rfl, p, _, _, 2, rfl, rfl, FA.ob, rfl, ?_⟩
    have hp1 : (upd H p (.lst ([V.ref c, .int y, .int n].set 2 (.int (n + 1))))) p = some (.lst [V.ref c, .int y, .int (n + 1)]) := upd_same
    have hc1 : (upd H p (.lst ([V.ref c, .int y, .int n].set 2 (.int (n + 1))))) c = some (.lst (ks.map V.int)) := by
      rw [upd_ne ncp]
      exact FA.cs
    have sv1 : Save p c H (upd H p (.lst ([V.ref c, .int y, .int n].set 2 (.int (n + 1))))) := fun b o e h1 _ => by
      rw [upd_ne h1]
      exact e
    generalize upd H p (.lst ([V.ref c, .int y, .int n].set 2 (.int (n + 1)))) = H1 at hp1 hc1 sv1 ⊢
    -- top = deck[1]; if deck[0] != []
    refine ⟨_, rfl, p, _, 1, .int y, rfl, rfl, SqL.of hp1, rfl, ?_⟩
    refine ⟨_, rfl, p, _, 0, .ref c, rfl, rfl, SqL.of hp1, rfl, by show 0 ≤ sizeLine; decide, fun e he => ?_⟩
    refine ⟨.list (ks.map PyData.int), .list [], .lst (SqL.of (by rw [upd_ne (ne_of_none hc1 he)]; exact hc1)) (dp_ints ks), .lst (SqL.of upd_same) .nil, shaped_ints ks, by decide, _, rfl, ?_⟩
    have nce : c ≠ e := ne_of_none hc1 he
    have npe : p ≠ e := ne_of_none hp1 he
    have hp2 : (upd H1 e (.lst [])) p = some (.lst [V.ref c, .int y, .int (n + 1)]) := by
      rw [upd_ne npe]
      exact hp1
    have hc2 : (upd H1 e (.lst [])) c = some (.lst (ks.map V.int)) := by
      rw [upd_ne nce]
      exact hc1
    have sv2 : Save p c H (upd H1 e (.lst [])) := fun b o q h1 h2 => by
      have q1 := sv1 b o q h1 h2
      rw [upd_ne (ne_of_none q1 he)]
      exact q1
    generalize upd H1 e (.lst []) = H2 at hp2 hc2 sv2 ⊢
    have hbit := FA.bits
    have hlen := FA.len
    clear FA
    have t0 : 0 ≤ n + 1 := by omega
    have t1 : n + 1 < 1000001 := by omega
    have fin : ∀ (z : Int) (ks' : List Int) (H3 : Hp), H3 p = some (.lst [V.ref c, .int y, .int (n + 1)]) → H3 c = some (.lst (ks'.map V.int)) → Save p c H H3 → Bits ks' → ks'.length ≤ 63 →
        Q (.int (((((z % 2147483563 + 69621 * (n + 1) + 7) * 48271 % 2147483647) * ((z % 2147483563 + 69621 * (n + 1) + 7) * 48271 % 2147483647) + 16807 * (n + 1) + 13) % 2147483587) * ((((z % 2147483563 + 69621 * (n + 1) + 7) * 48271 % 2147483647) * ((z % 2147483563 + 69621 * (n + 1) + 7) * 48271 % 2147483647) + 16807 * (n + 1) + 13) % 2147483587 / 3 + 39373) % 2305843009213693951 / 128 % m)) H3 := fun z ks' H3 h1 h2 sv hb hl =>
      k _ ks' H3 (Int.emod_nonneg _ (by omega)) (Int.emod_lt_of_pos _ m0) ⟨h1, h2, hb, hl, w0, w1, by omega⟩ sv
    rcases List.eq_nil_or_concat ks with rfl | ⟨r, z, rfl⟩
    · have hb : (!PyData.eqv (.list (([] : List Int).map PyData.int)) (.list [])) = false := by decide
      rw [hb]
      refine iteF ?_
      have be := draw_b1 (z := y) t0 t1
      refine ⟨_, rfl, _, _, rfl, rfl, (by show (0 : Int) < _; decide), _, rfl, p, _, 2, .int (n + 1), rfl, rfl, SqL.of hp2, rfl, _, _, rfl, rfl, .inl ⟨by decide, by decide⟩, _, _, rfl, rfl, _, _, rfl, rfl, _, _, rfl, rfl, .inl be, _, _, rfl, rfl, (by show (0 : Int) < _; decide), ?_⟩
      have b0 := Int.emod_nonneg ((y % 2147483563 + 69621 * (n + 1) + 7) * 48271) (show (2147483647 : Int) ≠ 0 by decide)
      have b1 := Int.emod_lt_of_pos ((y % 2147483563 + 69621 * (n + 1) + 7) * 48271) (show (0 : Int) < 2147483647 by decide)
      have fz := fin y [] H2 hp2 hc2 sv2 hbit hlen
      generalize (y % 2147483563 + 69621 * (n + 1) + 7) * 48271 % 2147483647 = g at b0 b1 ⊢
      refine ⟨_, rfl, _, rfl, _, _, rfl, rfl, .inl ⟨by omega, by omega⟩, _, rfl, p, _, 2, .int (n + 1), rfl, rfl, SqL.of hp2, rfl, _, _, rfl, rfl, .inl ⟨by decide, by decide⟩, _, _, rfl, rfl, _, _, rfl, rfl, _, _, rfl, rfl, (by show (0 : Int) < _; decide), ?_⟩
      have d0 := Int.emod_nonneg (g * g + 16807 * (n + 1) + 13) (show (2147483587 : Int) ≠ 0 by decide)
      have d1 := Int.emod_lt_of_pos (g * g + 16807 * (n + 1) + 13) (show (0 : Int) < 2147483587 by decide)
      generalize (g * g + 16807 * (n + 1) + 13) % 2147483587 = j at d0 d1 ⊢
      refine ⟨_, rfl, _, rfl, _, _, rfl, rfl, ⟨by decide, by decide⟩, _, _, rfl, rfl, _, _, rfl, rfl, .inl ⟨by omega, by omega⟩, _, _, rfl, rfl, (by show (0 : Int) < _; decide), _, _, rfl, rfl, ⟨by decide, by decide⟩, _, rfl, _, _, rfl, rfl, m0, fz⟩
    · rw [List.concat_eq_append] at hc2 hbit hlen ⊢
      have hb : (!PyData.eqv (.list ((r ++ [z]).map PyData.int)) (.list [])) = true := by rw [some_ints] <;> rfl
      rw [hb]
      refine iteT ?_
      rw [List.map_append] at hc2
      have hc2' : H2 c = some (.lst (r.map V.int ++ [V.int z])) := hc2
      have hbr : Bits r := fun v hv => hbit v (List.mem_append_left _ hv)
      have hbz : Builtin.Int.intBits z ≤ 1048576 := hbit z (List.mem_append_right _ List.mem_cons_self)
      have hlr : r.length + 1 ≤ 63 := by
        rw [List.length_append] at hlen
        exact hlen
      refine ⟨_, rfl, p, _, 0, .ref c, rfl, rfl, SqL.of hp2, rfl, .inl ⟨rfl, _, SqL.of hc2'⟩, c, _, .int z, rfl, rfl, hc2', by simp, ?_⟩
      rw [List.dropLast_concat]
      have hp3 : (upd H2 c (.lst (r.map V.int))) p = some (.lst [V.ref c, .int y, .int (n + 1)]) := by
        rw [upd_ne (Ne.symm ncp)]
        exact hp2
      have hc3 : (upd H2 c (.lst (r.map V.int))) c = some (.lst (r.map V.int)) := upd_same
      have sv3 : Save p c H (upd H2 c (.lst (r.map V.int))) := fun b o q h1 h2 => by
        rw [upd_ne h2]
        exact sv2 b o q h1 h2
      generalize upd H2 c (.lst (r.map V.int)) = H3 at hp3 hc3 sv3 ⊢
      refine ⟨_, rfl, _, _, rfl, rfl, ⟨by decide, by decide, by decide⟩, _, _, rfl, rfl, _, rfl, ?_⟩
      by_cases big : (10 : Int) ^ ((18 : Int).toNat) ≤ z
      · rw [decide_eq_true big]
        refine iteT ?_
        have zb : (0 : Int) ≤ z := Int.le_trans (by decide) big
        refine ⟨_, rfl, p, _, 0, .ref c, rfl, rfl, SqL.of hp3, rfl, .inl ⟨rfl, _, SqL.of hc3⟩, _, rfl, _, rfl, _, _, rfl, rfl, wide_div m0 (b := 30) (by omega) (by decide) (by decide), c, _, _, rfl, rfl, hc3, small1000 (by rw [List.length_map]; omega), ?_⟩
        refine ⟨_, rfl, _, rfl, _, _, rfl, rfl, m0, ?_⟩
        refine k _ (r ++ [z / m]) _ (Int.emod_nonneg _ (by omega)) (Int.emod_lt_of_pos _ m0) ⟨by rw [upd_ne (Ne.symm ncp)]; exact hp3, by rw [upd_same, List.map_append] <;> rfl, fun v hv => ?_, by rw [List.length_append]; exact hlr, w0, w1, by omega⟩ fun b o q h1 h2 => ?_
        · rcases List.mem_append.mp hv with hv | hv
          · exact hbr v hv
          · obtain rfl : v = z / m := by simpa using hv
            exact Nat.le_trans (bits_mono (Int.ediv_nonneg zb (by omega)) (Int.ediv_le_self _ zb)) hbz
        · rw [upd_ne h2]
          exact sv3 b o q h1 h2
      · rw [decide_eq_false big]
        refine iteF ?_
        have be := draw_b1 (z := z) t0 t1
        refine ⟨_, rfl, _, _, rfl, rfl, (by show (0 : Int) < _; decide), _, rfl, p, _, 2, .int (n + 1), rfl, rfl, SqL.of hp3, rfl, _, _, rfl, rfl, .inl ⟨by decide, by decide⟩, _, _, rfl, rfl, _, _, rfl, rfl, _, _, rfl, rfl, .inl be, _, _, rfl, rfl, (by show (0 : Int) < _; decide), ?_⟩
        have b0 := Int.emod_nonneg ((z % 2147483563 + 69621 * (n + 1) + 7) * 48271) (show (2147483647 : Int) ≠ 0 by decide)
        have b1 := Int.emod_lt_of_pos ((z % 2147483563 + 69621 * (n + 1) + 7) * 48271) (show (0 : Int) < 2147483647 by decide)
        have fz := fin z r H3 hp3 hc3 sv3 hbr (by omega)
        generalize (z % 2147483563 + 69621 * (n + 1) + 7) * 48271 % 2147483647 = g at b0 b1 ⊢
        refine ⟨_, rfl, _, rfl, _, _, rfl, rfl, .inl ⟨by omega, by omega⟩, _, rfl, p, _, 2, .int (n + 1), rfl, rfl, SqL.of hp3, rfl, _, _, rfl, rfl, .inl ⟨by decide, by decide⟩, _, _, rfl, rfl, _, _, rfl, rfl, _, _, rfl, rfl, (by show (0 : Int) < _; decide), ?_⟩
        have d0 := Int.emod_nonneg (g * g + 16807 * (n + 1) + 13) (show (2147483587 : Int) ≠ 0 by decide)
        have d1 := Int.emod_lt_of_pos (g * g + 16807 * (n + 1) + 13) (show (0 : Int) < 2147483587 by decide)
        generalize (g * g + 16807 * (n + 1) + 13) % 2147483587 = j at d0 d1 ⊢
        refine ⟨_, rfl, _, rfl, _, _, rfl, rfl, ⟨by decide, by decide⟩, _, _, rfl, rfl, _, _, rfl, rfl, .inl ⟨by omega, by omega⟩, _, _, rfl, rfl, (by show (0 : Int) < _; decide), _, _, rfl, rfl, ⟨by decide, by decide⟩, _, rfl, _, _, rfl, rfl, m0, fz⟩
end
end My

-- ===== K15D =====
set_option Elab.async false
set_option linter.all false
set_option maxRecDepth 100000
set_option maxHeartbeats 4000000
namespace My
open PySem L2 PyProof.Rows PySem.Spec
/-! ### data, apart from two addresses -/
mutual
/-- v is the data d; F holds of where its objects stand -/
inductive Dq (F : Addr → Prop) (H : Hp) : V → PyData → Prop
  | non : Dq F H .non .none
  | bl (b : Bool) : Dq F H (.bl b) (.bool b)
  | int (i : Int) : Dq F H (.int i) (.int i)
  | str (x : Str) : Dq F H (.str x) (.str x)
  | lst {a : Addr} {xs : List V} {ds : List PyData} : sysModules < a → F a → H a = some (.lst xs) → DqAll F H xs ds → Dq F H (.ref a) (.list ds)
  | tup {a : Addr} {xs : List V} {ds : List PyData} : F a → H a = some (.tup xs) → DqAll F H xs ds → Dq F H (.ref a) (.tuple ds)
  | dct {a : Addr} {k : Str} {v : V} {d : PyData} : F a → H a = some (.dK [(Sum.inr k, v)]) → Dq F H v d → Dq F H (.ref a) (.dict [(.str k, d)])
inductive DqAll (F : Addr → Prop) (H : Hp) : List V → List PyData → Prop
  | nil : DqAll F H [] []
  | cons {v : V} {vs : List V} {d : PyData} {ds : List PyData} : Dq F H v d → DqAll F H vs ds → DqAll F H (v :: vs) (d :: ds)
end
mutual
/-- .. in another heap, where these objects stand, too; of less -/
theorem Dq.to {F F' : Addr → Prop} {H H' : Hp} (s : ∀ a o, F a → H a = some o → H' a = some o) (m : ∀ a, F a → F' a) : ∀ {v : V} {d : PyData}, Dq F H v d → Dq F' H' v d
  | _, _, .non => .non
  | _, _, .bl b => .bl b
  | _, _, .int i => .int i
  | _, _, .str x => .str x
  | _, _, .lst h1 h2 h4 h5 => .lst h1 (m _ h2) (s _ _ h2 h4) (DqAll.to s m h5)
  | _, _, .tup h2 h4 h5 => .tup (m _ h2) (s _ _ h2 h4) (DqAll.to s m h5)
  | _, _, .dct h2 h4 h5 => .dct (m _ h2) (s _ _ h2 h4) (Dq.to s m h5)
theorem DqAll.to {F F' : Addr → Prop} {H H' : Hp} (s : ∀ a o, F a → H a = some o → H' a = some o) (m : ∀ a, F a → F' a) : ∀ {vs : List V} {ds : List PyData}, DqAll F H vs ds → DqAll F' H' vs ds
  | _, _, .nil => .nil
  | _, _, .cons h1 h2 => .cons (Dq.to s m h1) (DqAll.to s m h2)
end
theorem DqAll.snoc {F : Addr → Prop} {H : Hp} {v : V} {d : PyData} (h : Dq F H v d) : ∀ {vs : List V} {ds : List PyData}, DqAll F H vs ds → DqAll F H (vs ++ [v]) (ds ++ [d])
  | _, _, .nil => .cons h .nil
  | _, _, .cons h1 h2 => .cons h1 (DqAll.snoc h h2)
section
variable {X : Cx} {pins : List (Addr × Obj)} {σ : L2.St} {H : Hp} {s : Shared} {F : Addr → Prop}
theorem modules_not {as bs : List Addr} (h1 : sysModules ∉ as) (h2 : sysModules ∉ bs) : sysModules ∉ as ++ bs := fun h => (List.mem_append.mp h).elim h1 h2
mutual
theorem Dq.reads (I : Inv X pins σ H s) : ∀ (d : PyData) (v : V) (u : Value), Dq F H v d → RelV v u → ∃ as, Reads s.heap u d as ∧ sysModules ∉ as
  | .none, _, _, h, r => by
    cases h
    cases r
    exact ⟨_, Reads.none, by simp⟩
  | .bool b, _, _, h, r => by
    cases h
    cases r
    exact ⟨_, Reads.bool b, by simp⟩
  | .int i, _, _, h, r => by
    cases h
    obtain ⟨t, rfl⟩ := r
    exact ⟨_, Reads.int i t, by simp⟩
  | .str x, _, _, h, r => by
    cases h
    obtain ⟨t, rfl⟩ := r
    exact ⟨_, Reads.str x t, by simp⟩
  | .list ds, _, _, h, r => by
    cases h with
    | lst big n1 ha hd =>
      rename_i a xs
      cases r
      obtain ⟨_, its, n, rv, ho⟩ := (show ObjOk X.prog X.w H s.heap a (.lst xs) from I.hok a _ ha)
      obtain ⟨as, hr, hn⟩ := DqAll.reads I ds _ its hd rv
      refine ⟨_, Reads.list ho rfl rfl (by simpa using hr), ?_⟩
      intro hm
      rcases List.mem_cons.mp hm with e | e
      · exact absurd big (by rw [← e]; exact Nat.lt_irrefl _)
      · exact hn e
  | .tuple ds, _, _, h, r => by
    cases h with
    | tup n1 ha hd =>
      rename_i a xs
      cases r
      obtain ⟨_, its, rv, o, ho, hc, n, hdt⟩ := (show ObjOk X.prog X.w H s.heap a (.tup xs) from I.hok a _ ha)
      obtain ⟨as, hr, hn⟩ := DqAll.reads I ds _ its hd rv
      exact ⟨_, Reads.tuple ho hc hdt (by simpa using hr), hn⟩
  | .dict [], _, _, h, _ => by cases h
  | .dict [(k, d)], _, _, h, r => by
    cases h with
    | dct n1 ha hd =>
      rename_i a k v
      cases r
      obtain ⟨_, low, vs, rel, o, es, ep, ho, hx, hdt, _, hp, _⟩ := (show ObjOk X.prog X.w H s.heap a (.dK [(Sum.inr k, v)]) from I.hok a _ ha)
      rcases vs with _ | ⟨⟨kk, u⟩, _ | ⟨_, _⟩⟩
      · cases rel
      · have r1 : (Sum.inr k = kk) ∧ RelV v u := by
          cases rel with
          | cons r1 rn => exact r1
        obtain ⟨e1, rv⟩ := r1
        subst e1
        generalize hl : es.toList = l at hp
        cases hp with
        | cons hk hv hrest =>
          cases hrest
          rename_i en
          obtain ⟨as, hr, hn⟩ := Dq.reads I d v u hd rv
          obtain ⟨t, hk'⟩ : ∃ t, en.key = Value.str k t := by
            have hk2 : keyIs (Sum.inr k) en.key = true := hk
            rcases keyIs_shape hk2 with ⟨i, t, q, _⟩ | ⟨y, t, q, z⟩
            · cases q
            · cases q
              exact ⟨t, z⟩
          refine ⟨_, Reads.dict (es := es) (as := []) (bs := as ++ []) ho hx.1 hdt ?_ ?_, ?_⟩
          · rw [hl]
            show ReadsAll s.heap [en.key] [PyData.str k] []
            rw [hk']
            exact .cons (as := []) (bs := []) (.str k t) .nil
          · rw [hl]
            show ReadsAll s.heap [en.val] [d] (as ++ [])
            rw [show en.val = u from hv]
            exact .cons hr .nil
          · intro hm
            have hm' : sysModules ∈ a :: (as ++ []) := by simpa using hm
            rcases List.mem_cons.mp hm' with e | e
            · rw [← e] at low
              exact absurd low (by simp)
            · exact hn (by simpa using e)
      · cases rel with
        | cons _ rn => cases rn
  | .dict (_ :: _ :: _), _, _, h, _ => by cases h
theorem DqAll.reads (I : Inv X pins σ H s) : ∀ (ds : List PyData) (vs : List V) (us : List Value), DqAll F H vs ds → Vals vs us → ∃ as, ReadsAll s.heap us ds as ∧ sysModules ∉ as
  | [], _, _, h, r => by
    cases h
    cases r
    exact ⟨_, ReadsAll.nil, by simp⟩
  | d :: ds, _, _, h, r => by
    cases h with
    | cons h1 h2 =>
      cases r with
      | cons r1 r2 =>
        obtain ⟨as, q1, n1⟩ := Dq.reads I d _ _ h1 r1
        obtain ⟨bs, q2, n2⟩ := DqAll.reads I ds _ _ h2 r2
        exact ⟨_, ReadsAll.cons q1 q2, modules_not n1 n2⟩
end
/-! ### repr of such data -/
def rReprD (F : Addr → Prop) : List V → Hp → VK → Prop := fun xs H Q => ∃ v d, xs = [v] ∧ Dq F H v d ∧ d.showable = true ∧ d.depth ≤ 60 ∧ d.shown.length ≤ sizeLine ∧ Q (.str d.shown) H
theorem call_reprD (hg : X.A.guards = some []) (hu : X.A.units + 64 < cLine) : CallR X (.builtin "repr") (rReprD F) := by
  intro pins s σ H xs us Q I r h
  obtain ⟨v, d, rfl, hd, hs, hdp, hz, q⟩ := h
  obtain ⟨u, rfl, rx⟩ := vals1 r
  obtain ⟨as, hr, hn⟩ := Dq.reads I d v u hd rx
  cases hd with
  | non =>
    cases (show u = Value.none from rx)
    exact P.repr_of_none ⟨.str _, H, I.tok _, ⟨_, rfl⟩, q⟩
  | bl b =>
    cases (show u = Value.bool b from rx)
    exact P.repr_of_bool ⟨.str _, H, I.tok _, ⟨_, rfl⟩, q⟩
  | int i =>
    obtain ⟨t, rfl⟩ := (show ∃ t, u = Value.int i t from rx)
    exact P.repr_of_int (by simpa [PyData.showable] using hs) ⟨.str _, H, I.tok _, ⟨_, rfl⟩, q⟩
  | str x =>
    obtain ⟨t, rfl⟩ := (show ∃ t, u = Value.str x t from rx)
    exact P.repr_of_str ⟨.str _, H, I.tok _, ⟨_, rfl⟩, q⟩ (by simpa only [PyData.shown] using hz)
  | lst _ _ _ _ =>
    cases rx
    exact repr_of_reads' hr hs (fun _ => hn) hg (by omega) (fun _ _ e => e) (fun h' t tk k => ⟨.str _, H, I.kept k, ⟨t, rfl⟩, q⟩) hz
  | tup _ _ _ =>
    cases rx
    exact repr_of_reads' hr hs (fun _ => hn) hg (by omega) (fun _ _ e => e) (fun h' t tk k => ⟨.str _, H, I.kept k, ⟨t, rfl⟩, q⟩) hz
  | dct _ _ _ =>
    cases rx
    exact repr_of_reads' hr hs (fun _ => hn) hg (by omega) (fun _ _ e => e) (fun h' t tk k => ⟨.str _, H, I.kept k, ⟨t, rfl⟩, q⟩) hz
end
end My

-- ===== KS1 =====
set_option Elab.async false
set_option linter.all false
set_option maxRecDepth 100000
set_option maxHeartbeats 1600000
/-! Sets whose members are objects told by a key (tuples of texts, nested tuples): search and add. -/
namespace Kd
open PySem PySem.Spec PyProof.Rows L2

section
variable {P : Program} {w : World} {K : Type} [DecidableEq K]
/-- keys that a set can have for members: nothing of the program is asked when they are compared -/
structure SetKind (knd : HeapKind P w K) : Prop where
  st : knd.Stays
  cls : ∀ {A : Around} {E : Value → Shared → Prop} {s : Shared} {k : K} {b : Addr} {Q : Bool → Shared → Prop}, knd.is s.heap k b → Q false s → wpAny (model P w) A (ofAClassStatement 8 (.ref b)) Q E s
  byv : ∀ {A : Around} {E : Value → Shared → Prop} {s : Shared} {k : K} {b : Addr} {Q : Bool → Shared → Prop}, knd.is s.heap k b → (∀ c, Q c s) → wpAny (model P w) A (hashByValue 8 (.ref b)) Q E s

def rowsH (knd : HeapKind P w K) (L : List (Addr × K)) : List (Int × Value) := L.map fun q => (knd.hash q.2, Value.ref q.1)
def hashH (knd : HeapKind P w K) (L : List (Addr × K)) : List Int := L.map fun q => knd.hash q.2
theorem rowsH_len (knd : HeapKind P w K) (L : List (Addr × K)) : (rowsH knd L).length = L.length := List.length_map ..
theorem hashH_len (knd : HeapKind P w K) (L : List (Addr × K)) : (hashH knd L).length = L.length := List.length_map ..
/-- at a the set with the members L: their addresses and keys, in the order of the table -/
structure SetH (knd : HeapKind P w K) (h : Heap) (a : Addr) (L : List (Addr × K)) (es : Array (Int × Value)) (ep : Nat) (t : SetTable) : Prop where
  ob : ∃ o, h.get? a = some o ∧ o.ExactSet ∧ o.data = .set es ep t
  rows : es.toList = rowsH knd L
  tab : TabOk t (hashH knd L)
  nd : (L.map Prod.snd).Nodup
  key : ∀ q ∈ L, knd.is h q.2 q.1
  led : w.params.followText "set-order" = true ∨ t.led = true
  room : L.length * 5 < t.mask * 3
  few : L.length < 64
end

section
variable {P : Program} {w : World} {K : Type} [DecidableEq K] {knd : HeapKind P w K} {A : Around} {E : Value → Shared → Prop} {s : Shared} {h : Heap} {a : Addr} {L : List (Addr × K)} {es : Array (Int × Value)} {ep : Nat} {t : SetTable}

theorem SetH.esz (Z : SetH knd h a L es ep t) : es.size = L.length := by
  have q := congrArg List.length Z.rows
  rwa [rowsH_len, Array.length_toList] at q
theorem SetH.psz (Z : SetH knd h a L es ep t) : t.place.size = L.length := by
  have q := Z.tab.sz
  rwa [hashH_len] at q
theorem SetH.fit (Z : SetH knd h a L es ep t) : t.fits es.size = true := by
  have q1 := Z.psz
  have q2 := Z.esz
  have q3 := Z.room
  unfold SetTable.fits SetTable.fill
  rw [Z.tab.dm, Bool.and_eq_true, beq_iff_eq, decide_eq_true_eq, q1, q2]
  refine ⟨rfl, ?_⟩
  show L.length + 0 ≤ t.mask
  omega
theorem SetH.at_ (Z : SetH knd h a L es ep t) {i : Nat} {q : Addr × K} (e : L[i]? = some q) : es[i]? = some (knd.hash q.2, Value.ref q.1) := by
  have z : es.toList[i]? = some (knd.hash q.2, Value.ref q.1) := by
    rw [Z.rows]
    show (L.map _)[i]? = _
    rw [List.getElem?_map, e]
    rfl
  rwa [Array.getElem?_toList] at z
theorem SetH.stands (Z : SetH knd h a L es ep t) : ¬ t.gaveWay = true := by
  unfold SetTable.gaveWay
  rw [mask_odd Z.tab.mok]
  decide
theorem nth_plain (m : Nat) : ∀ (n : Nat) (p : SetTable.Probe), p.dummy = none → (nth m p n).dummy = none
  | 0, _, e => e
  | n + 1, p, e => nth_plain m n (adv m p) (by unfold adv; split <;> exact e)

/-- comparing keys shows nothing -/
theorem unseen (S : SetKind knd) {k : K} {b : Addr} {Q : Bool → Shared → Prop} (hb : knd.is s.heap k b) {ys : List Value} (hy : ∀ y ∈ ys, ∃ k' c, y = Value.ref c ∧ knd.is s.heap k' c) (q : Q false s) :
    wpAny (model P w) A (searchCouldBeSeen (.ref b) ys) Q E s := by
  unfold searchCouldBeSeen
  refine wpAny_bind (wpAny_forIn_list _ (fun todo r s1 => r.1 = none ∧ s1 = s ∧ ∀ y ∈ todo, ∃ k' c, y = Value.ref c ∧ knd.is s.heap k' c) _ (fun y todo r s1 hI => ?_) (fun r s1 hI => ?_) _ _ ⟨rfl, rfl, hy⟩)
  · obtain ⟨e1, e2, e3⟩ := hI
    subst e2
    obtain ⟨k', c, e4, hc⟩ := e3 y List.mem_cons_self
    subst e4
    have more : ∀ y ∈ todo, ∃ k' c, y = Value.ref c ∧ knd.is s1.heap k' c := fun u hu => e3 u (List.mem_cons_of_mem _ hu)
    dsimp only
    by_cases same : (b == c || (carriedByValue (.ref b) && carriedByValue (.ref c))) = true
    · exact wp_if_pos same (wpAny_pure ⟨rfl, rfl, more⟩)
    · refine wp_if_neg same (wpAny_bind (knd.quiet hb ?_))
      simp only [Bool.not_true, Bool.false_eq_true, if_false]
      refine wpAny_bind (knd.quiet hc ?_)
      simp only [Bool.not_true, Bool.false_eq_true, if_false]
      refine wpAny_bind (S.cls hb ?_)
      simp only [Bool.false_eq_true, if_false]
      refine wpAny_bind (S.cls hc ?_)
      simp only [Bool.false_eq_true, if_false]
      exact wpAny_pure ⟨rfl, rfl, more⟩
  · obtain ⟨r1, r2⟩ := r
    obtain ⟨e1, e2, _⟩ := hI
    have e1 : r1 = none := e1
    subst e1
    subst e2
    exact wpAny_pure q

/-- the probe's state behind c steps -/
abbrev prob (t : SetTable) (g : Int) (c : Nat) : SetTable.Probe := nth t.mask (runAt t.mask (SetTable.bits g % (t.mask + 1)) (SetTable.bits g)) c

theorem seek (S : SetKind knd) (Z : SetH knd s.heap a L es ep t) {x : Addr} {k : K} (hx : knd.is s.heap k x) (hr : knd.room A) {K0 : Nat} (kf : K0 < 10 * SetTable.turns t.mask)
    (kout : way t.mask (knd.hash k) K0 ∉ t.place.toList) (kin : ∀ c, c < K0 → way t.mask (knd.hash k) c ∈ t.place.toList) {Q : SetFound → Shared → Prop}
    (yes : k ∈ L.map Prod.snd → Q (.there none) s) (no : k ∉ L.map Prod.snd → Q (.free (way t.mask (knd.hash k) K0) false) s) :
    ∀ (m f c : Nat) (stand : Option SetTable.Probe), K0 - c = m → m < f → c ≤ K0 → stand.getD (t.probeStart (knd.hash k)) = prob t (knd.hash k) c →
      (∀ (i : Nat) q, L[i]? = some q → q.2 = k → ∃ d, c ≤ d ∧ d < K0 ∧ t.place.toList[i]? = some (way t.mask (knd.hash k) d)) →
      wpAny (model P w) A (setSearchFrom a (.ref x) (knd.hash k) true f stand) Q E s := by
  intro m
  induction m using Nat.strongRecOn with
  | ind m ih =>
    intro f c stand em mf ck es0 left
    obtain ⟨f, rfl⟩ : ∃ f', f = f' + 1 := ⟨f - 1, by omega⟩
    obtain ⟨o, ho, hex, hdat⟩ := Z.ob
    rw [setSearchFrom_succ]
    refine wpAny_bind (wpAny_setState_of ho hdat Z.fit ?_)
    dsimp only
    refine wp_if_neg Z.stands ?_
    have step : ∀ d, nth t.mask (prob t (knd.hash k) c) d = prob t (knd.hash k) (c + d) := fun d => (nth_add t.mask c _ d).symm
    have stepj : ∀ d, (nth t.mask (prob t (knd.hash k) c) d).j = way t.mask (knd.hash k) (c + d) := fun d => by rw [step d]
    have hend : c + (K0 - c) = K0 := by omega
    have hat : ∀ (i : Nat) q, L[i]? = some q → (fun i => (es[i]?.map (·.1)).getD 0) i = knd.hash q.2 := fun i q e => by
      show (es[i]?.map (·.1)).getD 0 = _
      rw [Z.at_ e]
      rfl
    rcases go_spec t Z.tab.ris Z.tab.dm (fun i => (es[i]?.map (·.1)).getD 0) (knd.hash k) (10 * SetTable.turns t.mask) (K0 - c) (prob t (knd.hash k) c) (nth_plain _ _ _ rfl) (by omega)
        (fun d hd => by rw [stepj]; exact kin _ (by omega)) (by rw [stepj, hend]; exact kout) with ⟨d, i, d1, d2, d3, d4, d5⟩ | ⟨d1, d2⟩
    · rw [stepj] at d2
      rw [stepj, step] at d5
      have pr : t.probe (fun i => (es[i]?.map (·.1)).getD 0) (knd.hash k) (stand.getD (t.probeStart (knd.hash k))) = some (.candidate (way t.mask (knd.hash k) (c + d)) i (prob t (knd.hash k) (c + (d + 1)))) := by
        rw [es0]
        exact d5
      rw [pr]
      dsimp only
      have il : i < L.length := by
        have z := (List.getElem?_eq_some_iff.mp d2).1
        rw [Array.length_toList, Z.psz] at z
        exact z
      obtain ⟨q, eq⟩ : ∃ q, L[i]? = some q := ⟨_, List.getElem?_eq_getElem il⟩
      have qm : q ∈ L := List.mem_of_getElem? eq
      have go : wpAny (model P w) A (searchRest a (.ref x) (knd.hash k) true f es t (way t.mask (knd.hash k) (c + d)) i (prob t (knd.hash k) (c + (d + 1)))) Q E s := by
        unfold searchRest
        rw [Z.at_ eq]
        dsimp only
        refine wpAny_bind (wpAny_holding (knd.eqBool hr (Z.key q qm) hx ?_))
        refine wpAny_bind (wpAny_setState_of ho hdat Z.fit ?_)
        dsimp only
        have live : t.slot (way t.mask (knd.hash k) (c + d)) = .live i := slot_live Z.tab.ris d2
        by_cases ek : q.2 = k
        · exact wp_if_pos (by simp [ek]) (wpAny_pure (yes (List.mem_map.mpr ⟨q, qm, ek⟩)))
        · refine wp_if_neg (by simp [ek]) ?_
          rw [sameMem]
          dsimp only
          simp only [if_true, live, Z.at_ eq]
          refine wpAny_bind (wpAny_isSame_ref_self (wpAny_bind (wpAny_pure ?_)))
          simp only [if_true]
          refine wp_if_neg (by simp [ek]) (ih (K0 - (c + (d + 1))) (by omega) f (c + (d + 1)) _ rfl (by omega) (by omega) rfl fun i0 q0 e0 ek0 => ?_)
          obtain ⟨v, v1, v2, v3⟩ := left i0 q0 e0 ek0
          refine ⟨v, ?_, v2, v3⟩
          rcases Nat.lt_trichotomy v (c + d) with lt | e | gt
          · exact absurd ((hat i0 q0 e0).trans (congrArg knd.hash ek0)) (d4 (v - c) i0 (by omega) (by rw [stepj, show c + (v - c) = v by omega]; exact v3))
          · rw [e] at v3
            have live2 := slot_live Z.tab.ris v3
            rw [live] at live2
            cases live2
            rw [eq] at e0
            cases e0
            exact absurd ek0 ek
          · omega
      by_cases ld : t.led = true
      · exact wp_if_neg (by simp [ld]) go
      · refine wp_if_pos (by simp [ld]) (wpAny_bind (unseen S hx (fun y hy => ?_) (wp_if_neg (by decide) go)))
        obtain ⟨u, hu, rfl⟩ := List.mem_map.mp hy
        have hu1 : u ∈ es := by
          have z : u ∈ es ∧ u.1 = knd.hash k := by simpa using hu
          exact z.1
        have hu2 : u ∈ rowsH knd L := by
          rw [← Z.rows]
          simpa using hu1
        obtain ⟨q2, h2, rfl⟩ := List.mem_map.mp hu2
        exact ⟨q2.2, q2.1, rfl, Z.key q2 h2⟩
    · rw [stepj, hend] at d2
      have pr : t.probe (fun i => (es[i]?.map (·.1)).getD 0) (knd.hash k) (stand.getD (t.probeStart (knd.hash k))) = some (.empty (way t.mask (knd.hash k) K0) none) := by
        rw [es0]
        exact d2
      rw [pr]
      dsimp only
      refine wpAny_pure (no fun km => ?_)
      obtain ⟨q0, m0, ek0⟩ := List.mem_map.mp km
      obtain ⟨i0, l0, e0⟩ := List.getElem_of_mem m0
      have e1 : L[i0]? = some q0 := by rw [List.getElem?_eq_getElem l0, e0]
      obtain ⟨v, v1, v2, v3⟩ := left i0 q0 e1 ek0
      exact d1 (v - c) i0 (by omega) (by rw [stepj, show c + (v - c) = v by omega]; exact v3) ((hat i0 q0 e1).trans (congrArg knd.hash ek0))

/-- the search before an add -/
theorem find_at (S : SetKind knd) (Z : SetH knd s.heap a L es ep t) {x : Addr} {k : K} (hx : knd.is s.heap k x) (hr : knd.room A) {Q : SetFound → Shared → Prop} (yes : k ∈ L.map Prod.snd → Q (.there none) s)
    (no : ∀ c, k ∉ L.map Prod.snd → way t.mask (knd.hash k) c ∉ t.place.toList → (∀ d, d < c → way t.mask (knd.hash k) d ∈ t.place.toList) → Q (.free (way t.mask (knd.hash k) c) false) s) :
    wpAny (model P w) A (setSearch a (.ref x) (knd.hash k) true) Q E s := by
  have hroom := Z.room
  obtain ⟨c, c1, c2, c3⟩ := Z.tab.first (by rw [hashH_len]; omega) (knd.hash k)
  have small : c < 100000 := by
    have z : 10 * SetTable.turns t.mask ≤ 1420 := by
      unfold SetTable.turns
      rcases Z.tab.mok with e | e | e <;> omega
    omega
  refine seek S Z hx hr c1 c2 c3 yes (fun h => no c h c2 c3) c 100000 0 none (by omega) small (Nat.zero_le _) rfl fun i q e ek => ?_
  have hi : (hashH knd L)[i]? = some (knd.hash k) := by
    show (L.map _)[i]? = _
    rw [List.getElem?_map, e, ← ek]
    rfl
  have il : i < t.place.toList.length := by
    rw [Array.length_toList, Z.psz]
    exact (List.getElem?_eq_some_iff.mp e).1
  obtain ⟨d, d1, d2⟩ := Z.tab.before c2 hi (List.getElem?_eq_getElem il)
  exact ⟨d, Nat.zero_le _, d1, by rw [d2]; exact List.getElem?_eq_getElem il⟩
end
end Kd

-- ===== KS2 =====
set_option Elab.async false
set_option linter.all false
set_option maxRecDepth 100000
set_option maxHeartbeats 1600000
namespace Kd
open PySem PySem.Spec PyProof.Rows L2

theorem range_pick {α : Type} (L : List α) : ∀ n, n ≤ L.length → (List.range n).filterMap (fun i => L[i]?) = L.take n
  | 0, _ => by simp
  | n + 1, le => by
    have lt : n < L.length := le
    rw [List.range_succ, List.filterMap_append, range_pick L n (Nat.le_of_lt lt), List.take_succ, List.getElem?_eq_getElem lt]
    simp [List.getElem?_eq_getElem lt]

section
variable {P : Program} {w : World} {K : Type} [DecidableEq K] {knd : HeapKind P w K} {A : Around} {E : Value → Shared → Prop} {s : Shared} {a : Addr} {L : List (Addr × K)} {es : Array (Int × Value)} {ep : Nat} {t : SetTable}

theorem rows_get {L : List (Addr × K)} {es : Array (Int × Value)} (hr : es.toList = rowsH knd L) (i : Nat) : es[i]? = (L[i]?).map fun q => (knd.hash q.2, Value.ref q.1) := by
  have z : es.toList[i]? = (rowsH knd L)[i]? := by rw [hr]
  rw [Array.getElem?_toList] at z
  rw [z]
  unfold rowsH
  rw [List.getElem?_map]
theorem rows_hash {L : List (Addr × K)} {es : Array (Int × Value)} (hr : es.toList = rowsH knd L) : ∀ l : List Nat, (∀ i ∈ l, i < L.length) → hashH knd (l.filterMap fun i => L[i]?) = l.map fun i => (es.map Prod.fst).getD i 0
  | [], _ => rfl
  | i :: l, hl => by
    have lt := hl i List.mem_cons_self
    have ih := rows_hash hr l fun j hj => hl j (List.mem_cons_of_mem _ hj)
    have g := rows_get hr i
    rw [List.getElem?_eq_getElem lt] at g
    have g2 : (es.map Prod.fst).getD i 0 = knd.hash (L[i]).2 := by
      rw [Array.getD_eq_getD_getElem?, Array.getElem?_map, g]
      rfl
    rw [List.filterMap_cons_some (List.getElem?_eq_getElem lt), List.map_cons, g2, ← ih]
    rfl
/-- a key stays a key when a set changes -/
theorem SetKind.keeps (S : SetKind knd) {h h' : Heap} {a b : Addr} {k : K} {o : Obj} {es : Array (Int × Value)} {ep : Nat} {t : SetTable} (ho : h.get? a = some o) (hd : o.data = .set es ep t) (sb : Heap.SameBut a h h') (x : knd.is h k b) : knd.is h' k b := by
  refine S.st.stays (fun c u vs n e d => ?_) x
  have ne : c ≠ a := fun z => by
    rw [z, ho] at e
    rw [← Option.some.inj e, hd] at d
    cases d
  rw [sb.2 c ne]
  exact e

/-- the table laid anew -/
theorem relay (S : SetKind knd) {o : Obj} (ho : s.heap.get? a = some o) (hex : o.ExactSet) (hd : o.data = .set es ep t) (hr : es.toList = rowsH knd L) (hp : t.place.size = es.size) (dm : t.dummies = #[]) (fl : es.size ≤ t.mask) (nd : (L.map Prod.snd).Nodup)
    (key : ∀ q ∈ L, knd.is s.heap q.2 q.1) (ld : w.params.followText "set-order" = true ∨ t.led = true) (few : L.length < 64) {wanted M : Nat} (hw : SetTable.sizeAbove wanted - 1 = M) (hM : MaskOk M) (hw2 : SetTable.sizeAbove wanted ≤ 128) (hn : L.length * 5 < M * 3)
    {Q : Unit → Shared → Prop} (q : ∀ h' L' es' ep' t', Heap.SameBut a s.heap h' → SetH knd h' a L' es' ep' t' → L'.Perm L → Q () { s with heap := h' }) : wpAny (model P w) A (setRelay a wanted) Q E s := by
  have sz : es.size = L.length := by
    have z := congrArg List.length hr
    rwa [rowsH_len, Array.length_toList] at z
  have fit : t.fits es.size = true := by
    unfold SetTable.fits SetTable.fill
    rw [dm, Bool.and_eq_true, beq_iff_eq, decide_eq_true_eq, hp]
    exact ⟨rfl, fl⟩
  obtain ⟨t', ord, e1, e2, e3, e4, e5, _, _⟩ := relaid_ok t (hs := es.map Prod.fst) (wanted := wanted) hw hM (by rw [Array.size_map]; omega)
  rw [Array.size_map, sz] at e2
  have lt : ∀ i ∈ ord.toList, i < L.length := fun i hi => List.mem_range.mp (e2.mem_iff.mp hi)
  have pm : (ord.toList.filterMap fun i => L[i]?).Perm L := by
    have z := e2.filterMap fun i => L[i]?
    rwa [range_pick L L.length (Nat.le_refl _), List.take_length] at z
  rw [← rows_hash hr ord.toList lt] at e3
  have er : (ord.filterMap (es[·]?)).toList = rowsH knd (ord.toList.filterMap fun i => L[i]?) := by
    rw [Array.toList_filterMap]
    unfold rowsH
    rw [List.map_filterMap]
    congr 1
    funext i
    exact rows_get hr i
  generalize ord.toList.filterMap (fun i => L[i]?) = L' at e3 er pm
  have sz' : (ord.filterMap (es[·]?)).size = L.length := by
    rw [← Array.length_toList, er, rowsH_len, pm.length_eq]
  rw [setRelay_eq]
  refine wpAny_bind (wpAny_setState_of ho hd fit ?_)
  dsimp only
  refine wp_if_neg (by rw [sizeLine_eq]; omega) ?_
  rw [e1]
  dsimp only
  refine wpAny_bind (wp_if_neg (by rw [sz', sz]; simp) (wpAny_pure ?_))
  dsimp only
  have sb : Heap.SameBut a s.heap (s.heap.update a (Obj.putSet (ord.filterMap (es[·]?)) t')) := Heap.SameBut.update ..
  refine wpAny_storeSet_of ho hd (q _ L' _ (ep + 1) t' sb ⟨⟨_, store_at ho hd, hex, rfl⟩, er, e3, ?_, fun p hp => S.keeps ho hd sb (key p (pm.mem_iff.mp hp)), ?_, ?_, ?_⟩ pm) (by rw [sz', sizeLine_eq]; omega)
  · exact (pm.map Prod.snd).nodup_iff.mpr nd
  · rw [e5]
    exact ld
  · rw [pm.length_eq, e4]
    exact hn
  · rw [pm.length_eq]
    exact few

/-- a member added -/
theorem add_key (S : SetKind knd) (Z : SetH knd s.heap a L es ep t) {x : Addr} {k : K} (hx : knd.is s.heap k x) (hr : knd.room A) (hfew : k ∉ L.map Prod.snd → L.length + 1 < 64) {Q : Bool → Shared → Prop}
    (q : ∀ b h' L' es' ep' t', Heap.SameBut a s.heap h' → SetH knd h' a L' es' ep' t' → (k ∈ L.map Prod.snd → L' = L) → (k ∉ L.map Prod.snd → L'.Perm ((x, k) :: L)) → Q b { s with heap := h' }) :
    wpAny (model P w) A (setAddHashed a (.ref x) (knd.hash k)) Q E s := by
  obtain ⟨o, ho, hex, hd⟩ := Z.ob
  have sz := Z.esz
  have rm := Z.room
  unfold setAddHashed
  refine wpAny_holding ?_
  rw [show (100000 : Nat) = 99999 + 1 from rfl, setAddHashedIn_succ]
  refine wpAny_bind (wpAny_setState_of ho hd Z.fit ?_)
  dsimp only
  refine wp_if_neg (by simp [byScan, Value.scannable]) (wpAny_bind (find_at S Z hx hr (fun km => ?_) fun c kn out inn => ?_))
  · exact wpAny_pure (q false s.heap L es ep t (Heap.SameBut.refl a s.heap) Z (fun _ => rfl) fun n => absurd km n)
  · have less := hfew kn
    dsimp only
    refine wpAny_bind (wpAny_setState_of ho hd Z.fit ?_)
    dsimp only
    obtain ⟨p1, p2, p3, p4, p5, _, _, _, p9⟩ := Z.tab.put out inn
    rw [hashH_len] at p2 p9
    generalize t.put (way t.mask (knd.hash k) c) = pt at p1 p3 p4 p5 p9 ⊢
    obtain ⟨t1, at_⟩ := pt
    dsimp only at p1 p3 p4 p5 p9 ⊢
    subst p1
    generalize SetTable.below t.place (way t.mask (knd.hash k) c) = n at p2 p3 ⊢
    have pm : (L.take n ++ (x, k) :: L.drop n).Perm ((x, k) :: L) := put_perm L n (x, k)
    have hh : hashH knd (L.take n ++ (x, k) :: L.drop n) = (hashH knd L).take n ++ knd.hash k :: (hashH knd L).drop n := by
      unfold hashH
      rw [List.map_append, List.map_cons, List.map_take, List.map_drop]
    have rr : (SetTable.insertAt es n (knd.hash k, Value.ref x)).toList = rowsH knd (L.take n ++ (x, k) :: L.drop n) := by
      rw [SetTable.toList_insertAt, Z.rows]
      unfold rowsH
      rw [List.map_append, List.map_cons, List.map_take, List.map_drop]
    rw [← hh] at p3
    generalize L.take n ++ (x, k) :: L.drop n = L1 at pm p3 rr
    have len1 : L1.length = L.length + 1 := pm.length_eq
    have esz1 : (SetTable.insertAt es n (knd.hash k, Value.ref x)).size = L.length + 1 := by
      rw [← Array.length_toList, rr, rowsH_len, len1]
    have nd1 : (L1.map Prod.snd).Nodup := (pm.map Prod.snd).nodup_iff.mpr (List.nodup_cons.mpr ⟨kn, Z.nd⟩)
    generalize SetTable.insertAt es n (knd.hash k, Value.ref x) = es1 at rr esz1 ⊢
    -- whatever is told of the hash, the table is the same but for a mark
    have fin : ∀ t2 : SetTable, t2.mask = t1.mask → TabOk t2 (hashH knd L1) → t2.led = t1.led → t2.fill = t1.fill →
        wpAny (model P w) A (do
          storeSet a es1 t2
          if (!false && t2.tooFull) = true then do
              let _ ← setRelay a (SetTable.grown (es.size + 1))
              pure true
            else pure true) Q E s := fun t2 m2 ok2 led2 fill2 => by
      have sb : Heap.SameBut a s.heap (s.heap.update a (Obj.putSet es1 t2)) := Heap.SameBut.update ..
      have ho1 := store_at (es' := es1) (t' := t2) ho hd
      refine wpAny_bind (wpAny_storeSet_of ho hd ?_ (by rw [esz1, sizeLine_eq]; omega))
      generalize s.heap.update a (Obj.putSet es1 t2) = h1 at sb ho1 ⊢
      have key1 : ∀ p ∈ L1, knd.is h1 p.2 p.1 := fun p hp => by
        rcases List.mem_cons.mp (pm.mem_iff.mp hp) with e | m
        · rw [e]
          exact S.keeps ho hd sb hx
        · exact S.keeps ho hd sb (Z.key p m)
      have led1 : w.params.followText "set-order" = true ∨ t2.led = true := by
        rw [led2, p5]
        exact Z.led
      have full : t2.tooFull = decide ((L.length + 1) * 5 ≥ t.mask * 3) := by
        unfold SetTable.tooFull
        rw [fill2, p9, m2, p4]
      by_cases hf : (L.length + 1) * 5 ≥ t.mask * 3
      · refine wp_if_pos (by rw [full, decide_eq_true hf]; rfl) (wpAny_bind ?_)
        have sized : (t.mask = 7 ∧ L.length = 4) ∨ (t.mask = 31 ∧ L.length = 18) := by
          rcases Z.tab.mok with e | e | e
          · exact .inl ⟨e, by omega⟩
          · exact .inr ⟨e, by omega⟩
          · omega
        have anew : ∀ M, SetTable.sizeAbove (SetTable.grown (L.length + 1)) - 1 = M → MaskOk M → SetTable.sizeAbove (SetTable.grown (L.length + 1)) ≤ 128 → (L.length + 1) * 5 < M * 3 →
            wpAny (model P w) A (setRelay a (SetTable.grown (es.size + 1))) (fun _ s' => wpAny (model P w) A (pure true) Q E s') E { s with heap := h1 } := fun M g1 g2 g3 g4 => by
          rw [sz]
          refine relay S (s := { s with heap := h1 }) ho1 hex rfl rr ?_ ok2.dm ?_ nd1 key1 led1 (by rw [len1]; exact less) g1 g2 g3 (by rw [len1]; exact g4) fun h2 L2 es2 ep2 t2' sb2 Z2 pm2 => ?_
          · rw [ok2.sz, hashH_len, len1, esz1]
          · rw [esz1, m2, p4]
            rcases sized with ⟨e, e'⟩ | ⟨e, e'⟩ <;> omega
          · exact wpAny_pure (q true h2 L2 es2 ep2 t2' (sb.trans sb2) Z2 (fun n => absurd n kn) fun _ => pm2.trans pm)
        rcases sized with ⟨_, e⟩ | ⟨_, e⟩
        · exact anew 31 (by rw [e, size_20]) (.inr (.inl rfl)) (by rw [e, size_20]; decide) (by omega)
        · exact anew 127 (by rw [e, size_76]) (.inr (.inr rfl)) (by rw [e, size_76]; decide) (by omega)
      · refine wp_if_neg (by rw [full, decide_eq_false hf]; decide) (wpAny_pure (q true h1 L1 es1 (ep + 1) t2 sb ⟨⟨_, ho1, hex, rfl⟩, rr, ok2, nd1, key1, led1, ?_, by rw [len1]; exact less⟩ (fun n => absurd n kn) fun _ => pm))
        rw [len1, m2, p4]
        omega
    by_cases pl : t1.plain = true
    · refine wp_if_pos pl (wpAny_bind (S.byv hx fun c => ?_))
      cases c with
      | true => exact fin t1 rfl p3 rfl rfl
      | false => exact fin { t1 with plain := false } rfl ⟨p3.ris, p3.dm, p3.sz, p3.mok, p3.bd, p3.reach⟩ rfl rfl
    · refine wp_if_neg pl (wpAny_bind (wpAny_pure ?_))
      exact fin t1 rfl p3 rfl rfl

/-- set.add as a call -/
theorem call_add (S : SetKind knd) (Z : SetH knd s.heap a L es ep t) {x : Addr} {k : K} (hx : knd.is s.heap k x) (hr : knd.room A.in1) (hfew : k ∉ L.map Prod.snd → L.length + 1 < 64) {Q : Value → Shared → Prop}
    (q : ∀ h' tk L' es' ep' t', Heap.SameBut a s.heap h' → SetH knd h' a L' es' ep' t' → (k ∈ L.map Prod.snd → L' = L) → (k ∉ L.map Prod.snd → L'.Perm ((x, k) :: L)) → s.toks ≤ tk → Q .none { s with heap := h', toks := tk }) :
    wpAny (model P w) A (call (.builtin "set.add") [.ref a, .ref x]) Q E s := by
  obtain ⟨o, ho, hex, hd⟩ := Z.ob
  refine wpAny_call_entry F.slot_set_add ⟨o, ho, hex.1⟩ F.entry_set_add ?_ (F.args_set_add_2 _ _)
  unfold Builtin.«set.add» Builtin.Frozenset.oneOther
  simp only [List.isEmpty_nil, bind_assoc]
  unfold Builtin.Frozenset.addrOf setAdd
  refine wpAny_bind (wpAny_pure ?_)
  try dsimp only
  refine wpAny_bind (wpAny_pure ?_)
  try dsimp only
  refine wpAny_bind (wpAny_holding (wpAny_bind (knd.pyHash hr hx ?_)))
  refine add_key (s := { s with toks := s.toks + knd.draws k }) S Z hx hr hfew fun b h' L' es' ep' t' sb Z' c1 c2 => ?_
  show wpAny _ _ (ret Value.none) _ _ _
  exact wpAny_pure ⟨_, rfl, q h' (s.toks + knd.draws k) L' es' ep' t' sb Z' c1 c2 (Nat.le_add_right _ _)⟩
end
end Kd

-- ===== KS3 =====
set_option Elab.async false
set_option linter.all false
set_option maxRecDepth 100000
set_option maxHeartbeats 1600000
namespace Kd
open PySem PySem.Spec PyProof.Rows L2

/-! ### tuples of ints and texts are keys -/
section
variable {P : Program} {w : World} {A : Around} {E : Value → Shared → Prop} {s : Shared}
theorem mixed {ks : List Key} {vs : List Value} (x : ItemsAre (mixKind P w) ks vs) : ∀ v ∈ vs, (∃ i t, v = Value.int i t) ∨ ∃ z t, v = Value.str z t := by
  induction x with
  | nil => exact fun v m => nomatch m
  | @cons k u ks vs h _ ih =>
    intro v m
    rcases List.mem_cons.mp m with e | m
    · subst e
      have h : keyIs k v = true := h
      cases k with
      | inl i =>
        obtain ⟨t, e⟩ := Value.isInt_shape (k := i) (v := v) h
        exact .inl ⟨i, t, e⟩
      | inr z =>
        obtain ⟨t, e⟩ := Value.isStrOf_shape (x := z) (v := v) h
        exact .inr ⟨z, t, e⟩
    · exact ih v m
theorem mixed_cls (n : Nat) {v : Value} (h : (∃ i t, v = Value.int i t) ∨ ∃ z t, v = Value.str z t) : ofAClassStatement n v = pure false := by
  rcases h with ⟨i, t, rfl⟩ | ⟨z, t, rfl⟩ <;> cases n <;> rfl
theorem mixed_byv (n : Nat) {v : Value} (h : (∃ i t, v = Value.int i t) ∨ ∃ z t, v = Value.str z t) : ∃ c, hashByValue n v = pure c := by
  rcases h with ⟨i, t, rfl⟩ | ⟨z, t, rfl⟩ <;> cases n <;> exact ⟨_, rfl⟩
theorem mix_cls {ks : List Key} {b : Addr} {Q : Bool → Shared → Prop} (x : IsTupleKey (mixKind P w) s.heap ks b) (q : Q false s) : wpAny (model P w) A (ofAClassStatement 8 (.ref b)) Q E s := by
  have T := x.typeIs
  obtain ⟨o, its, n, ho, _, hd, hi⟩ := x
  unfold ofAClassStatement
  refine wpAny_bind (wpAny_typeOf T ?_)
  dsimp only
  have e : (("tuple" : String) == "tuple") = true := by decide
  simp only [e, if_true, Bool.not_true, Bool.false_eq_true, if_false]
  try refine wpAny_bind (wpAny_pure ?_)
  try simp only [Bool.not_true, Bool.false_eq_true, if_false]
  show wpAny _ _ (seqItems? (.ref b) >>= _) _ _ s
  refine wpAny_bind (wpAny_seqItems ho hd ?_)
  dsimp only
  refine wpAny_bind ?_
  show wpAny _ _ (forIn its _ _) _ _ s
  rw [← Array.forIn_toList]
  refine wpAny_forIn_list _ (fun todo r s1 => r.1 = none ∧ s1 = s ∧ ∀ v ∈ todo, (∃ i t, v = Value.int i t) ∨ ∃ z t, v = Value.str z t) _ (fun v todo r s1 hI => ?_) (fun r s1 hI => ?_) _ _ ⟨rfl, rfl, mixed hi⟩
  · obtain ⟨_, e2, e3⟩ := hI
    rw [mixed_cls 7 (e3 v List.mem_cons_self)]
    refine wpAny_bind (wpAny_pure ?_)
    simp only [Bool.false_eq_true, if_false]
    exact wpAny_pure ⟨rfl, e2, fun u m => e3 u (List.mem_cons_of_mem _ m)⟩
  · obtain ⟨r1, r2⟩ := r
    obtain ⟨e1, e2, _⟩ := hI
    have e1 : r1 = none := e1
    subst e1
    subst e2
    exact wpAny_pure q
theorem mix_byv {ks : List Key} {b : Addr} {Q : Bool → Shared → Prop} (x : IsTupleKey (mixKind P w) s.heap ks b) (q : ∀ c, Q c s) : wpAny (model P w) A (hashByValue 8 (.ref b)) Q E s := by
  have T := x.typeIs
  obtain ⟨o, its, n, ho, _, hd, hi⟩ := x
  unfold hashByValue
  refine wpAny_bind (wpAny_specialOf T F.slot_tuple_hash.lookup ?_)
  show wpAny _ _ (seqItems? (.ref b) >>= _) _ _ s
  refine wpAny_bind (wpAny_seqItems ho hd ?_)
  refine wpAny_bind ?_
  show wpAny _ _ (forIn its _ _) _ _ s
  rw [← Array.forIn_toList]
  refine wpAny_forIn_list _ (fun todo r s1 => r.1 = none ∧ s1 = s ∧ ∀ v ∈ todo, (∃ i t, v = Value.int i t) ∨ ∃ z t, v = Value.str z t) _ (fun v todo r s1 hI => ?_) (fun r s1 hI => ?_) _ _ ⟨rfl, rfl, mixed hi⟩
  · obtain ⟨_, e2, e3⟩ := hI
    obtain ⟨c, ec⟩ := mixed_byv 7 (e3 v List.mem_cons_self)
    rw [ec]
    refine wpAny_bind (wpAny_pure ?_)
    cases c with
    | true =>
      simp only [Bool.not_true, Bool.false_eq_true, if_false]
      exact wpAny_pure ⟨rfl, e2, fun u m => e3 u (List.mem_cons_of_mem _ m)⟩
    | false =>
      simp only [Bool.not_false, if_true]
      subst e2
      exact wpAny_pure (wpAny_pure (q false))
  · obtain ⟨r1, r2⟩ := r
    obtain ⟨e1, e2, _⟩ := hI
    have e1 : r1 = none := e1
    subst e1
    subst e2
    exact wpAny_pure (q true)
theorem mixSet : SetKind (tupleKind (mixKind P w)) where
  st := tupleKind_stays
  cls := fun x q => mix_cls x q
  byv := fun x q => mix_byv x q
end
end Kd

-- ===== KS4 =====
set_option Elab.async false
set_option linter.all false
set_option maxRecDepth 100000
set_option maxHeartbeats 3200000
namespace Kd
open PySem PySem.Spec PyProof.Rows L2

section
variable {P : Program} {w : World} {K : Type} [DecidableEq K] {knd : HeapKind P w K}
theorem SetH.stay (S : SetKind knd) {h h' : Heap} {a : Addr} {L : List (Addr × K)} {es : Array (Int × Value)} {ep : Nat} {t : SetTable} (Z : SetH knd h a L es ep t) (ha : ∀ o, h.get? a = some o → h'.get? a = some o) (hk : ∀ q ∈ L, knd.is h' q.2 q.1) : SetH knd h' a L es ep t := by
  obtain ⟨o, ho, r⟩ := Z.ob
  exact ⟨⟨o, ha o ho, r⟩, Z.rows, Z.tab, Z.nd, hk, Z.led, Z.room, Z.few⟩
theorem SetKind.kept (S : SetKind knd) {h h' : Heap} {k : K} {b : Addr} (x : knd.is h k b) (hk : ∀ c o, h.get? c = some o → h'.get? c = some o) : knd.is h' k b := S.st.stays (fun c o _ _ e _ => hk c o e) x
/-- an empty set, just made -/
abbrev newO (w : World) : Obj := { cls := .type "set", dict := none, data := .set #[] 0 (.fresh 0 0 (!w.params.followText "set-order")) }
theorem setH_new {h : Heap} {a : Addr} (ho : h.get? a = some (newO w)) : SetH knd h a [] #[] 0 (.fresh 0 0 (!w.params.followText "set-order")) where
  ob := ⟨_, ho, ⟨rfl, rfl, rfl⟩, rfl⟩
  rows := rfl
  tab := { ris := List.Pairwise.nil, dm := rfl, sz := rfl, mok := .inl rfl, bd := (fun x hx => nomatch hx), reach := fun i g j e => by simp [hashH] at e }
  nd := List.nodup_nil
  key := fun q m => nomatch m
  led := by
    show _ ∨ (!w.params.followText "set-order") = true
    cases e : w.params.followText "set-order"
    · exact .inr rfl
    · exact .inl rfl
  room := by
    show 0 * 5 < 7 * 3
    decide
  few := by
    show 0 < 64
    decide

/-- what came of the first i of the rows ks -/
structure Came (ks : List (Addr × K)) (i : Nat) (L : List (Addr × K)) : Prop where
  inn : ∀ q ∈ L, q ∈ ks.take i
  got : ∀ q ∈ ks.take i, q.2 ∈ L.map Prod.snd
  most : L.length ≤ i
theorem Came.step {ks L L' : List (Addr × K)} {i : Nat} {x : Addr × K} (c : Came ks i L) (e : ks[i]? = some x) (h1 : x.2 ∈ L.map Prod.snd → L' = L) (h2 : x.2 ∉ L.map Prod.snd → L'.Perm (x :: L)) : Came ks (i + 1) L' := by
  have tk : ks.take (i + 1) = ks.take i ++ [x] := by rw [List.take_succ, e]; rfl
  by_cases m : x.2 ∈ L.map Prod.snd
  · rw [h1 m]
    refine ⟨fun q hq => by rw [tk]; exact List.mem_append_left _ (c.inn q hq), fun q hq => ?_, Nat.le_succ_of_le c.most⟩
    rw [tk] at hq
    rcases List.mem_append.mp hq with z | z
    · exact c.got q z
    · rw [List.mem_singleton.mp z]
      exact m
  · have pm := h2 m
    refine ⟨fun q hq => ?_, fun q hq => ?_, by rw [pm.length_eq]; exact Nat.succ_le_succ c.most⟩
    · rw [tk]
      rcases List.mem_cons.mp (pm.mem_iff.mp hq) with z | z
      · rw [z]
        exact List.mem_append_right _ List.mem_cons_self
      · exact List.mem_append_left _ (c.inn q z)
    · rw [(pm.map Prod.snd).mem_iff]
      rw [tk] at hq
      rcases List.mem_append.mp hq with z | z
      · exact List.mem_cons_of_mem _ (c.got q z)
      · rw [List.mem_singleton.mp z]
        exact List.mem_cons_self
end

section
variable {P : Program} {w : World} {K : Type} [DecidableEq K] {knd : HeapKind P w K} {A : Around} {E : Value → Shared → Prop}
theorem nodup_most {α : Type} [DecidableEq α] : ∀ (l D : List α), l.Nodup → (∀ x ∈ l, x ∈ D) → l.length ≤ D.length
  | [], _, _, _ => Nat.zero_le _
  | x :: l, D, nd, sub => by
    obtain ⟨n1, n2⟩ := List.nodup_cons.mp nd
    have mx := sub x List.mem_cons_self
    have ih := nodup_most l (D.erase x) n2 fun y my => (List.mem_erase_of_ne fun (e : y = x) => n1 (by rw [← e]; exact my)).2 (sub y (List.mem_cons_of_mem _ my))
    rw [List.length_erase_of_mem mx] at ih
    have pos := List.length_pos_of_mem mx
    rw [List.length_cons]
    omega
theorem few_of {ks L : List (Addr × K)} {i : Nat} {q : Addr × K} (less : ∃ ds : List K, (∀ q ∈ ks, q.2 ∈ ds) ∧ ds.length < 64) (inn : ∀ p ∈ L, p ∈ ks.take i) (nd : (L.map Prod.snd).Nodup) (mq : q ∈ ks) (nq : q.2 ∉ L.map Prod.snd) : L.length + 1 < 64 := by
  obtain ⟨ds, h1, h2⟩ := less
  have z := nodup_most (q.2 :: L.map Prod.snd) ds (List.nodup_cons.mpr ⟨nq, nd⟩) fun x mx => by
    rcases List.mem_cons.mp mx with rfl | mx
    · exact h1 q mq
    · obtain ⟨p, mp, rfl⟩ := List.mem_map.mp mx
      exact h1 p (List.mem_of_mem_take (inn p mp))
  rw [List.length_cons, List.length_map] at z
  omega
/-- all that is walked goes into the set -/
theorem filled (S : SetKind knd) {I B : Addr} {fp wr : List Addr} {G : Array GenState → Array GenState → Prop} {n : Nat} {Pv : Nat → Value → Prop} {St : Nat → Shared → Prop} {R : Result → Shared → Prop} (W : WalksS P w A.in1 I fp wr G n Pv St) (hB : B ∉ fp)
    (ks : List (Addr × K)) (hn : n = ks.length) (less : ∃ ds : List K, (∀ q ∈ ks, q.2 ∈ ds) ∧ ds.length < 64) (val : ∀ i v, Pv i v → ∃ q, ks[i]? = some q ∧ v = .ref q.1) (g : Heap) (gk : ∀ q ∈ ks, knd.is g q.2 q.1) (gB : g.get? B = none) (gw : ∀ b ∈ wr, g.get? b = none) (room : knd.room A.in1) :
    ∀ (m i : Nat) (s : Shared), n - i = m → i ≤ n → St i s → (∀ b o, g.get? b = some o → s.heap.get? b = some o) → (∃ L es ep t, SetH knd s.heap B L es ep t ∧ Came ks i L) →
      (∀ s' L es ep t, Moved (B :: wr) G s s' → SetH knd s'.heap B L es ep t → Came ks n L → (∀ b o, g.get? b = some o → s'.heap.get? b = some o) → R (.ok (.ret .none)) s') →
      codeAny (model P w) A (.builtin "set.update.loop" ⟨[.ref B, .ref I], []⟩) R s := by
  have nBw : B ∉ wr := fun m => hB (W.sub _ m)
  have more : ∀ b ∈ wr, b ∈ B :: wr := fun b m => List.mem_cons_of_mem _ m
  have on : ∀ {s s' : Shared}, Moved wr G s s' → (∀ b o, g.get? b = some o → s.heap.get? b = some o) → ∀ b o, g.get? b = some o → s'.heap.get? b = some o := fun mv k b o e =>
    mv.heap b o (fun m => by rw [gw b m] at e; cases e) (k b o e)
  intro m
  induction m with
  | zero =>
    intro i s em le st kp ⟨L, es, ep, t, Z, c⟩ fin
    obtain rfl : i = n := by omega
    refine codeAny_builtin F.entry_set_update_loop ?_
    rw [Around.under_plainId F.plain_set_update_loop _]
    show wpAny _ A.in1 (pyNext (.ref I) >>= _) _ _ s
    refine wpAny_bind (W.done s _ _ st fun s' mv => ?_)
    show wpAny _ A.in1 (ret Value.none) _ _ s'
    have kp' := on mv kp
    exact wpAny_pure (fin s' L es ep t (mv.mono more) (Z.stay S (fun o e => mv.heap B o nBw e) fun q hq => S.kept (gk q (List.mem_of_mem_take (c.inn q hq))) kp') c kp')
  | succ m ih =>
    intro i s em le st kp ⟨L, es, ep, t, Z, c⟩ fin
    have lt : i < n := by omega
    refine codeAny_builtin F.entry_set_update_loop ?_
    rw [Around.under_plainId F.plain_set_update_loop _]
    show wpAny _ A.in1 (pyNext (.ref I) >>= _) _ _ s
    refine wpAny_bind (W.item i s _ _ lt st fun v s' pv st' mv => ?_)
    obtain ⟨q, eq, rfl⟩ := val i v pv
    have kp' := on mv kp
    have Z' : SetH knd s'.heap B L es ep t := Z.stay S (fun o e => mv.heap B o nBw e) fun p hp => S.kept (gk p (List.mem_of_mem_take (c.inn p hp))) kp'
    have hx : knd.is s'.heap q.2 q.1 := S.kept (gk q (List.mem_of_getElem? eq)) kp'
    show wpAny _ A.in1 (holding [Value.ref q.1] (setAdd B (.ref q.1)) >>= _) _ _ s'
    refine wpAny_bind (wpAny_holding ?_)
    unfold setAdd
    refine wpAny_holding (wpAny_bind (knd.pyHash room hx ?_))
    refine add_key (s := { s' with toks := s'.toks + knd.draws q.2 }) S Z' hx room (few_of less c.inn Z.nd (List.mem_of_getElem? eq)) fun b h' L' es' ep' t' sb Z2 c1 c2 => ?_
    have nB : ∀ b o, g.get? b = some o → b ≠ B := fun b o e z => by
      rw [z, gB] at e
      cases e
    have kp2 : ∀ b o, g.get? b = some o → h'.get? b = some o := fun b o e => (sb.2 b (nB b o e)).trans (kp' b o e)
    refine wpAny_pure ⟨plainId_quiet F.plain_set_update_loop _, ih (i + 1) _ (by omega) lt (W.frame _ s' _ _ st' (Nat.le_add_right _ _) fun b m o e => ?_) kp2 ⟨L', es', ep', t', Z2, c.step eq c1 c2⟩ fun s'' L2 es2 ep2 t2 mv2 Z3 c3 kp3 => ?_⟩
    · rw [sb.2 b fun z => hB (z ▸ m)]
      exact e
    · refine fin s'' L2 es2 ep2 t2 (Moved.trans W.gtrans ((mv.mono more).then_heap (Nat.le_add_right _ _) fun b o m e => ?_) mv2) Z3 c3 kp3
      rw [sb.2 b fun z => m (by rw [z]; exact List.mem_cons_self)]
      exact e
end
end Kd

-- ===== KS5 =====
set_option Elab.async false
set_option linter.all false
set_option maxRecDepth 100000
set_option maxHeartbeats 3200000
namespace Kd
open PySem PySem.Spec PyProof.Rows L2
section
variable {P : Program} {w : World} {K : Type} [DecidableEq K] {knd : HeapKind P w K} {A : Around} {E : Value → Shared → Prop} {s : Shared}
/-- what is left when set(..) has run -/
def SetMade (knd : HeapKind P w K) (s : Shared) (ks : List (Addr × K)) (s2 : Shared) : Prop :=
  ∃ h' tk L es ep t, s2 = { s with heap := h', toks := tk } ∧ SetH knd h' s.heap.objs.size L es ep t ∧ Came ks ks.length L ∧ ∀ b o, s.heap.get? b = some o → h'.get? b = some o
theorem call_set_keys (S : SetKind knd) {l : Addr} {its : Array Value} (ks : List (Addr × K)) {Q : Value → Shared → Prop} (calm : A.handled = none) (il : s.heap.IsList l its) (ev : its.toList = ks.map fun q => Value.ref q.1) (kk : ∀ q ∈ ks, knd.is s.heap q.2 q.1)
    (less : ∃ ds : List K, (∀ q ∈ ks, q.2 ∈ ds) ∧ ds.length < 64) (room : knd.room A.in1.in1.in1) (q : ∀ s2, SetMade knd s ks s2 → Q (.ref s.heap.objs.size) s2) : wpAny (model P w) A (call (.type "set") [.ref l]) Q E s := by
  have isz : its.size = ks.length := by rw [← Array.length_toList, ev, List.length_map]
  obtain ⟨c, tl, mro⟩ := F.called_set.mro
  have made := F.called_set.made
  have sub := F.called_set.sub
  refine wpAny_call (codeAny_of_tree ?_)
  show wpAny _ _ (callAny (.type "set") _) _ _ _
  refine wpAny_pure ⟨Code.quiet_builtin _ (by decide +kernel), codeAny_builtin F.entry_type_call ?_⟩
  rw [Around.under_plain (weight_type_call_type "set" [.ref l] []) rfl]
  have z1 := F.called_set.notType
  have z2 := F.called_set.canCreate
  have z3 := F.typeCall_set_1 (.ref l)
  repeat (any_goals (first | assumption | wp_step))
  refine codeAny_mono (code_set_led1 (.ref l) (E := E) (Q₁ := fun v s1 => v = .ref s.heap.objs.size ∧ s1 = { s with heap := s.heap.push (newO w) }) ⟨rfl, rfl⟩) fun r s1 hr => ?_
  rcases r with e | fl
  · exact hr
  cases fl with
  | ret obj =>
    obtain ⟨rfl, rfl⟩ := hr
    have at0 : (s.heap.push (newO w)).get? s.heap.objs.size = some (newO w) := Heap.get?_push_size _ rfl
    have T0 : Shared.TypeIs { s with heap := s.heap.push (newO w) } (.ref s.heap.objs.size) "set" := ⟨_, at0, rfl⟩
    have li := F.called_set.init.lookup
    have bi := F.called_set.init.bind (.ref s.heap.objs.size)
    repeat (any_goals (first | assumption | wp_step))
    refine codeAny_mono (codeAny_call_builtin (R := wants (fun r s2 => r = .none ∧ SetMade knd s ks s2) E) F.called_set.init.plain F.entry_set_init (check_set_init_1 T0 ?_)) fun r s2 hr => ?_
    · obtain ⟨⟨oc, od, ob, os⟩, ol, oc', on, ob'⟩ := il
      simp only at oc' ob'
      subst oc'
      subst ob'
      have ol2 := Heap.get?_push_of_some (newO w) ol
      have y1 := F.sub_list_set
      have y2 := F.sub_list_frozenset
      have y3 : (Value.type "list" == Value.type "dict") = false := by decide
      have il2 : (s.heap.push (newO w)).IsList l its := ⟨_, ol2, rfl, on, rfl⟩
      unfold Builtin.«set.__init__» noKeywords Builtin.Frozenset.updateFrom
      generalize hPI : pyIter = PI
      wp_walk
      subst hPI
      refine wpAny_pyIter_list il2 (wpAny_bind (wpAny_runValue ?_))
      have lS : l < s.heap.objs.size := Heap.lt_size ol
      have calm3 : A.in1.in1.in1.handled = none := by simp [calm]
      have szp : (s.heap.push (newO w)).objs.size = s.heap.objs.size + 1 := Heap.size_push ..
      have lI : l ≠ (s.heap.push (newO w)).objs.size := by
        rw [szp]
        exact Nat.ne_of_lt (Nat.lt_succ_of_lt lS)
      have free : ∀ b, s.heap.objs.size ≤ b → s.heap.get? b = none := fun b le => by
        cases e : s.heap.get? b with
        | none => rfl
        | some o => exact absurd (Heap.lt_size e) (Nat.not_lt.mpr le)
      refine filled S ((Walks.list calm3 _ l lI its).toS) (B := s.heap.objs.size) (fun m => ?_) ks isz less (fun i v e => ?_) s.heap kk (free _ (Nat.le_refl _)) (fun b m => free b ?_) room (its.size - 0) 0 _ rfl (Nat.zero_le _)
        ⟨⟨_, Heap.get?_push_size _ rfl, rfl, rfl⟩, il2.push _⟩ (fun b o e => Heap.get?_push_of_some _ (Heap.get?_push_of_some _ e)) ⟨[], #[], 0, _, setH_new (Heap.get?_push_of_some _ at0), fun q m => (nomatch m), fun q m => (by simp at m), Nat.le_refl _⟩ fun s' L es ep t mv Z c kp => ?_
      · rcases List.mem_cons.mp m with e | m
        · rw [szp] at e
          exact absurd e (Nat.ne_of_lt (Nat.lt_succ_self _))
        · have e := List.mem_singleton.mp m
          rw [← e] at lS
          exact absurd lS (Nat.lt_irrefl _)
      · have e2 : its.toList[i]? = some v := by rw [Array.getElem?_toList]; exact e
        rw [ev, List.getElem?_map] at e2
        obtain ⟨q, e3, e4⟩ := Option.map_eq_some_iff.mp e2
        exact ⟨q, e3, e4.symm⟩
      · rw [List.mem_singleton.mp m, szp]
        exact Nat.le_succ _
      · obtain ⟨h', g', d', tk, os'⟩ := s'
        obtain rfl : g' = s.gens := mv.gens
        obtain rfl : d' = s.drawn := mv.drawn
        obtain rfl : os' = s.os := mv.os
        show wpAny _ _ _ _ _ _
        refine wpAny_pure ?_
        show wpAny _ _ (ret Value.none) _ _ _
        rw [isz] at c
        exact wpAny_pure ⟨rfl, h', tk, L, es, ep, t, rfl, Z, c, kp⟩
    · rcases r with e | fl
      · exact hr
      cases fl with
      | ret r =>
        obtain ⟨rfl, mk⟩ := hr
        repeat (any_goals (first | assumption | wp_step))
        exact q _ mk
      | _ => exact hr.elim
  | _ => exact hr.elim
end
end Kd

-- ===== KS6 =====
set_option Elab.async false
set_option linter.all false
set_option maxRecDepth 100000
set_option maxHeartbeats 3200000
namespace Kd
open PySem PySem.Spec PyProof.Rows L2 PySem.W

theorem perm_lift {α β : Type} (f : α → β) {l m : List β} (p : l.Perm m) : ∀ L : List α, m = L.map f → ∃ L1 : List α, L1.Perm L ∧ l = L1.map f := by
  induction p with
  | nil =>
    intro L e
    refine ⟨[], ?_, rfl⟩
    rw [List.map_eq_nil_iff.mp e.symm]
  | cons x _ ih =>
    intro L e
    obtain ⟨y, L', rfl, rfl, e2⟩ := List.map_eq_cons_iff.mp e.symm
    obtain ⟨L1, p1, e3⟩ := ih L' e2.symm
    exact ⟨y :: L1, p1.cons y, by rw [e3, List.map_cons]⟩
  | swap x y l =>
    intro L e
    obtain ⟨u, L', rfl, rfl, e2⟩ := List.map_eq_cons_iff.mp e.symm
    obtain ⟨v, L'', rfl, rfl, e3⟩ := List.map_eq_cons_iff.mp e2
    exact ⟨v :: u :: L'', List.Perm.swap .., by rw [← e3]; rfl⟩
  | trans _ _ ih1 ih2 =>
    intro L e
    obtain ⟨L1, p1, e1⟩ := ih2 L e
    obtain ⟨L2, p2, e2⟩ := ih1 L1 e1
    exact ⟨L2, p2.trans p1, e2⟩

/-- a key as data -/
def kD : Key → PyData
  | .inl i => .int i
  | .inr x => .str x
def tD (k : List Key) : PyData := .tuple (k.map kD)

/-! ### the set as a tracked thing -/
structure Held (P : Program) (w : World) (h : Heap) (a : Addr) (L : List (Addr × List Key)) : Prop where
  ex : ∃ (es : Array (Int × Value)) (ep : Nat) (t : SetTable), (∃ o, h.get? a = some o ∧ o.ExactSet ∧ o.data = .set es ep t) ∧ es.toList = rowsH (tupleKind (mixKind P w)) L ∧ TabOk t (hashH (tupleKind (mixKind P w)) L) ∧ (L.map Prod.snd).Nodup ∧
    (w.params.followText "set-order" = true ∨ t.led = true) ∧ L.length * 5 < t.mask * 3 ∧ L.length < 64
/-- the set at a with the members L -/
def SetO (P : Program) (w : World) (a : Addr) (L : List (Addr × List Key)) : HO := .ext fun h => Held P w h a L
section
variable {P : Program} {w : World} {h : Heap} {a : Addr} {L : List (Addr × List Key)}
theorem SetH.held {es : Array (Int × Value)} {ep : Nat} {t : SetTable} (Z : SetH (tupleKind (mixKind P w)) h a L es ep t) : Held P w h a L := ⟨es, ep, t, Z.ob, Z.rows, Z.tab, Z.nd, Z.led, Z.room, Z.few⟩
theorem Held.set (R : Held P w h a L) (key : ∀ q ∈ L, IsTupleKey (mixKind P w) h q.2 q.1) : ∃ es ep t, SetH (tupleKind (mixKind P w)) h a L es ep t := by
  obtain ⟨es, ep, t, r1, r2, r3, r4, r5, r6, r7⟩ := R.ex
  exact ⟨es, ep, t, r1, r2, r3, r4, key, r5, r6, r7⟩
theorem setO_ok {H : Hp} (R : Held P w h a L) : ObjOk P w H h a (SetO P w a L) := by
  obtain ⟨es, ep, t, ⟨o, ho, _⟩, _⟩ := R.ex
  refine ⟨R, ⟨o, ho⟩, fun g1 g2 (R1 : Held P w g1 a L) k => ?_⟩
  obtain ⟨es, ep, t, ⟨o, ho, r⟩, q⟩ := R1.ex
  exact ⟨es, ep, t, ⟨o, k o ho, r⟩, q⟩
end

section
variable {X : Cx} {pins : List (Addr × Obj)} {σ : L2.St} {H : Hp} {s : Shared}
theorem items_mix {P : Program} {w : World} : ∀ {k : List Key} {us : List Value}, Vals (k.map kV) us → ItemsAre (mixKind P w) k us
  | [], _, .nil => .nil
  | .inl i :: k, _, .cons r t => by
    obtain ⟨tk, rfl⟩ := r
    exact .cons (mixKind_int P w i tk) (items_mix t)
  | .inr x :: k, _, .cons r t => by
    obtain ⟨tk, rfl⟩ := r
    exact .cons (mixKind_str P w x tk) (items_mix t)
theorem reads_mix {h : Heap} : ∀ {k : List Key} {us : List Value}, Vals (k.map kV) us → ReadsAll h us (k.map kD) []
  | [], _, .nil => .nil
  | .inl i :: k, _, .cons r t => by
    obtain ⟨tk, rfl⟩ := r
    exact ReadsAll.cons (as := []) (bs := []) (Reads.int i tk) (reads_mix t)
  | .inr x :: k, _, .cons r t => by
    obtain ⟨tk, rfl⟩ := r
    exact ReadsAll.cons (as := []) (bs := []) (Reads.str x tk) (reads_mix t)
theorem key_raw (I : Inv X pins σ H s) {b : Addr} {k : List Key} (h : SqT X.K H b (k.map kV)) : IsTupleKey (mixKind X.prog X.w) s.heap k b ∧ Reads s.heap (.ref b) (tD k) [] := by
  obtain ⟨its, r, ⟨o, ho, hc, n, hd⟩, _⟩ := I.tuple h
  exact ⟨⟨o, its.toArray, n, ho, hc, hd, by simpa using items_mix r⟩, Reads.tuple ho hc hd (by simpa using reads_mix r)⟩
theorem refs_raw {α : Type} (f : α → Addr) : ∀ {ks : List α} {us : List Value}, Vals (ks.map fun q => V.ref (f q)) us → us = ks.map fun q => Value.ref (f q)
  | [], _, .nil => rfl
  | q :: ks, _, .cons r t => by
    cases r
    rw [refs_raw f t]
    rfl
theorem refs_vals {α : Type} (f : α → Addr) : ∀ (ks : List α), Vals (ks.map fun q => V.ref (f q)) (ks.map fun q => Value.ref (f q))
  | [] => .nil
  | q :: ks => .cons rfl (refs_vals f ks)

/-- set(xs), xs a list of tuples -/
def rSetOfD (K : PySem.W.Frag) (P : Program) (w : World) : List V → Hp → VK → Prop := fun vs H Q => ∃ (l : Addr) (ks : List (Addr × List Key)), vs = [V.ref l] ∧ SqL K H l (ks.map fun q => V.ref q.1) ∧ (∀ q ∈ ks, SqT K H q.1 (q.2.map kV)) ∧ (∃ ds : List (List Key), (∀ q ∈ ks, q.2 ∈ ds) ∧ ds.length < 64) ∧
  ∀ a L, H a = none → (∀ q ∈ L, q ∈ ks) → (∀ q ∈ ks, q.2 ∈ L.map Prod.snd) → (L.map Prod.snd).Nodup → Q (.ref a) (upd H a (SetO P w a L))
theorem cr_setOfD (hc : X.calm = true) (hu : X.A.units + 64 < cLine) : CallR X (.type "set") (rSetOfD X.K X.prog X.w) := by
  intro pins s σ H vs us Q I r h
  obtain ⟨l, ks, rfl, hl, hk, hf, q⟩ := h
  rw [Vals.ref1 r]
  obtain ⟨its, rv, il, _⟩ := I.list hl
  refine call_set_keys (P := X.prog) (w := X.w) (knd := tupleKind (mixKind X.prog X.w)) mixSet ks (I.ok.hd hc) il.isList (by simpa using refs_raw Prod.fst rv) (fun p hp => (key_raw I (hk p hp)).1) hf (by show X.A.in1.in1.in1.units < cLine; have z : X.A.in1.in1.in1.units ≤ X.A.units + 64 := (by simp only [Around.in1]; omega); omega) fun s2 mk => ?_
  obtain ⟨h', tk, L, es, ep, t, rfl, Z, c, kp⟩ := mk
  refine ⟨.ref s.heap.objs.size, upd H s.heap.objs.size (SetO X.prog X.w s.heap.objs.size L), I.laid (t' := tk) kp (Nat.le_refl _) (setO_ok Z.held), rfl, q _ L (I.hok.fresh (Nat.le_refl _)) (fun p m => List.mem_of_mem_take (c.inn p m)) (fun p m => c.got p (by rw [List.take_length]; exact m)) Z.nd⟩

/-- set(xs), xs short -/
def rSetOf (K : PySem.W.Frag) (P : Program) (w : World) : List V → Hp → VK → Prop := fun vs H Q => ∃ (l : Addr) (ks : List (Addr × List Key)), vs = [V.ref l] ∧ SqL K H l (ks.map fun q => V.ref q.1) ∧ (∀ q ∈ ks, SqT K H q.1 (q.2.map kV)) ∧ ks.length < 64 ∧
  ∀ a L, H a = none → (∀ q ∈ L, q ∈ ks) → (∀ q ∈ ks, q.2 ∈ L.map Prod.snd) → (L.map Prod.snd).Nodup → Q (.ref a) (upd H a (SetO P w a L))
theorem cr_setOf (hc : X.calm = true) (hu : X.A.units + 64 < cLine) : CallR X (.type "set") (rSetOf X.K X.prog X.w) := by
  intro pins s σ H vs us Q I r h
  obtain ⟨l, ks, e, hl, hk, hf, q⟩ := h
  exact cr_setOfD hc hu pins s σ H vs us Q I r ⟨l, ks, e, hl, hk, ⟨ks.map Prod.snd, fun q m => List.mem_map.mpr ⟨q, m, rfl⟩, by rw [List.length_map]; exact hf⟩, q⟩

/-- len of such a set -/
def rLenS (P : Program) (w : World) : List V → Hp → VK → Prop := fun vs H Q => ∃ (a : Addr) (L : List (Addr × List Key)), vs = [V.ref a] ∧ H a = some (SetO P w a L) ∧ Q (.int L.length) H
theorem held_fits {P : Program} {w : World} {h : Heap} {L : List (Addr × List Key)} {es : Array (Int × Value)} {t : SetTable} (r : es.toList = rowsH (tupleKind (mixKind P w)) L) (T : TabOk t (hashH (tupleKind (mixKind P w)) L)) (rm : L.length * 5 < t.mask * 3) : es.size = L.length ∧ t.fits es.size = true := by
  have e1 : es.size = L.length := by rw [← Array.length_toList, r, rowsH_len]
  have e2 := T.sz
  rw [hashH_len] at e2
  refine ⟨e1, ?_⟩
  unfold SetTable.fits SetTable.fill
  rw [T.dm, Bool.and_eq_true, beq_iff_eq, decide_eq_true_eq, e2, e1]
  refine ⟨rfl, ?_⟩
  show L.length + 0 ≤ t.mask
  omega
theorem cr_lenS : CallR X (.builtin "len") (rLenS X.prog X.w) := by
  intro pins s σ H vs us Q I r h
  obtain ⟨a, L, rfl, ha, q⟩ := h
  rw [Vals.ref1 r]
  have R : Held X.prog X.w s.heap a L := (I.hok a _ ha).1
  obtain ⟨es, ep, t, ⟨o, ho, hex, hd⟩, r2, r3, _, _, r6, r7⟩ := R.ex
  obtain ⟨e1, e2⟩ := held_fits (h := s.heap) r2 r3 r6
  refine call_len_set ho hex hd e2 (by rw [e1]; omega) ⟨.int L.length, H, I.tok _, ⟨_, by rw [e1]⟩, q⟩

/-- sorted(xs) of a list of tuples: one list -/
def rSortL (K : PySem.W.Frag) : List V → Hp → VK → Prop := fun vs H Q => ∃ (a : Addr) (L : List (Addr × List Key)), vs = [V.ref a] ∧ SqL K H a (L.map fun q => V.ref q.1) ∧ (∀ q ∈ L, SqT K H q.1 (q.2.map kV)) ∧ AllAlike (L.map fun q => tD q.2) ∧ Sortable (L.map fun q => tD q.2) ∧
  ∀ p, H p = none → Q (.ref p) (upd H p (.lst ((L.mergeSort (dataLe false fun q => tD q.2)).map fun q => V.ref q.1)))
theorem tD_depth (k : List Key) : (tD k).depth ≤ 1 := by
  have all : ∀ k : List Key, PyData.depthAll (k.map kD) = 0 := by
    intro k
    induction k with
    | nil => rfl
    | cons x k ih => cases x <;> simp [kD, PyData.depthAll, PyData.depth, ih]
  simp [tD, PyData.depth, all]
theorem cr_sortL (hu : X.A.units + 64 < cLine) : CallR X (.builtin "sorted") (rSortL X.K) := by
  intro pins s σ H vs us Q I r h
  obtain ⟨a, L, rfl, hl, hk, al, so, q⟩ := h
  rw [Vals.ref1 r]
  obtain ⟨its, rv, il, sz⟩ := I.list hl
  have ei := refs_raw Prod.fst rv
  have each : ∀ (R : Value → Addr × List Key → Prop) (M : List (Addr × List Key)), (∀ q ∈ M, R (.ref q.1) q) → EachIs R (M.map fun q => Value.ref q.1) M := by
    intro R M
    induction M with
    | nil => exact fun _ => .nil
    | cons x M ih => exact fun g => .cons (g x List.mem_cons_self) (ih fun y m => g y (List.mem_cons_of_mem _ m))
  rw [List.length_map] at sz
  subst ei
  refine sorted_data (R := fun v q => v = Value.ref q.1) (enc := fun q : Addr × List Key => tD q.2) (bs := L) il.isList (each _ L fun q _ => rfl) (each _ L fun q m => ⟨[], (key_raw I (hk q m)).2⟩) al so sz (fun b _ => by have z := tD_depth b.2; omega) fun out lo eo => ?_
  have eout : ∀ {o : List Value} {M : List (Addr × List Key)}, EachIs (fun v q => v = Value.ref q.1) o M → o = M.map fun q => Value.ref q.1 := by
    intro o M z
    induction z with
    | nil => rfl
    | cons e _ ih => rw [e, ih]; rfl
  have eo' := eout eo
  subst eo'
  obtain ⟨ep, he⟩ := PyProof.Rows.sortedAll_at s.heap (L.map fun q => Value.ref q.1) (((L.mergeSort (dataLe false fun q => tD q.2)).map fun q => Value.ref q.1).toArray)
  refine ⟨.ref _, upd H (s.heap.objs.size + 1) (.lst ((L.mergeSort (dataLe false fun q => tD q.2)).map fun q => V.ref q.1)), I.laid (t' := s.toks) (fun _ _ => PyProof.Rows.sortedAll_old) (Nat.le_succ _) ⟨?_, _, ep, refs_vals Prod.fst _, he⟩, rfl, q _ (I.hok.fresh (Nat.le_succ _))⟩
  rw [List.length_map, List.length_mergeSort]
  exact sz

/-- sorted(set): one list, of the members in some order sorted -/
def rSortS (K : PySem.W.Frag) (P : Program) (w : World) : List V → Hp → VK → Prop := fun vs H Q => ∃ (a : Addr) (L : List (Addr × List Key)), vs = [V.ref a] ∧ H a = some (SetO P w a L) ∧ (∀ q ∈ L, SqT K H q.1 (q.2.map kV)) ∧ (AllAlike (L.map fun q => tD q.2)) ∧ Sortable (L.map fun q => tD q.2) ∧
  ∀ (L1 : List (Addr × List Key)) p, L1.Perm L → L.length < 64 → (L.map Prod.snd).Nodup → H p = none → Q (.ref p) (upd H p (.lst ((L1.mergeSort (dataLe false fun q => tD q.2)).map fun q => V.ref q.1)))
theorem cr_sortS (hc : X.calm = true) (hu : X.A.units + 64 < cLine) : CallR X (.builtin "sorted") (rSortS X.K X.prog X.w) := by
  intro pins s σ H vs us Q I r h
  obtain ⟨a, L, rfl, ha, hk, al, so, q⟩ := h
  rw [Vals.ref1 r]
  have R : Held X.prog X.w s.heap a L := (I.hok a _ ha).1
  obtain ⟨es, ep, t, ⟨o, ho, hex, hd⟩, r2, r3, r4, r5, r6, r7⟩ := R.ex
  obtain ⟨e1, e2⟩ := held_fits (h := s.heap) r2 r3 r6
  refine Calls.call_function_entry kind_sorted plain_sorted entry_sorted (args_sorted1 _) ?_
  unfold Builtin.«sorted»
  refine wpAny_bind (m := checkCount "sorted" 1 1 _) (wpAny_pure ?_)
  refine wpAny_bind (collect_set (A := X.A.in1) (I.ok.hd hc) ⟨o, ho, hex.1, hd⟩ e2 (by unfold scanBound; omega) r3.ris r5 fun s1 vs kp gr g1 o1 pm => ?_)
  have em : es.toList.map (·.2) = L.map fun q => Value.ref q.1 := by
    rw [r2]
    unfold rowsH
    rw [List.map_map]
    rfl
  rw [em] at pm
  obtain ⟨L1, p1, ev⟩ := perm_lift (fun q : Addr × List Key => Value.ref q.1) pm L rfl
  have less : L1.length < 64 := by rw [p1.length_eq]; exact r7
  have vlen : vs.length = L1.length := by rw [ev, List.length_map]
  refine wpAny_bind (wpAny_newList ?_ (by rw [sizeLine_eq]; omega))
  have oL : (s1.heap.push (seqObj "list" vs.toArray 0)).get? s1.heap.objs.size = some (seqObj "list" vs.toArray 0) := Heap.get?_push_size _ rfl
  have each : ∀ (R : Value → Addr × List Key → Prop) (M : List (Addr × List Key)), (∀ q ∈ M, R (.ref q.1) q) → EachIs R (M.map fun q => Value.ref q.1) M := by
    intro R M
    induction M with
    | nil => exact fun _ => .nil
    | cons x M ih => exact fun g => .cons (g x List.mem_cons_self) (ih fun y m => g y (List.mem_cons_of_mem _ m))
  have pmap : (L1.map fun q => tD q.2).Perm (L.map fun q => tD q.2) := p1.map _
  refine wpAny_bind (wpAny_holding (list_sort_data (s := { s1 with heap := s1.heap.push (seqObj "list" vs.toArray 0) }) (R := fun v q => v = Value.ref q.1) (enc := fun q : Addr × List Key => tD q.2) (bs := L1) oL (by rw [ev]; exact each _ L1 fun q _ => rfl)
    (by rw [ev]; exact each _ L1 fun q m => ⟨[], PyProof.Rows.Reads.keeps (fun b u e => Heap.get?_push_of_some _ (kp b u e)) (key_raw I (hk q (p1.mem_iff.mp m))).2, fun z => nomatch z⟩)
    (fun d m d' m' => al d (pmap.mem_iff.mp m) d' (pmap.mem_iff.mp m')) ?_ (by rw [sizeLine_eq]; omega) (fun b _ => by have z := tD_depth b.2; have y : X.A.in1.units ≤ X.A.units + 32 := (by simp only [Around.in1]; omega); omega) fun out lo eo => ?_))
  · rcases so with g | g
    · exact .inl fun d m => g d (pmap.mem_iff.mp m)
    · exact .inr fun d m => g d (pmap.mem_iff.mp m)
  · have eout : ∀ {o : List Value} {M : List (Addr × List Key)}, EachIs (fun v q => v = Value.ref q.1) o M → o = M.map fun q => Value.ref q.1 := by
      intro o M z
      induction z with
      | nil => rfl
      | cons e _ ih => rw [e, ih]; rfl
    have eo' := eout eo
    subst eo'
    obtain ⟨c, hc2⟩ := sortedHeap_at (vs := vs) (out := (List.toArray ((L1.mergeSort (dataLe false fun q => tD q.2)).map fun q => Value.ref q.1))) oL
    have kp2 : ∀ b u, s.heap.get? b = some u → (sortedHeap (s1.heap.push (seqObj "list" vs.toArray 0)) s1.heap.objs.size vs (List.toArray ((L1.mergeSort (dataLe false fun q => tD q.2)).map fun q => Value.ref q.1))).get? b = some u := fun b u e => by
      have z := kp b u e
      have lt := Heap.lt_size z
      rw [sortedHeap_old (Nat.ne_of_lt lt) (by rw [size_push']; exact Nat.lt_succ_of_lt lt)]
      exact Heap.get?_push_of_some _ z
    have ll : ((L1.mergeSort (dataLe false fun q => tD q.2)).map fun q => V.ref q.1).length ≤ sizeLine := by
      rw [List.length_map, List.length_mergeSort, sizeLine_eq]
      omega
    have J : Inv X pins σ (upd H s1.heap.objs.size (.lst ((L1.mergeSort (dataLe false fun q => tD q.2)).map fun q => V.ref q.1))) { s with heap := sortedHeap (s1.heap.push (seqObj "list" vs.toArray 0)) s1.heap.objs.size vs (List.toArray ((L1.mergeSort (dataLe false fun q => tD q.2)).map fun q => Value.ref q.1)), gens := s1.gens, drawn := s1.drawn, toks := s1.toks } :=
      I.call (ch := []) (Un.laid kp2 gr (I.hok.fresh gr)) (I.hok.laid kp2 gr ⟨ll, _, c, refs_vals Prod.fst _, hc2⟩) (by rw [g1]; exact I.bare) (fun _ z => nomatch z)
    have es : ({ s1 with heap := sortedHeap (s1.heap.push (seqObj "list" vs.toArray 0)) s1.heap.objs.size vs (List.toArray ((L1.mergeSort (dataLe false fun q => tD q.2)).map fun q => Value.ref q.1)) } : Shared) = { s with heap := sortedHeap (s1.heap.push (seqObj "list" vs.toArray 0)) s1.heap.objs.size vs (List.toArray ((L1.mergeSort (dataLe false fun q => tD q.2)).map fun q => Value.ref q.1)), gens := s1.gens, drawn := s1.drawn, toks := s1.toks } := by
      rw [← o1]
    refine wpAny_pure ⟨_, rfl, ?_⟩
    rw [es]
    exact ⟨.ref s1.heap.objs.size, _, J, rfl, q L1 _ p1 r7 r4 (I.hok.fresh gr)⟩
end
end Kd

-- ===== KS7 =====
set_option Elab.async false
set_option linter.all false
set_option maxRecDepth 100000
set_option maxHeartbeats 3200000
namespace Kd
open PySem PySem.Spec PyProof.Rows L2

/-! ### {elt for a in A for b in B} -/
section
variable {prog : Program} {w : World} {A : Around} {R : Result → Shared → Prop} {s : Shared} {elt ta ia tb ib : Expr} {scope : Scope} {pos : Pos} {it acc : Value} {env : Env}
/-- the comprehension itself -/
abbrev two (elt ta ia tb ib : Expr) (scope : Scope) (pos : Pos) : Expr := .SetComp elt [⟨ta, ia, [], 0⟩, ⟨tb, ib, [], 0⟩] scope pos
theorem turn_a : compTurn (two elt ta ia tb ib scope pos) 0 it acc env = (do
    standAt ia.pos
    match ← pyNext it with
    | none => pure (.done .next)
    | some v =>
      letOwnedTupleGo ta it v
      assign ta env v
      let x ← eval ib env
      standAt ib.pos
      let x ← foldedSetIterable ib env x
      let _ ← runOwn (.compStart (two elt ta ia tb ib scope pos) 1 (← holding [x] (pyIter x)) acc env) env
      again (.compLoop (two elt ta ia tb ib scope pos) 0 it acc env)) := by rfl
theorem turn_b : compTurn (two elt ta ia tb ib scope pos) 1 it acc env = (do
    standAt ib.pos
    match ← pyNext it with
    | none => pure (.done .next)
    | some v =>
      letOwnedTupleGo tb it v
      assign tb env v
      (do let v ← eval elt env; standAt elt.pos; let _ ← call (.builtin "set.add") [acc, v])
      again (.compLoop (two elt ta ia tb ib scope pos) 1 it acc env)) := by rfl
/-- what fails leaves by the frame's note -/
abbrev fails (prog : Program) (w : World) (A : Around) (env : Env) (R : Result → Shared → Prop) : Value → Shared → Prop := notedBy (model prog w) A env fun e s' => R (.error e) s'
theorem loop_a (pureI : ∀ x, foldedSetIterable ib env x = pure x) (I : Nat → Shared → Prop)
    (turn : ∀ n s, I n s → wpAny (model prog w) A (pyNext it) (fun r s1 => match r with
      | none => R (.ok .next) s1
      | some v => wpAny (model prog w) A (letOwnedTupleGo ta it v) (fun _ s2 => wpAny (model prog w) A (assign ta env v) (fun _ s3 => wpAny (model prog w) A (eval ib env) (fun x s4 => wpAny (model prog w) A (pyIter x) (fun jt s5 =>
          codeAny (model prog w) A (.compStart (two elt ta ia tb ib scope pos) 1 jt acc env) (fun r s' => match r with
            | .ok _ => ∃ m, m < n ∧ I m s'
            | .error _ => False) s5) (fails prog w A env R) s4) (fails prog w A env R) s3) (fails prog w A env R) s2) (fails prog w A env R) s1) (fails prog w A env R) s)
    (n : Nat) (h : I n s) : codeAny (model prog w) A (.compLoop (two elt ta ia tb ib scope pos) 0 it acc env) R s := by
  refine codeAny_loop rfl I (fun n s hI => ?_) n h
  show wpAny _ A ((compTurn (two elt ta ia tb ib scope pos) 0 it acc env).onRaise (fun x => do noteFrame x env; theTreesLotGoes x)) _ _ s
  refine wpAny_noted ?_
  rw [turn_a]
  refine wpAny_bind (wpAny_standAt (wpAny_bind (wpAny_mono (turn n s hI) (fun r s1 g => ?_) fun _ _ x => x)))
  cases r with
  | none => exact wpAny_pure g
  | some v =>
    refine wpAny_bind (wpAny_mono g (fun _ s2 g2 => wpAny_bind (wpAny_mono g2 (fun _ s3 g3 => wpAny_bind (wpAny_mono g3 (fun x s4 g4 => ?_) fun _ _ x => x)) fun _ _ x => x)) fun _ _ x => x)
    refine wpAny_bind (wpAny_standAt (wpAny_bind (wpAny_of_eq (pureI x) (wpAny_bind (wpAny_holding (wpAny_mono g4 (fun jt s5 g5 => ?_) fun _ _ x => x))))))
    refine wpAny_bind (wpAny_runOwn ?_)
    rw [Around.mark_none]
    refine codeAny_mono g5 fun r s' hr => ?_
    cases r with
    | ok f => exact wpAny_pure ⟨rfl, hr⟩
    | error e => exact hr.elim
theorem loop_b (I : Nat → Shared → Prop)
    (turn : ∀ n s, I n s → wpAny (model prog w) A (pyNext it) (fun r s1 => match r with
      | none => R (.ok .next) s1
      | some v => wpAny (model prog w) A (letOwnedTupleGo tb it v) (fun _ s2 => wpAny (model prog w) A (assign tb env v) (fun _ s3 => wpAny (model prog w) A (eval elt env) (fun x s4 =>
          wpAny (model prog w) A (call (.builtin "set.add") [acc, x]) (fun _ s5 => ∃ m, m < n ∧ I m s5) (fails prog w A env R) s4) (fails prog w A env R) s3) (fails prog w A env R) s2) (fails prog w A env R) s1) (fails prog w A env R) s)
    (n : Nat) (h : I n s) : codeAny (model prog w) A (.compLoop (two elt ta ia tb ib scope pos) 1 it acc env) R s := by
  refine codeAny_loop rfl I (fun n s hI => ?_) n h
  show wpAny _ A ((compTurn (two elt ta ia tb ib scope pos) 1 it acc env).onRaise (fun x => do noteFrame x env; theTreesLotGoes x)) _ _ s
  refine wpAny_noted ?_
  rw [turn_b]
  refine wpAny_bind (wpAny_standAt (wpAny_bind (wpAny_mono (turn n s hI) (fun r s1 g => ?_) fun _ _ x => x)))
  cases r with
  | none => exact wpAny_pure g
  | some v =>
    refine wpAny_bind (wpAny_mono g (fun _ s2 g2 => wpAny_bind (wpAny_mono g2 (fun _ s3 g3 => ?_) fun _ _ x => x)) fun _ _ x => x)
    exact wpAny_bind (wpAny_bind (wpAny_mono g3 (fun x s4 g4 => wpAny_bind (wpAny_standAt (wpAny_bind (wpAny_mono g4 (fun _ s5 g5 => wpAny_pure (wpAny_pure ⟨rfl, g5⟩)) fun _ _ x => x)))) fun _ _ x => x))
/-- a clause's start, the first's or the second's -/
theorem start_b (h0 : codeAny (model prog w) A (.compLoop (two elt ta ia tb ib scope pos) 1 it acc env) R s)
    (h : wpAny (model prog w) A (pyIter it) (fun it' s' => codeAny (model prog w) A (.compLoop (two elt ta ia tb ib scope pos) 1 it' acc env) R s') (fails prog w A env R) s) : codeAny (model prog w) A (.compStart (two elt ta ia tb ib scope pos) 1 it acc env) R s := by
  refine codeAny_of_tree ?_
  show wpAny _ _ ((compStart (two elt ta ia tb ib scope pos) 1 it acc env).onRaise (fun x => do noteFrame x env; standAt theWindowsPlace)) _ _ s
  refine wpAny_notedAt ?_
  unfold compStart
  show wpAny _ _ (ask >>= _) _ _ s
  refine wpAny_bind (wpAny_askSetting (wpAny_ite ?_))
  split
  · exact wpAny_pure (And.intro rfl h0)
  · refine wpAny_bind (wpAny_rule ?_)
    show wpAny _ _ (standAt ib.pos >>= _) _ _ s
    exact wpAny_bind (wpAny_standAt (wpAny_bind (wpAny_mono h (fun it' s' g => wpAny_pure (And.intro rfl g)) fun _ _ x => x)))
end

section
variable {X : Cx} {pins : List (Addr × Obj)} {σ : L2.St} {H : Hp} {s : Shared}
/-- a key added to a tracked set -/
theorem add_ok {E : Value → Shared → Prop} {D e : Addr} {k : List Key} {L : List (Addr × List Key)} {Q : Value → Shared → Prop} (I : Inv X pins σ H s) (hD : H D = some (SetO X.prog X.w D L)) (he : SqT X.K H e (k.map kV)) (hL : ∀ q ∈ L, SqT X.K H q.1 (q.2.map kV))
    (room : k ∉ L.map Prod.snd → L.length + 1 < 64) (hu : X.A.units + 2 < cLine) (h : ∀ L' s', (k ∈ L.map Prod.snd → L' = L) → (k ∉ L.map Prod.snd → L'.Perm ((e, k) :: L)) → Inv X pins σ (upd H D (SetO X.prog X.w D L')) s' → Q .none s') :
    wpAny (model X.prog X.w) X.A (call (.builtin "set.add") [.ref D, .ref e]) Q E s := by
  have R : Held X.prog X.w s.heap D L := (I.hok D _ hD).1
  obtain ⟨es, ep, t, Z⟩ := R.set fun q m => (key_raw I (hL q m)).1
  refine call_add mixSet Z (key_raw I he).1 (by show X.A.in1.units < cLine; have z : X.A.in1.units ≤ X.A.units + 2 := (by simp only [Around.in1]; omega); omega) room fun h' tk L' es' ep' t' sb Z' c1 c2 le => ?_
  obtain ⟨o, ho, _⟩ := Z'.ob
  exact h L' _ c1 c2 (I.write (e := D) (t' := tk) (by rw [hD]; trivial) (.inl rfl) (fun b u hb hu => (sb.2 b hb).trans hu) ⟨o, ho⟩ (setO_ok Z'.held))
end
end Kd

-- ===== KS8 =====
set_option Elab.async false
set_option linter.all false
set_option maxRecDepth 100000
set_option maxHeartbeats 3200000
namespace Kd
open PySem PySem.Spec PyProof.Rows L2
section
variable {X : Cx}
/-- the contexts in which a comprehension's parts run -/
abbrev Blks (X : Cx) (scope : Scope) (p : Cx → Prop) : Prop := ∀ (s : Shared) (H : Hp) (C : Addr) (cl : List (PySem.Str × Addr)) (fp : List Addr), p (X.blk s H scope (compEnvC scope cl C X.env) fp)
/-- {elt for ta in ia for tb in ib}, elt a tuple: D the new set. vs: the block's names; us: those of the second target -/
def tSc2 (K : PySem.W.Frag) (P : Program) (w : World) (wa : TI) (ga : TG) (wb : TI) (gb : TG) (te : TE) (vs us : List Nat) : TE := fun σ H Q => wa σ H fun J H1 => ∀ D, H1 D = none → ∃ W : Nat → Nat → Hp → Prop, (∃ m, W 0 m (upd H1 D (SetO P w D []))) ∧ ∀ i m H2, W i m H2 →
  (J.stop i H2 ∧ Q (.ref D) H2) ∨ (J.go i H2 ∧ ∃ Nx : Hp → Prop, (∀ H3, Nx H3 → ∃ m', m' < m ∧ W (i + 1) m' H3) ∧ ∀ x H3, J.yld i H2 x H3 → ga x (wipe σ vs) H3 fun σ4 H4 => wipe σ4 vs = wipe σ vs ∧ wb σ4 H4 fun J1 H5 =>
    ∃ W1 : Nat → Nat → Hp → Prop, (∃ m, W1 0 m H5) ∧ ∀ j k H6, W1 j k H6 → (J1.stop j H6 ∧ Nx H6) ∨ (J1.go j H6 ∧ ∃ Nx1 : Hp → Prop, (∀ H7, Nx1 H7 → ∃ k', k' < k ∧ W1 (j + 1) k' H7) ∧ ∀ x H7, J1.yld j H6 x H7 →
      gb x (wipe σ4 us) H7 fun σ8 H8 => wipe σ8 us = wipe σ4 us ∧ te σ8 H8 fun y H9 => ∃ (e : Addr) (c : List Key) (L : List (Addr × List Key)), y = .ref e ∧ SqT K H9 e (c.map kV) ∧ H9 D = some (SetO P w D L) ∧ (∀ q ∈ L, SqT K H9 q.1 (q.2.map kV)) ∧ (c ∉ L.map Prod.snd → L.length + 1 < 64) ∧
        ∀ L', (c ∈ L.map Prod.snd → L' = L) → (c ∉ L.map Prod.snd → L'.Perm ((e, c) :: L)) → Nx1 (upd H9 D (SetO P w D L'))))

theorem pe_sc2 {elt ta ia tb ib : Expr} {scope : Scope} {own : List (PySem.Str × Nat)} {us : List Nat} {pos : Pos} {wa wb : TI} {ga gb : TG} {te : TE} (hc : X.calm = true) (hN : X.N.Nodup) (hu : X.A.units + 2 < cLine) (hia : PI X ta ia wa) (ok : BlkOk X.N X.env.scope scope own) (hus : ∀ i ∈ us, i ∈ own.map (·.2))
    (hga : Blks X scope fun Y => PG Y ta ga) (hib : Blks X scope fun Y => PI Y tb ib wb) (hgb : Blks X scope fun Y => PG Y tb gb) (hel : Blks X scope fun Y => PE Y elt te)
    (pa : ∀ x, foldedSetIterable ia X.env x = pure x := by intro _; rfl) (pb : ∀ env x, foldedSetIterable ib env x = pure x := by intro _ _; rfl) :
    PE X (two elt ta ia tb ib scope pos) (tSc2 X.K X.prog X.w wa ga wb gb te (own.map (·.2)) us) := by
  refine ⟨fun pins s σ H Q I h => ?_⟩
  rw [PpSet.eval_SetComp]
  have caught : ∀ y ∈ scope.names, y.2 = .free → ∃ c, X.env.cells.lookup y.1 = some c := fun y m e => (ok.free y m e).elim (fun k => I.ok.has _ (.inl k)) (fun k => I.ok.has _ (.inr k))
  refine wpAny_comprehension_free (use := none) rfl pa (closure_ok caught) ok.kind (fun y m e => by rw [ok.uniq y m, e]) (thn (hia.run pins s σ H _ I h) fun xv s1 hx => thn hx fun itv s2 h2 => ?_)
  obtain ⟨it, fp, tn, J, H2, rfl, I2, T, st2, f2, q⟩ := h2
  refine PpSet.newSet_ok (newEnv_comp ?_)
  generalize eD : s2.heap.objs.size = D
  have D0 : H2 D = none := I2.hok.fresh (Nat.le_of_eq eD)
  obtain ⟨W, ⟨m0, w0⟩, turn⟩ := q D D0
  -- the new set stands
  generalize e3 : ({ s2 with heap := s2.heap.push (newO X.w) } : Shared) = s3
  have hp3 : s3.heap = s2.heap.push (newO X.w) := by rw [← e3]
  have I3 : Inv X pins σ (upd H2 D (SetO X.prog X.w D [])) s3 := by
    rw [← e3]
    refine I2.laid (t' := s2.toks) (fun b o e => Heap.get?_push_of_some _ e) (Nat.le_of_eq eD) (setO_ok (SetH.held (ep := 0) (setH_new ?_)))
    rw [← eD]
    exact Heap.get?_push_size _ rfl
  have low : ∀ b ∈ fp, b < s2.heap.objs.size := fun b m => by
    obtain ⟨o, e, _⟩ := T.obj _ _ st2 b m
    exact Heap.lt_size e
  have f3 : ∀ b ∈ fp, FpOk X pins (upd H2 D (SetO X.prog X.w D [])) b ∧ b < s3.heap.objs.size := fun b m => by
    refine ⟨⟨?_, (f2 b m).2⟩, by rw [hp3, Heap.size_push]; exact Nat.lt_succ_of_lt (low b m)⟩
    rw [upd_ne (by rw [← eD]; exact Nat.ne_of_lt (low b m))]
    exact (f2 b m).1
  have st3 : tn 0 s3.heap := T.keep _ _ _ st2 fun b _ o e => by rw [hp3]; exact Heap.get?_push_of_some _ e
  have I4 := block_start I3 ok hN f3
  have ga4 := hga s3 (upd H2 D (SetO X.prog X.w D [])) s3.heap.objs.size (cellsFrom (s3.heap.objs.size + 1) scope.names (cloFrom X.env.cells scope.names [])) fp
  have ib4 := hib s3 (upd H2 D (SetO X.prog X.w D [])) s3.heap.objs.size (cellsFrom (s3.heap.objs.size + 1) scope.names (cloFrom X.env.cells scope.names [])) fp
  have gb4 := hgb s3 (upd H2 D (SetO X.prog X.w D [])) s3.heap.objs.size (cellsFrom (s3.heap.objs.size + 1) scope.names (cloFrom X.env.cells scope.names [])) fp
  have el4 := hel s3 (upd H2 D (SetO X.prog X.w D [])) s3.heap.objs.size (cellsFrom (s3.heap.objs.size + 1) scope.names (cloFrom X.env.cells scope.names [])) fp
  show codeAny _ _ (.compStart (two elt ta ia tb ib scope pos) 0 (.ref it) (.ref D) (compEnvC scope (cellsFrom (s3.heap.objs.size + 1) scope.names (cloFrom X.env.cells scope.names [])) s3.heap.objs.size X.env)) (compPost (model X.prog X.w) X.A X.xe none _ (.ref D) s3.heap.objs.size) { s3 with heap := pushCells (s3.heap.push { cls := .type "dict", data := .dict #[] }) scope.names }
  have fp0 : ∀ b ∈ fp, (upd H2 D (SetO X.prog X.w D [])) b = none := fun b m => (f3 b m).1.1
  generalize ece : compEnvC scope (cellsFrom (s3.heap.objs.size + 1) scope.names (cloFrom X.env.cells scope.names [])) s3.heap.objs.size X.env = ce at I4 ga4 ib4 gb4 el4 ⊢
  have loc : ce.locals = s3.heap.objs.size := by subst ece; rfl
  generalize upd H2 D (SetO X.prog X.w D []) = H3 at I3 I4 ga4 ib4 gb4 el4 w0 fp0 f3
  generalize e4 : ({ s3 with heap := pushCells (s3.heap.push { cls := .type "dict", data := .dict #[] }) scope.names } : Shared) = s4 at I4 ⊢
  have st4 : tn 0 s4.heap := T.keep _ _ _ st3 fun b _ o e => by rw [← e4]; exact pushCells_keeps _ _ _ _ (Heap.get?_push_of_some _ e)
  have still : ∀ {τ : L2.St} {G : Hp} {u : Shared}, Inv (X.blk s3 H3 scope ce fp) [] τ G u → (∀ b ∈ fp, G b = none) → ∀ b ∈ fp, FpOk (X.blk s3 H3 scope ce fp) [] G b := fun {τ G u} Iu no b m =>
    ⟨no b m, (Iu.ok.exf b m).1, Iu.ok.exfs b m, .inl m, fun x c e => (Iu.ok.exf b m).2 x c e, fun p z => absurd (show p ∈ ([] : List (Addr × Obj)) ++ [] from z) (by simp)⟩
  refine PpSet.codeAny_compStart_set ?loop (T.self X.A 0 _ _ _ st4 ?loop)
  refine loop_a (pb ce) (fun n u => ∃ i G, Inv (X.blk s3 H3 scope ce fp) [] (wipe σ (own.map (·.2))) G u ∧ tn i u.heap ∧ (∀ b ∈ fp, G b = none) ∧ W i n G) (fun n s5 hI => ?_) m0 ⟨0, H3, I4, st4, fp0, w0⟩
  obtain ⟨i, H5, I5, st5, no5, w5⟩ := hI
  rcases turn i n H5 w5 with ⟨stop, fin⟩ | ⟨go, Nx, hNx, step⟩
  · -- at the end: back in the def
    refine thnF (T.done (X.blk s3 H3 scope ce fp) rfl rfl rfl hc i [] s5 _ H5 (fun _ _ => False) I5 (still I5 no5) st5 stop) fun r s6 ⟨hr, I6⟩ => ?_
    subst hr
    have I7 : Inv X pins σ H5 s6 := I3.call' (ch := fp) I6.os I6.base I6.hok I6.bare fun b m => ⟨(f3 b m).1.2.2.2.1, (f3 b m).1.2.1, (f3 b m).1.2.2.2.2.1, (f3 b m).1.2.2.2.2.2⟩
    have none5 : H5 s3.heap.objs.size = none := by
      have z : H5 ce.locals = none := I6.free
      rwa [loc] at z
    obtain ⟨m, hn, _⟩ := I6.loc
    have hn : s6.heap.Ns ce.locals m := hn
    rw [loc] at hn
    obtain ⟨g0, g1, g2, g3, g4, g5⟩ := I3.fpOk (Nat.le_refl _) none5
    exact ⟨m, hn, fun h'' sb => ⟨.ref D, H5, I7.turned (t' := s6.toks) (fun b o ne e => (sb.2 b ne).trans e) g0 g1 g3 g4 g5, rfl, fin⟩⟩
  · refine thnF (T.item (X.blk s3 H3 scope ce fp) rfl rfl rfl hc i [] s5 _ H5 (fun _ _ => False) I5 (still I5 no5) st5 go) fun r s6 ⟨u, hr, h6⟩ => ?_
    subst hr
    refine thnF h6 fun _ s7 ⟨x, H7, I7, r7, y7, st7, no7⟩ => ?_
    have I7p := I7.pinned (still I7 no7) (T.obj _ _ st7)
    refine thnF (ga4.run _ s7 _ H7 x u _ I7p r7 (step x H7 y7)) fun _ s8 ⟨σ8, H8, I8, wp8, q8⟩ => ?_
    have len8 : (wipe σ (own.map (·.2))).length = σ8.length := by rw [← wp8, wipe_length]
    -- what the turn comes to
    have next : ∀ {τ : L2.St} {v : Shared} {G : Hp}, Inv (X.blk s3 H3 scope ce fp) ([] ++ pinsAt fp s7.heap) τ G v → (wipe σ (own.map (·.2))).length = τ.length → (∀ (j : Nat) z, (wipe σ (own.map (·.2)))[j]? = some (some z) → τ[j]? = some (some z)) → Nx G →
        ∃ m, m < n ∧ ∃ i G, Inv (X.blk s3 H3 scope ce fp) [] (wipe σ (own.map (·.2))) G v ∧ tn i v.heap ∧ (∀ b ∈ fp, G b = none) ∧ W i m G := fun {τ v G} Iv le ke nx => by
      obtain ⟨m', lt, w'⟩ := hNx G nx
      have pinned : ∀ b ∈ fp, ∀ o, s7.heap.get? b = some o → v.heap.get? b = some o ∧ G b = none := fun b m o e =>
        have z := Iv.pin (b, o) (List.mem_append_right _ (List.mem_append_right _ (mem_pinsAt m e)))
        ⟨z.1, z.2.1⟩
      refine ⟨m', lt, i + 1, G, (Iv.unpinned (pins := [])).weak le ke, T.keep _ _ _ st7 fun b m o e => (pinned b m o e).1, fun b m => ?_, w'⟩
      obtain ⟨o, e, _⟩ := T.obj _ _ st7 b m
      exact (pinned b m o e).2
    refine thnF (ib4.run _ s8 σ8 H8 _ I8 q8) fun xv s9 hx => thnF hx fun jt s10 h10 => ?_
    obtain ⟨jt, gp, un, J1, H10, rfl, I10, U, su10, f10, W1, ⟨m1, v1⟩, turn1⟩ := h10
    have still1 : ∀ {G : Hp}, (∀ b ∈ gp, G b = none) → ∀ b ∈ gp, FpOk (X.blk s3 H3 scope ce fp) ([] ++ pinsAt fp s7.heap) G b := fun no b m => ⟨no b m, (f10 b m).2⟩
    have inner : codeAny (model X.prog X.w) X.A (.compLoop (two elt ta ia tb ib scope pos) 1 (.ref jt) (.ref D) ce) (fun r v => match r with
        | .ok _ => ∃ m, m < n ∧ ∃ i G, Inv (X.blk s3 H3 scope ce fp) [] (wipe σ (own.map (·.2))) G v ∧ tn i v.heap ∧ (∀ b ∈ fp, G b = none) ∧ W i m G
        | .error _ => False) s10 := by
      refine loop_b (fun k v => ∃ j G, Inv (X.blk s3 H3 scope ce fp) ([] ++ pinsAt fp s7.heap) (wipe σ8 us) G v ∧ un j v.heap ∧ (∀ b ∈ gp, G b = none) ∧ W1 j k G) (fun k s12 hI => ?_) m1 ⟨0, H10, I10.weak (wipe_length _ _) (fun j v e => (wipe_some e).1), su10, fun b m => (f10 b m).1, v1⟩
      obtain ⟨j, H12, I12, su12, no12, w12⟩ := hI
      rcases turn1 j k H12 w12 with ⟨stop1, nx⟩ | ⟨go1, Nx1, hNx1, step1⟩
      · refine thnF (U.done (X.blk s3 H3 scope ce fp) rfl rfl rfl hc j _ s12 (wipe σ8 us) H12 (fun _ _ => False) I12 (still1 no12) su12 stop1) fun r s13 ⟨hr, I13⟩ => ?_
        subst hr
        refine next I13 (len8.trans (wipe_length σ8 us).symm) (fun j v e => ?_) nx
        rw [← wp8] at e
        obtain ⟨a1, a2⟩ := wipe_some e
        rw [wipe_out fun z => a2 (hus j z)]
        exact a1
      · refine thnF (U.item (X.blk s3 H3 scope ce fp) rfl rfl rfl hc j _ s12 (wipe σ8 us) H12 (fun _ _ => False) I12 (still1 no12) su12 go1) fun r s13 ⟨u1, hr, h13⟩ => ?_
        subst hr
        refine thnF h13 fun _ s14 ⟨x1, H14, I14, r14, y14, su14, no14⟩ => ?_
        have I14p := I14.pinned (still1 no14) (U.obj _ _ su14)
        refine thnF (gb4.run _ s14 (wipe σ8 us) H14 x1 u1 _ I14p r14 (step1 x1 H14 y14)) fun _ s15 ⟨σ15, H15, I15, wp15, q15⟩ => ?_
        refine thnF (el4.run _ s15 σ15 H15 _ I15 q15) fun z s17 ⟨yv, H17, I17, r17, e, c, L, ey, he, hD, hL, room, nx⟩ => ?_
        subst ey
        cases r17
        refine add_ok (X := X.blk s3 H3 scope ce fp) I17 hD he hL room hu fun L' s18 c1 c2 I18 => ?_
        obtain ⟨m', lt, w'⟩ := hNx1 _ (nx L' c1 c2)
        have pinned : ∀ b ∈ gp, ∀ o, s14.heap.get? b = some o → s18.heap.get? b = some o ∧ (upd H17 D (SetO X.prog X.w D L')) b = none := fun b m o e =>
          have z := I18.pin (b, o) (List.mem_append_right _ (List.mem_append_right _ (mem_pinsAt m e)))
          ⟨z.1, z.2.1⟩
        refine ⟨m', lt, j + 1, _, I18.unpinned.weak (by rw [← wp15, wipe_length]) (fun j v e => by rw [← wp15] at e; exact (wipe_some e).1), U.keep _ _ _ su14 fun b m o e => (pinned b m o e).1, fun b m => ?_, w'⟩
        obtain ⟨o, e, _⟩ := U.obj _ _ su14 b m
        exact (pinned b m o e).2
    exact start_b inner (U.self X.A 0 _ _ _ su10 inner)
end
end Kd

-- ===== KS9 =====
set_option Elab.async false
set_option linter.all false
set_option maxRecDepth 100000
set_option maxHeartbeats 3200000
namespace Kd
open PySem PySem.Spec PyProof.Rows L2
section
variable {X : Cx} {pins : List (Addr × Obj)} {σ : L2.St} {H : Hp} {s : Shared}
/-- an entry with a tuple for its key, by a comprehension -/
theorem put_ok {E : Value → Shared → Prop} {D b : Addr} {kvs : List (List Key × V)} {k : List Key} {v : V} {r : Value} {Q : Unit → Shared → Prop} (hu : X.A.units + 2 < cLine) (I : Inv X pins σ H s) (hD : H D = some (.dT kvs)) (hb : H b = some (.tup (k.map kV))) (room : kvs.length < sizeLine) (rv : RelV v r)
    (h : ∀ s', Inv X pins σ (upd H D (.dT (putK kvs k v))) s' → Q () s') : wpAny (model X.prog X.w) X.A (dictSet D (.ref b) r) Q E s := by
  obtain ⟨z, nsys, xs, rel, dd⟩ := dt_of I.hok hD
  have xz : xs.length ≤ sizeLine := by rw [← Paired.length rel]; exact z
  have pz : (putK kvs k v).length ≤ sizeLine := by have := length_putK kvs k v; omega
  refine wpAny_dictSet_heap (hsz := xz) (show X.A.units < cLine by omega) (key_of I.hok hb) dd fun h' dd' sb => h _ ?_
  obtain ⟨o, es, ep, ho, o2, o3, o4, _, o5⟩ := dd'
  refine d_write I (by rw [hD]; exact True.intro) sb ⟨o, ho⟩ ⟨pz, nsys, _, (rel.put k hb rv).keeps fun c ys e => ?_, o, es, ep, ho, o2, o3, o4, o5⟩
  rw [upd_ne (ne_of e hD (fun z => nomatch z))]
  exact e
end
section
variable {X : Cx}
/-- {key: val for ta in ia}, the key a tuple: D the new dict -/
def tDcT (wa : TI) (ga : TG) (tk tv : TE) (vs : List Nat) : TE := fun σ H Q => wa σ H fun J H1 => ∀ D, H1 D = none → ∃ W : Nat → Nat → Hp → Prop, (∃ m, W 0 m (upd H1 D (.dT []))) ∧ ∀ i m H2, W i m H2 →
  (J.stop i H2 ∧ Q (.ref D) H2) ∨ (J.go i H2 ∧ ∃ Nx : Hp → Prop, (∀ H3, Nx H3 → ∃ m', m' < m ∧ W (i + 1) m' H3) ∧ ∀ x H3, J.yld i H2 x H3 → ga x (wipe σ vs) H3 fun σ4 H4 => wipe σ4 vs = wipe σ vs ∧ tk σ4 H4 fun y H5 => tv σ4 H5 fun z H6 =>
    ∃ (kvs : List (List Key × V)) (k : List Key) (b : Addr), y = .ref b ∧ H6 b = some (.tup (k.map kV)) ∧ H6 D = some (.dT kvs) ∧ kvs.length < sizeLine ∧ Nx (upd H6 D (.dT (putK kvs k z))))
theorem pe_dcT {kx vx ta ia : Expr} {scope : Scope} {own : List (PySem.Str × Nat)} {pos : Pos} {wa : TI} {ga : TG} {tk tv : TE} (hc : X.calm = true) (hN : X.N.Nodup) (hu : X.A.units + 2 < cLine) (hia : PI X ta ia wa) (ok : BlkOk X.N X.env.scope scope own)
    (hga : Blks X scope fun Y => PG Y ta ga) (hk : Blks X scope fun Y => PE Y kx tk) (hv : Blks X scope fun Y => PE Y vx tv) (pa : ∀ x, foldedSetIterable ia X.env x = pure x := by intro _; rfl) :
    PE X (.DictComp kx vx [⟨ta, ia, [], 0⟩] scope pos) (tDcT wa ga tk tv (own.map (·.2))) := by
  refine ⟨fun pins s σ H Q I h => ?_⟩
  rw [arm_eval_DictComp]
  have caught : ∀ y ∈ scope.names, y.2 = .free → ∃ c, X.env.cells.lookup y.1 = some c := fun y m e => (ok.free y m e).elim (fun k => I.ok.has _ (.inl k)) (fun k => I.ok.has _ (.inr k))
  refine wpAny_comprehension_free (use := none) rfl pa (closure_ok caught) ok.kind (fun y m e => by rw [ok.uniq y m, e]) (thn (hia.run pins s σ H _ I h) fun xv s1 hx => thn hx fun itv s2 h2 => ?_)
  obtain ⟨it, fp, tn, J, H2, rfl, I2, T, st2, f2, q⟩ := h2
  refine wpAny_newObj_type (newEnv_comp ?_)
  generalize eD : s2.heap.objs.size = D
  have D0 : H2 D = none := I2.hok.fresh (Nat.le_of_eq eD)
  obtain ⟨W, ⟨m0, w0⟩, turn⟩ := q D D0
  generalize e3 : ({ s2 with heap := s2.heap.push { cls := .type "dict", data := .dict #[] } } : Shared) = s3
  have hp3 : s3.heap = s2.heap.push { cls := .type "dict", data := .dict #[] } := by rw [← e3]
  have I3 : Inv X pins σ (upd H2 D (.dT [])) s3 := by
    rw [← e3]
    refine I2.laid (t' := s2.toks) (fun b o e => Heap.get?_push_of_some _ e) (Nat.le_of_eq eD) ?_
    rw [← eD]
    exact dt_empty s2.heap I2.big
  have low : ∀ b ∈ fp, b < s2.heap.objs.size := fun b m => by
    obtain ⟨o, e, _⟩ := T.obj _ _ st2 b m
    exact Heap.lt_size e
  have f3 : ∀ b ∈ fp, FpOk X pins (upd H2 D (.dT [])) b ∧ b < s3.heap.objs.size := fun b m => by
    refine ⟨⟨?_, (f2 b m).2⟩, by rw [hp3, Heap.size_push]; exact Nat.lt_succ_of_lt (low b m)⟩
    rw [upd_ne (by rw [← eD]; exact Nat.ne_of_lt (low b m))]
    exact (f2 b m).1
  have st3 : tn 0 s3.heap := T.keep _ _ _ st2 fun b _ o e => by rw [hp3]; exact Heap.get?_push_of_some _ e
  have I4 := block_start I3 ok hN f3
  have ga4 := hga s3 (upd H2 D (.dT [])) s3.heap.objs.size (cellsFrom (s3.heap.objs.size + 1) scope.names (cloFrom X.env.cells scope.names [])) fp
  have k4 := hk s3 (upd H2 D (.dT [])) s3.heap.objs.size (cellsFrom (s3.heap.objs.size + 1) scope.names (cloFrom X.env.cells scope.names [])) fp
  have v4 := hv s3 (upd H2 D (.dT [])) s3.heap.objs.size (cellsFrom (s3.heap.objs.size + 1) scope.names (cloFrom X.env.cells scope.names [])) fp
  show codeAny _ _ (.compStart (.DictComp kx vx [⟨ta, ia, [], 0⟩] scope pos) 0 (.ref it) (.ref D) (compEnvC scope (cellsFrom (s3.heap.objs.size + 1) scope.names (cloFrom X.env.cells scope.names [])) s3.heap.objs.size X.env)) (compPost (model X.prog X.w) X.A X.xe none _ (.ref D) s3.heap.objs.size) { s3 with heap := pushCells (s3.heap.push { cls := .type "dict", data := .dict #[] }) scope.names }
  have fp0 : ∀ b ∈ fp, (upd H2 D (.dT [])) b = none := fun b m => (f3 b m).1.1
  generalize ece : compEnvC scope (cellsFrom (s3.heap.objs.size + 1) scope.names (cloFrom X.env.cells scope.names [])) s3.heap.objs.size X.env = ce at I4 ga4 k4 v4 ⊢
  have loc : ce.locals = s3.heap.objs.size := by subst ece; rfl
  generalize upd H2 D (.dT []) = H3 at I3 I4 ga4 k4 v4 w0 fp0 f3
  generalize e4 : ({ s3 with heap := pushCells (s3.heap.push { cls := .type "dict", data := .dict #[] }) scope.names } : Shared) = s4 at I4 ⊢
  have st4 : tn 0 s4.heap := T.keep _ _ _ st3 fun b _ o e => by rw [← e4]; exact pushCells_keeps _ _ _ _ (Heap.get?_push_of_some _ e)
  have still : ∀ {τ : L2.St} {G : Hp} {u : Shared}, Inv (X.blk s3 H3 scope ce fp) [] τ G u → (∀ b ∈ fp, G b = none) → ∀ b ∈ fp, FpOk (X.blk s3 H3 scope ce fp) [] G b := fun {τ G u} Iu no b m =>
    ⟨no b m, (Iu.ok.exf b m).1, Iu.ok.exfs b m, .inl m, fun x c e => (Iu.ok.exf b m).2 x c e, fun p z => absurd (show p ∈ ([] : List (Addr × Obj)) ++ [] from z) (by simp)⟩
  refine codeAny_compStart_dict ?loop (T.self X.A 0 _ _ _ st4 ?loop)
  refine compLoop_anyD (fun n u => ∃ i G, Inv (X.blk s3 H3 scope ce fp) [] (wipe σ (own.map (·.2))) G u ∧ tn i u.heap ∧ (∀ b ∈ fp, G b = none) ∧ W i n G) (fun n s5 hI => ?_) m0 ⟨0, H3, I4, st4, fp0, w0⟩
  obtain ⟨i, H5, I5, st5, no5, w5⟩ := hI
  rcases turn i n H5 w5 with ⟨stop, fin⟩ | ⟨go, Nx, hNx, step⟩
  · refine thnF (T.done (X.blk s3 H3 scope ce fp) rfl rfl rfl hc i [] s5 _ H5 (fun _ _ => False) I5 (still I5 no5) st5 stop) fun r s6 ⟨hr, I6⟩ => ?_
    subst hr
    have I7 : Inv X pins σ H5 s6 := I3.call' (ch := fp) I6.os I6.base I6.hok I6.bare fun b m => ⟨(f3 b m).1.2.2.2.1, (f3 b m).1.2.1, (f3 b m).1.2.2.2.2.1, (f3 b m).1.2.2.2.2.2⟩
    have none5 : H5 s3.heap.objs.size = none := by
      have z : H5 ce.locals = none := I6.free
      rwa [loc] at z
    obtain ⟨m, hn, _⟩ := I6.loc
    have hn : s6.heap.Ns ce.locals m := hn
    rw [loc] at hn
    obtain ⟨g0, g1, g2, g3, g4, g5⟩ := I3.fpOk (Nat.le_refl _) none5
    exact ⟨m, hn, fun h'' sb => ⟨.ref D, H5, I7.turned (t' := s6.toks) (fun b o ne e => (sb.2 b ne).trans e) g0 g1 g3 g4 g5, rfl, fin⟩⟩
  · refine thnF (T.item (X.blk s3 H3 scope ce fp) rfl rfl rfl hc i [] s5 _ H5 (fun _ _ => False) I5 (still I5 no5) st5 go) fun r s6 ⟨u, hr, h6⟩ => ?_
    subst hr
    refine thnF h6 fun _ s7 ⟨x, H7, I7, r7, y7, st7, no7⟩ => ?_
    have I7p := I7.pinned (still I7 no7) (T.obj _ _ st7)
    refine thnF (ga4.run _ s7 _ H7 x u _ I7p r7 (step x H7 y7)) fun _ s8 ⟨σ8, H8, I8, wp8, q8⟩ => ?_
    refine thnF ((pts_nil (X := X.blk s3 H3 scope ce fp)).run _ s8 σ8 H8 (fun b G => b = true ∧ tk σ8 G _) I8 ⟨rfl, q8⟩) fun b s9 ⟨H9, I9, eb, q9⟩ => ?_
    subst eb
    simp only [if_true]
    refine thnF (k4.run _ s9 σ8 H9 _ I9 q9) fun z1 s10 ⟨yk, H10, I10, r10, q10⟩ => ?_
    refine thnF (v4.run _ s10 σ8 H10 _ I10 q10) fun z2 s11 ⟨yv, H11, I11, r11, kvs, k, b, ek, hb, hD, room, nx⟩ => ?_
    subst ek
    cases r10
    refine put_ok (X := X.blk s3 H3 scope ce fp) hu I11 hD hb room r11 fun s12 I12 => ?_
    obtain ⟨m', lt, w'⟩ := hNx _ nx
    have pinned : ∀ b ∈ fp, ∀ o, s7.heap.get? b = some o → s12.heap.get? b = some o ∧ (upd H11 D (.dT (putK kvs k yv))) b = none := fun b m o e =>
      have z := I12.pin (b, o) (List.mem_append_right _ (List.mem_append_right _ (mem_pinsAt m e)))
      ⟨z.1, z.2.1⟩
    refine ⟨m', lt, i + 1, _, (I12.unpinned (pins := [])).weak (by rw [← wp8, wipe_length]) (fun j v e => by rw [← wp8] at e; exact (wipe_some e).1), T.keep _ _ _ st7 fun b m o e => (pinned b m o e).1, fun b m => ?_, w'⟩
    obtain ⟨o, e, _⟩ := T.obj _ _ st7 b m
    exact (pinned b m o e).2
end
end Kd

-- ===== K15B =====
set_option Elab.async false
set_option linter.all false
set_option maxRecDepth 100000
set_option maxHeartbeats 4000000
namespace My
open PySem L2 PyProof.Rows PySem.Spec Kd
abbrev sMoves : Stmt := top 6
abbrev sText : Stmt := top 8
abbrev sLine : Stmt := top 9
abbrev sUntext : Stmt := top 11
abbrev sUnline : Stmt := top 12
abbrev sUnstep : Stmt := top 13
abbrev sWord : Stmt := top 19
abbrev sNumber : Stmt := top 20
abbrev sStates : Stmt := top 21
abbrev sState : Stmt := top 22
abbrev sStep : Stmt := top 23
/-! ### data of tuples, texts and ints -/
mutual
inductive TD (H : Hp) : V → PyData → Prop
  | int (i : Int) : TD H (.int i) (.int i)
  | str (x : Str) : TD H (.str x) (.str x)
  | bl (b : Bool) : TD H (.bl b) (.bool b)
  | tup {a : Addr} {xs : List V} {ds : List PyData} : H a = some (.tup xs) → TDs H xs ds → TD H (.ref a) (.tuple ds)
inductive TDs (H : Hp) : List V → List PyData → Prop
  | nil : TDs H [] []
  | cons {v : V} {vs : List V} {d : PyData} {ds : List PyData} : TD H v d → TDs H vs ds → TDs H (v :: vs) (d :: ds)
end
/-- tuples that stood stand -/
def Tup (H H' : Hp) : Prop := ∀ a xs, H a = some (.tup xs) → H' a = some (.tup xs)
theorem Tup.refl (H : Hp) : Tup H H := fun _ _ e => e
theorem Tup.trans {H H1 H2 : Hp} (a : Tup H H1) (b : Tup H1 H2) : Tup H H2 := fun x xs e => b x xs (a x xs e)
theorem Tup.of {H H' : Hp} (s : Same H H') : Tup H H' := fun a xs e => s a _ e
theorem Tup.new {H : Hp} {p : Addr} {o : HO} (n : H p = none) : Tup H (upd H p o) := fun a xs e => by
  rw [upd_ne (ne_of_none e n)]
  exact e
theorem Tup.at_ {H : Hp} {p : Addr} {o o' : HO} (n : H p = some o') (h : ∀ xs, o' ≠ .tup xs) : Tup H (upd H p o) := fun a xs e => by
  rw [upd_ne (fun z => by rw [z, n] at e; exact h xs (Option.some.inj e))]
  exact e
mutual
theorem TD.to {H H' : Hp} (s : Tup H H') : ∀ {v : V} {d : PyData}, TD H v d → TD H' v d
  | _, _, .int i => .int i
  | _, _, .str x => .str x
  | _, _, .bl b => .bl b
  | _, _, .tup h1 h2 => .tup (s _ _ h1) (TDs.to s h2)
theorem TDs.to {H H' : Hp} (s : Tup H H') : ∀ {vs : List V} {ds : List PyData}, TDs H vs ds → TDs H' vs ds
  | _, _, .nil => .nil
  | _, _, .cons h1 h2 => .cons (TD.to s h1) (TDs.to s h2)
end
mutual
theorem TD.dp {K : PySem.W.Frag} {H : Hp} : ∀ {v : V} {d : PyData}, TD H v d → Dp K H v d
  | _, _, .int i => .int i
  | _, _, .str x => .str x
  | _, _, .bl b => .bl b
  | _, _, .tup h1 h2 => .tup (SqT.of h1) (TDs.dp h2)
theorem TDs.dp {K : PySem.W.Frag} {H : Hp} : ∀ {vs : List V} {ds : List PyData}, TDs H vs ds → DpAll K H vs ds
  | _, _, .nil => .nil
  | _, _, .cons h1 h2 => .cons (TD.dp h1) (TDs.dp h2)
end
mutual
theorem TD.dq {H : Hp} : ∀ {v : V} {d : PyData}, TD H v d → Dq (fun _ => True) H v d
  | _, _, .int i => .int i
  | _, _, .str x => .str x
  | _, _, .bl b => .bl b
  | _, _, .tup h1 h2 => .tup trivial h1 (TDs.dq h2)
theorem TDs.dq {H : Hp} : ∀ {vs : List V} {ds : List PyData}, TDs H vs ds → DqAll (fun _ => True) H vs ds
  | _, _, .nil => .nil
  | _, _, .cons h1 h2 => .cons (TD.dq h1) (TDs.dq h2)
end
theorem TDs.len {H : Hp} : ∀ {vs : List V} {ds : List PyData}, TDs H vs ds → vs.length = ds.length
  | _, _, .nil => rfl
  | _, _, .cons _ h2 => by rw [List.length_cons, List.length_cons, h2.len]
theorem TDs.get {H : Hp} : ∀ {vs : List V} {ds : List PyData}, TDs H vs ds → ∀ {i : Nat} {v : V}, vs[i]? = some v → ∃ d, ds[i]? = some d ∧ TD H v d
  | _, _, .nil, i, v, e => by simp at e
  | _, _, .cons h1 h2, 0, v, e => ⟨_, rfl, by have z := Option.some.inj e; rw [← z]; exact h1⟩
  | _, _, .cons h1 h2, i + 1, v, e => h2.get (i := i) e
theorem TDs.snoc {H : Hp} {v : V} {d : PyData} (h : TD H v d) : ∀ {vs : List V} {ds : List PyData}, TDs H vs ds → TDs H (vs ++ [v]) (ds ++ [d])
  | _, _, .nil => .cons h .nil
  | _, _, .cons h1 h2 => .cons h1 (TDs.snoc h h2)

/-! ### kinds as mathematics -/
abbrev Stp := Str × Str × Int
def stepD (x : Stp) : PyData := .tuple [.str x.1, .str x.2.1, .int x.2.2]
def stateD (st : List Stp) : PyData := .tuple (st.map stepD)
def statesD (ss : List (List Stp)) : PyData := .tuple (ss.map stateD)
abbrev evOf (x : Stp) : Str × Str := (x.1, x.2.1)
def LETS : Str := "abcdefghijklmnopqrstuvwxyz0123456789"
def Wrd (z : Str) : Prop := 1 ≤ z.length ∧ z.length ≤ 12 ∧ ∀ c ∈ z.cps.toList, c ∈ LETS.cps.toList
def evLt (x y : Str × Str) : Prop := x.1.cps.toList < y.1.cps.toList ∨ (x.1 = y.1 ∧ x.2.cps.toList < y.2.cps.toList)
structure StpOk (n : Nat) (x : Stp) : Prop where
  w1 : Wrd x.1
  w2 : Wrd x.2.1
  lo : 0 ≤ x.2.2
  hi : x.2.2 < n
structure StOk (n : Nat) (st : List Stp) : Prop where
  all : ∀ x ∈ st, StpOk n x
  asc : (st.map evOf).Pairwise evLt
  few : st.length ≤ 24
structure KOk (ss : List (List Stp)) : Prop where
  one : 1 ≤ ss.length
  most : ss.length ≤ 40
  all : ∀ st ∈ ss, StOk ss.length st
  evs : ∃ es : List (Str × Str), es.length ≤ 24 ∧ ∀ st ∈ ss, ∀ x ∈ st, evOf x ∈ es

/-- what the module's names hold -/
structure Gs (mg : Str → Option Value) : Prop where
  isi : mg "isinstance" = none
  str : mg "str" = none
  int : mg "int" = none
  bool : mg "bool" = none
  tuple : mg "tuple" = none
  len : mg "len" = none
  all : mg "all" = none
  set : mg "set" = none
  sorted : mg "sorted" = none
  range : mg "range" = none
  repr : mg "repr" = none
  enum : mg "enumerate" = none
  list : mg "list" = none
  c40 : ∃ t, mg "MOST_STATES" = some (.int 40 t)
  c24 : ∃ t, mg "MOST_EVENTS" = some (.int 24 t)
  c12 : ∃ t, mg "MOST_LETTERS" = some (.int 12 t)
  lets : ∃ t, mg "LETTERS" = some (.str LETS t)

theorem same_at {H H2 : Hp} {D : Addr} {o : HO} (s : Same H H2) (n : H D = none) : Same H (upd H2 D o) := fun b u e => by
  rw [upd_ne (ne_of_none e n)]
  exact s b u e
theorem small_len {n m : Nat} (h : n ≤ m) (hm : m ≤ 16777216 := by decide) : n ≤ sizeLine := by rw [sizeLine_eq]; omega
theorem small_lt {n m : Nat} (h : n ≤ m) (hm : m < 16777216 := by decide) : n < sizeLine := by rw [sizeLine_eq]; omega
/-! ### walks of comprehensions -/
/-- what a list comprehension's loop over J asks, the list at D -/
def LcW (J : It) (g : TG) (tt : TT) (te : TE) (vs : List Nat) (σ : L2.St) (H1 : Hp) (D : Addr) (Qd : Hp → Prop) : Prop := ∃ W : Nat → Nat → Hp → Prop, (∃ m, W 0 m (upd H1 D (.lst []))) ∧ ∀ i m H, W i m H →
  (J.stop i H ∧ Qd H) ∨ (J.go i H ∧ ∃ Nx : Hp → Prop, (∀ H', Nx H' → ∃ m', m' < m ∧ W (i + 1) m' H') ∧ ∀ x H', J.yld i H x H' → g x (wipe σ vs) H' fun σ2 H2 => wipe σ2 vs = wipe σ vs ∧ tt σ2 H2 fun b H3 =>
    if b = true then te σ2 H3 fun y H4 => ∃ acc, H4 D = some (.lst acc) ∧ acc.length < sizeLine ∧ Nx (upd H4 D (.lst (acc ++ [y]))) else Nx H3)
theorem lc_text {x : Str} {g : TG} {tt : TT} {te : TE} {vs : List Nat} {σ : L2.St} {H1 : Hp} {D : Addr} {Qd : Hp → Prop} (Pv : Nat → Hp → Prop) (first : Pv 0 (upd H1 D (.lst [])))
    (turn : ∀ i c H, x.cps[i]? = some c → Pv i H → g (.str ⟨#[c]⟩) (wipe σ vs) H fun σ2 H2 => wipe σ2 vs = wipe σ vs ∧ tt σ2 H2 fun b H3 => if b = true then te σ2 H3 fun y H4 => ∃ acc, H4 D = some (.lst acc) ∧ acc.length < sizeLine ∧ Pv (i + 1) (upd H4 D (.lst (acc ++ [y]))) else Pv (i + 1) H3)
    (last : ∀ H, Pv x.cps.size H → Qd H) : LcW (Its x) g tt te vs σ H1 D Qd := by
  refine ⟨fun i m H => m = x.cps.size - i ∧ i ≤ x.cps.size ∧ Pv i H, ⟨_, rfl, Nat.zero_le _, first⟩, fun i m H ⟨em, le, p⟩ => ?_⟩
  subst em
  rcases Nat.lt_or_ge i x.cps.size with lt | ge
  · refine .inr ⟨lt, Pv (i + 1), fun H' p' => ⟨_, by omega, rfl, lt, p'⟩, fun v H' ⟨eH, c, ec, ev⟩ => ?_⟩
    subst eH
    subst ev
    exact turn i c _ ec p
  · have e : i = x.cps.size := by omega
    subst e
    exact .inl ⟨Nat.le_refl _, last H p⟩
/-! ### is_word -/
def spWord : Sp := fun vs H Q _ => ∃ z : Str, vs = [.str z] ∧ Wrd z ∧ ∀ H', Same H H' → Q (.bl true) H'
def spNumber : Sp := fun vs H Q _ => ∃ i : Int, vs = [.int i] ∧ 0 ≤ i ∧ Q (.bl true) H
def spStep : Sp := fun vs H Q _ => ∃ (a : Addr) (x : Stp) (n : Nat), vs = [.ref a, .int n] ∧ TD H (.ref a) (stepD x) ∧ StpOk n x ∧ ∀ H', Same H H' → Q (.bl true) H'
theorem small_str {z : Str} (h : z.length ≤ 12) : z.length ≤ sizeLine := by rw [sizeLine_eq]; omega
section
variable {P : Program} {w : World} {K : PySem.W.Frag} {mg : Str → Option Value} {base : Heap}
theorem scW : FnScope ["thing", "letter"] ["thing"] (defScope sWord) := ⟨rfl, rfl, rfl, by decide +kernel, rfl, by decide +kernel, by decide +kernel⟩
theorem ok_word {f : Addr} {fd : FuncData} (F : Fun K "is_word" "is_word" sWord f fd) (G : Gs mg) : FnOk P w K mg base CX0 1 f fd ["thing"] spWord := by
  obtain ⟨t12, m12⟩ := G.c12
  obtain ⟨tl, mlet⟩ := G.lets
  refine F.ok scW (fun vs H Q E h => ?_) (fun cdv A outer s H vs Q E hr h => ?_)
  · obtain ⟨z, rfl, _⟩ := h
    rfl
  · obtain ⟨z, rfl, wz, k⟩ := h
    refine ⟨_, pss_cons (ps_if (PW.pt (pw_or (pt_not (pt_val (pe_callB call_isi (by rfl) G.isi boot_isinstance (pa_cons (pv 0) (pa_cons (pe_bltn (v := .ty "str") (by rfl) G.str PyProof.Rows.boot_str rfl) pa_nil)))))
          (pw_or1 (pt_not (pt_chain op_le op_le pe_int (pe_callB call_len_str (by rfl) G.len PySem.boot_len (pa_cons (pv 0) pa_nil)) (pe_glob (v := .int 12) (by rfl) m12 ⟨_, rfl⟩)))))) (pss_one (ps_ret pe_bl)) pss_nil)
      (pss_one (ps_ret (pe_callB (cr_all rfl) (by rfl) G.all PyProof.Rows.boot_all (pa_cons (pe_lc (own := [("letter", 1)]) (g := gName 1) (tt := tYes) rfl scW.nd (pi_str (pv 0)) (blkOk_by (N := ["thing", "letter"]) (sc := defScope sWord) (by decide +kernel))
        (fun _ _ _ _ _ => pg_name (i := 1) scW.nd rfl (Or.inl rfl)) (fun _ _ _ _ _ => pts_nil) (fun _ _ _ _ _ => pe_cmpR op_in_sign (pv 1) (pe_glob (v := .str LETS) (by rfl) mlet ⟨_, rfl⟩) (by rfl))) pa_nil)))), ?_⟩
    refine ⟨_, rfl, _, _, _, _, _, rfl, .ty "str", .base (.str z), kit_ty (a := "str") (b := "str") (r := true) (by decide +kernel), _, rfl, iteF ?_⟩
    refine ⟨_, rfl, z, rfl, small_str wz.2.1, _, _, rfl, rfl, _, rfl, ?_⟩
    have l1 := wz.1
    have l2 := wz.2.1
    rw [decide_eq_true (show (1 : Int) ≤ z.length by omega)]
    refine iteT ⟨_, _, rfl, rfl, _, rfl, ?_⟩
    rw [decide_eq_true (show (z.length : Int) ≤ 12 by omega)]
    refine iteF ?_
    refine ⟨_, rfl, z, rfl, fun D hD => lc_text (x := z) (fun i H2 => Same H H2 ∧ H2 D = some (.lst ((List.replicate i true).map V.bl))) ⟨?_, upd_same⟩ (fun i c H2 ec ⟨s2, d2⟩ => ?_) fun H2 ⟨s2, d2⟩ => ?_⟩
    · exact same_at (Same.refl H) hD
    · have lt : i < z.cps.size := (Array.getElem?_eq_some_iff.mp ec).1
      have mem : c ∈ z.cps.toList := List.mem_of_getElem? (by rw [Array.getElem?_toList]; exact ec)
      refine ⟨rfl, _, rfl, c, LETS, rfl, rfl, ?_⟩
      rw [decide_eq_true (wz.2.2 c mem)]
      refine ⟨_, d2, ?_, same_at s2 hD, ?_⟩
      · rw [List.length_map, List.length_replicate]
        exact small_lt (m := 12) (Nat.le_trans (Nat.le_of_lt lt) l2)
      · rw [upd_same, List.replicate_succ', List.map_append]
        rfl
    · refine ⟨D, _, rfl, SqL.of d2, ?_⟩
      have e : ((List.replicate z.cps.size true).all id) = true := by simp
      rw [e]
      exact k _ s2
theorem scNu : FnScope ["thing"] ["thing"] (defScope sNumber) := ⟨rfl, rfl, rfl, by decide +kernel, rfl, by decide +kernel, by decide +kernel⟩
theorem ok_number {f : Addr} {fd : FuncData} (F : Fun K "is_number" "is_number" sNumber f fd) (G : Gs mg) : FnOk P w K mg base CX0 1 f fd ["thing"] spNumber := by
  refine F.ok scNu (fun vs H Q E h => ?_) (fun cdv A outer s H vs Q E hr h => ?_)
  · obtain ⟨i, rfl, _⟩ := h
    rfl
  · obtain ⟨i, rfl, i0, k⟩ := h
    refine ⟨_, pss_one (ps_ret (pe_and (pe_callB call_isi (by rfl) G.isi boot_isinstance (pa_cons (pv 0) (pa_cons (pe_bltn (v := .ty "int") (by rfl) G.int PyProof.Rows.boot_int rfl) pa_nil)))
      (pe_and (pe_not (pe_callB call_isi (by rfl) G.isi boot_isinstance (pa_cons (pv 0) (pa_cons (pe_bltn (v := .ty "bool") (by rfl) G.bool PyProof.Rows.boot_bool rfl) pa_nil)))) (pe_one (pe_cmpR op_ge (pv 0) pe_int (nomark _)))))), ?_⟩
    refine ⟨_, rfl, _, _, _, _, _, rfl, .ty "int", .base (.int i), kit_ty (a := "int") (b := "int") (r := true) (by decide +kernel), _, rfl, ?_⟩
    refine ⟨_, rfl, _, _, _, _, _, rfl, .ty "bool", .base (.int i), kit_ty (a := "int") (b := "bool") (r := false) (by decide +kernel), _, rfl, ?_⟩
    refine ⟨_, rfl, iteT ⟨_, rfl, _, _, rfl, rfl, ?_⟩⟩
    show Q (V.bl (decide (0 ≤ i))) H
    rw [decide_eq_true i0]
    exact k
theorem scSp : FnScope ["thing", "many"] ["thing", "many"] (defScope sStep) := ⟨rfl, rfl, rfl, by decide +kernel, rfl, by decide +kernel, by decide +kernel⟩
theorem TD.tup_of {H : Hp} {a : Addr} {ds : List PyData} (h : TD H (.ref a) (.tuple ds)) : ∃ xs, H a = some (.tup xs) ∧ TDs H xs ds := by
  cases h with
  | tup h1 h2 => exact ⟨_, h1, h2⟩
theorem TD.ref_of {H : Hp} {v : V} {ds : List PyData} (h : TD H v (.tuple ds)) : ∃ a xs, v = .ref a ∧ H a = some (.tup xs) ∧ TDs H xs ds := by
  cases h with
  | tup h1 h2 => exact ⟨_, _, rfl, h1, h2⟩
theorem step_of {H : Hp} {v : V} {x : Stp} (h : TD H v (stepD x)) : ∃ a, v = .ref a ∧ H a = some (.tup [.str x.1, .str x.2.1, .int x.2.2]) := by
  obtain ⟨a, xs, rfl, ha, hx⟩ := h.ref_of
  refine ⟨a, rfl, ?_⟩
  cases hx with
  | cons h1 t1 =>
    cases h1
    cases t1 with
    | cons h2 t2 =>
      cases h2
      cases t2 with
      | cons h3 t3 =>
        cases h3
        cases t3
        exact ha
theorem ok_step {f fW fN : Addr} {fd fdW fdN : FuncData} (F : Fun K "_is_step" "_is_step" sStep f fd) (G : Gs mg)
    (GW : FnOk P w K mg base CX0 1 fW fdW ["thing"] spWord) (mW : mg "is_word" = some (.ref fW)) (kW : PySem.W.keepIn K (.ref fW) = true) (bW : Binds K fdW ["thing"] [])
    (GN : FnOk P w K mg base CX0 1 fN fdN ["thing"] spNumber) (mN : mg "is_number" = some (.ref fN)) (kN : PySem.W.keepIn K (.ref fN) = true) (bN : Binds K fdN ["thing"] []) :
    FnOk P w K mg base CX0 2 f fd ["thing", "many"] spStep := by
  refine F.ok scSp (fun vs H Q E h => ?_) (fun cdv A outer s H vs Q E hr h => ?_)
  · obtain ⟨a, x, n, rfl, _⟩ := h
    rfl
  · obtain ⟨a, x, n, rfl, hx, xo, k⟩ := h
    refine ⟨_, pss_cons (ps_if (PW.pt (pw_or (pt_not (pt_val (pe_callB call_isi (by rfl) G.isi boot_isinstance (pa_cons (pv 0) (pa_cons (pe_bltn (v := .ty "tuple") (by rfl) G.tuple PyProof.Rows.boot_tuple rfl) pa_nil)))))
          (pw_or1 (pt_cmpR op_ne (pe_callB call_len_seq (by rfl) G.len PySem.boot_len (pa_cons (pv 0) pa_nil)) pe_int (nomark _))))) (pss_one (ps_ret pe_bl)) pss_nil)
      (pss_one (ps_ret (pe_and (pe_call GW hr (by rfl) mW kW bW .nil pass0 (pa_cons (pe_ix ix_tup (pv 0) pe_int (fun _ _ => rfl)) pa_nil))
        (pe_and (pe_call GW hr (by rfl) mW kW bW .nil pass0 (pa_cons (pe_ix ix_tup (pv 0) pe_int (fun _ _ => rfl)) pa_nil))
        (pe_and (pe_call GN hr (by rfl) mN kN bN .nil pass0 (pa_cons (pe_ix ix_tup (pv 0) pe_int (fun _ _ => rfl)) pa_nil))
        (pe_one (pe_cmpR op_lt (pe_ix ix_tup (pv 0) pe_int (fun _ _ => rfl)) (pv 1) (nomark _)))))))), ?_⟩
    obtain ⟨a', e, ha⟩ := step_of hx
    cases e
    refine ⟨_, rfl, _, _, _, _, _, rfl, .ty "tuple", .base (.tup ha), kit_ty (a := "tuple") (b := "tuple") (r := true) (by decide +kernel), _, rfl, iteF ?_⟩
    refine ⟨_, rfl, a, _, rfl, .inr (SqT.of ha), ?_⟩
    refine ⟨rfl, _, rfl, iteF ?_⟩
    refine ⟨_, rfl, a, _, _, _, rfl, rfl, SqT.of ha, rfl, x.1, rfl, xo.w1, fun H1 s1 => ⟨_, rfl, iteT ?_⟩⟩
    have h1 := s1 _ _ ha
    refine ⟨_, rfl, a, _, _, _, rfl, rfl, SqT.of h1, rfl, x.2.1, rfl, xo.w2, fun H2 s2 => ⟨_, rfl, iteT ?_⟩⟩
    have h2 := s2 _ _ h1
    refine ⟨_, rfl, a, _, _, _, rfl, rfl, SqT.of h2, rfl, x.2.2, rfl, xo.lo, ⟨_, rfl, iteT ?_⟩⟩
    refine ⟨_, rfl, a, _, _, _, rfl, rfl, SqT.of h2, rfl, _, rfl, _, _, rfl, rfl, ?_⟩
    show Q (V.bl (decide (x.2.2 < (n : Int)))) H2
    rw [decide_eq_true xo.hi]
    exact k _ (s1.trans s2)
end
end My

-- ===== K15M =====
set_option Elab.async false
set_option linter.all false
set_option maxRecDepth 100000
set_option maxHeartbeats 1600000
namespace My
open PySem L2 PyProof.Rows PySem.Spec Kd PySem.W
theorem cps_inj {x y : Str} (h : x.cps.toList = y.cps.toList) : x = y := by
  cases x
  cases y
  simp only [Str.mk.injEq]
  exact Array.toList_inj.mp h
/-- a pair of texts as a key -/
def evK (x : Str × Str) : List Key := [Sum.inr x.1, Sum.inr x.2]
theorem evK_inj {x y : Str × Str} (h : evK x = evK y) : x = y := by
  unfold evK at h
  injection h with h1 h2
  injection h2 with h3 _
  exact Prod.ext (Sum.inr.inj h1) (Sum.inr.inj h3)
theorem evLt_irrefl (x : Str × Str) : ¬ evLt x x := fun h => by
  rcases h with h | ⟨_, h⟩
  · exact List.lt_irrefl _ h
  · exact List.lt_irrefl _ h
theorem evLt_trans {x y z : Str × Str} (h1 : evLt x y) (h2 : evLt y z) : evLt x z := by
  rcases h1 with a | ⟨a, b⟩
  · rcases h2 with c | ⟨c, d⟩
    · exact .inl (List.lt_trans a c)
    · exact .inl (by rw [← c]; exact a)
  · rcases h2 with c | ⟨c, d⟩
    · exact .inl (by rw [a]; exact c)
    · exact .inr ⟨a.trans c, List.lt_trans b d⟩
theorem evLt_tri (x y : Str × Str) (h1 : ¬ evLt x y) (h2 : ¬ evLt y x) : x = y := by
  unfold evLt at h1 h2
  have a : x.1 = y.1 := cps_inj (List.le_antisymm (List.not_lt.mp fun z => h2 (.inl z)) (List.not_lt.mp fun z => h1 (.inl z)))
  have b : x.2 = y.2 := cps_inj (List.le_antisymm (List.not_lt.mp fun z => h2 (.inr ⟨a.symm, z⟩)) (List.not_lt.mp fun z => h1 (.inr ⟨a, z⟩)))
  exact Prod.ext a b
theorem eqv_str (x y : Str) : PyData.eqv (.str x) (.str y) = decide (x = y) := by
  by_cases e : x = y
  · subst e
    simp [PyData.eqv]
  · rw [decide_eq_false e]
    simp [PyData.eqv, e]
/-- the order of sorted on such keys -/
theorem lt_evK (x y : Str × Str) : dataLt (tD (evK x)) (tD (evK y)) = true ↔ evLt x y := by
  unfold tD evK evLt
  simp only [List.map_cons, List.map_nil, kD]
  rw [dataLt_pair rfl rfl, eqv_str, eqv_str]
  by_cases e : x.1 = y.1
  · have e0 : ¬ x.1.cps.toList < y.1.cps.toList := by rw [e]; exact List.lt_irrefl _
    rw [decide_eq_true e, if_pos rfl]
    by_cases e2 : x.2 = y.2
    · have e3 : ¬ x.2.cps.toList < y.2.cps.toList := by rw [e2]; exact List.lt_irrefl _
      rw [decide_eq_true e2, if_pos rfl]
      simp [e0, e3]
    · rw [decide_eq_false e2, if_neg (by decide), dataLt_str, decide_eq_true_eq]
      exact ⟨fun h => .inr ⟨e, h⟩, fun h => h.elim (fun z => absurd z e0) fun z => z.2⟩
  · rw [decide_eq_false e, if_neg (by decide), dataLt_str, decide_eq_true_eq]
    simp [e]
theorem le_evK {q r : Addr × List Key} {x y : Str × Str} (hq : q.2 = evK x) (hr : r.2 = evK y) : dataLe false (fun q : Addr × List Key => tD q.2) q r = true ↔ ¬ evLt y x := by
  rw [dataLe_eq]
  show (!dataLt (tD r.2) (tD q.2)) = true ↔ _
  rw [hq, hr, Bool.not_eq_true', ← Bool.not_eq_true, lt_evK]
theorem asc_nodup {es : List (Str × Str)} (h : es.Pairwise evLt) : es.Nodup := List.Pairwise.imp (fun {x y} lt e => by rw [e] at lt; exact evLt_irrefl _ lt) h
/-- whatever is sorted of what has just these keys -/
theorem sorted_is (L : List (Addr × List Key)) (es : List (Str × Str)) (asc : es.Pairwise evLt) (nd : (L.map Prod.snd).Nodup) (mem : ∀ k, k ∈ L.map Prod.snd ↔ k ∈ es.map evK) :
    (L.mergeSort (dataLe false fun q : Addr × List Key => tD q.2)).map Prod.snd = es.map evK := by
  have tot := sortLe_total (listOrd itemOrd) false fun q : Addr × List Key => keyToks (tD q.2)
  have srt : (L.mergeSort (dataLe false fun q : Addr × List Key => tD q.2)).Pairwise fun q r => dataLe false (fun q : Addr × List Key => tD q.2) q r = true := List.pairwise_mergeSort tot.trans (fun a b => by rw [Bool.or_eq_true]; exact tot.total a b) L
  have pm : (L.mergeSort (dataLe false fun q : Addr × List Key => tD q.2)).Perm L := List.mergeSort_perm _ _
  generalize L.mergeSort (dataLe false fun q : Addr × List Key => tD q.2) = M at srt pm
  have key : ∀ q ∈ M, ∃ x, q.2 = evK x := fun q hq => by
    have z := (mem q.2).mp (List.mem_map.mpr ⟨q, pm.mem_iff.mp hq, rfl⟩)
    obtain ⟨x, _, e⟩ := List.mem_map.mp z
    exact ⟨x, e.symm⟩
  -- as pairs of texts
  have back : ∃ xs : List (Str × Str), M.map Prod.snd = xs.map evK := by
    clear srt pm
    induction M with
    | nil => exact ⟨[], rfl⟩
    | cons q M ih =>
      obtain ⟨x, e⟩ := key q List.mem_cons_self
      obtain ⟨xs, e2⟩ := ih fun r hr => key r (List.mem_cons_of_mem _ hr)
      exact ⟨x :: xs, by rw [List.map_cons, List.map_cons, e, e2]⟩
  obtain ⟨xs, ex⟩ := back
  have px : (xs.map evK).Perm (es.map evK) := by
    rw [← ex]
    refine (pm.map Prod.snd).trans ((List.perm_ext_iff_of_nodup nd ?_).mpr mem)
    exact List.Pairwise.map _ (fun {x y} ne e => ne (evK_inj e)) (asc_nodup asc)
  have sx : xs.Pairwise fun x y => ¬ evLt y x := by
    have z : (M.map Prod.snd).Pairwise fun k l => ∀ x y, k = evK x → l = evK y → ¬ evLt y x := List.pairwise_map.mpr (List.Pairwise.imp (fun {q r} h x y e1 e2 => (le_evK e1 e2).mp h) srt)
    rw [ex] at z
    exact List.Pairwise.imp (fun {x y} h => h x y rfl rfl) (List.pairwise_map.mp z)
  have inj : Function.Injective evK := fun _ _ e => evK_inj e
  have p2 : xs.Perm es := by
    obtain ⟨ys, p1, e1⟩ := Kd.perm_lift evK px es rfl
    have e2 : xs = ys := by
      have : ∀ (l m : List (Str × Str)), l.map evK = m.map evK → l = m := by
        intro l
        induction l with
        | nil => intro m e; cases m with | nil => rfl | cons _ _ => cases e
        | cons x l ih =>
          intro m e
          cases m with
          | nil => cases e
          | cons y m =>
            injection e with a b
            rw [evK_inj a, ih m b]
      exact this _ _ e1
    rw [e2]
    exact p1
  have fin : xs = es := List.Perm.eq_of_pairwise (le := fun x y => ¬ evLt y x) (fun a b _ _ h1 h2 => evLt_tri a b h2 h1) sx (List.Pairwise.imp (fun {x y} lt gt => evLt_irrefl _ (evLt_trans lt gt)) asc) p2
  rw [ex, fin]
end My

-- ===== K15C =====
set_option Elab.async false
set_option linter.all false
set_option maxRecDepth 100000
set_option maxHeartbeats 4000000
namespace My
open PySem L2 PyProof.Rows PySem.Spec Kd
def spState : Sp := fun vs H Q _ => ∃ (a : Addr) (st : List Stp) (n : Nat), vs = [.ref a, .int n] ∧ TD H (.ref a) (stateD st) ∧ StOk n st ∧ ∀ H', Same H H' → Q (.bl true) H'
theorem same_new {H : Hp} {p : Addr} {o : HO} (n : H p = none) : Same H (upd H p o) := same_at (Same.refl H) n
theorem dp_keys {K : PySem.W.Frag} {H : Hp} : ∀ k : List Key, DpAll K H (k.map kV) (k.map kD)
  | [] => .nil
  | .inl i :: k => .cons (.int i) (dp_keys k)
  | .inr x :: k => .cons (.str x) (dp_keys k)
theorem dp_rows {K : PySem.W.Frag} {H : Hp} : ∀ M : List (Addr × List Key), (∀ q ∈ M, H q.1 = some (.tup (q.2.map kV))) → DpAll K H (M.map fun q => V.ref q.1) ((M.map Prod.snd).map tD)
  | [], _ => .nil
  | q :: M, h => .cons (.tup (SqT.of (h q List.mem_cons_self)) (dp_keys q.2)) (dp_rows M fun r m => h r (List.mem_cons_of_mem _ m))
theorem lets_low : ∀ c ∈ LETS.cps.toList, c < 1114112 := by decide +kernel
theorem wrd_ok {z : Str} (h : Wrd z) : PyData.strOk z = true := by
  unfold PyData.strOk
  rw [Array.all_eq_true']
  intro c hc
  have := lets_low c (h.2.2 c (Array.mem_toList_iff.mpr hc))
  simpa using this
theorem lay_rows : ∀ es : List (Str × Str), (∀ e ∈ es, Wrd e.1 ∧ Wrd e.2) → PyData.canLayAll0 ((es.map evK).map tD) = true
  | [], _ => by simp only [List.map_nil, PyData.canLayAll0]
  | e :: es, h => by
    have h1 := wrd_ok (h e List.mem_cons_self).1
    have h2 := wrd_ok (h e List.mem_cons_self).2
    simp only [List.map_cons, List.map_nil, tD, evK, kD, PyData.canLayAll0, PyData.canLay0, h1, h2, lay_rows es fun x m => h x (List.mem_cons_of_mem _ m), Bool.and_self]
theorem deep_rows : ∀ ks : List (List Key), PyData.depthAll (ks.map tD) ≤ 1
  | [] => by simp only [List.map_nil, PyData.depthAll]; omega
  | k :: ks => by
    have h1 := tD_depth k
    have h2 := deep_rows ks
    simp only [List.map_cons, PyData.depthAll]
    omega
theorem shaped_rows (es : List (Str × Str)) (w : ∀ e ∈ es, Wrd e.1 ∧ Wrd e.2) : SeqAt.shaped (.list ((es.map evK).map tD)) = true := by
  have h := deep_rows (es.map evK)
  unfold SeqAt.shaped
  rw [Bool.and_eq_true]
  refine ⟨by simp only [PyData.canLay0, lay_rows es w], decide_eq_true ?_⟩
  simp only [PyData.depth]
  omega
section
variable {P : Program} {w : World} {K : PySem.W.Frag} {mg : Str → Option Value} {base : Heap}
abbrev nSt : List Str := ["thing", "many", "events", "step"]
theorem scSt : FnScope nSt ["thing", "many"] (defScope sState) := ⟨rfl, rfl, rfl, by decide +kernel, rfl, by decide +kernel, by decide +kernel⟩
theorem ok_state {f fS : Addr} {fd fdS : FuncData} (F : Fun K "_is_state" "_is_state" sState f fd) (G : Gs mg)
    (GS : FnOk P w K mg base CX0 2 fS fdS ["thing", "many"] spStep) (mS : mg "_is_step" = some (.ref fS)) (kS : PySem.W.keepIn K (.ref fS) = true) (bS : Binds K fdS ["thing", "many"] []) :
    FnOk P w K mg base CX0 3 f fd ["thing", "many"] spState := by
  refine F.ok scSt (fun vs H Q E h => ?_) (fun cdv A outer s H vs Q E hr h => ?_)
  · obtain ⟨a, st, n, rfl, _⟩ := h
    rfl
  · obtain ⟨a, st, n, rfl, hx, so, k⟩ := h
    have hu := hr.units
    refine ⟨_, pss_cons (ps_if (PW.pt (pw_or (pt_not (pt_val (pe_callB call_isi (by rfl) G.isi boot_isinstance (pa_cons (pv 0) (pa_cons (pe_bltn (v := .ty "tuple") (by rfl) G.tuple PyProof.Rows.boot_tuple rfl) pa_nil)))))
          (pw_or1 (pt_not (pt_val (pe_callB (cr_all rfl) (by rfl) G.all PyProof.Rows.boot_all (pa_cons (pe_lc (own := [("step", 3)]) (g := gName 3) (tt := tYes) rfl scSt.nd (pi_tup (pv 0)) (blkOk_by (N := nSt) (sc := defScope sState) (by decide +kernel))
            (fun _ _ _ _ _ => pg_name (i := 3) scSt.nd rfl (Or.inl rfl)) (fun _ _ _ _ _ => pts_nil) (fun _ _ _ _ _ => pe_call GS hr (by rfl) mS kS bS .nil pass0 (pa_cons (pv 3) (pa_cons (pv 1) pa_nil)))) pa_nil))))))) (pss_one (ps_ret pe_bl)) pss_nil)
      (pss_cons (ps_setLc (i := 2) (own := [("step", 3)]) (g := gName 3) (tt := tYes) rfl scSt.nd rfl rfl (sw_true rfl rfl rfl (by decide +kernel)) (pi_tup (pv 0)) (blkOk_by (N := nSt) (sc := defScope sState) (by decide +kernel))
            (fun _ _ _ _ _ => pg_name (i := 3) scSt.nd rfl (Or.inl rfl)) (fun _ _ _ _ _ => pts_nil) (fun _ _ _ _ _ => pe_slice (r := rSlT K) sl_tup (pv 3) po_none (po_some pe_int)))
      (pss_one (ps_ret (pe_cmpR (op_eqD hu) (pv 2) (pe_callB (cr_sortS rfl hu) (by rfl) G.sorted PyProof.Rows.boot_sorted (pa_cons (pe_callTy (cr_setOf rfl hu) (by rfl) G.set PyProof.Rows.boot_set (pa_cons (pv 2) pa_nil)) pa_nil)) (nomark _))))), ?_⟩
    obtain ⟨xs, ha, hxs⟩ := hx.tup_of
    have sx : ∀ {i : Nat} {x : V}, xs[i]? = some x → ∃ y a', st[i]? = some y ∧ x = .ref a' ∧ TD H (.ref a') (stepD y) := fun {i x} e => by
      obtain ⟨d, ed, td⟩ := hxs.get e
      rw [List.getElem?_map] at ed
      obtain ⟨y, ey, rfl⟩ := Option.map_eq_some_iff.mp ed
      obtain ⟨a', rfl, _⟩ := step_of td
      exact ⟨y, a', ey, rfl, td⟩
    have len : xs.length = st.length := by
      have z := hxs.len
      rwa [List.length_map] at z
    have few := so.few
    refine ⟨_, rfl, _, _, _, _, _, rfl, .ty "tuple", .base (.tup ha), kit_ty (a := "tuple") (b := "tuple") (r := true) (by decide +kernel), _, rfl, iteF ?_⟩
    refine ⟨_, rfl, a, rfl, ⟨_, SqT.of ha⟩, fun D hD => lc_tup (K := K) (a := a) (xs := xs) (fun i H2 => Same H H2 ∧ H2 D = some (.lst ((List.replicate i true).map V.bl))) ⟨same_at (Same.refl H) hD, upd_same⟩ (fun i H2 _ ⟨s2, _⟩ => SqT.of (s2 _ _ ha)) (fun i x H2 ex ⟨s2, d2⟩ => ?_) fun H2 ⟨s2, d2⟩ => ?_⟩
    · obtain ⟨y, a', ey, rfl, td⟩ := sx ex
      have lt : i < st.length := (List.getElem?_eq_some_iff.mp ey).1
      refine ⟨rfl, _, rfl, _, rfl, a', y, n, rfl, td.to (Tup.of s2), so.all y (List.mem_of_getElem? ey), fun H3 s3 => ⟨_, s3 _ _ d2, ?_, same_at (s2.trans s3) hD, ?_⟩⟩
      · rw [List.length_map, List.length_replicate]
        exact small_lt (m := 24) (by omega)
      · rw [upd_same, List.replicate_succ', List.map_append]
        rfl
    · refine ⟨D, _, rfl, SqL.of d2, _, rfl, ?_⟩
      have e : ((List.replicate xs.length true).all id) = true := by simp
      rw [e]
      refine iteF ?_
      -- events
      have ha2 := s2 _ _ ha
      refine ⟨_, rfl, a, rfl, ⟨_, SqT.of ha2⟩, fun D2 hD2 => lc_tup (K := K) (a := a) (xs := xs) (fun i H3 => Same H2 H3 ∧ ∃ ks : List (Addr × List Key), ks.map Prod.snd = ((st.take i).map evOf).map evK ∧ H3 D2 = some (.lst (ks.map fun q => V.ref q.1)) ∧ ∀ q ∈ ks, H3 q.1 = some (.tup (q.2.map kV)))
        ⟨same_at (Same.refl H2) hD2, [], by simp, upd_same, fun q m => nomatch m⟩ (fun i H3 _ ⟨s3, _⟩ => SqT.of (s3 _ _ ha2)) (fun i x H3 ex ⟨s3, ks, k1, k2, k3⟩ => ?_) fun H3 ⟨s3, ks, k1, k2, k3⟩ => ?_⟩
      · obtain ⟨y, a', ey, rfl, td⟩ := sx ex
        obtain ⟨a'', e', hy⟩ := step_of (td.to (Tup.of (s2.trans s3)))
        cases e'
        have lt : i < st.length := (List.getElem?_eq_some_iff.mp ey).1
        have kl : ks.length ≤ 24 := by
          have z := congrArg List.length k1
          rw [List.length_map, List.length_map, List.length_map, List.length_take] at z
          omega
        refine ⟨rfl, _, rfl, 2, rfl, a', _, rfl, SqT.of hy, (fun z => absurd (show HT.sIx 3 3 (some 2) = 3 from z.2) (by decide)), fun p hp => ⟨ks.map fun q => V.ref q.1, ?_, ?_, ?_, ks ++ [(p, evK (evOf y))], ?_, ?_, ?_⟩⟩
        · rw [upd_ne (ne_of_none k2 hp)]
          exact k2
        · rw [List.length_map]
          exact small_lt (m := 24) kl
        · exact same_at (s3.trans (same_new hp)) hD2
        · rw [List.map_append, k1, List.take_succ, ey]
          simp
        · rw [upd_same, List.map_append]
          rfl
        · intro q hq
          have nD : ∀ (b : Addr) (xs : List V), (upd H3 p (.tup (cutV [V.str y.1, V.str y.2.1, V.int y.2.2] none (some 2)))) b = some (.tup xs) → b ≠ D2 := fun b xs e z => by
            rw [z, upd_ne (ne_of_none k2 hp), k2] at e
            cases e
          have at_ : (upd H3 p (.tup (cutV [V.str y.1, V.str y.2.1, V.int y.2.2] none (some 2)))) q.1 = some (.tup (q.2.map kV)) := by
            rcases List.mem_append.mp hq with m | m
            · rw [upd_ne (ne_of_none (k3 q m) hp)]
              exact k3 q m
            · rw [List.mem_singleton.mp m, upd_same]
              rfl
          rw [upd_ne (nD _ _ at_)]
          exact at_
      · -- events == sorted(set(events))
        rw [len, List.take_length] at k1
        have kl : ks.length ≤ 24 := by
          have z := congrArg List.length k1
          rw [List.length_map, List.length_map, List.length_map] at z
          omega
        have evs : ∀ q ∈ ks, ∃ e, q.2 = evK e := fun q m => by
          have z : q.2 ∈ (st.map evOf).map evK := by
            rw [← k1]
            exact List.mem_map.mpr ⟨q, m, rfl⟩
          obtain ⟨e, _, h⟩ := List.mem_map.mp z
          exact ⟨e, h.symm⟩
        refine ⟨_, rfl, _, rfl, D2, ks, rfl, SqL.of k2, fun q m => SqT.of (k3 q m), by omega, fun a2 L ha2 sub all nd => ?_⟩
        have keep : ∀ q ∈ ks, (upd H3 a2 (SetO P w a2 L)) q.1 = some (.tup (q.2.map kV)) := fun q m => by
          rw [upd_ne (ne_of_none (k3 q m) ha2)]
          exact k3 q m
        refine ⟨a2, L, rfl, upd_same, fun q m => SqT.of (keep q (sub q m)), ?_, ?_, fun L1 p pm less nd1 hp => ?_⟩
        · intro d hd d' hd'
          obtain ⟨q, m, rfl⟩ := List.mem_map.mp hd
          obtain ⟨r, m', rfl⟩ := List.mem_map.mp hd'
          obtain ⟨x, ex⟩ := evs q (sub q m)
          obtain ⟨y, ey⟩ := evs r (sub r m')
          rw [ex, ey]
          rfl
        · refine .inl fun d hd => ?_
          obtain ⟨q, m, rfl⟩ := List.mem_map.mp hd
          obtain ⟨x, ex⟩ := evs q (sub q m)
          rw [ex]
          exact ⟨_, _, rfl⟩
        have srt := sorted_is L1 (st.map evOf) so.asc ((pm.map Prod.snd).nodup_iff.mpr nd) fun k => by
          rw [(pm.map Prod.snd).mem_iff, ← k1]
          refine ⟨fun z => ?_, fun z => ?_⟩
          · obtain ⟨q, m, rfl⟩ := List.mem_map.mp z
            exact List.mem_map.mpr ⟨q, sub q m, rfl⟩
          · obtain ⟨q, m, rfl⟩ := List.mem_map.mp z
            exact all q m
        have mem1 : ∀ q ∈ L1.mergeSort (PySem.W.dataLe false fun q : Addr × List Key => tD q.2), q ∈ ks := fun q m => sub q (pm.mem_iff.mp ((List.mergeSort_perm _ _).mem_iff.mp m))
        generalize L1.mergeSort (PySem.W.dataLe false fun q : Addr × List Key => tD q.2) = M at srt mem1 ⊢
        have keep2 : ∀ q ∈ ks, (upd (upd H3 a2 (SetO P w a2 L)) p (.lst (M.map fun q => V.ref q.1))) q.1 = some (.tup (q.2.map kV)) := fun q m => by
          rw [upd_ne (ne_of_none (keep q m) hp)]
          exact keep q m
        have words : ∀ e ∈ st.map evOf, Wrd e.1 ∧ Wrd e.2 := fun e m => by
          obtain ⟨x, hx, rfl⟩ := List.mem_map.mp m
          exact ⟨(so.all x hx).w1, (so.all x hx).w2⟩
        have sh := shaped_rows (st.map evOf) words
        have hev : (upd (upd H3 a2 (SetO P w a2 L)) p (.lst (M.map fun q => V.ref q.1))) D2 = some (.lst (ks.map fun q => V.ref q.1)) := by
          have z : (upd H3 a2 (SetO P w a2 L)) D2 = some (.lst (ks.map fun q => V.ref q.1)) := by
            rw [upd_ne (ne_of_none k2 ha2)]
            exact k2
          rw [upd_ne (ne_of_none z hp)]
          exact z
        have d1 := dp_rows (K := K) ks keep2
        have d2' := dp_rows (K := K) M fun q m => keep2 q (mem1 q m)
        rw [k1] at d1
        rw [srt] at d2'
        refine ⟨_, _, .lst (SqL.of hev) d1, .lst (SqL.of upd_same) d2', sh, sh, ?_⟩
        rw [SeqAt.eqv_refl _ (by simp only [PyData.canLay0]; exact lay_rows _ words)]
        refine k _ ((s2.trans s3).trans ((same_new ha2).trans (same_new hp)))
end
end My

-- ===== K15E =====
set_option Elab.async false
set_option linter.all false
set_option maxRecDepth 100000
set_option maxHeartbeats 4000000
namespace My
open PySem L2 PyProof.Rows PySem.Spec Kd
theorem nodup_most {α : Type} [DecidableEq α] : ∀ (l D : List α), l.Nodup → (∀ x ∈ l, x ∈ D) → l.length ≤ D.length
  | [], _, _, _ => Nat.zero_le _
  | x :: l, D, nd, sub => by
    obtain ⟨n1, n2⟩ := List.nodup_cons.mp nd
    have mx := sub x List.mem_cons_self
    have ih := nodup_most l (D.erase x) n2 fun y my => (List.mem_erase_of_ne fun (e : y = x) => n1 (by rw [← e]; exact my)).2 (sub y (List.mem_cons_of_mem _ my))
    rw [List.length_erase_of_mem mx] at ih
    have pos := List.length_pos_of_mem mx
    rw [List.length_cons]
    omega
/-- what a set comprehension over J asks -/
def Sc2W (K : PySem.W.Frag) (P : Program) (w : World) (ga : TG) (wb : TI) (gb : TG) (te : TE) (vs us : List Nat) (σ : L2.St) (Q : VK) (J : It) (H1 : Hp) : Prop := ∀ D, H1 D = none → ∃ W : Nat → Nat → Hp → Prop, (∃ m, W 0 m (upd H1 D (SetO P w D []))) ∧ ∀ i m H2, W i m H2 →
  (J.stop i H2 ∧ Q (.ref D) H2) ∨ (J.go i H2 ∧ ∃ Nx : Hp → Prop, (∀ H3, Nx H3 → ∃ m', m' < m ∧ W (i + 1) m' H3) ∧ ∀ x H3, J.yld i H2 x H3 → ga x (wipe σ vs) H3 fun σ4 H4 => wipe σ4 vs = wipe σ vs ∧ wb σ4 H4 fun J1 H5 =>
    ∃ W1 : Nat → Nat → Hp → Prop, (∃ m, W1 0 m H5) ∧ ∀ j k H6, W1 j k H6 → (J1.stop j H6 ∧ Nx H6) ∨ (J1.go j H6 ∧ ∃ Nx1 : Hp → Prop, (∀ H7, Nx1 H7 → ∃ k', k' < k ∧ W1 (j + 1) k' H7) ∧ ∀ x H7, J1.yld j H6 x H7 →
      gb x (wipe σ4 us) H7 fun σ8 H8 => wipe σ8 us = wipe σ4 us ∧ te σ8 H8 fun y H9 => ∃ (e : Addr) (c : List Key) (L : List (Addr × List Key)), y = .ref e ∧ SqT K H9 e (c.map kV) ∧ H9 D = some (SetO P w D L) ∧ (∀ q ∈ L, SqT K H9 q.1 (q.2.map kV)) ∧ (c ∉ L.map Prod.snd → L.length + 1 < 64) ∧
        ∀ L', (c ∈ L.map Prod.snd → L' = L) → (c ∉ L.map Prod.snd → L'.Perm ((e, c) :: L)) → Nx1 (upd H9 D (SetO P w D L'))))
def stOf {H : Hp} {v : V} {st : List Stp} (h : TD H v (stateD st)) := h
/-- the set at D has the events that p tells -/
structure Evs (P : Program) (w : World) (H H' : Hp) (D : Addr) (p : List Key → Prop) : Prop where
  same : Same H H'
  ex : ∃ L : List (Addr × List Key), H' D = some (SetO P w D L) ∧ (∀ q ∈ L, H' q.1 = some (.tup (q.2.map kV))) ∧ (L.map Prod.snd).Nodup ∧ ∀ k, k ∈ L.map Prod.snd ↔ p k
theorem Evs.like {P : Program} {w : World} {H H' : Hp} {D : Addr} {p q : List Key → Prop} (h : Evs P w H H' D p) (e : ∀ k, p k ↔ q k) : Evs P w H H' D q := by
  obtain ⟨s, L, h1, h2, h3, h4⟩ := h
  exact ⟨s, L, h1, h2, h3, fun k => (h4 k).trans (e k)⟩
theorem ev_set {K : PySem.W.Frag} {P : Program} {w : World} {o : Option V} {a : Addr} {xs : List V} {ss : List (List Stp)} {es : List (Str × Str)} {H : Hp} (ha : H a = some (.tup xs)) (hx : TDs H xs (ss.map stateD)) (les : es.length ≤ 24) (hes : ∀ st ∈ ss, ∀ x ∈ st, evOf x ∈ es) {Q : VK}
    (q : ∀ D H' (L : List (Addr × List Key)), Same H H' → H' D = some (SetO P w D L) → (∀ q ∈ L, H' q.1 = some (.tup (q.2.map kV))) → (L.map Prod.snd).Nodup → (∀ k, k ∈ L.map Prod.snd ↔ ∃ st ∈ ss, ∃ x ∈ st, k = evK (evOf x)) → L.length ≤ 24 → Q (.ref D) H') :
    Sc2W K P w (gName 1) (iTup K (tVar 1)) (gName 2) (tSl (rSlT K) (tVar 2) tNoPart (tPart (tC (V.int 2)))) [1, 2] [2] [o, none, none] Q (Itt K a) H := by
  intro D hD
  have len : xs.length = ss.length := by
    have z := hx.len
    rwa [List.length_map] at z
  have few : ∀ {L : List (Addr × List Key)} {p : List Key → Prop}, (L.map Prod.snd).Nodup → (∀ k, k ∈ L.map Prod.snd ↔ p k) → (∀ k, p k → ∃ st ∈ ss, ∃ x ∈ st, k = evK (evOf x)) → L.length ≤ 24 := fun {L p} nd me im => by
    have z := nodup_most (L.map Prod.snd) (es.map evK) nd fun k hk => by
      obtain ⟨st, m1, x, m2, rfl⟩ := im k ((me k).mp hk)
      exact List.mem_map.mpr ⟨_, hes st m1 x m2, rfl⟩
    rw [List.length_map, List.length_map] at z
    omega
  refine ⟨fun i m H2 => m = xs.length - i ∧ i ≤ xs.length ∧ Evs P w H H2 D fun k => ∃ st ∈ ss.take i, ∃ x ∈ st, k = evK (evOf x), ⟨_, rfl, Nat.zero_le _, same_new hD, [], upd_same, (fun q m => nomatch m), List.nodup_nil, fun k => by simp⟩, fun i m H2 ⟨em, le, ev⟩ => ?_⟩
  subst em
  have ha2 := ev.same _ _ ha
  rcases Nat.lt_or_ge i xs.length with lt | ge
  · obtain ⟨x, ex⟩ : ∃ x, xs[i]? = some x := ⟨_, List.getElem?_eq_getElem lt⟩
    obtain ⟨d, ed, td⟩ := hx.get ex
    rw [List.getElem?_map] at ed
    obtain ⟨st, est, rfl⟩ := Option.map_eq_some_iff.mp ed
    obtain ⟨b, ys, rfl, hb, hy⟩ := td.ref_of
    have stm : st ∈ ss := List.mem_of_getElem? est
    have leny : ys.length = st.length := by
      have z := hy.len
      rwa [List.length_map] at z
    refine .inr ⟨⟨xs, _, SqT.of ha2, ex⟩, fun H3 => Evs P w H H3 D fun k => ∃ st ∈ ss.take (i + 1), ∃ x ∈ st, k = evK (evOf x), fun H3 e3 => ⟨_, by omega, rfl, lt, e3⟩, fun v H3 yl => ?_⟩
    obtain ⟨eH, yv⟩ := yl
    subst eH
    have e0 : xs[i]? = some v := yv _ (SqT.of ha2)
    rw [ex] at e0
    cases e0
    have hb2 := ev.same _ _ hb
    refine ⟨rfl, _, rfl, b, rfl, ⟨_, SqT.of hb2⟩, fun j m H4 => m = ys.length - j ∧ j ≤ ys.length ∧ Evs P w H H4 D fun k => (∃ st ∈ ss.take i, ∃ x ∈ st, k = evK (evOf x)) ∨ ∃ x ∈ st.take j, k = evK (evOf x), ⟨_, rfl, Nat.zero_le _, ev.like fun k => by simp⟩, fun j k H4 ⟨ek, lej, ev4⟩ => ?_⟩
    subst ek
    have hb4 := ev4.same _ _ hb
    rcases Nat.lt_or_ge j ys.length with ltj | gej
    · obtain ⟨y, ey⟩ : ∃ y, ys[j]? = some y := ⟨_, List.getElem?_eq_getElem ltj⟩
      obtain ⟨d, ed, td4⟩ := hy.get ey
      rw [List.getElem?_map] at ed
      obtain ⟨sx, esx, rfl⟩ := Option.map_eq_some_iff.mp ed
      obtain ⟨c, rfl, hc⟩ := step_of td4
      refine .inr ⟨⟨ys, _, SqT.of hb4, ey⟩, fun H5 => Evs P w H H5 D fun k => (∃ st ∈ ss.take i, ∃ x ∈ st, k = evK (evOf x)) ∨ ∃ x ∈ st.take (j + 1), k = evK (evOf x), fun H5 e5 => ⟨_, by omega, rfl, ltj, e5⟩, fun v H5 yl => ?_⟩
      obtain ⟨eH, yv⟩ := yl
      subst eH
      have e0 : ys[j]? = some v := yv _ (SqT.of hb4)
      rw [ey] at e0
      cases e0
      obtain ⟨s4, L, l1, l2, l3, l4⟩ := ev4
      have hc4 := s4 _ _ hc
      refine ⟨rfl, _, rfl, 2, rfl, c, _, rfl, SqT.of hc4, (fun z => absurd (show HT.sIx 3 3 (some 2) = 3 from z.2) (by decide)), fun p hp => ?_⟩
      have at_ : ∀ q ∈ L, (upd H5 p (.tup (cutV [V.str sx.1, V.str sx.2.1, V.int sx.2.2] none (some 2)))) q.1 = some (.tup (q.2.map kV)) := fun q m => by
        rw [upd_ne (ne_of_none (l2 q m) hp)]
        exact l2 q m
      have atD : (upd H5 p (.tup (cutV [V.str sx.1, V.str sx.2.1, V.int sx.2.2] none (some 2)))) D = some (SetO P w D L) := by
        rw [upd_ne (ne_of_none l1 hp)]
        exact l1
      have llen : L.length ≤ 24 := few l3 l4 fun k h => by
        rcases h with ⟨st', m1, x, m2, e⟩ | ⟨x, m2, e⟩
        · exact ⟨st', List.mem_of_mem_take m1, x, m2, e⟩
        · exact ⟨st, stm, x, List.mem_of_mem_take m2, e⟩
      refine ⟨p, evK (evOf sx), L, rfl, SqT.of upd_same, atD, fun q m => SqT.of (at_ q m), fun _ => by omega, fun L' c1 c2 => ?_⟩
      have tk : st.take (j + 1) = st.take j ++ [sx] := by rw [List.take_succ, esx]; rfl
      have tup2 : ∀ {b : Addr} {zs : List V}, (upd H5 p (.tup (cutV [V.str sx.1, V.str sx.2.1, V.int sx.2.2] none (some 2)))) b = some (.tup zs) → (upd (upd H5 p (.tup (cutV [V.str sx.1, V.str sx.2.1, V.int sx.2.2] none (some 2)))) D (SetO P w D L')) b = some (.tup zs) := fun {b zs} e => by
        rw [upd_ne fun z => by rw [z, atD] at e; cases e]
        exact e
      refine ⟨same_at (s4.trans (same_new hp)) hD, L', upd_same, fun q m => ?_, ?_, fun k => ?_⟩
      · by_cases h : evK (evOf sx) ∈ L.map Prod.snd
        · rw [c1 h] at m
          exact tup2 (at_ q m)
        · rcases List.mem_cons.mp ((c2 h).mem_iff.mp m) with e | m
          · rw [e]
            exact tup2 upd_same
          · exact tup2 (at_ q m)
      · by_cases h : evK (evOf sx) ∈ L.map Prod.snd
        · rw [c1 h]
          exact l3
        · exact ((c2 h).map Prod.snd).nodup_iff.mpr (List.nodup_cons.mpr ⟨h, l3⟩)
      · have step : k ∈ L'.map Prod.snd ↔ k = evK (evOf sx) ∨ k ∈ L.map Prod.snd := by
          by_cases h : evK (evOf sx) ∈ L.map Prod.snd
          · rw [c1 h]
            exact ⟨.inr, fun z => z.elim (fun e => by rw [e]; exact h) id⟩
          · rw [((c2 h).map Prod.snd).mem_iff, List.map_cons, List.mem_cons]
        rw [step, l4 k, tk]
        simp only [List.mem_append, List.mem_singleton]
        constructor
        · rintro (e | e | ⟨x, m, e⟩)
          · exact .inr ⟨sx, .inr rfl, e⟩
          · exact .inl e
          · exact .inr ⟨x, .inl m, e⟩
        · rintro (e | ⟨x, m | m, e⟩)
          · exact .inr (.inl e)
          · exact .inr (.inr ⟨x, m, e⟩)
          · rw [m] at e
            exact .inl e
    · have e : j = ys.length := by omega
      subst e
      refine .inl ⟨⟨ys, SqT.of hb4, Nat.le_refl _⟩, ev4.like fun k => ?_⟩
      have tk : ss.take (i + 1) = ss.take i ++ [st] := by rw [List.take_succ, est]; rfl
      rw [leny, List.take_length, tk]
      simp only [List.mem_append, List.mem_singleton]
      constructor
      · rintro (⟨s, m, z⟩ | z)
        · exact ⟨s, .inl m, z⟩
        · exact ⟨st, .inr rfl, z⟩
      · rintro ⟨s, m | m, z⟩
        · exact .inl ⟨s, m, z⟩
        · rw [m] at z
          exact .inr z
  · have e : i = xs.length := by omega
    subst e
    obtain ⟨s2, L, l1, l2, l3, l4⟩ := ev
    rw [len, List.take_length] at l4
    exact .inl ⟨⟨xs, SqT.of ha2, Nat.le_refl _⟩, q D H2 L s2 l1 l2 l3 l4 (few l3 l4 fun k h => h)⟩
def rLenQ (K : PySem.W.Frag) : List V → Hp → VK → Prop := fun xs H Q => ∃ p ys, xs = [.ref p] ∧ (SqL K H p ys ∨ SqT K H p ys) ∧ Q (.int ys.length) H
def spStates : Sp := fun vs H Q _ => ∃ (a : Addr) (ss : List (List Stp)), vs = [.ref a] ∧ TD H (.ref a) (statesD ss) ∧ KOk ss ∧ ∀ H', Same H H' → Q (.bl true) H'
section
variable {P : Program} {w : World} {K : PySem.W.Frag} {mg : Str → Option Value} {base : Heap}
abbrev nSs : List Str := ["thing", "state", "step"]
theorem scSs : FnScope nSs ["thing"] (defScope sStates) := ⟨rfl, rfl, rfl, by decide +kernel, rfl, by decide +kernel, by decide +kernel⟩
theorem ok_states {f fS : Addr} {fd fdS : FuncData} (F : Fun K "is_states" "is_states" sStates f fd) (G : Gs mg)
    (GS : FnOk P w K mg base CX0 3 fS fdS ["thing", "many"] spState) (mS : mg "_is_state" = some (.ref fS)) (kS : PySem.W.keepIn K (.ref fS) = true) (bS : Binds K fdS ["thing", "many"] []) :
    FnOk P w K mg base CX0 4 f fd ["thing"] spStates := by
  obtain ⟨t40, m40⟩ := G.c40
  obtain ⟨t24, m24⟩ := G.c24
  refine F.ok scSs (fun vs H Q E h => ?_) (fun cdv A outer s H vs Q E hr h => ?_)
  · obtain ⟨a, ss, rfl, _⟩ := h
    rfl
  · obtain ⟨a, ss, rfl, hx, so, k⟩ := h
    have hu := hr.units
    have hu2 : (A.deeper (envOfC "is_states" (defScope sStates) s.heap.objs.size f cdv)).units + 2 < cLine := by omega
    refine ⟨_, pss_cons (ps_if (PW.pt (pw_or (pt_not (pt_val (pe_callB call_isi (by rfl) G.isi boot_isinstance (pa_cons (pv 0) (pa_cons (pe_bltn (v := .ty "tuple") (by rfl) G.tuple PyProof.Rows.boot_tuple rfl) pa_nil)))))
          (pw_or1 (pt_not (pt_chain op_le op_le pe_int (pe_callB call_len_seq (by rfl) G.len PySem.boot_len (pa_cons (pv 0) pa_nil)) (pe_glob (v := .int 40) (by rfl) m40 ⟨_, rfl⟩)))))) (pss_one (ps_ret pe_bl)) pss_nil)
      (pss_cons (ps_if (pt_not (pt_val (pe_callB (cr_all rfl) (by rfl) G.all PyProof.Rows.boot_all (pa_cons (pe_lc (own := [("state", 1)]) (g := gName 1) (tt := tYes) rfl scSs.nd (pi_tup (pv 0)) (blkOk_by (N := nSs) (sc := defScope sStates) (by decide +kernel))
            (fun _ _ _ _ _ => pg_name (i := 1) scSs.nd rfl (Or.inl rfl)) (fun _ _ _ _ _ => pts_nil) (fun _ _ _ _ _ => pe_call GS hr (by rfl) mS kS bS .nil pass0 (pa_cons (pv 1) (pa_cons (pe_callB (r := rLenQ K) call_len_seq (by rfl) G.len PySem.boot_len (pa_cons (pv 0) pa_nil)) pa_nil)))) pa_nil)))) (pss_one (ps_ret pe_bl)) pss_nil)
      (pss_one (ps_ret (pe_cmpR op_le (pe_callB cr_lenS (by rfl) G.len PySem.boot_len (pa_cons (pe_sc2 (own := [("state", 1), ("step", 2)]) (us := [2]) (wa := iTup K (tVar 0)) (wb := iTup K (tVar 1)) (te := tSl (rSlT K) (tVar 2) tNoPart (tPart (tC (V.int 2)))) rfl scSs.nd hu2 (pi_tup (pv 0)) (blkOk_by (N := nSs) (sc := defScope sStates) (by decide +kernel)) (by decide)
            (fun _ _ _ _ _ => pg_name (i := 1) scSs.nd rfl (Or.inl rfl)) (fun _ _ _ _ _ => pi_tup (pv 1)) (fun _ _ _ _ _ => pg_name (i := 2) scSs.nd rfl (Or.inl rfl)) (fun _ _ _ _ _ => pe_slice (r := rSlT K) sl_tup (pv 2) po_none (po_some pe_int))) pa_nil)) (pe_glob (v := .int 24) (by rfl) m24 ⟨_, rfl⟩) (nomark _))))), ?_⟩
    obtain ⟨xs, ha, hxs⟩ := hx.tup_of
    have len : xs.length = ss.length := by
      have z := hxs.len
      rwa [List.length_map] at z
    have l1 := so.one
    have l2 := so.most
    refine ⟨_, rfl, _, _, _, _, _, rfl, .ty "tuple", .base (.tup ha), kit_ty (a := "tuple") (b := "tuple") (r := true) (by decide +kernel), _, rfl, iteF ?_⟩
    refine ⟨_, rfl, a, _, rfl, .inr (SqT.of ha), _, _, rfl, rfl, _, rfl, ?_⟩
    rw [decide_eq_true (show (1 : Int) ≤ xs.length by omega)]
    refine iteT ⟨_, _, rfl, rfl, _, rfl, ?_⟩
    rw [decide_eq_true (show (xs.length : Int) ≤ 40 by omega)]
    refine iteF ?_
    refine ⟨_, rfl, a, rfl, ⟨_, SqT.of ha⟩, fun D hD => lc_tup (K := K) (a := a) (xs := xs) (fun i H2 => Same H H2 ∧ H2 D = some (.lst ((List.replicate i true).map V.bl))) ⟨same_new hD, upd_same⟩ (fun i H2 _ ⟨s2, _⟩ => SqT.of (s2 _ _ ha)) (fun i x H2 ex ⟨s2, d2⟩ => ?_) fun H2 ⟨s2, d2⟩ => ?_⟩
    · obtain ⟨d, ed, td⟩ := hxs.get ex
      rw [List.getElem?_map] at ed
      obtain ⟨st, ey, rfl⟩ := Option.map_eq_some_iff.mp ed
      obtain ⟨b, ys, rfl, _⟩ := td.ref_of
      have lt : i < ss.length := (List.getElem?_eq_some_iff.mp ey).1
      refine ⟨rfl, _, rfl, _, rfl, a, _, rfl, .inr (SqT.of (s2 _ _ ha)), b, st, ss.length, by rw [len]; rfl, td.to (Tup.of s2), so.all st (List.mem_of_getElem? ey), fun H3 s3 => ⟨_, s3 _ _ d2, ?_, same_at (s2.trans s3) hD, ?_⟩⟩
      · rw [List.length_map, List.length_replicate]
        exact small_lt (m := 40) (by omega)
      · rw [upd_same, List.replicate_succ', List.map_append]
        rfl
    · refine ⟨D, _, rfl, SqL.of d2, _, rfl, ?_⟩
      have e : ((List.replicate xs.length true).all id) = true := by simp
      rw [e]
      refine iteF ?_
      obtain ⟨es, e1, e2⟩ := so.evs
      refine ⟨_, rfl, a, rfl, ⟨_, SqT.of (s2 _ _ ha)⟩, ev_set (K := K) (P := P) (w := w) (o := some (V.ref a)) (Q := fun x H1 => rLenS P w [x] H1 fun y H2 => rI0 (fun i j => V.bl (decide (i ≤ j))) y (.int 24) H2 Q) (s2 _ _ ha) (hxs.to (Tup.of s2)) e1 e2 fun D2 H3 L s3 h1 h2 h3 h4 h5 => ⟨D2, L, rfl, h1, _, _, rfl, rfl, ?_⟩⟩
      show Q (V.bl (decide ((L.length : Int) ≤ 24))) H3
      rw [decide_eq_true (show (L.length : Int) ≤ 24 by omega)]
      exact k _ (s2.trans s3)
end
end My

-- ===== K15F =====
set_option Elab.async false
set_option linter.all false
set_option maxRecDepth 100000
set_option maxHeartbeats 4000000
namespace My
open PySem L2 PyProof.Rows PySem.Spec Kd
def DcW (ga : TG) (tk tv : TE) (vs : List Nat) (σ : L2.St) (Q : VK) (J : It) (H1 : Hp) : Prop := ∀ D, H1 D = none → ∃ W : Nat → Nat → Hp → Prop, (∃ m, W 0 m (upd H1 D (.dT []))) ∧ ∀ i m H2, W i m H2 →
  (J.stop i H2 ∧ Q (.ref D) H2) ∨ (J.go i H2 ∧ ∃ Nx : Hp → Prop, (∀ H3, Nx H3 → ∃ m', m' < m ∧ W (i + 1) m' H3) ∧ ∀ x H3, J.yld i H2 x H3 → ga x (wipe σ vs) H3 fun σ4 H4 => wipe σ4 vs = wipe σ vs ∧ tk σ4 H4 fun y H5 => tv σ4 H5 fun z H6 =>
    ∃ (kvs : List (List Key × V)) (k : List Key) (b : Addr), y = .ref b ∧ H6 b = some (.tup (k.map kV)) ∧ H6 D = some (.dT kvs) ∧ kvs.length < sizeLine ∧ Nx (upd H6 D (.dT (putK kvs k z))))
def mvOf (x : Stp) : List Key × V := (evK (evOf x), .int x.2.2)
theorem putK_new {kvs : List (List Key × V)} {k : List Key} {v : V} (h : ∀ p ∈ kvs, p.1 ≠ k) : putK kvs k v = kvs ++ [(k, v)] := by
  unfold putK
  rw [if_neg]
  intro z
  obtain ⟨p, m, e⟩ := List.any_eq_true.mp z
  exact h p m (of_decide_eq_true e)
theorem mv_dict {K : PySem.W.Frag} {o0 o1 : Option V} {b : Addr} {ys : List V} {st : List Stp} {H : Hp} (hb : H b = some (.tup ys)) (hy : TDs H ys (st.map stepD)) (asc : (st.map evOf).Pairwise evLt) (few : st.length ≤ 24) {Q : VK}
    (q : ∀ D H', Same H H' → H' D = some (.dT (st.map mvOf)) → Q (.ref D) H') :
    DcW (gTup K 3 (gCons (gName 2) (gCons (gName 3) (gCons (gName 4) gNil)))) (tTup (tCons (tVar 2) (tCons (tVar 3) tNil))) (tVar 4) [2, 3, 4] [o0, o1, none, none, none] Q (Itt K b) H := by
  intro D hD
  have len : ys.length = st.length := by
    have z := hy.len
    rwa [List.length_map] at z
  refine ⟨fun i m H2 => m = ys.length - i ∧ i ≤ ys.length ∧ Same H H2 ∧ H2 D = some (.dT ((st.take i).map mvOf)), ⟨_, rfl, Nat.zero_le _, same_new hD, by simp [upd_same]⟩, fun i m H2 ⟨em, le, s2, d2⟩ => ?_⟩
  subst em
  have hb2 := s2 _ _ hb
  rcases Nat.lt_or_ge i ys.length with lt | ge
  · obtain ⟨y, ey⟩ : ∃ y, ys[i]? = some y := ⟨_, List.getElem?_eq_getElem lt⟩
    obtain ⟨d, ed, td⟩ := hy.get ey
    rw [List.getElem?_map] at ed
    obtain ⟨x, ex, rfl⟩ := Option.map_eq_some_iff.mp ed
    obtain ⟨c, rfl, hc⟩ := step_of td
    refine .inr ⟨⟨ys, _, SqT.of hb2, ey⟩, fun H3 => Same H H3 ∧ H3 D = some (.dT ((st.take (i + 1)).map mvOf)), fun H3 ⟨s3, d3⟩ => ⟨_, by omega, rfl, lt, s3, d3⟩, fun v H3 yl => ?_⟩
    obtain ⟨eH, yv⟩ := yl
    have e0 : ys[i]? = some v := yv _ (SqT.of hb2)
    rw [ey] at e0
    cases e0
    subst eH
    have hc3 := s2 _ _ hc
    refine ⟨c, _, rfl, SqT.of hc3, rfl, _, _, rfl, _, _, rfl, _, _, rfl, rfl, rfl, ?_⟩
    refine ⟨_, rfl, _, rfl, by show 2 ≤ sizeLine; decide, fun p hp => ⟨_, rfl, (st.take i).map mvOf, evK (evOf x), p, rfl, upd_same, ?_, ?_, ?_, ?_⟩⟩
    · rw [upd_ne (ne_of_none d2 hp)]
      exact d2
    · rw [List.length_map, List.length_take]
      exact small_lt (m := 24) (by omega)
    · exact same_at (s2.trans (same_new hp)) hD
    · have tk : st.take (i + 1) = st.take i ++ [x] := by rw [List.take_succ, ex]; rfl
      rw [upd_same, tk, List.map_append, putK_new]
      · rfl
      · intro p hp e
        obtain ⟨z, hz, rfl⟩ := List.mem_map.mp hp
        have e2 : evOf z = evOf x := evK_inj e
        have nd := asc_nodup asc
        have sub : (st.take (i + 1)).map evOf = (st.map evOf).take (i + 1) := List.map_take
        have nd2 : ((st.take (i + 1)).map evOf).Nodup := by
          rw [sub]
          exact List.Pairwise.sublist (List.take_sublist _ _) nd
        rw [tk, List.map_append] at nd2
        exact (List.nodup_append.mp nd2).2.2 (evOf z) (List.mem_map.mpr ⟨z, hz, rfl⟩) (evOf x) (by simp) e2
  · have e : i = ys.length := by omega
    subst e
    rw [len, List.take_length] at d2
    exact .inl ⟨⟨ys, SqT.of hb2, Nat.le_refl _⟩, q D H2 s2 d2⟩
/-- the moves of a kind stand at m -/
def MovesAt (H : Hp) (m : Addr) (ss : List (List Stp)) : Prop := ∃ bs : List Addr, H m = some (.lst (bs.map V.ref)) ∧ bs.length = ss.length ∧ ∀ (i : Nat) (b : Addr) (st : List Stp), bs[i]? = some b → ss[i]? = some st → H b = some (.dT (st.map mvOf))
def spMoves : Sp := fun vs H Q _ => ∃ (a : Addr) (ss : List (List Stp)), vs = [.ref a] ∧ TD H (.ref a) (statesD ss) ∧ KOk ss ∧ ∀ m H', Same H H' → H m = none → MovesAt H' m ss → Q (.ref m) H'
def lcScope : Stmt → Scope
  | .FunctionDef _ _ [.Return (some (.ListComp _ _ sc _)) _] .. => sc
  | _ => { kind := .function, names := [], isGenerator := false, isCoroutine := false }
section
variable {P : Program} {w : World} {K : PySem.W.Frag} {mg : Str → Option Value} {base : Heap}
abbrev nMv : List Str := ["states", "state", "operation", "answer", "goal"]
theorem scMv : FnScope nMv ["states"] (defScope sMoves) := ⟨rfl, rfl, rfl, by decide +kernel, rfl, by decide +kernel, by decide +kernel⟩
theorem ok_moves {f : Addr} {fd : FuncData} (F : Fun K "moves_of" "moves_of" sMoves f fd) : FnOk P w K mg base CX0 1 f fd ["states"] spMoves := by
  refine F.ok scMv (fun vs H Q E h => ?_) (fun cdv A outer s H vs Q E hr h => ?_)
  · obtain ⟨a, ss, rfl, _⟩ := h
    rfl
  · obtain ⟨a, ss, rfl, hx, so, k⟩ := h
    have hu := hu_of hr
    have hu2 : (A.deeper (envOfC "moves_of" (defScope sMoves) s.heap.objs.size f cdv)).units + 2 < cLine := by have := hr.units; omega
    refine ⟨_, pss_one (ps_ret (pe_lc (own := [("state", 1)]) (g := gName 1) (tt := tYes) (te := tDcT (iTup K (tVar 1)) (gTup K 3 (gCons (gName 2) (gCons (gName 3) (gCons (gName 4) gNil)))) (tTup (tCons (tVar 2) (tCons (tVar 3) tNil))) (tVar 4) [2, 3, 4]) rfl scMv.nd (pi_tup (pv 0)) (blkOk_by (N := nMv) (sc := defScope sMoves) (by decide +kernel))
            (fun _ _ _ _ _ => pg_name (i := 1) scMv.nd rfl (Or.inl rfl)) (fun _ _ _ _ _ => pts_nil)
            (fun _ _ _ _ _ => pe_dcT (own := [("operation", 2), ("answer", 3), ("goal", 4)]) rfl scMv.nd hu2 (pi_tup (pv 1)) (blkOk_by (N := nMv) (sc := relS (lcScope sMoves) (defScope sMoves)) (by decide +kernel))
              (fun _ _ _ _ _ => pg_tup (by rfl) (pgs_cons (pg_name (i := 2) scMv.nd rfl (Or.inl rfl)) (pgs_cons (pg_name (i := 3) scMv.nd rfl (Or.inl rfl)) (pgs_cons (pg_name (i := 4) scMv.nd rfl (Or.inl rfl)) pgs_nil))))
              (fun _ _ _ _ _ => pe_tup (pa_cons (pv 2) (pa_cons (pv 3) pa_nil))) (fun _ _ _ _ _ => pv 4)))), ?_⟩
    obtain ⟨xs, ha, hxs⟩ := hx.tup_of
    have len : xs.length = ss.length := by
      have z := hxs.len
      rwa [List.length_map] at z
    have l2 := so.most
    refine ⟨_, rfl, a, rfl, ⟨_, SqT.of ha⟩, fun D hD => lc_tup (K := K) (a := a) (xs := xs) (fun i H2 => Same H H2 ∧ ∃ bs : List Addr, H2 D = some (.lst (bs.map V.ref)) ∧ bs.length = i ∧ ∀ (j : Nat) (b : Addr) (st : List Stp), bs[j]? = some b → ss[j]? = some st → H2 b = some (.dT (st.map mvOf)))
      ⟨same_new hD, [], upd_same, rfl, fun j b st e => by simp at e⟩ (fun i H2 _ ⟨s2, _⟩ => SqT.of (s2 _ _ ha)) (fun i x H2 ex ⟨s2, bs, d2, bl, hbs⟩ => ?_) fun H2 ⟨s2, bs, d2, bl, hbs⟩ => ?_⟩
    · obtain ⟨d, ed, td⟩ := hxs.get ex
      rw [List.getElem?_map] at ed
      obtain ⟨st, ey, rfl⟩ := Option.map_eq_some_iff.mp ed
      obtain ⟨b, ys, rfl, hb, hy⟩ := td.ref_of
      have lt : i < ss.length := (List.getElem?_eq_some_iff.mp ey).1
      have sto := so.all st (List.mem_of_getElem? ey)
      refine ⟨rfl, _, rfl, b, rfl, ⟨_, SqT.of (s2 _ _ hb)⟩, mv_dict (K := K) (o0 := some (V.ref a)) (o1 := some (V.ref b)) (Q := fun y H4 => ∃ acc, H4 D = some (.lst acc) ∧ acc.length < sizeLine ∧ Same H (upd H4 D (.lst (acc ++ [y]))) ∧ ∃ bs : List Addr, (upd H4 D (.lst (acc ++ [y]))) D = some (.lst (bs.map V.ref)) ∧ bs.length = i + 1 ∧ ∀ (j : Nat) (b : Addr) (st : List Stp), bs[j]? = some b → ss[j]? = some st → (upd H4 D (.lst (acc ++ [y]))) b = some (.dT (st.map mvOf)))
        (s2 _ _ hb) (hy.to (Tup.of s2)) sto.asc sto.few fun D2 H3 s3 d3 => ⟨_, s3 _ _ d2, ?_, same_at (s2.trans s3) hD, bs ++ [D2], ?_, ?_, fun j c sj ec es => ?_⟩⟩
      · rw [List.length_map]
        exact small_lt (m := 40) (by omega)
      · rw [upd_same, List.map_append]
        rfl
      · rw [List.length_append, bl]
        rfl
      · have at_ : H3 c = some (.dT (sj.map mvOf)) := by
          rcases Nat.lt_or_ge j bs.length with l | g
          · rw [List.getElem?_append_left l] at ec
            exact s3 _ _ (hbs j c sj ec es)
          · rw [List.getElem?_append_right g] at ec
            have ej : j - bs.length = 0 := by
              have z := (List.getElem?_eq_some_iff.mp ec).1
              simp at z
              omega
            have ej2 : j = i := by omega
            rw [ej] at ec
            have e2 : D2 = c := Option.some.inj ec
            rw [ej2, ey] at es
            rw [← Option.some.inj es, ← e2]
            exact d3
        rw [upd_ne fun z => by rw [z, s3 _ _ d2] at at_; cases at_]
        exact at_
    · exact k D H2 s2 hD ⟨bs, d2, by rw [bl, len], hbs⟩
end
end My

-- ===== K15G =====
set_option Elab.async false
set_option linter.all false
set_option maxRecDepth 100000
set_option maxHeartbeats 4000000
namespace My
open PySem L2 PyProof.Rows PySem.Spec Kd StX ClX
abbrev sKind : Stmt := top 24
abbrev sInit : Stmt := inClass sKind 0
abbrev sOf : Stmt := inClass sKind 1
abbrev sRead : Stmt := inClass sKind 2
abbrev sEq : Stmt := inClass sKind 3
abbrev sKtext : Stmt := inClass sKind 8
/-! ### C(*xs), C in a local name -/
section
variable {X : Cx} {CX : CXT} {k i : Nat} {f C : Addr} {sp : Sp} {E : XK} {x : PySem.Str} {e : Expr} {te : TE} {p sp_ pos : Pos}
theorem pe_makeL (M : Mk X.K C f) (F : FnR X.prog X.w X.K X.mg X.base CX k f sp) (hr : Room (k + 1) X.A) (hN : X.N[i]? = some x) (hv : Vis X.env.scope x) (hx : Passes CX X E) (he : PE X e te) (hdb : (x == ("__debug__" : PySem.Str)) = false := by decide) (hcd : (x == ("__classdict__" : PySem.Str)) = false := by decide)
    (hst : starEach [.Starred e sp_] X.env = [(true, eval e X.env)] := by rfl) :
    PE X (.Call (.Name x p) [.Starred e sp_] [] pos) (fun σ H Q => σ[i]? = some (some (.ref C)) ∧ te σ H fun y H1 => ∃ a xs, y = V.ref a ∧ (SqT X.K H1 a xs ∨ SqL X.K H1 a xs) ∧ ∀ o dx, H1 o = none → H1 dx = none → dx ≠ o →
      sp (V.ref o :: xs) (upd (upd H1 dx (.own o)) o (.ins C dx [])) (fun v H2 => v = .non ∧ Q (.ref o) H2) E) := by
  refine ⟨fun pins s σ H Q I h => ?_⟩
  obtain ⟨hs, ht⟩ := h
  refine wpAny_Call_Name_kw (thn ((pe_var (pos := p) hN hv hdb hcd).run pins s σ H (fun v H1 => v = .ref C ∧ H1 = H) I ⟨.ref C, hs, rfl, rfl⟩) fun u s1 ⟨v, H1, I1, r1, q1⟩ => ?_)
  obtain ⟨rfl, rfl⟩ := q1
  cases r1
  refine PySem.W.callWith_S (h₀ := X.base) I.ok.mod.kin M.kp (thn (he.run pins s1 σ _ _ I1 ht) fun w s2 ⟨y, H2, I2, ry, a, xs, ey, hxs, q⟩ => ?_) hst
  subst ey
  obtain rfl : w = Value.ref a := ry
  exact star_any I2 hxs fun us s3 I3 rv => ⟨I3.kIn, run_makeR M F hr hx I3 rv q⟩
end
/-! ### the class -/
def KindAt (C : Addr) (H : Hp) (v : V) (ss : List (List Stp)) : Prop := ∃ o dx a m, v = .ref o ∧ H o = some (.ins C dx [("states", .ref a), ("moves", .ref m)]) ∧ TD H (.ref a) (statesD ss) ∧ MovesAt H m ss
theorem MovesAt.same {H H' : Hp} {m : Addr} {ss : List (List Stp)} (s : Same H H') (h : MovesAt H m ss) : MovesAt H' m ss := by
  obtain ⟨bs, h1, h2, h3⟩ := h
  exact ⟨bs, s _ _ h1, h2, fun i b st e1 e2 => s _ _ (h3 i b st e1 e2)⟩
theorem KindAt.same {C : Addr} {H H' : Hp} {v : V} {ss : List (List Stp)} (s : Same H H') (h : KindAt C H v ss) : KindAt C H' v ss := by
  obtain ⟨o, dx, a, m, e, h1, h2, h3⟩ := h
  exact ⟨o, dx, a, m, e, s _ _ h1, h2.to (Tup.of s), h3.same s⟩
/-- as it was but for one address -/
def But (o : Addr) (H H' : Hp) : Prop := ∀ b u, H b = some u → b ≠ o → H' b = some u
def spInit (C : Addr) : Sp := fun vs H Q _ => ∃ (o t dx : Addr) (ss : List (List Stp)), vs = [.ref o, .ref t] ∧ H o = some (.ins C dx []) ∧ TD H (.ref t) (statesD ss) ∧ KOk ss ∧
  ∀ H' m, But o H H' → H' o = some (.ins C dx [("states", .ref t), ("moves", .ref m)]) → MovesAt H' m ss → Q .non H'
def spInitR (C : Addr) : Sp := fun vs H Q E => ∃ ws rest, vs = ws ++ rest ∧ ws.length = ["self"].length ∧ rest.length ≤ sizeLine ∧ ∀ p, H p = Option.none → spInit C (ws ++ [V.ref p]) (upd H p (.tup rest)) Q E
def spOf (C : Addr) : Sp := fun vs H Q _ => ∃ (a : Addr) (ss : List (List Stp)), vs = [.ref C, .ref a] ∧ TD H (.ref a) (statesD ss) ∧ KOk ss ∧ ∀ v H', Same H H' → KindAt C H' v ss → Q v H'
section
variable {P : Program} {w : World} {K : PySem.W.Frag} {mg : Str → Option Value} {base : Heap}
theorem scIn : FnScope ["self", "states"] ["self", "states"] (defScope sInit) := ⟨rfl, rfl, rfl, by decide +kernel, rfl, by decide +kernel, by decide +kernel⟩
theorem ok_init {f C fS fM : Addr} {fd fdS fdM : FuncData} (F : Fun K "__init__" "Kind.__init__" sInit f fd) (cl : Cls K C) (n1 : NoAttr K C "states") (n2 : NoAttr K C "moves")
    (GS : FnOk P w K mg base CX0 4 fS fdS ["thing"] spStates) (mS : mg "is_states" = some (.ref fS)) (kS : PySem.W.keepIn K (.ref fS) = true) (bS : Binds K fdS ["thing"] [])
    (GM : FnOk P w K mg base CX0 1 fM fdM ["states"] spMoves) (mM : mg "moves_of" = some (.ref fM)) (kM : PySem.W.keepIn K (.ref fM) = true) (bM : Binds K fdM ["states"] []) :
    FnR P w K mg base CX0 5 f (spInitR C) := by
  obtain ⟨oc, od, kV, doc, pm, an, cdv, ct, osl, rfl, lk, hcd⟩ := F.ex
  refine fn_star (ps := ["self"]) (pv := "states") (sp := spInit C) lk hcd scIn cxUp_none (bind_star1 (B := fun l => bindArgs (PySem.W.fnOf "__init__" "Kind.__init__" (defArgs sInit) (defBody sInit) (defScope sInit) .none kV doc pm an cdv ct) ⟨l, []⟩) (p1 := "self") (pv := "states") (fun a => rfl) (fun a r rs => rfl)) fun A outer s H vs Q E hr h => ?_
  obtain ⟨o, t, dx, ss, rfl, ho, hx, so, k⟩ := h
  refine ⟨_, PSs.nox (pss_cons (ps_if (pt_not (pt_val (pe_call GS hr (by rfl) mS kS bS .nil pass0 (pa_cons (pv 1) pa_nil)))) (pss_one ps_never) pss_nil)
      (pss_cons (ps_fld (pv 0) (pv 1) rfl) (pss_one (ps_fld (pv 0) (pe_call GM (hr.mono (by decide)) (by rfl) mM kM bM .nil pass0 (pa_cons (pv 1) pa_nil)) rfl)))), ?_⟩
  refine ⟨_, rfl, t, ss, rfl, hx, so, fun H1 s1 => ⟨true, rfl, iteF ?_⟩⟩
  refine ⟨_, rfl, _, rfl, o, C, dx, [], rfl, s1 _ _ ho, cl, n1, by decide, ?_⟩
  have tp : Tup H1 (upd H1 o (.ins C dx [("states", .ref t)])) := Tup.at_ (s1 _ _ ho) fun xs z => nomatch z
  refine ⟨_, rfl, t, ss, rfl, (hx.to (Tup.of s1)).to tp, so, fun m H3 s3 nm mv => ?_⟩
  have ho3 : H3 o = some (.ins C dx [("states", .ref t)]) := s3 _ _ upd_same
  refine ⟨_, rfl, o, C, dx, _, rfl, ho3, cl, n2, (by show (1 : Nat) < 1000; decide), ?_⟩
  refine k _ m (fun b u e ne => ?_) upd_same ?_
  · rw [upd_ne ne]
    exact s3 _ _ (by rw [upd_ne ne]; exact s1 _ _ e)
  · obtain ⟨bs, h1, h2, h3⟩ := mv
    have ne : ∀ {b : Addr} {u : HO}, H3 b = some u → (∀ C dx fs, u ≠ .ins C dx fs) → (upd H3 o (.ins C dx (putF "moves" (V.ref m) [("states", .ref t)]))) b = some u := fun {b u} e n => by
      rw [upd_ne fun z => by rw [z, ho3] at e; exact n _ _ _ (Option.some.inj e).symm]
      exact e
    exact ⟨bs, ne h1 (fun _ _ _ z => nomatch z), h2, fun i b st e1 e2 => ne (h3 i b st e1 e2) (fun _ _ _ z => nomatch z)⟩
theorem scOf : FnScope ["cls", "states"] ["cls", "states"] (defScope sOf) := ⟨rfl, rfl, rfl, by decide +kernel, rfl, by decide +kernel, by decide +kernel⟩
theorem ok_of {f C fI : Addr} {fd : FuncData} (F : Fun K "of" "Kind.of" sOf f fd) (G : Gs mg) (M : Mk K C fI) (FI : FnR P w K mg base CX0 5 fI (spInitR C)) : FnOk P w K mg base CX0 7 f fd ["cls", "states"] (spOf C) := by
  refine F.ok scOf (fun vs H Q E h => ?_) (fun cdv A outer s H vs Q E hr h => ?_)
  · obtain ⟨a, ss, rfl, _⟩ := h
    rfl
  · obtain ⟨a, ss, rfl, hx, so, k⟩ := h
    refine ⟨_, pss_cons (ps_if (pt_not (pt_val (pe_callB call_isi (by rfl) G.isi boot_isinstance (pa_cons (pv 1) (pa_cons (pe_bltn (v := .ty "tuple") (by rfl) G.tuple PyProof.Rows.boot_tuple rfl) pa_nil))))) (pss_one ps_never) pss_nil)
      (pss_one (ps_ret (pe_makeL (i := 0) M FI hr rfl (.inl rfl) pass0 (pv 1)))), ?_⟩
    obtain ⟨xs, ha, hxs⟩ := hx.tup_of
    have l2 := so.most
    have len : xs.length = ss.length := by
      have z := hxs.len
      rwa [List.length_map] at z
    refine ⟨_, rfl, _, _, _, _, _, rfl, .ty "tuple", .base (.tup ha), kit_ty (a := "tuple") (b := "tuple") (r := true) (by decide +kernel), _, rfl, iteF ?_⟩
    refine ⟨rfl, _, rfl, a, xs, rfl, .inl (SqT.of ha), fun o dx no nd ne => ?_⟩
    refine ⟨[.ref o], xs, rfl, rfl, small_len (m := 40) (by omega), fun p hp => ?_⟩
    have hp1 : p ≠ o := fun z => by
      rw [z, upd_same] at hp
      cases hp
    have hp2 : (upd H dx (.own o)) p = none := by
      rw [upd_ne hp1] at hp
      exact hp
    have hp3 : p ≠ dx := fun z => by
      rw [z, upd_same] at hp2
      cases hp2
    have hp0 : H p = none := by
      rw [upd_ne hp3] at hp2
      exact hp2
    have no1 : (upd H dx (.own o)) o = none := by
      rw [upd_ne (Ne.symm ne)]
      exact no
    have s0 : Same H (upd (upd (upd H dx (.own o)) o (.ins C dx [])) p (.tup xs)) := ((same_new nd).trans (same_new no1)).trans (same_new hp)
    refine ⟨o, p, dx, ss, rfl, by rw [upd_ne (Ne.symm hp1)]; exact upd_same, .tup upd_same (hxs.to (Tup.of s0)), so, fun H' m but ho mv => ⟨rfl, ?_⟩⟩
    have s1 : Same H H' := fun b u e => but b u (s0 b u e) (ne_of_none e no)
    refine k _ _ s1 ⟨o, dx, p, m, rfl, ho, .tup (but p _ upd_same hp1) ?_, mv⟩
    exact hxs.to (Tup.of s1)
end
end My

-- ===== KN1 =====
set_option Elab.async false
set_option linter.all false
set_option maxRecDepth 100000
set_option maxHeartbeats 4000000
namespace Kd
open PySem L2 PyProof.Rows PySem.Spec PySem.W
theorem paired_snocV {α β : Type} {R : α → β → Prop} {l : List α} {m : List β} {a : α} {b : β} (r : Paired R l m) (h : R a b) : Paired R (l ++ [a]) (m ++ [b]) := by
  induction r with
  | nil => exact .cons h .nil
  | cons x _ ih => exact .cons x ih
/-! ### dicts whose keys are nested tuples (of numbers, truth values, texts), their values anything -/
mutual
/-- v is the key k -/
inductive NqV (H : Hp) : V → NestedKey → Prop
  | num (i : Int) : NqV H (.int i) (.num i)
  | bool (b : Bool) : NqV H (.bl b) (.num (if b = true then 1 else 0))
  | text (x : Str) : NqV H (.str x) (.text x)
  | tup {a : Addr} {vs : List V} {ks : List NestedKey} : H a = some (.tup vs) → NqVs H vs ks → NqV H (.ref a) (.tup ks)
inductive NqVs (H : Hp) : List V → List NestedKey → Prop
  | nil : NqVs H [] []
  | cons {v : V} {vs : List V} {k : NestedKey} {ks : List NestedKey} : NqV H v k → NqVs H vs ks → NqVs H (v :: vs) (k :: ks)
end
mutual
theorem NqV.to {H H' : Hp} (s : ∀ a xs, H a = some (.tup xs) → H' a = some (.tup xs)) : ∀ {v : V} {k : NestedKey}, NqV H v k → NqV H' v k
  | _, _, .num i => .num i
  | _, _, .bool b => .bool b
  | _, _, .text x => .text x
  | _, _, .tup h1 h2 => .tup (s _ _ h1) (NqVs.to s h2)
theorem NqVs.to {H H' : Hp} (s : ∀ a xs, H a = some (.tup xs) → H' a = some (.tup xs)) : ∀ {vs : List V} {ks : List NestedKey}, NqVs H vs ks → NqVs H' vs ks
  | _, _, .nil => .nil
  | _, _, .cons h1 h2 => .cons (NqV.to s h1) (NqVs.to s h2)
end
section
variable {X : Cx} {pins : List (Addr × Obj)} {σ : L2.St} {H : Hp} {s : Shared}
mutual
theorem nq_is (I : Inv X pins σ H s) : ∀ (k : NestedKey) {v : V} {u : Value}, NqV H v k → RelV v u → NestedIs s.heap k u
  | .none, _, _, h, _ => by cases h
  | .num i, _, _, h, r => by
    cases h with
    | num i =>
      obtain ⟨t, rfl⟩ := r
      exact .int i t
    | bool b =>
      have e : _ = Value.bool b := r
      subst e
      exact .bool rfl
  | .text x, _, _, h, r => by
    cases h
    obtain ⟨t, rfl⟩ := r
    exact .text x t
  | .tup ks, _, _, h, r => by
    cases h with
    | tup h1 h2 =>
      cases r
      obtain ⟨_, its, rv, o, ho, hc, n, hd⟩ := (show ObjOk X.prog X.w H s.heap _ (.tup _) from I.hok _ _ h1)
      exact .tup ho hc hd (by simpa using nqs_are I ks h2 rv)
theorem nqs_are (I : Inv X pins σ H s) : ∀ (ks : List NestedKey) {vs : List V} {us : List Value}, NqVs H vs ks → Vals vs us → NestedAll s.heap ks us
  | [], _, _, h, r => by
    cases h
    cases r
    exact .nil
  | k :: ks, _, _, h, r => by
    cases h with
    | cons h1 h2 =>
      cases r with
      | cons r1 r2 => exact .cons (nq_is I k h1 r1) (nqs_are I ks h2 r2)
end
end
/-- a key, where its tuple stands, its value -/
abbrev VRow := NestedKey × Addr × V
def VRows (L : List VRow) (xs : List (NestedKey × Addr × Value)) : Prop := Paired (fun (p : VRow) x => p.1 = x.1 ∧ p.2.1 = x.2.1 ∧ RelV p.2.2 x.2.2) L xs
def VHeld (P : Program) (w : World) (a : Addr) (L : List VRow) (h : Heap) : Prop := ∃ (xs : List (NestedKey × Addr × Value)) (o : Obj) (es : Array DictEntry) (ep : Nat), h.get? a = some o ∧ o.ExactDict ∧ o.data = .dict es ep ∧ es.toList = xs.map (entryOfKey (nestedKind P w)) ∧ (xs.map (·.1)).Nodup ∧ VRows L xs ∧ (a == sysModules) = false ∧ L.length ≤ 1000
def VDict (P : Program) (w : World) (a : Addr) (L : List VRow) : HO := .ext (VHeld P w a L)
theorem vdict_ok {P : Program} {w : World} {H : Hp} {h : Heap} {a : Addr} {L : List VRow} (x : VHeld P w a L h) : ObjOk P w H h a (VDict P w a L) := by
  refine ⟨x, ?_, fun h1 h2 y k => ?_⟩
  · obtain ⟨_, o, _, _, ho, _⟩ := x
    exact ⟨o, ho⟩
  · obtain ⟨xs, o, es, ep, ho, r⟩ := y
    exact ⟨xs, o, es, ep, k o ho, r⟩
/-- the keys' tuples stand -/
def VKeys (H : Hp) (L : List VRow) : Prop := ∀ p ∈ L, NqV H (.ref p.2.1) p.1 ∧ p.1.depth ≤ 8
theorem VKeys.to {H H' : Hp} {L : List VRow} (s : ∀ a xs, H a = some (.tup xs) → H' a = some (.tup xs)) (k : VKeys H L) : VKeys H' L := fun p m => ⟨(k p m).1.to s, (k p m).2⟩
theorem VKeys.snoc {H : Hp} {L : List VRow} {k : NestedKey} {b : Addr} {v : V} (h : VKeys H L) (hk : NqV H (.ref b) k) (hd : k.depth ≤ 8) : VKeys H (L ++ [(k, b, v)]) := fun p m => by
  rcases List.mem_append.mp m with m | m
  · exact h p m
  · rw [List.mem_singleton.mp m]
    exact ⟨hk, hd⟩
def valW (L : List VRow) (k : NestedKey) : Option V := (L.find? fun p => decide (p.1 = k)).map (·.2.2)
theorem valW_none {L : List VRow} {k : NestedKey} : valW L k = none ↔ k ∉ L.map (·.1) := by
  unfold valW
  rw [Option.map_eq_none_iff, List.find?_eq_none]
  constructor
  · intro h m
    obtain ⟨p, hp, e⟩ := List.mem_map.mp m
    exact h p hp (decide_eq_true e)
  · intro h p hp e
    exact h (List.mem_map.mpr ⟨p, hp, of_decide_eq_true e⟩)
theorem valW_some {L : List VRow} {k : NestedKey} {v : V} (h : valW L k = some v) : ∃ b, (k, b, v) ∈ L := by
  unfold valW at h
  obtain ⟨p, hp, e⟩ := Option.map_eq_some_iff.mp h
  have h1 := List.mem_of_find?_eq_some hp
  have h2 : p.1 = k := of_decide_eq_true (by simpa using List.find?_some hp)
  exact ⟨p.2.1, by rw [← h2, ← e]; exact h1⟩
theorem valW_mem {L : List VRow} (nd : (L.map (·.1)).Nodup) {k : NestedKey} {b : Addr} {v : V} (h : (k, b, v) ∈ L) : valW L k = some v := by
  induction L with
  | nil => cases h
  | cons p L ih =>
    rw [List.map_cons, List.nodup_cons] at nd
    unfold valW
    rw [List.find?_cons]
    by_cases e : p.1 = k
    · rw [decide_eq_true e]
      rcases List.mem_cons.mp h with rfl | m
      · rfl
      · exact absurd (List.mem_map.mpr ⟨_, m, rfl⟩) (by rw [e] at nd; exact nd.1)
    · rw [decide_eq_false e]
      rcases List.mem_cons.mp h with rfl | m
      · exact absurd rfl e
      · exact ih nd.2 m
theorem valW_is {L : List VRow} {k : NestedKey} : (valW L k).isSome = decide (k ∈ L.map (·.1)) := by
  cases e : valW L k with
  | none => exact (decide_eq_false (valW_none.mp e)).symm
  | some v =>
    obtain ⟨b, m⟩ := valW_some e
    exact (decide_eq_true (List.mem_map.mpr ⟨_, m, rfl⟩)).symm
theorem rows_atV {L : List VRow} {xs : List (NestedKey × Addr × Value)} (r : VRows L xs) (k : NestedKey) : (∀ v, valW L k = some v → ∃ b u, atKey xs k = some (b, u) ∧ RelV v u) ∧ (valW L k = none → atKey xs k = none) := by
  unfold VRows at r
  induction r with
  | nil => exact ⟨fun i e => (nomatch (show (none : Option V) = some i from e)), fun _ => rfl⟩
  | @cons p x ps xs h t ih =>
    obtain ⟨h1, h2, h3⟩ := h
    unfold valW atKey at ih ⊢
    rw [List.find?_cons, List.find?_cons, ← h1]
    by_cases e : p.1 = k
    · rw [decide_eq_true e]
      refine ⟨fun i q => ?_, fun q => by cases q⟩
      have q2 : p.2.2 = i := Option.some.inj q
      exact ⟨x.2.1, x.2.2, rfl, by rw [← q2]; exact h3⟩
    · rw [decide_eq_false e]
      exact ih
section
variable {X : Cx} {pins : List (Addr × Obj)} {σ : L2.St} {H : Hp} {s : Shared}
theorem vheld_rd {a : Addr} {L : List VRow} (I : Inv X pins σ H s) (h : VHeld X.prog X.w a L s.heap) (ks : VKeys H L) : ∃ xs, s.heap.DictOfH (nestedKind X.prog X.w) a xs ∧ VRows L xs ∧ (a == sysModules) = false ∧ L.length ≤ 1000 := by
  obtain ⟨xs, o, es, ep, ho, hx, hd, he, hn, r, lo, few⟩ := h
  refine ⟨xs, ⟨o, es, ep, ho, hx, hd, he, fun x hx => ?_, hn⟩, r, lo, few⟩
  have all : ∀ {L : List VRow} {xs : List (NestedKey × Addr × Value)}, VRows L xs → VKeys H L → ∀ x ∈ xs, NestedIs s.heap x.1 (.ref x.2.1) ∧ x.1.depth ≤ 8 := by
    intro L xs r
    unfold VRows at r
    induction r with
    | nil => exact fun _ x m => nomatch m
    | @cons p y ps ys h t ih =>
      intro k x m
      rcases List.mem_cons.mp m with rfl | m
      · obtain ⟨h1, h2, _⟩ := h
        rw [← h1, ← h2]
        have q := k p List.mem_cons_self
        exact ⟨nq_is I _ q.1 rfl, q.2⟩
      · exact ih (fun q mq => k q (List.mem_cons_of_mem _ mq)) x m
  exact all r ks x hx
theorem vdict_rd {a : Addr} {L : List VRow} (I : Inv X pins σ H s) (ha : H a = some (VDict X.prog X.w a L)) (ks : VKeys H L) : ∃ xs, s.heap.DictOfH (nestedKind X.prog X.w) a xs ∧ VRows L xs ∧ (a == sysModules) = false ∧ L.length ≤ 1000 :=
  vheld_rd I (show VHeld X.prog X.w a L s.heap from (I.hok a _ ha).1) ks
theorem vheld_new {P : Program} {w : World} (h : Heap) (big : sysModules < h.objs.size) : VHeld P w h.objs.size [] (h.push { cls := .type "dict", data := .dict #[] }) :=
  ⟨[], _, #[], 0, Heap.get?_push_size _ rfl, ⟨rfl, rfl, rfl⟩, rfl, rfl, List.nodup_nil, .nil, beq_eq_false_iff_ne.mpr (Ne.symm (Nat.ne_of_lt big)), Nat.zero_le _⟩
theorem vheld_put {a b : Addr} {L : List VRow} {k : NestedKey} {v : V} {u : Value} {xs : List (NestedKey × Addr × Value)} {h' : Heap} {P : Program} {w : World} (rr : VRows L xs) (rv : RelV v u) (lo : (a == sysModules) = false) (hn : valW L k = none) (few : L.length < 1000)
    (D2 : h'.DictOfH (nestedKind P w) a (storedH xs k b u)) : VHeld P w a (L ++ [(k, b, v)]) h' := by
  rw [storedH_new ((rows_atV rr k).2 hn)] at D2
  obtain ⟨o2, es, ep, g1, g2, g3, g4, _, g5⟩ := D2
  refine ⟨xs ++ [(k, b, u)], o2, es, ep, g1, g2, g3, g4, g5, ?_, lo, by rw [List.length_append]; exact few⟩
  exact paired_snocV rr ⟨rfl, rfl, rv⟩
end
/-- {}, to be such a dict -/
def tDNewV (P : Program) (w : World) : TE := fun _ H Q => ∀ p, H p = none → Q (.ref p) (upd H p (VDict P w p []))
/-- k in d -/
def rInV (P : Program) (w : World) : R2 := fun x y H Q => ∃ b a k L, x = .ref b ∧ y = .ref a ∧ NqV H (.ref b) k ∧ k.depth ≤ 8 ∧ H a = some (VDict P w a L) ∧ VKeys H L ∧ Q (.bl (valW L k).isSome) H
/-- d[k] -/
def tGetV (P : Program) (w : World) (td ty : TE) : TE := fun σ H Q => td σ H fun x H1 => ty σ H1 fun y H2 => ∃ a b k L v, x = .ref a ∧ y = .ref b ∧ NqV H2 (.ref b) k ∧ k.depth ≤ 8 ∧ H2 a = some (VDict P w a L) ∧ VKeys H2 L ∧ valW L k = some v ∧ Q v H2
/-- d[k] = v, the key being new there -/
def sPutV (P : Program) (w : World) (td ty tv : TE) : TS := fun D σ H => tv σ H fun v H1 => td σ H1 fun x H2 => ty σ H2 fun y H3 => ∃ a b k L, x = .ref a ∧ y = .ref b ∧ NqV H3 (.ref b) k ∧ k.depth ≤ 8 ∧ H3 a = some (VDict P w a L) ∧ VKeys H3 L ∧ valW L k = none ∧ L.length < 1000 ∧
  D.nx σ (upd H3 a (VDict P w a (L ++ [(k, b, v)])))
/-- d.setdefault(k, x) -/
def tSetdV (P : Program) (w : World) (td ty tx : TE) : TE := fun σ H Q => td σ H fun x H1 => ∃ a L0, x = .ref a ∧ H1 a = some (VDict P w a L0) ∧ ty σ H1 fun y H2 => tx σ H2 fun z H3 => ∃ b k L, y = .ref b ∧ NqV H3 (.ref b) k ∧ k.depth ≤ 8 ∧ H3 a = some (VDict P w a L) ∧ VKeys H3 L ∧ L.length < 1000 ∧
  (∀ v, valW L k = some v → Q v H3) ∧ (valW L k = none → Q z (upd H3 a (VDict P w a (L ++ [(k, b, z)]))))
section
variable {X : Cx} {o i e f value : Expr} {pos pos' apos cpos : Pos} {td ty tv tx : TE}
theorem pe_dnewV : PE X (.Dict [] [] pos) (tDNewV X.prog X.w) := ⟨fun pins s σ H Q I h =>
  wpAny_Dict_empty ⟨.ref s.heap.objs.size, _, I.laid (a := s.heap.objs.size) (t' := s.toks) (fun _ _ q => Heap.get?_push_of_some _ q) (Nat.le_refl _)
    (vdict_ok (vheld_new s.heap I.big)), rfl, h _ (I.hok.fresh (Nat.le_refl _))⟩⟩
theorem roomV {X : Cx} (hu : X.A.units + 64 < cLine) : (nestedKind X.prog X.w).room X.A.in1 := (show X.A.in1.units + 8 < cLine by simp only [Around.in1]; omega)
theorem op_inV (hu : X.A.units + 64 < cLine) : OpR X (compareOp .In) (rInV X.prog X.w) := by
  intro pins s σ H x y v u Q I rx ry h
  obtain ⟨b, a, k, L, rfl, rfl, hk, hd, ha, ks, q⟩ := h
  cases (show v = Value.ref b from rx)
  cases (show u = Value.ref a from ry)
  obtain ⟨xs, D, r, lo, few⟩ := vdict_rd I ha ks
  refine wpAny_in_heap (roomV hu) ⟨nq_is I k hk rfl, hd⟩ lo D ⟨.bl (valW L k).isSome, H, I.tok _, ?_, q⟩
  have z := rows_atV r k
  cases e : valW L k with
  | none => rw [z.2 e]; rfl
  | some i =>
    obtain ⟨c, t, q, _⟩ := z.1 i e
    rw [q]
    rfl
theorem pe_getV (hu : X.A.units + 64 < cLine) (ho : PE X o td) (hi : PE X i ty) (hs : NoSl i) : PE X (.Subscript o i pos) (tGetV X.prog X.w td ty) := by
  refine ⟨fun pins s σ H Q I h => ?_⟩
  refine subD_of PySem.F.slot_dict_getitem.lookup hs (thn (ho.run pins s σ H _ I h) fun u s1 ⟨x, H1, I1, rx, q1⟩ => thn (hi.run pins s1 σ H1 _ I1 q1) fun iv s2 ⟨y, H2, I2, ry, a, b, k, L, j, ex, ey, hk, hd, ha, ks, hv, q2⟩ => ?_)
  subst ex ey
  obtain rfl : u = Value.ref a := rx
  obtain rfl : iv = Value.ref b := ry
  obtain ⟨xs, D, r, lo, few⟩ := vdict_rd I2 ha ks
  obtain ⟨c, t, q, rv⟩ := (rows_atV r k).1 j hv
  exact ⟨D.typeIs, wpAny_getItem_heap (roomV hu) ⟨nq_is I2 k hk rfl, hd⟩ D q ⟨j, H2, I2.tok _, rv, q2⟩⟩
theorem ps_putV (hu : X.A.units + 64 < cLine) (ho : PE X o td) (hi : PE X i ty) (hv : PE X value tv) (hs : swapsWith value (some (.Subscript o i pos')) pos.line X.env = pure false) :
    PS X (.Assign [.Subscript o i pos'] value pos) (sPutV X.prog X.w td ty tv) := by
  refine ⟨fun pins s σ H D I h => ?_⟩
  refine wpAny_Assign_Subscript (thn (hv.run pins s σ H _ I h) fun r s1 ⟨v, H1, I1, rv, q1⟩ => thn (ho.run pins s1 σ H1 _ I1 q1) fun u s2 ⟨x, H2, I2, rx, q2⟩ => thn (hi.run pins s2 σ H2 _ I2 q2) fun iv s3 ⟨y, H3, I3, ry, a, b, k, L, ex, ey, hk, hd, ha, ks, hn, few, q3⟩ => ?_) hs
  subst ex ey
  obtain rfl : u = Value.ref a := rx
  obtain rfl : iv = Value.ref b := ry
  obtain ⟨xs, Dd, rr, lo, _⟩ := vdict_rd I3 ha ks
  have lx : L.length = xs.length := Paired.length rr
  have big := sizeLine_eq
  refine wpAny_setItem_heap (hsz := by omega) (roomV hu) ⟨nq_is I3 k hk rfl, hd⟩ Dd fun h' D2 sb => ?_
  have VH := vheld_put rr rv lo hn few D2
  obtain ⟨_, o2, _, _, g1, _⟩ := id VH
  exact ⟨σ, _, d_write I3 (by rw [ha]; exact True.intro) sb ⟨o2, g1⟩ (vdict_ok VH), q3⟩
theorem pe_setdV (hu : X.A.units + 64 < cLine) (ho : PE X o td) (he : PE X e ty) (hf : PE X f tx) (m : M2 X o "setdefault" apos e f cpos) : PE X (.Call (.Attribute o "setdefault" apos) [e, f] [] cpos) (tSetdV X.prog X.w td ty tx) := by
  refine ⟨fun pins s σ H Q I h => ?_⟩
  refine wpAny_Call_method m.base m.few m.line PySem.F.plainAttrs_dict PySem.F.slot_dict_setdefault PySem.F.type_dict_setdefault (thn (ho.run pins s σ H _ I h) fun u s1 ⟨x, H1, I1, rx, a, L0, ex, d, q1⟩ => ?_)
  subst ex
  obtain rfl : u = Value.ref a := rx
  obtain ⟨_, o1, _, _, ho1, hx1, _⟩ := (show VHeld X.prog X.w a L0 s1.heap from (I1.hok a _ d).1)
  refine ⟨⟨o1, ho1, hx1.1⟩, (fun b z => by cases z; exact ⟨o1, ho1, hx1.2.1⟩), ?_⟩
  rw [m.trees]
  refine Calls.callWith_builtin rfl (Calls.evalArgs_plain (Calls.spliced_cons (thn (he.run pins s1 σ H1 _ I1 q1) fun iv s2 ⟨y, H2, I2, ry, q2⟩ =>
    Calls.spliced_cons (thn (hf.run pins s2 σ H2 _ I2 q2) fun fv s3 ⟨z, H3, I3, rz, b, k, L, ey, hk, hd, ha, ks, few, q3, q4⟩ => Calls.spliced_nil ?_))))
  subst ey
  obtain rfl : iv = Value.ref b := ry
  obtain ⟨xs, Dd, rr, lo, _⟩ := vdict_rd I3 ha ks
  have lx : L.length = xs.length := Paired.length rr
  have big := sizeLine_eq
  refine call_setdefault_heap (hsz := by omega) (roomV hu) ⟨nq_is I3 k hk rfl, hd⟩ lo Dd (fun p hp => ?_) fun hn h' D2 sb => ?_
  · cases ev : valW L k with
    | none => rw [(rows_atV rr k).2 ev] at hp; cases hp
    | some v =>
      obtain ⟨c, t, q, rv⟩ := (rows_atV rr k).1 v ev
      rw [q] at hp
      cases hp
      exact ⟨v, H3, I3.tok _, rv, q3 v ev⟩
  · have ev : valW L k = none := by
      cases ev : valW L k with
      | none => rfl
      | some v =>
        obtain ⟨c, t, q, rv⟩ := (rows_atV rr k).1 v ev
        rw [q] at hn
        cases hn
    have VH := vheld_put rr rz lo ev few D2
    obtain ⟨_, o2, _, _, g1, _⟩ := id VH
    exact ⟨z, _, d_write I3 (by rw [ha]; exact True.intro) sb ⟨o2, g1⟩ (vdict_ok VH), rz, q4 ev⟩
end
/-! ### its values, walked -/
section
variable {X : Cx} {pins : List (Addr × Obj)} {σ : L2.St} {H : Hp} {s : Shared} {d : Addr} {o : Obj}
theorem frz_valsV {P : Program} {w : World} {kvs : List VRow} (I : Inv X pins σ H s) (h : H d = some (.frz o (VDict P w d kvs))) :
    s.heap.get? d = some o ∧ o.ExactDict ∧ (d == sysModules) = false ∧ ∃ (es : Array DictEntry) (ep : Nat), o.data = .dict es ep ∧ es.size = kvs.length ∧ ∀ (i : Nat) (p : VRow), kvs[i]? = some p → ∃ en : DictEntry, es[i]? = some en ∧ RelV p.2.2 en.val := by
  obtain ⟨hd, hv, _⟩ := I.hok d _ h
  obtain ⟨xs, o', es, ep, ho, hx, hdt, he, _, pr, lo, _⟩ := (show VHeld P w d kvs s.heap from hv)
  rw [hd] at ho
  cases ho
  refine ⟨hd, hx, lo, es, ep, hdt, ?_, fun i p e => ?_⟩
  · have l1 : es.size = xs.length := size_of_entries he
    have l2 : kvs.length = xs.length := Paired.length pr
    omega
  · obtain ⟨b, hb, _, _, e3⟩ := paired_get pr e
    have q := entry_at he i
    rw [hb] at q
    exact ⟨_, q, e3⟩
end
/-- the values, in their order -/
def ItdV (P : Program) (w : World) (d : Addr) (o : Obj) (kvs : List VRow) : It :=
  ⟨fun i H => H d = some (.frz o (VDict P w d kvs)) ∧ i < kvs.length, fun i H x H' => H' = H ∧ ∃ p, kvs[i]? = some p ∧ x = p.2.2, fun i H => H d = some (.frz o (VDict P w d kvs)) ∧ kvs.length = i⟩
theorem turn_valsV {P : Program} {w : World} {K : Frag} {tg : Expr} {d : Addr} {o : Obj} {es : Array DictEntry} {ep : Nat} {kvs : List VRow} (it : Addr) (ni : d ≠ it) (hod : o.data = .dict es ep) (hz : es.size = kvs.length) :
    Turn P w K tg (ItdV P w d o kvs) [it] it (fun i h => h.IsValIter it d i es.size ep) where
  mem := by simp
  obj := fun i h st b hb => by
    have e : b = it := by simpa using hb
    subst e
    obtain ⟨oi, e, _, dd⟩ := st
    exact ⟨oi, e, fun v z => by rw [dd] at z; cases z⟩
  keep := fun i h h' st k => st.at fun oi e => k it (by simp) oi e
  item := by
    intro X hP hw hK hc i pins s σ H E I hf st hg
    subst hP hw hK
    obtain ⟨hd, hi⟩ := hg
    obtain ⟨f0, f1, f2, f3, f4, f5⟩ := hf it (by simp)
    obtain ⟨hgd, hx, lo, es', ep', hdt, hsz, ent⟩ := frz_valsV I hd
    obtain ⟨rfl, rfl⟩ := dict_ep hod hdt
    obtain ⟨p, hkv⟩ : ∃ p, kvs[i]? = some p := ⟨kvs[i], List.getElem?_eq_getElem hi⟩
    obtain ⟨en, hen, rv⟩ := ent i p hkv
    have W := Walks.rawValues (prog := X.prog) (w := X.w) (I.ok.hd hc) it d ni es' ep'
    refine W.item i s _ _ (by omega) ⟨st, o, hgd, hx, hdt⟩ fun u h' tk hu st' kk => ?_
    obtain ⟨lt, rfl⟩ := hu
    have eu : en = es'[i] := by
      rw [Array.getElem?_eq_getElem lt] at hen
      exact (Option.some.inj hen).symm
    subst eu
    have I1 : Inv X pins σ H { s with heap := h', toks := tk } := I.turned (fun b o hb e => kk b o (by simpa using hb) e) f0 f1 f3 f4 f5
    obtain ⟨oi, e, c, dd⟩ := id st'.1
    exact ⟨_, rfl, go_of (s := { s with heap := h', toks := tk }) e c dd (by decide) ⟨p.2.2, H, I1, rv, ⟨rfl, p, hkv, rfl⟩, st'.1, fun b hb => (hf b hb).1⟩⟩
  done := by
    intro X hP hw hK hc i pins s σ H E I hf st hg
    subst hP hw hK
    obtain ⟨hd, hi⟩ := hg
    obtain ⟨f0, f1, f2, f3, f4, f5⟩ := hf it (by simp)
    obtain ⟨hgd, hx, lo, es', ep', hdt, hsz, ent⟩ := frz_valsV I hd
    obtain ⟨rfl, rfl⟩ := dict_ep hod hdt
    have W := Walks.rawValues (prog := X.prog) (w := X.w) (I.ok.hd hc) it d ni es' ep'
    have e : i = es'.size := by omega
    subst e
    exact W.done s _ _ ⟨st, o, hgd, hx, hdt⟩ fun h' tk eb => ⟨rfl, I.turned (fun b o hb q => eb b o (by simpa using hb) q) f0 f1 f3 f4 f5⟩
  self := fun A i s Q E st h => wpAny_pyIter_valiter st h
/-- the dict is locked (tLock, or by the caller) -/
def iValsV (P : Program) (w : World) (td : TE) : TI := fun σ H R => td σ H fun x H1 => ∃ d o kvs, x = .ref d ∧ H1 d = some (.frz o (VDict P w d kvs)) ∧ R (ItdV P w d o kvs) H1
theorem walk_valsV {P : Program} {w : World} {d : Addr} {o : Obj} {kvs : List VRow} : Walk (ItdV P w d o kvs) kvs.length (fun H => H d = some (.frz o (VDict P w d kvs))) (fun i H x H' => H' = H ∧ ∃ p, kvs[i]? = some p ∧ x = p.2.2) :=
  ⟨fun _ _ hi q => ⟨q, hi⟩, fun _ q => ⟨q, rfl⟩, fun _ _ _ _ _ _ y => y⟩
section
variable {X : Cx} {tg e : Expr} {td : TE} {apos cpos : Pos}
theorem pi_valuesV (he : PE X e td) (hbase : attributeBase e "values" X.env (eval e X.env) = eval e X.env := by rfl) (hline : (apos.endLine == cpos.line) = true := by rfl) : PI X tg (.Call (.Attribute e "values" apos) [] [] cpos) (iValsV X.prog X.w td) := by
  refine ⟨fun pins s σ H R I h => ?_⟩
  refine wpAny_Call_method (T := "dict") (id := "dict.values") hbase rfl hline F.plainAttrs_dict F.slot_dict_values F.type_dict_values (thn (he.run pins s σ H _ I h) fun u s1 ⟨x, H1, I1, rx, d, o, kvs, ex, hd, q⟩ => ?_)
  subst ex
  obtain rfl : u = Value.ref d := rx
  obtain ⟨hgd, hx, lo, es, ep, hdt, hsz, ent⟩ := frz_valsV I1 hd
  have raw : s1.heap.DictRaw d es ep := ⟨o, hgd, hx, hdt⟩
  have ty : s1.TypeIs (.ref d) "dict" := ⟨o, hgd, hx.1⟩
  refine ⟨ty, (fun b z => by cases z; exact ⟨o, hgd, hx.2.1⟩), ?_⟩
  have I2 : Inv X pins σ H1 { s1 with heap := s1.heap.push { cls := .type "dict_values", data := .fields #[.ref d] } } := I1.kept (t' := s1.toks) fun b ob z => Heap.get?_push_of_some _ z
  have lt : d < s1.heap.objs.size := Heap.lt_size hgd
  have fin : wpAny (model X.prog X.w) X.A (pyIter (.ref s1.heap.objs.size)) (PIE X pins σ tg R) X.xe { s1 with heap := s1.heap.push { cls := .type "dict_values", data := .fields #[.ref d] } } := by
    refine wpAny_pyIter_values_raw (d := d) ⟨_, Heap.get?_push_size _ rfl, rfl, rfl⟩ (raw.push _) (pi_one (tk := s1.toks) I2 _ (turn_valsV _ (Nat.ne_of_lt (by show d < (s1.heap.push _).objs.size; rw [Heap.size_push]; exact Nat.lt_succ_of_lt lt)) hdt hsz) ⟨_, Heap.get?_push_size _ rfl, rfl, rfl⟩ q)
  show wpAny _ _ (callWith cpos (.builtin "dict.values") [.ref d] [] []) _ X.xe s1
  exact method_meetsIn F.slot_dict_values F.entry_dict_values rfl (PySem.evalArgs_none ⟨rfl, ty, F.args_dict_values_1 _, _, meets_dict_values_raw d lo, ⟨es, ep, raw⟩, fin⟩)
end
end Kd

-- ===== KN2 =====
set_option Elab.async false
set_option linter.all false
set_option maxRecDepth 100000
set_option maxHeartbeats 4000000
namespace Kd
open PySem L2 PyProof.Rows PySem.Spec PySem.W
section
variable {X : Cx} {CX : CXT} {k : Nat} {f : Addr} {fd : FuncData} {ps ks : List Str} {sp : Sp} {x : Str} {p pos : Pos} {tk : TA} {E : XK} {kws : List Keyword} {g : List Value → List Value → List Value} {gV : List V → List V → List V}
/-- f(k = v, ..), nothing by position -/
theorem pe_callK0 (F : FnOk X.prog X.w X.K X.mg X.base CX k f fd ps sp) (hr : Room k X.A) (hg : Gl X x) (hm : X.mg x = some (.ref f)) (hk : PySem.W.keepIn X.K (.ref f) = true) (hb : KBinds X.K fd ps ks g gV) (hx : Passes CX X E)
    (hkw : PK X kws tk) (hall : (backToKw pos (keywordEach kws X.env)).all (·.1.isSome) = true := by rfl) (hks : (backToKw pos (keywordEach kws X.env)).filterMap (·.1) = ks := by rfl)
    (hdb : (x == ("__debug__" : Str)) = false := by decide)
    (hpl : ((backTo pos (starEach [] X.env)).any (·.1) || (backToKw pos (keywordEach kws X.env)).any (·.1.isNone)) = false := by rfl) :
    PE X (.Call (.Name x p) [] kws pos) (tCallK sp gV E tNil tk) := by
  refine ⟨fun pins s σ H Q I h => ?_⟩
  refine wpAny_Call_Name_kw (ld_glob I hg hm ?_ hdb)
  refine PySem.W.callWith_KW0 (h₀ := X.base) I.ok.mod.kin hk hall (thn (hkw.run pos pins s σ H _ I h) fun ws s2 ⟨zs, H2, I2, rz, q2⟩ => ⟨I2.kIn, ?_⟩) hpl
  rw [hks]
  exact run_fnk F hr hb hx I2 (us := []) (vs := []) .nil rz q2
end
section
variable {X : Cx}
/-- x in t, t a tuple of data -/
def rInDT (K : PySem.W.Frag) : R2 := fun x y H Q => ∃ d ds, Dp K H x d ∧ Dp K H y (.tuple ds) ∧ SeqAt.shaped d = true ∧ SeqAt.shaped (.tuple ds) = true ∧ Q (.bl (ds.any fun z => PyData.eqv z d)) H
theorem op_inDT (hu : X.A.units + 65 < cLine) : OpR X (compareOp .In) (rInDT X.K) := by
  intro pins s σ H x y v u Q I rx ry h
  obtain ⟨d, ds, hd, he, sd, se, q⟩ := h
  obtain ⟨as, r1⟩ := Dp.reads I d x v hd rx
  obtain ⟨bs, r2⟩ := Dp.reads I (.tuple ds) y u he ry
  exact SeqAt.in_tuple_reads r2 r1 (SeqAt.canLay_of_shaped se) (SeqAt.canLay_of_shaped sd) (room_in_shaped sd hu) ⟨.bl _, H, I, rfl, q⟩
/-- a list times an int; the new list is none of the model's own -/
def rRepL : R2 := fun x y H Q => ∃ l k xs, x = .ref l ∧ y = .int k ∧ H l = some (.lst xs) ∧ -(2 ^ 63) ≤ k ∧ k < 2 ^ 63 ∧ xs.length * k.toNat ≤ sizeLine ∧
  ∀ p, H p = none → sysModules < p → Q (.ref p) (upd H p (.lst (List.replicate k.toNat xs).flatten))
theorem op_repL : OpR X (binaryOp .Mult) rRepL := by
  intro pins s σ H x y v u Q I rx ry h
  obtain ⟨l, k, xs, rfl, rfl, hH, h1, h2, hz, q⟩ := h
  cases rx
  obtain ⟨t, rfl⟩ := ry
  obtain ⟨z, its, n, r, hl, e⟩ := I.lstM hH
  have hlen : its.toArray.size * k.toNat ≤ sizeLine := by rw [List.size_toArray, ← hl]; exact hz
  have hcap : ¬ its.toArray.size * k.toNat > (2 ^ 63 - 1) / 8 := by
    have : (sizeLine : Nat) ≤ (2 ^ 63 - 1) / 8 := by decide
    omega
  have hfit : ¬ (!Builtin.List.listFitsIndex k) = true := by
    rw [fitsIndex_both h1 h2]
    exact Bool.false_ne_true
  have hlong : ¬ Builtin.List.listTooLong (its.toArray.size * k.toNat) = true := by
    rw [notLongL hlen]
    exact Bool.false_ne_true
  have hnew : List.foldl (fun x1 x2 => x1 ++ x2) #[] (List.replicate (if its.toArray.isEmpty = true then 0 else k.toNat) its.toArray) = (List.replicate k.toNat its).flatten.toArray := by
    have f0 : ∀ m : Nat, List.foldl (fun x1 x2 => x1 ++ x2) #[] (List.replicate m its.toArray) = (List.replicate m its).flatten.toArray := fun m => by
      have := foldl_rep its m []
      rw [List.nil_append] at this
      exact this
    rw [f0]
    cases its with
    | nil => simp
    | cons a r' => rw [if_neg (by simp)]
  refine wpAny_binaryOp_repeat_ref (T := "list") (U := "int") (by decide) ⟨_, e, rfl⟩ (fun s' => typeIs_int s' k t) noFill_list_mul F.fills_int_mul F.slot_int_rmul repeat_list F.slot_int_index.lookup
    (call_meets F.slot_int_rmul (typeIs_int s k t) F.entry_int_rmul (F.args_int_rmul_2 _ _) (int___rmul___int_list k t l its.toArray n)
      ⟨e, rfl, ⟨_, e, rfl⟩, call_meets F.slot_list_mul ⟨_, e, rfl⟩ F.entry_list_mul (F.args_list_mul_2 _ _) (AutoListH.list___mul___list_int_3 l its.toArray n k t hfit hcap hlong) ⟨e, ?_⟩⟩)
  rw [hnew]
  exact ⟨.ref _, _, I.lnew (t' := s.toks) (r.rep k.toNat) (by rw [PyProof.Rows.lm_len_rep_flat, Nat.mul_comm]; exact hz), rfl, q _ I.fresh I.big⟩
end
/-- what is read off stands -/
theorem reads_in {h : Heap} {v : Value} {d : PyData} {as : List Addr} (r : Reads h v d as) : ∀ a ∈ as, ∃ o, h.get? a = some o :=
  Reads.rec (motive_1 := fun _ _ as _ => ∀ a ∈ as, ∃ o, h.get? a = some o) (motive_2 := fun _ _ as _ => ∀ a ∈ as, ∃ o, h.get? a = some o)
    (fun a m => nomatch m) (fun _ a m => nomatch m) (fun _ _ a m => nomatch m) (fun _ _ a m => nomatch m)
    (fun ho _ _ _ ih a m => by
      rcases List.mem_cons.mp m with e | m
      · exact ⟨_, by rw [e]; exact ho⟩
      · exact ih a m)
    (fun _ _ _ _ ih a m => ih a m)
    (fun ho _ _ _ _ ih1 ih2 a m => by
      rcases List.mem_append.mp m with m | m
      · rcases List.mem_cons.mp m with e | m
        · exact ⟨_, by rw [e]; exact ho⟩
        · exact ih1 a m
      · exact ih2 a m)
    (fun a m => nomatch m)
    (fun _ _ ih1 ih2 a m => by
      rcases List.mem_append.mp m with m | m
      · exact ih1 a m
      · exact ih2 a m) r
/-! ### sorted(xs), xs a list or a tuple of data -/
/-- items told with the data that they are -/
def DpRows {β : Type} (enc : β → PyData) (K : PySem.W.Frag) (H : Hp) (L : List (Addr × β)) : Prop := ∀ q ∈ L, Dp K H (.ref q.1) (enc q.2)
def rSortX {β : Type} (enc : β → PyData) (K : PySem.W.Frag) : List V → Hp → VK → Prop := fun vs H Q => ∃ (a : Addr) (L : List (Addr × β)), vs = [V.ref a] ∧ (SqL K H a (L.map fun q => V.ref q.1) ∨ SqT K H a (L.map fun q => V.ref q.1)) ∧ DpRows enc K H L ∧ AllAlike (L.map fun q => enc q.2) ∧ Sortable (L.map fun q => enc q.2) ∧ (∀ q ∈ L, (enc q.2).depth ≤ 60) ∧ L.length ≤ 100000 ∧
  ∀ p, H p = none → Q (.ref p) (upd H p (.lst ((L.mergeSort (dataLe false fun q => enc q.2)).map fun q => V.ref q.1)))
section
variable {X : Cx} {β : Type} {enc : β → PyData}
theorem refs_of : ∀ {L : List (Addr × β)} {us : List Value}, Vals (L.map fun q => V.ref q.1) us → us = L.map fun q => Value.ref q.1
  | [], _, .nil => rfl
  | q :: ks, _, .cons r t => by
    cases r
    rw [refs_of t]
    rfl
theorem refs_are : ∀ (L : List (Addr × β)), Vals (L.map fun q => V.ref q.1) (L.map fun q => Value.ref q.1)
  | [] => .nil
  | q :: ks => .cons rfl (refs_are ks)
theorem cr_sortX (hu : X.A.units + 80 < cLine) : CallR X (.builtin "sorted") (rSortX enc X.K) := by
  intro pins s σ H vs us Q I r h
  obtain ⟨a, L, rfl, hl, hk, al, so, dp, sz, q⟩ := h
  rw [Vals.ref1 r]
  have big := sizeLine_eq
  have each : ∀ (R : Value → Addr × β → Prop) (M : List (Addr × β)), (∀ q ∈ M, R (.ref q.1) q) → EachIs R (M.map fun q => Value.ref q.1) M := by
    intro R M
    induction M with
    | nil => exact fun _ => .nil
    | cons x M ih => exact fun g => .cons (g x List.mem_cons_self) (ih fun y m => g y (List.mem_cons_of_mem _ m))
  have eout : ∀ {o : List Value} {M : List (Addr × β)}, EachIs (fun v q => v = Value.ref q.1) o M → o = M.map fun q => Value.ref q.1 := by
    intro o M z
    induction z with
    | nil => rfl
    | cons e _ ih => rw [e, ih]; rfl
  have rd : ∀ q ∈ L, ∃ as, Reads s.heap (.ref q.1) (enc q.2) as := fun q m => Dp.reads I (enc q.2) (.ref q.1) (.ref q.1) (hk q m) rfl
  have lz : ((L.mergeSort (dataLe false fun q => enc q.2)).map fun q => V.ref q.1).length ≤ sizeLine := by
    rw [List.length_map, List.length_mergeSort]
    omega
  rcases hl with hl | hl
  · obtain ⟨its, rv, il, _⟩ := I.list hl
    have ei := refs_of rv
    subst ei
    refine sorted_data (R := fun v q => v = Value.ref q.1) (enc := fun q : Addr × β => enc q.2) (bs := L) il.isList (each _ L fun q _ => rfl) (each _ L rd) al so (by omega) (fun b m => by have z := dp b m; omega) fun out lo eo => ?_
    have eo' := eout eo
    subst eo'
    obtain ⟨ep, he⟩ := PyProof.Rows.sortedAll_at s.heap (L.map fun q => Value.ref q.1) (((L.mergeSort (dataLe false fun q => enc q.2)).map fun q => Value.ref q.1).toArray)
    exact ⟨.ref _, upd H (s.heap.objs.size + 1) (.lst ((L.mergeSort (dataLe false fun q => enc q.2)).map fun q => V.ref q.1)), I.laid (t' := s.toks) (fun _ _ => PyProof.Rows.sortedAll_old) (Nat.le_succ _) ⟨lz, _, ep, refs_are _, he⟩, rfl, q _ (I.hok.fresh (Nat.le_succ _))⟩
  · obtain ⟨its, rv, ⟨o, ho, hc, n, hd⟩, _⟩ := I.tuple hl
    have ei := refs_of rv
    subst ei
    refine Calls.call_function_entry kind_sorted plain_sorted entry_sorted (args_sorted1 _) ?_
    unfold Builtin.«sorted»
    refine wpAny_bind (m := checkCount "sorted" 1 1 _) (wpAny_pure ?_)
    refine wpAny_bind (wpAny_collect_seq (A := X.A.in1) a (.inr rfl) ho hc hd (hsz := by rw [List.size_toArray, List.length_map]; omega) fun h' hk' => ?_)
    have I1 : Inv X pins σ H { s with heap := h' } := I.kept (t' := s.toks) hk'
    rw [show (L.map fun q => Value.ref q.1).toArray.toList = L.map fun q => Value.ref q.1 by simp]
    refine wpAny_bind (wpAny_newList ?_ (by rw [List.length_map]; omega))
    have oL : (h'.push (seqObj "list" (L.map fun q => Value.ref q.1).toArray 0)).get? h'.objs.size = some (seqObj "list" (L.map fun q => Value.ref q.1).toArray 0) := Heap.get?_push_size _ rfl
    have al' : ∀ q ∈ L, ∃ as, Reads (h'.push (seqObj "list" (L.map fun q => Value.ref q.1).toArray 0)) (.ref q.1) (enc q.2) as ∧ h'.objs.size ∉ as := fun q m => by
      obtain ⟨as, r1⟩ := Dp.reads I1 (enc q.2) (.ref q.1) (.ref q.1) (hk q m) rfl
      refine ⟨as, PyProof.Rows.Reads.keeps (fun b u e => Heap.get?_push_of_some _ e) r1, fun z => ?_⟩
      obtain ⟨o2, e2⟩ := reads_in r1 _ z
      exact absurd (Heap.lt_size e2) (Nat.lt_irrefl _)
    refine wpAny_bind (wpAny_holding (list_sort_data (s := { s with heap := h'.push (seqObj "list" (L.map fun q => Value.ref q.1).toArray 0) }) (R := fun v q => v = Value.ref q.1) (enc := fun q : Addr × β => enc q.2) (bs := L) oL (each _ L fun q _ => rfl)
      (each _ L al') al so (by omega) (fun b m => by have z := dp b m; have y : X.A.in1.units ≤ X.A.units + 1 := (by simp only [Around.in1]; omega); omega) fun out lo eo => ?_))
    have eo' := eout eo
    subst eo'
    obtain ⟨c, hc2⟩ := sortedHeap_at (vs := L.map fun q => Value.ref q.1) (out := (List.toArray ((L.mergeSort (dataLe false fun q => enc q.2)).map fun q => Value.ref q.1))) oL
    have kp2 : ∀ b u, h'.get? b = some u → (sortedHeap (h'.push (seqObj "list" (L.map fun q => Value.ref q.1).toArray 0)) h'.objs.size (L.map fun q => Value.ref q.1) (List.toArray ((L.mergeSort (dataLe false fun q => enc q.2)).map fun q => Value.ref q.1))).get? b = some u := fun b u z => by
      have lt := Heap.lt_size z
      rw [sortedHeap_old (Nat.ne_of_lt lt) (by rw [size_push']; exact Nat.lt_succ_of_lt lt)]
      exact Heap.get?_push_of_some _ z
    refine wpAny_pure ⟨_, rfl, ?_⟩
    exact ⟨.ref h'.objs.size, upd H h'.objs.size (.lst ((L.mergeSort (dataLe false fun q => enc q.2)).map fun q => V.ref q.1)), I1.laid (t' := s.toks) kp2 (Nat.le_refl _) ⟨lz, _, c, refs_are _, hc2⟩, rfl, q _ (I1.hok.fresh (Nat.le_refl _))⟩
/-- what is sorted, without the places -/
theorem sort_snd (L : List (Addr × β)) : (L.mergeSort (dataLe false fun q => enc q.2)).map Prod.snd = (L.map Prod.snd).mergeSort (dataLe false enc) := List.map_mergeSort fun _ _ _ _ => rfl
end
/-! ### {k: v for ..}, the keys nested tuples, each new -/
/-- in each block of a comprehension -/
abbrev BlksV (X : Cx) (scope : Scope) (p : Cx → Prop) : Prop := ∀ (s : Shared) (H : Hp) (C : Addr) (cl : List (PySem.Str × Addr)) (fp : List Addr), p (X.blk s H scope (compEnvC scope cl C X.env) fp)
section
variable {X : Cx} {pins : List (Addr × Obj)} {σ : L2.St} {H : Hp} {s : Shared}
theorem put_okV {E : Value → Shared → Prop} {D b : Addr} {L : List VRow} {k : NestedKey} {v : V} {r : Value} {Q : Unit → Shared → Prop} (hu : X.A.units + 64 < cLine) (I : Inv X pins σ H s) (hD : H D = some (VDict X.prog X.w D L)) (ks : VKeys H L) (hb : NqV H (.ref b) k) (hd : k.depth ≤ 8) (hn : valW L k = none) (few : L.length < 1000) (rv : RelV v r)
    (h : ∀ s', Inv X pins σ (upd H D (VDict X.prog X.w D (L ++ [(k, b, v)]))) s' → Q () s') : wpAny (model X.prog X.w) X.A (dictSet D (.ref b) r) Q E s := by
  obtain ⟨xs, Dd, rr, lo, _⟩ := vdict_rd I hD ks
  have lx : L.length = xs.length := Paired.length rr
  have big := sizeLine_eq
  refine wpAny_dictSet_heap (knd := nestedKind X.prog X.w) (hsz := by omega) (show X.A.units + 8 < cLine by omega) ⟨nq_is I k hb rfl, hd⟩ Dd fun h' D2 sb => h _ ?_
  have VH := vheld_put rr rv lo hn few D2
  obtain ⟨_, o2, _, _, g1, _⟩ := id VH
  exact d_write I (by rw [hD]; exact True.intro) sb ⟨o2, g1⟩ (vdict_ok VH)
end
section
variable {X : Cx}
/-- {key: val for ta in ia}, the key a nested tuple: D the new dict -/
def tDcV (P : Program) (w : World) (wa : TI) (ga : TG) (tk tv : TE) (vs : List Nat) : TE := fun σ H Q => wa σ H fun J H1 => ∀ D, H1 D = none → ∃ W : Nat → Nat → Hp → Prop, (∃ m, W 0 m (upd H1 D (VDict P w D []))) ∧ ∀ i m H2, W i m H2 →
  (J.stop i H2 ∧ Q (.ref D) H2) ∨ (J.go i H2 ∧ ∃ Nx : Hp → Prop, (∀ H3, Nx H3 → ∃ m', m' < m ∧ W (i + 1) m' H3) ∧ ∀ x H3, J.yld i H2 x H3 → ga x (wipe σ vs) H3 fun σ4 H4 => wipe σ4 vs = wipe σ vs ∧ tk σ4 H4 fun y H5 => tv σ4 H5 fun z H6 =>
    ∃ (L : List VRow) (k : NestedKey) (b : Addr), y = .ref b ∧ NqV H6 (.ref b) k ∧ k.depth ≤ 8 ∧ H6 D = some (VDict P w D L) ∧ VKeys H6 L ∧ valW L k = none ∧ L.length < 1000 ∧ Nx (upd H6 D (VDict P w D (L ++ [(k, b, z)]))))
theorem pe_dcV {kx vx ta ia : Expr} {scope : Scope} {own : List (PySem.Str × Nat)} {pos : Pos} {wa : TI} {ga : TG} {tk tv : TE} (hc : X.calm = true) (hN : X.N.Nodup) (hu : X.A.units + 64 < cLine) (hia : PI X ta ia wa) (ok : BlkOk X.N X.env.scope scope own)
    (hga : BlksV X scope fun Y => PG Y ta ga) (hk : BlksV X scope fun Y => PE Y kx tk) (hv : BlksV X scope fun Y => PE Y vx tv) (pa : ∀ x, foldedSetIterable ia X.env x = pure x := by intro _; rfl) :
    PE X (.DictComp kx vx [⟨ta, ia, [], 0⟩] scope pos) (tDcV X.prog X.w wa ga tk tv (own.map (·.2))) := by
  refine ⟨fun pins s σ H Q I h => ?_⟩
  rw [arm_eval_DictComp]
  have caught : ∀ y ∈ scope.names, y.2 = .free → ∃ c, X.env.cells.lookup y.1 = some c := fun y m e => (ok.free y m e).elim (fun k => I.ok.has _ (.inl k)) (fun k => I.ok.has _ (.inr k))
  refine wpAny_comprehension_free (use := none) rfl pa (closure_ok caught) ok.kind (fun y m e => by rw [ok.uniq y m, e]) (thn (hia.run pins s σ H _ I h) fun xv s1 hx => thn hx fun itv s2 h2 => ?_)
  obtain ⟨it, fp, tn, J, H2, rfl, I2, T, st2, f2, q⟩ := h2
  refine wpAny_newObj_type (newEnv_comp ?_)
  generalize eD : s2.heap.objs.size = D
  have D0 : H2 D = none := I2.hok.fresh (Nat.le_of_eq eD)
  obtain ⟨W, ⟨m0, w0⟩, turn⟩ := q D D0
  generalize e3 : ({ s2 with heap := s2.heap.push { cls := .type "dict", data := .dict #[] } } : Shared) = s3
  have hp3 : s3.heap = s2.heap.push { cls := .type "dict", data := .dict #[] } := by rw [← e3]
  have I3 : Inv X pins σ (upd H2 D (VDict X.prog X.w D [])) s3 := by
    rw [← e3]
    refine I2.laid (t' := s2.toks) (fun b o e => Heap.get?_push_of_some _ e) (Nat.le_of_eq eD) ?_
    rw [← eD]
    exact vdict_ok (vheld_new s2.heap I2.big)
  have low : ∀ b ∈ fp, b < s2.heap.objs.size := fun b m => by
    obtain ⟨o, e, _⟩ := T.obj _ _ st2 b m
    exact Heap.lt_size e
  have f3 : ∀ b ∈ fp, FpOk X pins (upd H2 D (VDict X.prog X.w D [])) b ∧ b < s3.heap.objs.size := fun b m => by
    refine ⟨⟨?_, (f2 b m).2⟩, by rw [hp3, Heap.size_push]; exact Nat.lt_succ_of_lt (low b m)⟩
    rw [upd_ne (by rw [← eD]; exact Nat.ne_of_lt (low b m))]
    exact (f2 b m).1
  have st3 : tn 0 s3.heap := T.keep _ _ _ st2 fun b _ o e => by rw [hp3]; exact Heap.get?_push_of_some _ e
  have I4 := block_start I3 ok hN f3
  have ga4 := hga s3 (upd H2 D (VDict X.prog X.w D [])) s3.heap.objs.size (cellsFrom (s3.heap.objs.size + 1) scope.names (cloFrom X.env.cells scope.names [])) fp
  have k4 := hk s3 (upd H2 D (VDict X.prog X.w D [])) s3.heap.objs.size (cellsFrom (s3.heap.objs.size + 1) scope.names (cloFrom X.env.cells scope.names [])) fp
  have v4 := hv s3 (upd H2 D (VDict X.prog X.w D [])) s3.heap.objs.size (cellsFrom (s3.heap.objs.size + 1) scope.names (cloFrom X.env.cells scope.names [])) fp
  show codeAny _ _ (.compStart (.DictComp kx vx [⟨ta, ia, [], 0⟩] scope pos) 0 (.ref it) (.ref D) (compEnvC scope (cellsFrom (s3.heap.objs.size + 1) scope.names (cloFrom X.env.cells scope.names [])) s3.heap.objs.size X.env)) (compPost (model X.prog X.w) X.A X.xe none _ (.ref D) s3.heap.objs.size) { s3 with heap := pushCells (s3.heap.push { cls := .type "dict", data := .dict #[] }) scope.names }
  have fp0 : ∀ b ∈ fp, (upd H2 D (VDict X.prog X.w D [])) b = none := fun b m => (f3 b m).1.1
  generalize ece : compEnvC scope (cellsFrom (s3.heap.objs.size + 1) scope.names (cloFrom X.env.cells scope.names [])) s3.heap.objs.size X.env = ce at I4 ga4 k4 v4 ⊢
  have loc : ce.locals = s3.heap.objs.size := by subst ece; rfl
  generalize upd H2 D (VDict X.prog X.w D []) = H3 at I3 I4 ga4 k4 v4 w0 fp0 f3
  generalize e4 : ({ s3 with heap := pushCells (s3.heap.push { cls := .type "dict", data := .dict #[] }) scope.names } : Shared) = s4 at I4 ⊢
  have st4 : tn 0 s4.heap := T.keep _ _ _ st3 fun b _ o e => by rw [← e4]; exact pushCells_keeps _ _ _ _ (Heap.get?_push_of_some _ e)
  have still : ∀ {τ : L2.St} {G : Hp} {u : Shared}, Inv (X.blk s3 H3 scope ce fp) [] τ G u → (∀ b ∈ fp, G b = none) → ∀ b ∈ fp, FpOk (X.blk s3 H3 scope ce fp) [] G b := fun {τ G u} Iu no b m =>
    ⟨no b m, (Iu.ok.exf b m).1, Iu.ok.exfs b m, .inl m, fun x c e => (Iu.ok.exf b m).2 x c e, fun p z => absurd (show p ∈ ([] : List (Addr × Obj)) ++ [] from z) (by simp)⟩
  refine codeAny_compStart_dict ?loop (T.self X.A 0 _ _ _ st4 ?loop)
  refine compLoop_anyD (fun n u => ∃ i G, Inv (X.blk s3 H3 scope ce fp) [] (wipe σ (own.map (·.2))) G u ∧ tn i u.heap ∧ (∀ b ∈ fp, G b = none) ∧ W i n G) (fun n s5 hI => ?_) m0 ⟨0, H3, I4, st4, fp0, w0⟩
  obtain ⟨i, H5, I5, st5, no5, w5⟩ := hI
  rcases turn i n H5 w5 with ⟨stop, fin⟩ | ⟨go, Nx, hNx, step⟩
  · refine thnF (T.done (X.blk s3 H3 scope ce fp) rfl rfl rfl hc i [] s5 _ H5 (fun _ _ => False) I5 (still I5 no5) st5 stop) fun r s6 ⟨hr, I6⟩ => ?_
    subst hr
    have I7 : Inv X pins σ H5 s6 := I3.call' (ch := fp) I6.os I6.base I6.hok I6.bare fun b m => ⟨(f3 b m).1.2.2.2.1, (f3 b m).1.2.1, (f3 b m).1.2.2.2.2.1, (f3 b m).1.2.2.2.2.2⟩
    have none5 : H5 s3.heap.objs.size = none := by
      have z : H5 ce.locals = none := I6.free
      rwa [loc] at z
    obtain ⟨m, hn, _⟩ := I6.loc
    have hn : s6.heap.Ns ce.locals m := hn
    rw [loc] at hn
    obtain ⟨g0, g1, g2, g3, g4, g5⟩ := I3.fpOk (Nat.le_refl _) none5
    exact ⟨m, hn, fun h'' sb => ⟨.ref D, H5, I7.turned (t' := s6.toks) (fun b o ne e => (sb.2 b ne).trans e) g0 g1 g3 g4 g5, rfl, fin⟩⟩
  · refine thnF (T.item (X.blk s3 H3 scope ce fp) rfl rfl rfl hc i [] s5 _ H5 (fun _ _ => False) I5 (still I5 no5) st5 go) fun r s6 ⟨u, hr, h6⟩ => ?_
    subst hr
    refine thnF h6 fun _ s7 ⟨x, H7, I7, r7, y7, st7, no7⟩ => ?_
    have I7p := I7.pinned (still I7 no7) (T.obj _ _ st7)
    refine thnF (ga4.run _ s7 _ H7 x u _ I7p r7 (step x H7 y7)) fun _ s8 ⟨σ8, H8, I8, wp8, q8⟩ => ?_
    refine thnF ((pts_nil (X := X.blk s3 H3 scope ce fp)).run _ s8 σ8 H8 (fun b G => b = true ∧ tk σ8 G _) I8 ⟨rfl, q8⟩) fun b s9 ⟨H9, I9, eb, q9⟩ => ?_
    subst eb
    simp only [if_true]
    refine thnF (k4.run _ s9 σ8 H9 _ I9 q9) fun z1 s10 ⟨yk, H10, I10, r10, q10⟩ => ?_
    refine thnF (v4.run _ s10 σ8 H10 _ I10 q10) fun z2 s11 ⟨yv, H11, I11, r11, L, k, b, ek, hb, hdp, hD, hks, hnew, room, nx⟩ => ?_
    subst ek
    cases r10
    refine put_okV (X := X.blk s3 H3 scope ce fp) hu I11 hD hks hb hdp hnew room r11 fun s12 I12 => ?_
    obtain ⟨m', lt, w'⟩ := hNx _ nx
    have pinned : ∀ c ∈ fp, ∀ o, s7.heap.get? c = some o → s12.heap.get? c = some o ∧ (upd H11 D (VDict X.prog X.w D (L ++ [(k, b, yv)]))) c = none := fun c m o e =>
      have z := I12.pin (c, o) (List.mem_append_right _ (List.mem_append_right _ (mem_pinsAt m e)))
      ⟨z.1, z.2.1⟩
    refine ⟨m', lt, i + 1, _, (I12.unpinned (pins := [])).weak (by rw [← wp8, wipe_length]) (fun j v e => by rw [← wp8] at e; exact (wipe_some e).1), T.keep _ _ _ st7 fun b m o e => (pinned b m o e).1, fun b m => ?_, w'⟩
    obtain ⟨o, e, _⟩ := T.obj _ _ st7 b m
    exact (pinned b m o e).2
theorem pe_dcVP {P : Program} {w : World} {kx vx ta ia : Expr} {scope : Scope} {own : List (PySem.Str × Nat)} {pos : Pos} {wa : TI} {ga : TG} {tk tv : TE} (hc : X.calm = true) (hN : X.N.Nodup) (hu : X.A.units + 64 < cLine) (hia : PI X ta ia wa) (ok : BlkOk X.N X.env.scope scope own)
    (hga : BlksV X scope fun Y => PG Y ta ga) (hk : BlksV X scope fun Y => PE Y kx tk) (hv : BlksV X scope fun Y => PE Y vx tv) (hP : X.prog = P := by rfl) (hw : X.w = w := by rfl) (pa : ∀ x, foldedSetIterable ia X.env x = pure x := by intro _; rfl) :
    PE X (.DictComp kx vx [⟨ta, ia, [], 0⟩] scope pos) (tDcV P w wa ga tk tv (own.map (·.2))) := by
  subst hP hw
  exact pe_dcV hc hN hu hia ok hga hk hv pa
end
/-! ### the same, the program and the world by their own letters -/
section
variable {X : Cx} {P : Program} {w : World} {o i e f value tg : Expr} {pos pos' apos cpos : Pos} {td ty tv tx : TE}
theorem pe_dnewVP (hP : X.prog = P := by rfl) (hw : X.w = w := by rfl) : PE X (.Dict [] [] pos) (tDNewV P w) := by
  subst hP hw
  exact pe_dnewV
theorem op_inVP (hu : X.A.units + 64 < cLine) (hP : X.prog = P := by rfl) (hw : X.w = w := by rfl) : OpR X (compareOp .In) (rInV P w) := by
  subst hP hw
  exact op_inV hu
theorem pe_getVP (hu : X.A.units + 64 < cLine) (ho : PE X o td) (hi : PE X i ty) (hs : NoSl i) (hP : X.prog = P := by rfl) (hw : X.w = w := by rfl) : PE X (.Subscript o i pos) (tGetV P w td ty) := by
  subst hP hw
  exact pe_getV hu ho hi hs
theorem ps_putVP (hu : X.A.units + 64 < cLine) (ho : PE X o td) (hi : PE X i ty) (hv : PE X value tv) (hs : swapsWith value (some (.Subscript o i pos')) pos.line X.env = pure false) (hP : X.prog = P := by rfl) (hw : X.w = w := by rfl) :
    PS X (.Assign [.Subscript o i pos'] value pos) (sPutV P w td ty tv) := by
  subst hP hw
  exact ps_putV hu ho hi hv hs
theorem pe_setdVP (hu : X.A.units + 64 < cLine) (ho : PE X o td) (he : PE X e ty) (hf : PE X f tx) (m : M2 X o "setdefault" apos e f cpos) (hP : X.prog = P := by rfl) (hw : X.w = w := by rfl) : PE X (.Call (.Attribute o "setdefault" apos) [e, f] [] cpos) (tSetdV P w td ty tx) := by
  subst hP hw
  exact pe_setdV hu ho he hf m
theorem pi_valuesVP (he : PE X e td) (hP : X.prog = P := by rfl) (hw : X.w = w := by rfl) (hbase : attributeBase e "values" X.env (eval e X.env) = eval e X.env := by rfl) (hline : (apos.endLine == cpos.line) = true := by rfl) : PI X tg (.Call (.Attribute e "values" apos) [] [] cpos) (iValsV P w td) := by
  subst hP hw
  exact pi_valuesV he hbase hline
end
end Kd

-- ===== K15L =====
set_option Elab.async false
set_option linter.all false
set_option maxRecDepth 100000
set_option maxHeartbeats 4000000
namespace My
open PySem L2 PyProof.Rows PySem.Spec Kd
abbrev sPick : Stmt := top 41
abbrev sLStates : Stmt := top 42
abbrev sSystem : Stmt := top 43
abbrev sLEvents : Stmt := top 44
abbrev sDid : Stmt := top 45
abbrev sHist : Stmt := top 46
abbrev sDue : Stmt := top 47
abbrev sLaw : Stmt := top 48
/-! ### a def's promise under a condition on what is around -/
structure FnG (c : Bool) (G : Around → Prop) (P : Program) (w : World) (K : PySem.W.Frag) (mg : Str → Option Value) (base : Heap) (CX : CXT) (k : Nat) (f : Addr) (fd : FuncData) (ps : List Str) (sp : Sp) : Prop where
  len : ∀ vs H Q E, sp vs H Q E → vs.length = ps.length
  run : ∀ (A : Around) (outer : List Env) (s : Shared) (H : Hp) (args : Args) (us : List Value) (vs : List V) (Q : VK) (E : XK), (c = true → A.handled = none) → G A → L2H.RoomH k A →
    Env0 P w K mg base A outer s H → BindsTo s fd args (ps.zip us) → Vals vs us → sp vs H Q E → codeAny (model P w) A (.call (.ref f) args) (CR CX outer P w H s Q E) s
def cxG (c : Bool) (CX : CXT) (P : Program) (w : World) (K : PySem.W.Frag) (mg : Str → Option Value) (base : Heap) (N : List Str) (qual : Str) (scope : Scope) (f : Addr) (cd : Value) (A : Around) (outer : List Env) (s : Shared) (H : Hp) (E : XK) : Cx :=
  { cxOf CX P w K mg base N qual scope f cd A outer s H E with calm := c }
section
variable {c : Bool} {G : Around → Prop} {CX : CXT} {P : Program} {w : World} {K : PySem.W.Frag} {mg : Str → Option Value} {base : Heap} {N ps : List Str} {qual : Str} {scope : Scope} {f : Addr} {cd : Value} {A : Around} {outer : List Env} {s s1 : Shared} {H : Hp} {E : XK}
theorem inv_startG {us : List Value} {vs : List V} (S : FnScope N ps scope) (hd : c = true → A.handled = none) (e0 : Env0 P w K mg base A outer s H) (hl : vs.length = ps.length) (r : Vals vs us)
    (x : InCallC s s.heap.objs.size (bindL (envOfC qual scope s.heap.objs.size f cd).kindOf (ps.zip us) fun _ => none) (cellsFrom (s.heap.objs.size + 1) scope.names []) (bindC (envOfC qual scope s.heap.objs.size f cd).kindOf (ps.zip us) fun _ => none) s1) :
    Inv (cxG c CX P w K mg base N qual scope f cd A outer s H E) [] (start N vs) H s1 := by
  have J : Inv (cxOf CX P w K mg base N qual scope f cd { A with handled := none } outer s H E) [] (start N vs) H s1 := inv_start S rfl ⟨e0.frames, e0.mod, e0.bs, e0.bsz, e0.funs, e0.frf, e0.hok, e0.bare⟩ hl r x
  have o := J.ok
  exact ⟨⟨o.mod, o.kind, o.glob, o.blt, o.above, o.inj, o.has, o.cab, hd, Around.frames_deeper e0.frames, o.stk, o.exf, o.bs, o.bsz, o.noex, o.exfs, o.funs, o.frf⟩, J.os, J.bare, J.base, J.loc, J.cell, J.free, J.freeC, J.pin, J.hok, J.len⟩
theorem fn_ofG {k : Nat} {name : Str} {params : Arguments} {body : List Stmt} {dV kV doc pm cdv ct oc : Value} {an od : Option Addr} {osl : Array (Option Value)} {sp : Sp}
    (lk : K.lookup f = some ⟨oc, od, .func (PySem.W.fnOf name qual params body scope dV kV doc pm an cdv ct), osl⟩) (hcd : PySem.W.codeIn K cdv qual = true) (S : FnScope N ps scope) (len : ∀ vs H Q E, sp vs H Q E → vs.length = ps.length)
    (hbody : ∀ (A : Around) (outer : List Env) (s : Shared) (H : Hp) (vs : List V) (Q : VK) (E : XK), (c = true → A.handled = none) → G A → L2H.RoomH k (A.deeper (envOfC qual scope s.heap.objs.size f cdv)) → sp vs H Q E →
      ∃ t, PSs (cxG c CX P w K mg base N qual scope f cdv A outer s H E) body t ∧ t { nx := fun _ H' => Q .non H', rt := Q } (start N vs) H) :
    FnG c G P w K mg base CX (k + 1) f (PySem.W.fnOf name qual params body scope dV kV doc pm an cdv ct) ps sp := by
  refine ⟨len, fun A outer s H args us vs Q E hh hG hr e0 hb r hsp => ?_⟩
  have hl := len _ _ _ _ hsp
  have KX : K.In s.heap := e0.mod.kin.keeps fun b o e => (e0.bs b o e).1
  have lim : s.heap.NoLimit := e0.mod.nolimit.keeps fun b o e => (e0.bs b o e).1
  refine codeAny_call_function hr.depth (KX _ _ lk) rfl S.co S.gen rfl (PySem.W.codeRec_of KX hcd) (hb _ _ _ _ ?_)
  refine wpAny_newFunctionEnv_cells S.kind (fun ⟨n, v⟩ hy => ?_) fun env he s1 x => ?_
  · rcases S.par n (List.of_mem_zip hy).1 with q | q
    · exact .inl q
    · exact .inr ⟨q, PySem.W.cellsFrom_some _ _ _ (.inl q)⟩
  subst he
  refine ⟨lim.keeps x.toInCall.keep, codeAny_func ?_⟩
  obtain ⟨t, ht, hq⟩ := hbody A outer s H vs Q E hh hG (hr.deeper _) hsp
  refine wpAny_mono (ht.run [] s1 (start N vs) H _ (inv_startG S hh e0 hl r x) hq) (fun fl s' hs => ?_) fun e s' hs => hs
  cases fl with
  | ret u =>
    obtain ⟨v, σ', H', J, rv, q⟩ := hs
    exact ⟨v, H', J.os, J.bare, J.base, J.hok, rv, q⟩
  | next =>
    obtain ⟨σ', H', J, q⟩ := hs
    exact ⟨V.non, H', J.os, J.bare, J.base, J.hok, rfl, q⟩
  | brk =>
    obtain ⟨_, _, _, q⟩ := hs
    exact False.elim q
  | cont =>
    obtain ⟨_, _, _, q⟩ := hs
    exact False.elim q
/-- by its body, nothing is raised -/
theorem okG {x : Str} {st : Stmt} {fd : FuncData} {k : Nat} {sp : Sp} (F : Fun K x qual st f fd) (S : FnScope N ps (defScope st)) (len : ∀ vs H Q E, sp vs H Q E → vs.length = ps.length)
    (hbody : ∀ (cdv : Value) (A : Around) (outer : List Env) (s : Shared) (H : Hp) (vs : List V) (Q : VK) (E : XK), (c = true → A.handled = none) → G A → L2H.RoomH k (A.deeper (envOfC qual (defScope st) s.heap.objs.size f cdv)) → sp vs H Q E →
      ∃ t, PSs (cxG c CX P w K mg base N qual (defScope st) f cdv A outer s H E) (defBody st) t ∧ t { nx := fun _ H' => Q .non H', rt := Q } (start N vs) H) : FnG c G P w K mg base CX (k + 1) f fd ps sp := by
  obtain ⟨oc, od, kV, doc, pm, an, cdv, ct, osl, rfl, lk, hcd⟩ := F.ex
  exact fn_ofG lk hcd S len fun A outer s H vs Q E hh hG hr hsp => hbody cdv A outer s H vs Q E hh hG hr hsp
end
section
variable {c : Bool} {G : Around → Prop} {X : Cx} {CX : CXT} {k : Nat} {f : Addr} {fd : FuncData} {ps : List Str} {sp : Sp} {x : Str} {p pos : Pos} {e : Expr} {es : List Expr} {t : TA} {E : XK}
theorem pe_callG (F : FnG c G X.prog X.w X.K X.mg X.base CX k f fd ps sp) (hh : c = true → X.A.handled = none) (hG : G X.A) (hr : L2H.RoomH k X.A) (hg : Gl X x) (hm : X.mg x = some (.ref f)) (hk : PySem.W.keepIn X.K (.ref f) = true) (hb : Binds X.K fd ps []) (hx : Passes CX X E)
    (ha : PA X (e :: es) t) (hdb : (x == ("__debug__" : Str)) = false := by decide) (he : starEach (e :: es) X.env = (false, eval e X.env) :: starEach es X.env := by rfl) (hpl : (backTo pos (starEach es X.env)).any (·.1) = false := by rfl) :
    PE X (.Call (.Name x p) (e :: es) [] pos) (tCall sp [] E t) := by
  refine ⟨fun pins s σ H Q I h => ?_⟩
  refine wpAny_Call_Name_kw (ld_glob I hg hm ?_ hdb)
  refine PySem.W.callWith_K (h₀ := X.base) I.ok.mod.kin hk (thn (ha.run pos pins s σ H _ I h) fun us s1 ⟨vs, H1, I1, r, q⟩ => ⟨I1.kIn, ?_⟩) he hpl
  have r2 : Vals (vs ++ []) (us ++ []) := by rw [List.append_nil, List.append_nil]; exact r
  have hl : (us ++ []).length = ps.length := by rw [← r2.length]; exact F.len _ _ _ _ q
  refine wpAny_call (codeAny_mono (F.run X.A X.stack s1 H1 ⟨us, []⟩ (us ++ []) (vs ++ []) Q E hh hG hr I1.env0 (hb s1 us I1.kIn hl) r2 q) fun r s' hq => ?_)
  cases r with
  | error e => exact hx pins σ H1 s1 e s' I1 hq
  | ok fl =>
    cases fl with
    | ret u => exact I1.after hq
    | next => exact False.elim hq
    | brk => exact False.elim hq
    | cont => exact False.elim hq
end
theorem law_callG {P : Program} {w : World} {K : PySem.W.Frag} {mg mb : Str → Option Value} {CX : CXT} {k : Nat} {fa a : Addr} {fd : FuncData} {x : Str} {sp : Sp} {s₁ : Shared} {vs : List Value} {ns : List Int}
    (KX : K.In s₁.heap) (hns : s₁.heap.Ns mainGlobals mg) (hb : s₁.heap.Ns builtinsNs mb) (hbb : ∀ x : Str, x ≠ "__name__" → mb x = bootBuiltins x) (hlim : s₁.heap.NoLimit) (hg : s₁.gens = #[])
    (ha : s₁.heap.get? a = some { cls := .type "list", data := .seq vs.toArray }) (hi : IntsAre vs ns) (hl : ns.length ≤ sizeLine) (hr : Room k callerA)
    (F : ∀ base : Heap, K.In base → base.Ns mainGlobals mg → FnG true (fun A => A.guards = some []) P w K mg base CX k fa fd [x] sp) (hbind : ∀ (s : Shared) (u : Value), BindsTo s fd ⟨[u], []⟩ [(x, u)])
    (hsp : ∀ H : Hp, Only H → SqL K H a (ns.map V.int) → sp [.ref a] H (fun v _ => v = .bl true) fun _ _ _ => False)
    (hCX : ∀ H e s', CX [] H s₁ (fun _ _ _ => False) e s' → False) :
    codeAny (model P w) callerA (.call (.ref fa) ⟨[.ref a], []⟩) (fun r s' => r = .ok (.ret (.bool true)) ∧ OldK s₁.heap s'.heap ∧ s'.os = s₁.os ∧ AllBare s'.gens) s₁ := by
  have rv := vals_ints hi
  have lenV := hi.length
  -- from an abstract heap in which nothing but the script may be tracked
  have core : ∀ H : Hp, Only H → SqL K H a (ns.map V.int) → HOk P w H s₁.heap → (∀ b, H b ≠ none → b = a) → (H a ≠ none → K.lookup a = none) →
      codeAny (model P w) callerA (.call (.ref fa) ⟨[.ref a], []⟩) (fun r s' => r = .ok (.ret (.bool true)) ∧ OldK s₁.heap s'.heap ∧ s'.os = s₁.os ∧ AllBare s'.gens) s₁ := by
    intro H hO hS hok hA hK
    have base_of : ∀ {b : Addr} {o : Obj}, s₁.heap.get? b = some o → H b = none → (hidT s₁.heap H).get? b = some o := fun e n => hidT_get e n
    have noA : ∀ {b : Addr} {o : Obj} {es : Array DictEntry} {ep : Nat}, s₁.heap.get? b = some o → o.data = .dict es ep → H b = none := fun {b o es ep} e d => by
      cases q : H b with
      | none => rfl
      | some u =>
        have e' : b = a := hA b (by rw [q]; simp)
        subst e'
        rw [ha] at e; cases e
        have d' : Data.seq vs.toArray _ = Data.dict es ep := d
        cases d'
    have nsK : ∀ {b : Addr} {m : Str → Option Value}, s₁.heap.Ns b m → (hidT s₁.heap H).Ns b m := fun {b m} ⟨o, es, ep, e, d, r⟩ => ⟨o, es, ep, base_of e (noA e d), d, r⟩
    have hKb : K.In (hidT s₁.heap H) := fun b o e => base_of (KX b o e) (by
      cases q : H b with
      | none => rfl
      | some u =>
        have e' : b = a := hA b (by rw [q]; simp)
        subst e'
        rw [hK (by rw [q]; simp)] at e; cases e)
    have hM : Mod K mg (hidT s₁.heap H) := ⟨hKb, nsK hns, ⟨mb, nsK hb, hbb⟩, let ⟨mc, h1, h2⟩ := hlim; ⟨mc, nsK h1, h2⟩⟩
    have e0 : Env0 P w K mg (hidT s₁.heap H) callerA [] s₁ H := ⟨rfl, hM, fun b o e => of_hidT e, Nat.le_of_eq (hidT_size _ _), trivial, fun b hb => absurd (show b ∈ ([] : List Addr) from hb) (by simp), hok, .of_eq hg⟩
    refine codeAny_mono ((F _ hKb (nsK hns)).run callerA [] s₁ H ⟨[.ref a], []⟩ [.ref a] [.ref a] _ _ (fun _ => rfl) rfl (L2H.roomH_of hr) e0 (hbind s₁ (.ref a)) (.cons rfl .nil) (hsp H hO hS)) fun r s' h => ?_
    cases r with
    | error e => exact (hCX H e s' h).elim
    | ok fl =>
      cases fl with
      | next => exact False.elim h
      | brk => exact False.elim h
      | cont => exact False.elim h
      | ret u =>
        obtain ⟨v, H', os, bare, un, hok', r', q⟩ := h
        have q' : v = .bl true := q
        subst q'
        obtain rfl : u = Value.bool true := r'
        refine ⟨rfl, OldK.of_keep fun b o e => ?_, os, bare⟩
        cases q : H b with
        | none => exact un.keep b o e q (by intro z; exact absurd (show b ∈ ([] : List Addr) from z) (by simp)) (by simp)
        | some u =>
          rcases hO b with z | ⟨ob, xs, z⟩
          · rw [q] at z; cases z
          · have z2 := un.frzs b ob _ z
            obtain ⟨e1, _⟩ := hok b _ z
            obtain ⟨e2, _⟩ := hok' b _ z2
            rw [e] at e1; cases e1
            exact e2
  cases hk : K.lookup a with
  | some o =>
    -- the script is one of the module's own objects
    have e := KX a o hk
    rw [ha] at e
    cases e
    refine core (fun _ => none) (fun _ => .inl rfl) (.inr ⟨_, vs.toArray, _, hk, rfl, rfl, rfl, by rw [List.size_toArray, lenV]; exact hl, by simpa using rv⟩) (fun b u z => by have z' : (none : Option HO) = some u := z; cases z') (fun b z => absurd rfl z) fun z => absurd rfl z
  | none =>
    refine core (fun b => if b = a then some (.frz { cls := .type "list", data := .seq vs.toArray } (.lst (ns.map V.int))) else none) (fun b => ?_) (.inl (.inr ⟨{ cls := .type "list", data := .seq vs.toArray }, if_pos rfl⟩)) (fun b u z => ?_) (fun b z => ?_) fun _ => hk
    · by_cases hb : b = a
      · exact .inr ⟨_, _, if_pos hb⟩
      · exact .inl (if_neg hb)
    · by_cases hb : b = a
      · have z' := (if_pos hb).symm.trans z
        cases z'
        subst hb
        exact ⟨ha, by rw [List.length_map]; exact hl, vs, _, rv, ha⟩
      · have z' := (if_neg hb).symm.trans z
        cases z'
    · by_cases hb : b = a
      · exact hb
      · exact absurd (if_neg hb) z

theorem walk_ofG {l : PySem.W.OpenLaw} {n k : Nat} {q : Program} {loose : List Str} {XP : (Str → Option Value) → Heap → Prop} {YP : World → Heap → Prop} {d : DefRec} {K : Params → PySem.W.Frag} {sp : PySem.W.Frag → Sp} {x : Str}
    (hn : l.most = some n) (hn2 : n ≤ sizeLine) (hdf : d.params.defaults = []) (hr : Room k callerA) (hY : ∀ (w : World) (h : Heap), YP w h → (K w.params).In h)
    (F : ∀ (w : World) (mg : Str → Option Value) (fa : Addr) (h : Heap), (K w.params).In h → h.Ns mainGlobals mg → mg d.name = some (.ref fa) →
      ∃ fd : FuncData, (∀ (s : Shared) (u : Value), BindsTo s fd ⟨[u], []⟩ [(x, u)]) ∧ ∀ base : Heap, (K w.params).In base → base.Ns mainGlobals mg → FnG true (fun A => A.guards = some []) l.prog w (K w.params) mg base CX0 k fa fd [x] (sp (K w.params)))
    (hsp : ∀ (K : PySem.W.Frag) (H : Hp) (a : Addr) (ns : List Int), ns.length ≤ n → (∀ z ∈ ns, Builtin.Int.intBits z ≤ 1048576) → Only H → SqL K H a (ns.map V.int) → sp K [.ref a] H (fun v _ => v = .bl true) fun _ _ _ => False) :
    PySem.W.WalkO q loose XP YP l.row.toRowW d [] (fun f vs => PySem.call f vs) := by
  refine Att.attach_callB hn hdf fun w s₀ s₁ mg mb fa o pm cd doc a vs ns G Y ho hd hcd hmg hobj hints hlen hbits hg => ?_
  have KX := hY w _ Y
  obtain ⟨fd, hb, hF⟩ := F w mg fa _ KX G.T.g hmg
  exact law_callG KX G.T.g G.T.b G.T.builtins G.T.nolimit hg hobj hints (Nat.le_trans hlen hn2) hr hF hb (fun H hO hS => hsp _ H a ns hlen hbits hO hS) fun _ _ _ z => z
/-! ### displays, told that the new object is none of the model's own -/
def tLstL (t : TA) : TE := fun σ H Q => t σ H fun xs H1 => xs.length ≤ sizeLine ∧ ∀ q, H1 q = none → sysModules < q → Q (.ref q) (upd H1 q (.lst xs))
theorem pe_lstL {X : Cx} {es : List Expr} {t : TA} {pos : Pos} (h : PA X es t) : PE X (.List es pos) (tLstL t) := by
  refine ⟨fun pins s σ H Q I hq => ?_⟩
  refine wpAny_List_spliced (thn (h.run pos pins s σ H _ I hq) fun us s1 hh => ?_)
  obtain ⟨xs, H1, I1, r, z, q⟩ := hh
  have big := I1.big
  exact ⟨by rw [← r.length]; exact z, .ref s1.heap.objs.size, _, I1.laid (t' := s1.toks) (o := .lst xs) (fun b u e => Heap.get?_push_of_some _ e) (Nat.le_refl _) ⟨z, us, 0, r, Heap.get?_push_size _ rfl⟩, rfl, q _ (I1.hok.fresh (Nat.le_refl _)) big⟩

/-- data that is shown within k signs -/
structure Sh (k : Nat) (d : PyData) : Prop where
  sh : d.showable = true
  sz : d.shown.length ≤ k
theorem sh_all {k : Nat} : ∀ {ds : List PyData}, (∀ d ∈ ds, Sh k d) → PyData.showableAll ds = true ∧ ((PyData.shownAll ds).map (·.length)).sum ≤ ds.length * k ∧ (PyData.shownAll ds).length = ds.length
  | [], _ => ⟨by simp only [PyData.showableAll], by simp [PyData.shownAll], by simp [PyData.shownAll]⟩
  | d :: r, h => by
    have g := h d List.mem_cons_self
    obtain ⟨h1, h3, h4⟩ := sh_all (ds := r) fun x hx => h x (List.mem_cons_of_mem _ hx)
    have := g.sz
    refine ⟨by simp only [PyData.showableAll, g.sh, h1, Bool.and_true], ?_, by simp only [PyData.shownAll, List.length_cons, h4]⟩
    simp only [PyData.shownAll, List.map_cons, List.sum_cons, List.length_cons]
    rw [Nat.succ_mul]
    omega
theorem sh_tuple {k m : Nat} {ds : List PyData} (h : ∀ d ∈ ds, Sh k d) (hl : ds.length ≤ m) : Sh (m * k + 2 * m + 3) (.tuple ds) := by
  obtain ⟨h1, h3, h4⟩ := sh_all h
  refine ⟨by simp only [PyData.showable, h1], ?_⟩
  have h5 := tupleText_len_le (PyData.shownAll ds)
  simp only [PyData.shown]
  rw [h4] at h5
  have h6 : ds.length * k ≤ m * k := Nat.mul_le_mul_right _ hl
  omega
theorem sh_mono {k m : Nat} {d : PyData} (h : Sh k d) (l : k ≤ m) : Sh m d := ⟨h.sh, Nat.le_trans h.sz l⟩
theorem at_nat {α : Type} {xs : List α} {i : Int} (h0 : 0 ≤ i) (h1 : i < xs.length) : ∃ x, x ∈ xs ∧ atI xs i = some x := by
  have lt : i.toNat < xs.length := by omega
  have z := atI_nat (List.getElem?_eq_getElem lt)
  rw [Int.toNat_of_nonneg h0] at z
  exact ⟨xs[i.toNat], List.getElem_mem lt, z⟩
theorem FeedAt.same {H H' : Hp} {p c : Addr} {ks : List Int} {w n : Int} (s : Same H H') (F : FeedAt H p c ks w n) : FeedAt H' p c ks w n := ⟨s _ _ F.ob, s _ _ F.cs, F.bits, F.len, F.w0, F.w1, F.n0⟩
theorem Save.tup {H H' : Hp} {p c : Addr} {ks : List Int} {w n : Int} (F : FeedAt H p c ks w n) (s : Save p c H H') : Tup H H' := fun a xs e =>
  s a _ e (fun z => by rw [z, F.ob] at e; cases e) (fun z => by rw [z, F.cs] at e; cases e)
theorem Save.wr {H H2 : Hp} {p c D : Addr} {o : HO} (s : Save p c H H2) (n : H D = none) : Save p c H (upd H2 D o) := fun b u e h1 h2 => by
  rw [upd_ne (ne_of_none e n)]
  exact s b u e h1 h2
theorem FeedAt.wr {H : Hp} {p c D : Addr} {o : HO} {ks : List Int} {w n : Int} (F : FeedAt H p c ks w n) (h1 : D ≠ p) (h2 : D ≠ c) : FeedAt (upd H D o) p c ks w n :=
  ⟨by rw [upd_ne (Ne.symm h1)]; exact F.ob, by rw [upd_ne (Ne.symm h2)]; exact F.cs, F.bits, F.len, F.w0, F.w1, F.n0⟩
theorem Save.free {H H' : Hp} {p c x : Addr} (s : Save p c H H') (h : H' x = none) (hp : x ≠ p) (hc : x ≠ c) : H x = none := by
  cases e : H x with
  | none => rfl
  | some o => rw [s x o e hp hc] at h; cases h
theorem TDs.app {H : Hp} : ∀ {vs : List V} {ds : List PyData} {us : List V} {es : List PyData}, TDs H vs ds → TDs H us es → TDs H (vs ++ us) (ds ++ es)
  | _, _, _, _, .nil, t => t
  | _, _, _, _, .cons h r, t => .cons h (TDs.app r t)
def spPick : Sp := fun vs H Q _ => ∃ (p c a : Addr) (xs : List V) (ks : List Int) (w n : Int), vs = [.ref p, .ref a] ∧ FeedAt H p c ks w n ∧ n < 999999 ∧ H a = some (.lst xs) ∧ a ≠ p ∧ a ≠ c ∧ 1 ≤ xs.length ∧ xs.length ≤ 100 ∧
  ∀ (x : V) (ks' : List Int) (H' : Hp), x ∈ xs → FeedAt H' p c ks' w (n + 1) → Save p c H H' → Q x H'
section
variable {P : Program} {w : World} {K : PySem.W.Frag} {mg : Str → Option Value} {base : Heap}
theorem scPi : FnScope ["_law_deck_here", "_law_some"] ["_law_deck_here", "_law_some"] (defScope sPick) := ⟨rfl, rfl, rfl, by decide +kernel, rfl, by decide +kernel, by decide +kernel⟩
theorem ok_pick {f fD : Addr} {fd fdD : FuncData} (F : Fun K "_law_pick" "_law_pick" sPick f fd) (mlen : mg "len" = none)
    (GD : FnOk P w K mg base CX0 1 fD fdD ["_law_deck_here", "_law_count"] spDigit) (mD : mg "_law_draw" = some (.ref fD)) (kD : PySem.W.keepIn K (.ref fD) = true) (bD : Binds K fdD ["_law_deck_here", "_law_count"] []) :
    FnOk P w K mg base CX0 2 f fd ["_law_deck_here", "_law_some"] spPick := by
  refine F.ok scPi (fun vs H Q E h => ?_) (fun cdv A outer s H vs Q E hr h => ?_)
  · obtain ⟨p, c, a, xs, ks, y, n, rfl, _⟩ := h
    rfl
  · obtain ⟨p, c, a, xs, ks, y, n, rfl, FA, hn, ha, np, nc, l0, l1, k⟩ := h
    refine ⟨_, pss_one (ps_ret (pe_ix ix_list (pv 1) (pe_call GD hr (by rfl) mD kD bD .nil pass0 (pa_cons (pv 0) (pa_cons (pe_callB (r := rLenQ K) call_len_seq (by rfl) mlen PySem.boot_len (pa_cons (pv 1) pa_nil)) pa_nil))) (fun _ _ => rfl))), ?_⟩
    refine ⟨_, rfl, _, rfl, _, rfl, a, _, rfl, .inl (SqL.of ha), p, c, ks, y, n, _, rfl, FA, by omega, by omega, by omega, fun i ks' H' i0 i1 FA' sv => ?_⟩
    obtain ⟨x, hx, e⟩ := at_nat (xs := xs) i0 i1
    exact ⟨a, _, i, x, rfl, rfl, SqL.of (sv a _ ha np nc), e, k x ks' H' hx FA' sv⟩
end
end My

-- ===== KN4 =====
set_option Elab.async false
set_option linter.all false
set_option maxRecDepth 100000
set_option maxHeartbeats 4000000
namespace Kd
open PySem L2 PyProof.Rows PySem.Spec PySem.W PySem.P
/-! ### t + u, whatever they hold -/
def rCatA : R2 := fun x y H Q => ∃ a b xs ys, x = .ref a ∧ y = .ref b ∧ H a = some (.tup xs) ∧ H b = some (.tup ys) ∧ xs.length + ys.length ≤ sizeLine ∧ ∀ r H', Same H H' → H' r = some (.tup (xs ++ ys)) → Q (.ref r) H'
theorem op_catA {X : Cx} : OpR X (binaryOp .Add) rCatA := by
  intro pins s σ H x y v u Q I rx ry h
  obtain ⟨a, b, xs, ys, rfl, rfl, ha, hb, hz, q⟩ := h
  cases rx
  cases ry
  obtain ⟨its, r1, p1, _⟩ := I.tuple (SqT.of ha)
  obtain ⟨its2, r2, p2, _⟩ := I.tuple (SqT.of hb)
  by_cases hx : xs = []
  · subst hx
    cases r1
    obtain ⟨⟨cls, dd, data, sl⟩, ho, hc, n, hd⟩ := id p1
    obtain ⟨⟨cls2, dd2, data2, sl2⟩, ho2, hc2, n2, hd2⟩ := id p2
    simp only at hc hd hc2 hd2
    subst hc hd hc2 hd2
    exact concat_meets ⟨_, ho, rfl⟩ ⟨_, ho2, rfl⟩ noFill_tuple_add seq_tuple_add PySem.F.slot_tuple_add PySem.F.entry_tuple_add (PySem.F.args_tuple_add_2 _ _)
      (tuple_addW0 a b _ its2.toArray n n2 dd dd2 sl sl2 (by simp)) ⟨ho, ho2, ⟨.ref b, H, I, rfl, q b H (Same.refl H) hb⟩⟩
  · refine HT.cat_tup p1 p2 (fun z => hx (r1.nil_iff.mp z)) (fun z => ⟨.ref a, H, I, rfl, q a H (Same.refl H) (by rw [r2.nil_iff.mp z, List.append_nil]; exact ha)⟩) (fun z => ?_) (by rw [← r1.length, ← r2.length]; exact hz)
    refine ⟨.ref s.heap.objs.size, _, I.laid (t' := s.toks) (o := .tup (xs ++ ys)) (fun b ob q => Heap.get?_push_of_some _ q) (Nat.le_refl _) ?_, rfl, q _ _ (fun c o e => ?_) upd_same⟩
    · exact ⟨by rw [List.length_append]; exact hz, _, r1.append r2, IsTup.new _ _⟩
    · rw [upd_ne (ne_of_none e (I.hok.fresh (Nat.le_refl _)))]
      exact e
end Kd

-- ===== K15N =====
set_option Elab.async false
set_option linter.all false
set_option maxRecDepth 100000
set_option maxHeartbeats 4000000
namespace My
open PySem L2 PyProof.Rows PySem.Spec Kd
/-! ### histories as mathematics -/
abbrev Act := Int × Str × Str
inductive Th where
  | beg
  | did (n : Int) (a : Act)
  | com (n : Int)
  | abo (n : Int)
def thD : Th → PyData
  | .beg => .tuple [.str "begin"]
  | .did n a => .tuple [.str "did", .int n, .int a.1, .str a.2.1, .str a.2.2]
  | .com n => .tuple [.str "commit", .int n]
  | .abo n => .tuple [.str "abort", .int n]
def histD (ths : List Th) : PyData := .tuple (ths.map thD)
/-- which transactions are open -/
def opStep (S : List Bool) : Th → List Bool
  | .beg => S ++ [true]
  | .did _ _ => S
  | .com n => S.set n.toNat false
  | .abo n => S.set n.toNat false
def opRun (ths : List Th) : List Bool := ths.foldl opStep []
def EvIn (ss : List (List Stp)) (e : Str × Str) : Prop := ∃ st ∈ ss, ∃ x ∈ st, evOf x = e
def EvOf (sss : List (List (List Stp))) (a : Act) : Prop := 0 ≤ a.1 ∧ ∃ ss, sss[a.1.toNat]? = some ss ∧ EvIn ss a.2
/-- what may come next -/
def Fits (sss : List (List (List Stp))) (S : List Bool) : Th → Prop
  | .beg => True
  | .did n a => 0 ≤ n ∧ S[n.toNat]? = some true ∧ EvOf sss a
  | .com n => 0 ≤ n ∧ S[n.toNat]? = some true
  | .abo n => 0 ≤ n ∧ S[n.toNat]? = some true
def AllFit (sss : List (List (List Stp))) (ths : List Th) : Prop := ∀ i th, ths[i]? = some th → Fits sss (opRun (ths.take i)) th
theorem run_snoc (ths : List Th) (th : Th) : opRun (ths ++ [th]) = opStep (opRun ths) th := by
  unfold opRun
  rw [List.foldl_append]
  rfl
theorem run_next {ths : List Th} {i : Nat} {th : Th} (h : ths[i]? = some th) : opRun (ths.take (i + 1)) = opStep (opRun (ths.take i)) th := by
  rw [List.take_succ, h, Option.toList_some, run_snoc]
theorem fit_nil {sss : List (List (List Stp))} : AllFit sss [] := fun i th h => by simp at h
theorem fit_snoc {sss : List (List (List Stp))} {ths : List Th} {th : Th} (h : AllFit sss ths) (f : Fits sss (opRun ths) th) : AllFit sss (ths ++ [th]) := fun i x e => by
  rcases Nat.lt_or_ge i ths.length with lt | ge
  · rw [List.getElem?_append_left lt] at e
    rw [List.take_append_of_le_length (Nat.le_of_lt lt)]
    exact h i x e
  · rw [List.getElem?_append_right ge] at e
    have z : i - ths.length = 0 := by
      cases q : i - ths.length with
      | zero => rfl
      | succ k => rw [q] at e; simp at e
    rw [z] at e
    have ei : i = ths.length := by omega
    rw [ei, List.take_append_of_le_length (Nat.le_refl _), List.take_length]
    rw [← Option.some.inj e]
    exact f
structure HInv (S : List Bool) (os cs : List Int) : Prop where
  nd : os.Nodup
  op : ∀ z ∈ os, 0 ≤ z ∧ z < S.length ∧ S[z.toNat]? = some true
  cl : cs.length = S.length
  ol : os.length ≤ cs.length
  few : cs.length ≤ 10
theorem HInv.beg {S : List Bool} {os cs : List Int} (h : HInv S os cs) (lt : cs.length < 10) : HInv (opStep S .beg) (os ++ [(cs.length : Int)]) (cs ++ [0]) := by
  have e : opStep S .beg = S ++ [true] := rfl
  rw [e]
  refine ⟨List.nodup_append.mpr ⟨h.nd, by simp, fun a ha b hb e => ?_⟩, fun z m => ?_, ?_, ?_, ?_⟩
  · rw [List.mem_singleton.mp hb] at e
    have := (h.op a ha).2.1
    have := h.cl
    omega
  · rw [List.length_append, List.length_singleton]
    rcases List.mem_append.mp m with m | m
    · obtain ⟨z0, z1, z2⟩ := h.op z m
      exact ⟨z0, by omega, by rw [List.getElem?_append_left (by omega)]; exact z2⟩
    · rw [List.mem_singleton.mp m]
      refine ⟨by omega, by rw [h.cl]; omega, ?_⟩
      rw [Int.toNat_natCast, h.cl, List.getElem?_append_right (Nat.le_refl _), Nat.sub_self]
      rfl
  · rw [List.length_append, List.length_append, h.cl]
    rfl
  · rw [List.length_append, List.length_append]
    have := h.ol
    simp
    omega
  · rw [List.length_append]
    exact lt
theorem HInv.did {S : List Bool} {os cs cs' : List Int} {n : Int} {a : Act} (h : HInv S os cs) (l : cs'.length = cs.length) : HInv (opStep S (.did n a)) os cs' :=
  ⟨h.nd, h.op, by rw [l]; exact h.cl, by rw [l]; exact h.ol, by rw [l]; exact h.few⟩
theorem HInv.fin {S : List Bool} {os cs : List Int} {n : Int} (h : HInv S os cs) (hn : 0 ≤ n) : HInv (S.set n.toNat false) (os.erase n) cs := by
  refine ⟨h.nd.erase _, fun z m => ?_, by rw [List.length_set]; exact h.cl, Nat.le_trans (List.length_erase_le) h.ol, h.few⟩
  obtain ⟨ne, m⟩ := (h.nd.mem_erase_iff).mp m
  obtain ⟨z0, z1, z2⟩ := h.op z m
  refine ⟨z0, by rw [List.length_set]; exact z1, ?_⟩
  rw [List.getElem?_set_ne (by omega)]
  exact z2
end My

-- ===== K15S0 =====
set_option Elab.async false
set_option linter.all false
set_option maxRecDepth 100000
set_option maxHeartbeats 4000000
namespace My
open PySem L2 PyProof.Rows PySem.Spec Kd
/-! ### written data -/
def tDat (d : PyData) : TE := fun _ H Q => ∀ r H', Same H H' → TD H' r d → Q r H'
def tDats (ds : List PyData) : TA := fun _ H Q => ∀ rs H', Same H H' → TDs H' rs ds → Q rs H'
section
variable {X : Cx} {e : Expr} {es : List Expr} {d : PyData} {ds : List PyData} {pos : Pos}
theorem ped_int {i : Int} {j : Nat} : PE X (.Constant (.int i) j pos) (tDat (.int i)) := ⟨fun pins s σ H Q I h => (pe_int (X := X)).run pins s σ H Q I (h _ H (Same.refl H) (.int i))⟩
theorem ped_str {x : Str} {j : Nat} : PE X (.Constant (.str x) j pos) (tDat (.str x)) := ⟨fun pins s σ H Q I h => (pe_str (X := X)).run pins s σ H Q I (h _ H (Same.refl H) (.str x))⟩
theorem pad_nil : PA X [] (tDats []) := ⟨fun pos pins s σ H Q I h => (pa_nil (X := X)).run pos pins s σ H Q I (h _ H (Same.refl H) .nil)⟩
theorem pad_cons (he : PE X e (tDat d)) (hr : PA X es (tDats ds)) (hs : starEach (e :: es) X.env = (false, eval e X.env) :: starEach es X.env := by rfl) : PA X (e :: es) (tDats (d :: ds)) :=
  ⟨fun pos pins s σ H Q I h => (pa_cons he hr hs).run pos pins s σ H Q I fun x H1 s1 t1 xs H2 s2 t2 => h _ H2 (s1.trans s2) (.cons (t1.to (Tup.of s2)) t2)⟩
theorem ped_tup {x1} (h : PA X es (tDats ds)) (hl : ds.length ≤ 1000 := by decide) : PE X (.Tuple es x1 pos) (tDat (.tuple ds)) :=
  ⟨fun pins s σ H Q I q => (pe_tup h).run pins s σ H Q I fun xs H1 s1 t1 => ⟨small_len (m := 1000) (by rw [t1.len]; exact hl), fun p hp => q _ _ (s1.trans (same_new hp)) (.tup upd_same (t1.to (Tup.new hp)))⟩⟩
end
/-! ### the known kinds -/
instance (x y : Str × Str) : Decidable (evLt x y) := by unfold evLt; infer_instance
instance (z : Str) : Decidable (Wrd z) := by unfold Wrd; infer_instance
theorem kok_of (ss : List (List Stp)) (es : List (Str × Str)) (h : 1 ≤ ss.length ∧ ss.length ≤ 40 ∧ es.length ≤ 24 ∧ ∀ st ∈ ss, (∀ x ∈ st, Wrd x.1 ∧ Wrd x.2.1 ∧ 0 ≤ x.2.2 ∧ x.2.2 < (ss.length : Int) ∧ evOf x ∈ es) ∧ (st.map evOf).Pairwise evLt ∧ st.length ≤ 24) : KOk ss :=
  ⟨h.1, h.2.1, fun st m => let ⟨a, b, c⟩ := h.2.2.2 st m; ⟨fun x mx => let ⟨w1, w2, l, h', _⟩ := a x mx; ⟨w1, w2, l, h'⟩, b, c⟩, es, h.2.2.1, fun st m x mx => ((h.2.2.2 st m).1 x mx).2.2.2.2⟩
def kLet1 : List (List Stp) := [[("read", "a", 0), ("seta", "ok", 0), ("setb", "ok", 1)]]
def kLet2 : List (List Stp) := [[("read", "b", 1), ("seta", "ok", 0), ("setb", "ok", 1)]]
def kPur : List (List Stp) := [[("put", "ok", 1), ("take", "no", 0)], [("put", "ok", 2), ("take", "ok", 0)], [("take", "ok", 1)]]
def kLin1 : List (List Stp) := [[("puta", "ok", 1), ("putb", "ok", 2)], [("puta", "ok", 3), ("putb", "ok", 4), ("take", "a", 0)]]
def kLin2 : List (List Stp) := [[("puta", "ok", 5), ("putb", "ok", 6), ("take", "b", 0)], [("take", "a", 1)], [("take", "a", 2)]]
def kLin3 : List (List Stp) := [[("take", "b", 1)], [("take", "b", 2)]]
def kSt (i : Nat) : List Stp := (if i < 39 then [((("add" : Str), ("ok" : Str), (i : Int) + 1) : Stp)] else []) ++ (if 0 < i then [((("sub" : Str), ("ok" : Str), (i : Int) - 1) : Stp)] else [])
def kSteps : List (List Stp) := (List.range 40).map kSt
theorem kok_let : KOk (kLet1 ++ kLet2) := kok_of _ [("read", "a"), ("read", "b"), ("seta", "ok"), ("setb", "ok")] (by decide +kernel)
theorem kok_pur : KOk kPur := kok_of _ [("put", "ok"), ("take", "no"), ("take", "ok")] (by decide +kernel)
theorem kok_lin : KOk ((kLin1 ++ kLin2) ++ kLin3) := kok_of _ [("puta", "ok"), ("putb", "ok"), ("take", "a"), ("take", "b")] (by decide +kernel)
theorem kok_steps : KOk kSteps := kok_of _ [("add", "ok"), ("sub", "ok")] (by decide +kernel)
/-! ### menus -/
abbrev Ev := Str × Str
def evD (e : Ev) : PyData := .tuple [.str e.1, .str e.2]
def MN1 : List Ev := [("begin", "0"), ("commit", "a"), ("did", "ok"), ("x", "y")]
def MN2 : List Ev := [("get", "a"), ("get", "b"), ("see", "a")]
structure MOk (es : List Ev) : Prop where
  asc : es.Pairwise evLt
  wr : ∀ e ∈ es, Wrd e.1 ∧ Wrd e.2
  few : es.length ≤ 4
theorem mok1 : MOk MN1 := ⟨by decide +kernel, by decide +kernel, by decide +kernel⟩
theorem mok2 : MOk MN2 := ⟨by decide +kernel, by decide +kernel, by decide +kernel⟩
theorem ev_of {H : Hp} {v : V} {e : Ev} (h : TD H v (evD e)) : ∃ t, v = .ref t ∧ H t = some (.tup [.str e.1, .str e.2]) := by
  obtain ⟨t, xs, rfl, ht, hx⟩ := TD.ref_of h
  refine ⟨t, rfl, ?_⟩
  cases hx with
  | cons h1 t1 =>
    cases h1
    cases t1 with
    | cons h2 t2 =>
      cases h2
      cases t2
      exact ht
theorem ev_new {H : Hp} {t : Addr} {e : Ev} (h : H t = some (.tup [.str e.1, .str e.2])) : TD H (.ref t) (evD e) := .tup h (.cons (.str _) (.cons (.str _) .nil))
theorem TDs.at_ {H : Hp} {α : Type} {f : α → PyData} {vs : List V} {es : List α} (h : TDs H vs (es.map f)) {i : Nat} {v : V} (e : vs[i]? = some v) : ∃ x, es[i]? = some x ∧ TD H v (f x) := by
  obtain ⟨d, ed, td⟩ := h.get e
  rw [List.getElem?_map] at ed
  obtain ⟨x, ex, rfl⟩ := Option.map_eq_some_iff.mp ed
  exact ⟨x, ex, td⟩
theorem TDs.lenm {H : Hp} {α : Type} {f : α → PyData} {vs : List V} {es : List α} (h : TDs H vs (es.map f)) : vs.length = es.length := by
  have := h.len
  rwa [List.length_map] at this
end My

-- ===== K15S =====
set_option Elab.async false
set_option linter.all false
set_option maxRecDepth 100000
set_option maxHeartbeats 4000000
namespace My
open PySem L2 PyProof.Rows PySem.Spec Kd
theorem rep01 {b : Bool} {l : Addr} {xs : List V} {H : Hp} {Q : VK} (hl : H l = some (.lst xs)) (hx : xs.length ≤ 1000) (q : ∀ p, H p = none → Q (.ref p) (upd H p (.lst (if b = true then xs else [])))) : rRep (.ref l) (.int (if b = true then 1 else 0)) H Q := by
  cases b with
  | true => exact ⟨l, 1, xs, rfl, rfl, hl, by decide, by decide, small_len (m := 1000) (by show xs.length * 1 ≤ _; omega), fun p hp => by
      have e : (List.replicate (1 : Int).toNat xs).flatten = xs := by simp
      rw [e]
      exact q p hp⟩
  | false => exact ⟨l, 0, xs, rfl, rfl, hl, by decide, by decide, small_len (m := 1000) (by show xs.length * 0 ≤ _; omega), fun p hp => q p hp⟩
theorem kst_new {H : Hp} {e1 e2 r : Addr} {i : Nat} (hi : i < 40) (c1 : H e1 = some (.tup [.str "add", .str "ok", .int (0 + (i : Int) + 1)])) (c2 : H e2 = some (.tup [.str "sub", .str "ok", .int (0 + (i : Int) - 1)]))
    (hr : H r = some (.tup ((if decide (0 + (i : Int) < 39) = true then [V.ref e1] else []) ++ (if decide (0 + (i : Int) > 0) = true then [V.ref e2] else [])))) : TD H (.ref r) (stateD (kSt i)) := by
  rw [Int.zero_add] at c1 c2 hr
  have g1 : decide ((i : Int) < 39) = decide (i < 39) := decide_eq_decide.mpr (by omega)
  have g2 : decide ((i : Int) > 0) = decide (0 < i) := decide_eq_decide.mpr (by omega)
  rw [g1, g2] at hr
  refine .tup hr ?_
  have u1 := TD.tup c1 (.cons (.str _) (.cons (.str _) (.cons (.int _) .nil)))
  have u2 := TD.tup c2 (.cons (.str _) (.cons (.str _) (.cons (.int _) .nil)))
  unfold kSt
  by_cases h1 : i < 39 <;> by_cases h2 : 0 < i
  · rw [decide_eq_true h1, decide_eq_true h2, if_pos h1, if_pos h2]
    exact .cons u1 (.cons u2 .nil)
  · rw [decide_eq_true h1, decide_eq_false h2, if_pos h1, if_neg h2]
    exact .cons u1 .nil
  · rw [decide_eq_false h1, decide_eq_true h2, if_neg h1, if_pos h2]
    exact .cons u2 .nil
  · omega
abbrev rTupO (K : PySem.W.Frag) : List V → Hp → VK → Prop := fun xs H Q => ∃ p ys, xs = [.ref p] ∧ ((SqL K H p ys ∧ ∀ l : Addr, H l = none → Q (.ref l) (upd H l (.tup ys))) ∨ SqT K H p ys ∧ Q (.ref p) H)
def spStates' : Sp := fun vs H Q _ => ∃ (p c : Addr) (ks : List Int) (w n : Int), vs = [.ref p] ∧ FeedAt H p c ks w n ∧ n < 900000 ∧
  ∀ (a : Addr) (ss : List (List Stp)) (ks' : List Int) (n' : Int) (H' : Hp), TD H' (.ref a) (statesD ss) → KOk ss → FeedAt H' p c ks' w n' → n' ≤ n + 100 → Save p c H H' → Q (.ref a) H'
section
variable {P : Program} {w : World} {K : PySem.W.Frag} {mg : Str → Option Value} {base : Heap}
abbrev nSt' : List Str := ["_law_deck_here", "_law_letter", "_law_purse", "_law_line", "_law_known", "_law_way", "_law_menus", "_law_some", "_law_many", "_law_found", "_law_state", "_law_event"]
theorem scSt' : FnScope nSt' ["_law_deck_here"] (defScope sLStates) := ⟨rfl, rfl, rfl, by decide +kernel, rfl, by decide +kernel, by decide +kernel⟩
theorem ok_lstates {f fP fD : Addr} {fd fdP fdD : FuncData} (F : Fun K "_law_states" "_law_states" sLStates f fd) (mtup : mg "tuple" = none) (mint : mg "int" = none) (mrange : mg "range" = none)
    (GP : FnOk P w K mg base CX0 2 fP fdP ["_law_deck_here", "_law_some"] spPick) (mP : mg "_law_pick" = some (.ref fP)) (kP : PySem.W.keepIn K (.ref fP) = true) (bP : Binds K fdP ["_law_deck_here", "_law_some"] [])
    (GD : FnOk P w K mg base CX0 1 fD fdD ["_law_deck_here", "_law_count"] spDigit) (mD : mg "_law_draw" = some (.ref fD)) (kD : PySem.W.keepIn K (.ref fD) = true) (bD : Binds K fdD ["_law_deck_here", "_law_count"] []) :
    FnOk P w K mg base CX0 3 f fd ["_law_deck_here"] spStates' := by
  refine F.ok scSt' (fun vs H Q E h => ?_) (fun cdv A outer s H vs Q E hr h => ?_)
  · obtain ⟨p, c, ks, y, n, rfl, _⟩ := h
    rfl
  · obtain ⟨p, c, ks, y, n, rfl, FA, hn, k⟩ := h
    have hu := hr.units
    have hr1 := hr.mono (show 1 ≤ 2 by omega)
    refine ⟨_, pss_cons (ps_set (i := 1) scSt'.nd rfl (Or.inl rfl) (ped_tup (pad_cons (ped_tup (pad_cons (ped_tup (pad_cons ped_str (pad_cons ped_str (pad_cons ped_int pad_nil)))) (pad_cons (ped_tup (pad_cons ped_str (pad_cons ped_str (pad_cons ped_int pad_nil)))) (pad_cons (ped_tup (pad_cons ped_str (pad_cons ped_str (pad_cons ped_int pad_nil)))) pad_nil)))) pad_nil)))
      (pss_cons (ps_set (i := 1) scSt'.nd rfl (Or.inl rfl) (pe_op op_catA (pv 1) (ped_tup (pad_cons (ped_tup (pad_cons (ped_tup (pad_cons ped_str (pad_cons ped_str (pad_cons ped_int pad_nil)))) (pad_cons (ped_tup (pad_cons ped_str (pad_cons ped_str (pad_cons ped_int pad_nil)))) (pad_cons (ped_tup (pad_cons ped_str (pad_cons ped_str (pad_cons ped_int pad_nil)))) pad_nil)))) pad_nil))))
      (pss_cons (ps_set (i := 2) scSt'.nd rfl (Or.inl rfl) (ped_tup (pad_cons (ped_tup (pad_cons (ped_tup (pad_cons ped_str (pad_cons ped_str (pad_cons ped_int pad_nil)))) (pad_cons (ped_tup (pad_cons ped_str (pad_cons ped_str (pad_cons ped_int pad_nil)))) pad_nil))) (pad_cons (ped_tup (pad_cons (ped_tup (pad_cons ped_str (pad_cons ped_str (pad_cons ped_int pad_nil)))) (pad_cons (ped_tup (pad_cons ped_str (pad_cons ped_str (pad_cons ped_int pad_nil)))) pad_nil))) (pad_cons (ped_tup (pad_cons (ped_tup (pad_cons ped_str (pad_cons ped_str (pad_cons ped_int pad_nil)))) pad_nil)) pad_nil)))))
      (pss_cons (ps_set (i := 3) scSt'.nd rfl (Or.inl rfl) (ped_tup (pad_cons (ped_tup (pad_cons (ped_tup (pad_cons ped_str (pad_cons ped_str (pad_cons ped_int pad_nil)))) (pad_cons (ped_tup (pad_cons ped_str (pad_cons ped_str (pad_cons ped_int pad_nil)))) pad_nil))) (pad_cons (ped_tup (pad_cons (ped_tup (pad_cons ped_str (pad_cons ped_str (pad_cons ped_int pad_nil)))) (pad_cons (ped_tup (pad_cons ped_str (pad_cons ped_str (pad_cons ped_int pad_nil)))) (pad_cons (ped_tup (pad_cons ped_str (pad_cons ped_str (pad_cons ped_int pad_nil)))) pad_nil)))) pad_nil))))
      (pss_cons (ps_set (i := 3) scSt'.nd rfl (Or.inl rfl) (pe_op op_catA (pv 3) (ped_tup (pad_cons (ped_tup (pad_cons (ped_tup (pad_cons ped_str (pad_cons ped_str (pad_cons ped_int pad_nil)))) (pad_cons (ped_tup (pad_cons ped_str (pad_cons ped_str (pad_cons ped_int pad_nil)))) (pad_cons (ped_tup (pad_cons ped_str (pad_cons ped_str (pad_cons ped_int pad_nil)))) pad_nil)))) (pad_cons (ped_tup (pad_cons (ped_tup (pad_cons ped_str (pad_cons ped_str (pad_cons ped_int pad_nil)))) pad_nil)) (pad_cons (ped_tup (pad_cons (ped_tup (pad_cons ped_str (pad_cons ped_str (pad_cons ped_int pad_nil)))) pad_nil)) pad_nil))))))
      (pss_cons (ps_set (i := 3) scSt'.nd rfl (Or.inl rfl) (pe_op op_catA (pv 3) (ped_tup (pad_cons (ped_tup (pad_cons (ped_tup (pad_cons ped_str (pad_cons ped_str (pad_cons ped_int pad_nil)))) pad_nil)) (pad_cons (ped_tup (pad_cons (ped_tup (pad_cons ped_str (pad_cons ped_str (pad_cons ped_int pad_nil)))) pad_nil)) pad_nil)))))
      (pss_cons (ps_set (i := 4) scSt'.nd rfl (Or.inl rfl) (pe_lst (pa_cons (pv 1) (pa_cons (pv 2) (pa_cons (pv 3) pa_nil)))))
      (pss_cons (ps_set (i := 5) scSt'.nd rfl (Or.inl rfl) (pe_call GD hr1 (by rfl) mD kD bD .nil pass0 (pa_cons (pv 0) (pa_cons pe_int pa_nil))))
      (pss_cons (ps_if (pt_cmpR op_lt (pv 5) pe_int (nomark _)) (pss_one (ps_ret (pe_ix (r := rIxL K) ix_list (pv 4) (pv 5) (fun _ _ => rfl)))) pss_nil)
      (pss_cons (ps_set (i := 6) scSt'.nd rfl (Or.inl rfl) (pe_lst (pa_cons (pe_lst (pad_cons (ped_tup (pad_cons ped_str (pad_cons ped_str pad_nil))) (pad_cons (ped_tup (pad_cons ped_str (pad_cons ped_str pad_nil))) (pad_cons (ped_tup (pad_cons ped_str (pad_cons ped_str pad_nil))) (pad_cons (ped_tup (pad_cons ped_str (pad_cons ped_str pad_nil))) pad_nil))))) (pa_cons (pe_lst (pad_cons (ped_tup (pad_cons ped_str (pad_cons ped_str pad_nil))) (pad_cons (ped_tup (pad_cons ped_str (pad_cons ped_str pad_nil))) (pad_cons (ped_tup (pad_cons ped_str (pad_cons ped_str pad_nil))) pad_nil)))) pa_nil))))
      (pss_cons (ps_asg (pe_tup (pa_cons (pe_call GP hr (by rfl) mP kP bP .nil pass0 (pa_cons (pv 0) (pa_cons (pv 6) pa_nil))) (pa_cons (pe_op op_add pe_int (pe_call GD hr1 (by rfl) mD kD bD .nil pass0 (pa_cons (pv 0) (pa_cons pe_int pa_nil)))) pa_nil)))
          (pg_tup (by rfl) (pgs_cons (pg_name (i := 7) scSt'.nd rfl (Or.inl rfl)) (pgs_cons (pg_name (i := 8) scSt'.nd rfl (Or.inr rfl)) pgs_nil))))
      (pss_cons (ps_set (i := 9) scSt'.nd rfl (Or.inl rfl) (pe_lst pa_nil))
      (pss_cons (ps_for PassesOwn.never rfl (pi_range1 (by rfl) mrange (pa_cons (pv 8) pa_nil)) (pg_name (i := 10) scSt'.nd rfl (Or.inl rfl))
        (pss_one (ps_expr (pe_bm PySem.F.plainAttrs_list PySem.F.slot_list_append PySem.F.type_list_append mt_append (pv 9) (pa_cons (pe_callTy call_tuple_of (by rfl) mtup (by decide +kernel) (pa_cons
          (pe_lc (own := [("_law_event", 11)]) (g := gName 11) rfl scSt'.nd (pi_list (pv 7)) (blkOk_by (N := nSt') (sc := defScope sLStates) (by decide +kernel))
            (fun _ _ _ _ _ => pg_name (i := 11) scSt'.nd rfl (Or.inl rfl)) (fun _ _ _ _ _ => pts_one (pt_cmpR op_gt (pe_call GD hr1 (by rfl) mD kD bD .nil pass0 (pa_cons (pv 0) (pa_cons pe_int pa_nil))) pe_int (nomark _)))
            (fun _ _ _ _ _ => pe_op op_catA (pv 11) (pe_tup (pa_cons (pe_call GD hr1 (by rfl) mD kD bD .nil pass0 (pa_cons (pv 0) (pa_cons (pv 8) pa_nil))) pa_nil)))) pa_nil)) pa_nil)))))
      (pss_one (ps_ret (pe_callTy call_tuple_of (by rfl) mtup (by decide +kernel) (pa_cons (pv 9) pa_nil)))))))))))))))), ?_⟩
    have n0 := FA.n0
    -- the cell
    refine fun v1 H1 s1 t1 => ?_
    obtain ⟨a1, x1, rfl, ha1, tx1⟩ := t1.ref_of
    refine ⟨_, rfl, fun v2 H2 s2 t2 => ?_⟩
    obtain ⟨b1, y1, rfl, hb1, ty1⟩ := t2.ref_of
    refine ⟨a1, b1, x1, y1, rfl, rfl, s2 _ _ ha1, hb1, small_len (m := 10) (by rw [tx1.len, ty1.len]; decide), fun A1 H3 s3 hA1 => ?_⟩
    have tA : TD H3 (.ref A1) (statesD (kLet1 ++ kLet2)) := .tup hA1 (TDs.app (tx1.to (Tup.of (s2.trans s3))) (ty1.to (Tup.of s3)))
    have q3 : Same H H3 := s1.trans (s2.trans s3)
    clear tx1 ty1 hA1 ha1 hb1 t1 t2 s1 s2 s3
    -- the purse
    refine fun v4 H4 s4 t4 => ?_
    obtain ⟨A2, x4, rfl, ha4, tx4⟩ := t4.ref_of
    have tB : TD H4 (.ref A2) (statesD kPur) := t4
    clear tx4 ha4 t4
    -- the row
    refine fun v5 H5 s5 t5 => ?_
    obtain ⟨a5, x5, rfl, ha5, tx5⟩ := t5.ref_of
    refine ⟨_, rfl, fun v6 H6 s6 t6 => ?_⟩
    obtain ⟨b6, y6, rfl, hb6, ty6⟩ := t6.ref_of
    refine ⟨a5, b6, x5, y6, rfl, rfl, s6 _ _ ha5, hb6, small_len (m := 10) (by rw [tx5.len, ty6.len]; decide), fun A7 H7 s7 hA7 => ?_⟩
    have tx7 := TDs.app (tx5.to (Tup.of (s6.trans s7))) (ty6.to (Tup.of s7))
    clear tx5 ty6 ha5 hb6 t5 t6
    refine ⟨_, rfl, fun v8 H8 s8 t8 => ?_⟩
    obtain ⟨b8, y8, rfl, hb8, ty8⟩ := t8.ref_of
    refine ⟨A7, b8, _, y8, rfl, rfl, s8 _ _ hA7, hb8, small_len (m := 10) (by rw [tx7.len, ty8.len]; decide), fun A3 H9 s9 hA3 => ?_⟩
    have tC_ : TD H9 (.ref A3) (statesD ((kLin1 ++ kLin2) ++ kLin3)) := .tup hA3 (TDs.app (tx7.to (Tup.of (s8.trans s9))) (ty8.to (Tup.of s9)))
    have q39 : Same H3 H9 := s4.trans (s5.trans (s6.trans (s7.trans (s8.trans s9))))
    have tA := tA.to (Tup.of q39)
    have tB := tB.to (Tup.of (s5.trans (s6.trans (s7.trans (s8.trans s9)))))
    have q9 := q3.trans q39
    clear tx7 ty8 hA7 hA3 hb8 t8 s4 s5 s6 s7 s8 s9 q39 q3
    refine ⟨_, rfl, _, rfl, _, rfl, by show 3 ≤ sizeLine; decide, fun Kn hKn => ?_⟩
    have sB := same_new (o := .lst [V.ref A1, .ref A2, .ref A3]) hKn
    have aK : (upd H9 Kn (.lst [V.ref A1, .ref A2, .ref A3])) Kn = some (.lst [V.ref A1, .ref A2, .ref A3]) := upd_same
    generalize upd H9 Kn (.lst [V.ref A1, .ref A2, .ref A3]) = Hb at sB aK ⊢
    have tA := tA.to (Tup.of sB)
    have tB := tB.to (Tup.of sB)
    have tC := tC_.to (Tup.of sB)
    have q := q9.trans sB
    have FB := FA.same q
    clear sB FA q9
    have Knp : Kn ≠ p := fun z => by
      rw [z, FB.ob] at aK
      cases aK
    have Knc : Kn ≠ c ∨ True := .inr trivial
    -- way
    refine ⟨_, rfl, p, c, ks, y, n, 6, rfl, FB, by omega, by decide, by decide, fun wy ks1 H10 w0 w7 FC sv10 => ?_⟩
    have tA := tA.to (Save.tup FB sv10)
    have tB := tB.to (Save.tup FB sv10)
    have tC := tC.to (Save.tup FB sv10)
    have svC := (Save.of (p := p) (c := c) q).trans sv10
    refine ⟨_, rfl, _, _, rfl, rfl, _, rfl, ?_⟩
    by_cases w4 : wy < 3
    · rw [decide_eq_true w4]
      have kl : Kn ≠ c := fun z => by
        rw [z, FB.cs] at aK
        cases ks with
        | nil => cases aK
        | cons k r => injection aK with e; injection e with e; cases e
      have aK := sv10 _ _ aK Knp kl
      refine iteT ⟨_, rfl, _, rfl, Kn, [V.ref A1, .ref A2, .ref A3], wy, ?_⟩
      obtain rfl | rfl | rfl : wy = 0 ∨ wy = 1 ∨ wy = 2 := by omega
      · exact ⟨_, rfl, rfl, SqL.of aK, rfl, k _ _ _ _ _ tA kok_let FC (by omega) svC⟩
      · exact ⟨_, rfl, rfl, SqL.of aK, rfl, k _ _ _ _ _ tB kok_pur FC (by omega) svC⟩
      · exact ⟨_, rfl, rfl, SqL.of aK, rfl, k _ _ _ _ _ tC kok_lin FC (by omega) svC⟩
    · rw [decide_eq_false w4]
      refine iteF ?_
      clear tA tB tC
      -- the menus
      refine fun r1 Hc sc tc => ⟨small_len (m := 10) (by rw [tc.len]; decide), fun m1 hm1 => ?_⟩
      have tm1 : TDs (upd Hc m1 (.lst r1)) r1 (MN1.map evD) := tc.to (Tup.new hm1)
      have sm1 := sc.trans (same_new (o := .lst r1) hm1)
      have am1 : (upd Hc m1 (.lst r1)) m1 = some (.lst r1) := upd_same
      have fm1 : H10 m1 = none := sc.free hm1
      generalize upd Hc m1 (.lst r1) = Hd at tm1 sm1 am1 ⊢
      refine fun r2 He se te => ⟨small_len (m := 10) (by rw [te.len]; decide), fun m2 hm2 => ?_⟩
      have tm2 : TDs (upd He m2 (.lst r2)) r2 (MN2.map evD) := te.to (Tup.new hm2)
      have sm2 := se.trans (same_new (o := .lst r2) hm2)
      have am2 : (upd He m2 (.lst r2)) m2 = some (.lst r2) := upd_same
      have fm2 : H10 m2 = none := (sm1.trans se).free hm2
      generalize upd He m2 (.lst r2) = Hf at tm2 sm2 am2 ⊢
      refine ⟨by show 2 ≤ sizeLine; decide, fun Mn hMn => ?_⟩
      have sm3 := same_new (o := .lst [V.ref m1, .ref m2]) hMn
      have aM : (upd Hf Mn (.lst [V.ref m1, .ref m2])) Mn = some (.lst [V.ref m1, .ref m2]) := upd_same
      have fM : H10 Mn = none := (sm1.trans sm2).free hMn
      have tm1 := tm1.to (Tup.of (sm2.trans sm3))
      have tm2 := tm2.to (Tup.of sm3)
      have am1 := (sm2.trans sm3) _ _ am1
      have am2 := sm3 _ _ am2
      have sM := sm1.trans (sm2.trans sm3)
      generalize upd Hf Mn (.lst [V.ref m1, .ref m2]) = Hg at tm1 tm2 am1 am2 aM sM ⊢
      have FG := FC.same sM
      have nope : ∀ x : Addr, H10 x = none → x ≠ p ∧ x ≠ c := fun x z => ⟨fun q => by (rw [q, FC.ob] at z; cases z), fun q => by (rw [q, FC.cs] at z; cases z)⟩
      refine ⟨_, rfl, _, rfl, p, c, Mn, _, ks1, y, n + 1, rfl, FG, by omega, aM, (nope _ fM).1, (nope _ fM).2, by show 1 ≤ 2; decide, by show 2 ≤ 100; decide, fun x ks2 H11 mx FH sv11 => ?_⟩
      obtain ⟨L, es, mv, rfl, hL, tL, mo, Lp, Lc⟩ : ∃ (L : Addr) (es : List Ev) (mv : List V), x = .ref L ∧ H11 L = some (.lst mv) ∧ TDs H11 mv (es.map evD) ∧ MOk es ∧ L ≠ p ∧ L ≠ c := by
        rcases List.mem_cons.mp mx with rfl | mx
        · exact ⟨m1, MN1, r1, rfl, sv11 _ _ am1 (nope _ fm1).1 (nope _ fm1).2, tm1.to (Save.tup FG sv11), mok1, (nope _ fm1).1, (nope _ fm1).2⟩
        · rw [List.mem_singleton.mp mx]
          exact ⟨m2, MN2, r2, rfl, sv11 _ _ am2 (nope _ fm2).1 (nope _ fm2).2, tm2.to (Save.tup FG sv11), mok2, (nope _ fm2).1, (nope _ fm2).2⟩
      have svH := (svC.trans (Save.of sM)).trans sv11
      clear tm1 tm2 am1 am2 sm1 sm2 sm3 tc te sc se mx aM
      refine ⟨_, rfl, p, c, ks2, y, n + 1 + 1, 4, rfl, FH, by omega, by decide, by decide, fun d ks3 H12 d0 d4 FI sv12 => ⟨1, d, rfl, rfl, by show 2 ≤ sizeLine; decide, fun t ht => ?_⟩⟩
      refine ⟨t, _, rfl, SqT.of upd_same, rfl, _, _, rfl, _, _, rfl, rfl, ?_⟩
      have sB := same_new (o := .tup [V.ref L, .int (1 + d)]) ht
      have hL := sB _ _ (sv12 _ _ hL Lp Lc)
      have tL := (tL.to (Save.tup FH sv12)).to (Tup.of sB)
      have FI := FI.same sB
      have svI := (svH.trans sv12).trans (Save.of sB)
      generalize upd H12 t (.tup [V.ref L, .int (1 + d)]) = H13 at hL tL FI svI ⊢
      clear svH sB svC sv11 sv12 FH FG FC FB
      refine ⟨by show 0 ≤ sizeLine; decide, fun fo hfo => ?_⟩
      have fop : fo ≠ p := Ne.symm (ne_of_none FI.ob hfo)
      have foc : fo ≠ c := Ne.symm (ne_of_none FI.cs hfo)
      have fo0 : H fo = none := svI.free hfo fop foc
      have FJ := FI.wr (o := .lst []) fop foc
      have svJ := svI.wr (o := .lst []) fo0
      have hLJ := same_new (o := .lst []) hfo _ _ hL
      have tLJ := tL.to (Tup.new (o := .lst []) hfo)
      have afo : (upd H13 fo (.lst [])) fo = some (.lst []) := upd_same
      have Lfo : L ≠ fo := ne_of_none hL hfo
      generalize upd H13 fo (.lst []) = H14 at FJ svJ hLJ tLJ afo ⊢
      have lm := tLJ.lenm
      have few := mo.few
      refine ⟨_, rfl, 1 + d, rfl, by omega, by omega, for_range (lo := 0) (n := (1 + d).toNat) (fun j σ H2 => ∃ (o11 : Option V) (ks' : List Int) (n' : Int) (vs : List V) (ss : List (List Stp)), σ = [some (.ref p), some (.ref A1), some (.ref A2), some (.ref A3), some (.ref Kn), some (.int wy), some (.ref Mn), some (.ref L), some (.int (1 + d)), some (.ref fo), o11, none] ∧
          FeedAt H2 p c ks' y n' ∧ n' ≤ n + 3 + 8 * (j : Int) ∧ Save p c H H2 ∧ H2 L = some (.lst mv) ∧ TDs H2 mv (es.map evD) ∧ H2 fo = some (.lst vs) ∧ TDs H2 vs (ss.map stateD) ∧ ss.length = j ∧ ∀ st ∈ ss, StOk (1 + d).toNat st ∧ ∀ x ∈ st, evOf x ∈ es)
        ⟨none, ks3, n + 1 + 1 + 1, [], [], rfl, FJ, by omega, svJ, hLJ, tLJ, afo, .nil, rfl, fun st m => nomatch m⟩ ?_ ?_⟩
      · rintro j σ H2 hj ⟨o11, ks4, n4, vs, ss, rfl, F2, le2, sv2, hL2, tL2, fo2, tv2, sl, so⟩
        refine ⟨_, rfl, .inl ⟨rfl, _, SqL.of fo2⟩, _, rfl, L, rfl, ⟨_, SqL.of hL2⟩, fun D2 hD2 => lc_list (K := K) (a := L) (xs := mv) (fun i H3 => ∃ (ks5 : List Int) (n5 : Int) (us : List V) (st : List Stp), FeedAt H3 p c ks5 y n5 ∧ n5 ≤ n4 + 2 * (i : Int) ∧ Save p c H2 H3 ∧ H3 D2 = some (.lst us) ∧ TDs H3 us (st.map stepD) ∧ (st.map evOf).Sublist (es.take i) ∧ ∀ x ∈ st, StpOk (1 + d).toNat x) ?_ (fun i H3 _ ⟨_, _, _, _, _, _, s3, _⟩ => SqL.of (s3 _ _ hL2 Lp Lc)) (fun i x H3 ex ⟨ks5, n5, us, st, F3, le3, sv3, d3, tu3, sub3, ok3⟩ => ?_) fun H3 ⟨ks5, n5, us, st, F3, le3, sv3, d3, tu3, sub3, ok3⟩ => ?_⟩
        · have dp : D2 ≠ p := Ne.symm (ne_of_none F2.ob hD2)
          have dc : D2 ≠ c := Ne.symm (ne_of_none F2.cs hD2)
          exact ⟨ks4, n4, [], [], F2.wr dp dc, by omega, (Save.refl p c H2).wr hD2, upd_same, .nil, by simp, (fun x m => nomatch m)⟩
        · have dp : D2 ≠ p := Ne.symm (ne_of_none F2.ob hD2)
          have dc : D2 ≠ c := Ne.symm (ne_of_none F2.cs hD2)
          obtain ⟨e, ee, te⟩ := tL2.at_ ex
          have lt : i < es.length := (List.getElem?_eq_some_iff.mp ee).1
          obtain ⟨b, rfl, hb⟩ := ev_of te
          have hb3 := Save.tup F2 sv3 _ _ hb
          have vl := tu3.lenm
          have sl3 := sub3.length_le
          rw [List.length_map, List.length_take] at sl3
          refine ⟨rfl, _, rfl, p, c, ks5, y, n5, 4, rfl, F3, by omega, by omega, by omega, fun d' ks8 H8 d0' d3' FA8 sv8 => ⟨d', 0, rfl, rfl, _, rfl, ?_⟩⟩
          by_cases pos : 0 < d'
          · rw [decide_eq_true pos]
            refine iteT ?_
            refine ⟨_, rfl, _, rfl, _, rfl, p, c, ks8, y, n5 + 1, 1 + d, rfl, FA8, by omega, by omega, by omega, fun d2 ks9 H9 d20 d21 FA9 sv9 => ⟨by show 1 ≤ sizeLine; decide, fun t1 ht1 => ?_⟩⟩
            have hb10 := same_new (o := .tup [V.int d2]) ht1 _ _ ((Save.tup FA8 sv9) _ _ ((Save.tup F3 sv8) _ _ hb3))
            refine ⟨b, t1, [.str e.1, .str e.2], [.int d2], rfl, rfl, hb10, upd_same, by show 3 ≤ sizeLine; decide, fun b2 H11 s11 at2 => ?_⟩
            have sn := (same_new (o := .tup [V.int d2]) ht1).trans s11
            have d11 := sn _ _ (sv9 _ _ (sv8 _ _ d3 dp dc) dp dc)
            have tp : Tup H11 (upd H11 D2 (.lst (us ++ [.ref b2]))) := Tup.at_ d11 fun xs z => nomatch z
            have tall : Tup H3 H11 := ((Save.tup F3 sv8).trans (Save.tup FA8 sv9)).trans (Tup.of sn)
            have em : e ∈ es := List.mem_of_getElem? ee
            refine ⟨us, d11, small_lt (m := 24) (by omega), ks9, n5 + 2, us ++ [.ref b2], st ++ [(e.1, e.2, d2)], ?_, by omega, (((sv3.trans sv8).trans sv9).trans (Save.of sn)).wr hD2, upd_same, ?_, ?_, fun x mx => ?_⟩
            · have z := (FA9.same sn).wr (o := .lst (us ++ [.ref b2])) dp dc
              rwa [show n5 + 1 + 1 = n5 + 2 by omega] at z
            · rw [List.map_append]
              exact TDs.snoc (.tup (tp _ _ at2) (.cons (.str _) (.cons (.str _) (.cons (.int _) .nil)))) ((tu3.to tall).to tp)
            · rw [List.map_append, List.take_succ, ee, Option.toList_some]
              exact sub3.append (List.Sublist.refl [e])
            · rcases List.mem_append.mp mx with q | q
              · exact ok3 x q
              · rw [List.mem_singleton.mp q]
                refine ⟨(mo.wr e em).1, (mo.wr e em).2, d20, ?_⟩
                rw [Int.toNat_of_nonneg (by omega)]
                exact d21
          · rw [decide_eq_false pos]
            refine iteF ⟨ks8, n5 + 1, us, st, FA8, by omega, sv3.trans sv8, sv8 _ _ d3 dp dc, tu3.to (Save.tup F3 sv8), ?_, ok3⟩
            rw [List.take_succ]
            exact sub3.trans (List.sublist_append_left _ _)
        · have sub8 := sub3.trans (List.take_sublist _ _)
          have sl7 := sub8.length_le
          rw [List.length_map] at sl7
          have f7 := sv3 _ _ fo2 fop foc
          have vl6 := tv2.lenm
          refine ⟨D2, us, rfl, .inl ⟨SqL.of d3, fun b hb => ?_⟩⟩
          have f8 := same_new (o := .tup us) hb _ _ f7
          have tp : Tup (upd H3 b (.tup us)) (upd (upd H3 b (.tup us)) fo (.lst (vs ++ [.ref b]))) := Tup.at_ f8 fun xs z => nomatch z
          have tn : Tup H3 (upd H3 b (.tup us)) := Tup.of (same_new hb)
          have t67 := Save.tup F2 sv3
          refine ⟨fo, vs, _, rfl, rfl, f8, small_lt (m := 40) (by omega), ⟨_, ks5, n5, vs ++ [.ref b], ss ++ [st], rfl, (F3.same (same_new hb)).wr fop foc, by omega, ((sv2.trans sv3).trans (Save.of (same_new hb))).wr fo0, ?_, ?_, upd_same, ?_, ?_, ?_⟩⟩
          · rw [upd_ne Lfo]
            exact same_new hb _ _ (sv3 _ _ hL2 Lp Lc)
          · exact ((tL2.to t67).to tn).to tp
          · rw [List.map_append]
            exact TDs.snoc (.tup (tp _ _ upd_same) ((tu3.to tn).to tp)) (((tv2.to t67).to tn).to tp)
          · rw [List.length_append, sl]
            rfl
          · intro st' ms
            rcases List.mem_append.mp ms with q | q
            · exact so st' q
            · rw [List.mem_singleton.mp q]
              exact ⟨⟨ok3, List.Pairwise.sublist sub8 mo.asc, by omega⟩, fun x mx => sub8.subset (List.mem_map.mpr ⟨x, mx, rfl⟩)⟩
      · rintro σ H2 ⟨o11, ks4, n4, vs, ss, rfl, F2, le2, sv2, hL2, tL2, fo2, tv2, sl, so⟩
        refine ⟨_, rfl, fo, vs, rfl, .inl ⟨SqL.of fo2, fun b hb => k b ss ks4 n4 _ (.tup upd_same (tv2.to (Tup.new hb))) ⟨by omega, by omega, fun st ms => ?_, es, by omega, fun st ms x mx => (so st ms).2 x mx⟩ (F2.same (same_new hb)) (by omega) (sv2.trans (Save.of (same_new hb)))⟩⟩
        rw [sl]
        exact (so st ms).1
end
end My

-- ===== K15T =====
set_option Elab.async false
set_option linter.all false
set_option maxRecDepth 100000
set_option maxHeartbeats 4000000
namespace My
open PySem L2 PyProof.Rows PySem.Spec Kd
def spSystem : Sp := fun vs H Q _ => ∃ (p c : Addr) (ks : List Int) (w n : Int), vs = [.ref p] ∧ FeedAt H p c ks w n ∧ n < 890000 ∧
  ∀ (O : Addr) (ov : List V) (sss : List (List (List Stp))) (ks' : List Int) (n' : Int) (H' : Hp), H O = none → H' O = some (.lst ov) → TDs H' ov (sss.map statesD) → 1 ≤ sss.length → sss.length ≤ 4 → (∀ ss ∈ sss, KOk ss) → FeedAt H' p c ks' w n' → n' ≤ n + 500 → Save p c H H' → Q (.ref O) H'
def spEvents : Sp := fun vs H Q _ => ∃ (a : Addr) (ss : List (List Stp)), vs = [.ref a] ∧ TD H (.ref a) (statesD ss) ∧ KOk ss ∧
  ∀ (R : Addr) (rv : List V) (es : List Ev) (H' : Hp), Same H H' → H R = none → H' R = some (.lst rv) → TDs H' rv (es.map evD) → es.length ≤ 64 → (∀ e ∈ es, Wrd e.1 ∧ Wrd e.2 ∧ EvIn ss e) → Q (.ref R) H'
def spDid : Sp := fun vs H Q _ => ∃ (p c O : Addr) (ks : List Int) (w n : Int) (ov : List V) (sss : List (List (List Stp))), vs = [.ref p, .ref O] ∧ FeedAt H p c ks w n ∧ n < 900000 ∧ H O = some (.lst ov) ∧ TDs H ov (sss.map statesD) ∧ 1 ≤ sss.length ∧ sss.length ≤ 4 ∧ (∀ ss ∈ sss, KOk ss) ∧ O ≠ p ∧ O ≠ c ∧
  (∀ (ks' : List Int) (n' : Int) (H' : Hp), FeedAt H' p c ks' w n' → n' ≤ n + 2 → Save p c H H' → Q .non H') ∧
  ∀ (t : Addr) (i : Int) (x y : Str) (ks' : List Int) (n' : Int) (H' : Hp), H' t = some (.tup [.int i, .str x, .str y]) → EvOf sss (i, x, y) → FeedAt H' p c ks' w n' → n' ≤ n + 2 → Save p c H H' → Q (.ref t) H'
theorem rows_evs {H : Hp} {Pr : Ev → Prop} : ∀ M : List (Addr × List Key), (∀ q ∈ M, H q.1 = some (.tup (q.2.map kV)) ∧ ∃ e : Ev, q.2 = evK e ∧ Wrd e.1 ∧ Wrd e.2 ∧ Pr e) → ∃ es : List Ev, TDs H (M.map fun q => V.ref q.1) (es.map evD) ∧ es.length = M.length ∧ ∀ e ∈ es, Wrd e.1 ∧ Wrd e.2 ∧ Pr e
  | [], _ => ⟨[], .nil, rfl, fun e m => nomatch m⟩
  | q :: M, h => by
    obtain ⟨es, h1, h2, h3⟩ := rows_evs M fun r m => h r (List.mem_cons_of_mem _ m)
    obtain ⟨a, e, ee, w1, w2, w3⟩ := h q List.mem_cons_self
    rw [ee] at a
    refine ⟨e :: es, .cons (ev_new a) h1, by rw [List.length_cons, List.length_cons, h2], fun x m => ?_⟩
    rcases List.mem_cons.mp m with rfl | m
    · exact ⟨w1, w2, w3⟩
    · exact h3 x m
theorem evs_list (es : List Ev) : (es.map evK).map tD = es.map evD := by
  rw [List.map_map]
  rfl
theorem eqv_evs (es : List Ev) : PyData.eqv (.list (es.map evD)) (.list []) = es.isEmpty := by
  cases es with
  | nil => simp [PyData.eqv, PyData.eqvAll]
  | cons e es => simp [PyData.eqv, PyData.eqvAll]
section
variable {P : Program} {w : World} {K : PySem.W.Frag} {mg : Str → Option Value} {base : Heap}
abbrev nSy : List Str := ["_law_deck_here", "_law_k"]
theorem scSy : FnScope nSy ["_law_deck_here"] (defScope sSystem) := ⟨rfl, rfl, rfl, by decide +kernel, rfl, by decide +kernel, by decide +kernel⟩
theorem ok_system {f fS fD : Addr} {fd fdS fdD : FuncData} (F : Fun K "_law_system" "_law_system" sSystem f fd) (mrange : mg "range" = none)
    (GS : FnOk P w K mg base CX0 3 fS fdS ["_law_deck_here"] spStates') (mS : mg "_law_states" = some (.ref fS)) (kS : PySem.W.keepIn K (.ref fS) = true) (bS : Binds K fdS ["_law_deck_here"] [])
    (GD : FnOk P w K mg base CX0 1 fD fdD ["_law_deck_here", "_law_count"] spDigit) (mD : mg "_law_draw" = some (.ref fD)) (kD : PySem.W.keepIn K (.ref fD) = true) (bD : Binds K fdD ["_law_deck_here", "_law_count"] []) :
    FnOk P w K mg base CX0 4 f fd ["_law_deck_here"] spSystem := by
  refine F.ok scSy (fun vs H Q E h => ?_) (fun cdv A outer s H vs Q E hr h => ?_)
  · obtain ⟨p, c, ks, y, n, rfl, _⟩ := h
    rfl
  · obtain ⟨p, c, ks, y, n, rfl, FA, hn, k⟩ := h
    have hr1 := hr.mono (show 1 ≤ 3 by omega)
    refine ⟨_, pss_one (ps_ret (pe_lc (own := [("_law_k", 1)]) (g := gName 1) (tt := tYes) rfl scSy.nd (pi_range1 (by rfl) mrange (pa_cons (pe_op op_add pe_int (pe_call GD hr1 (by rfl) mD kD bD .nil pass0 (pa_cons (pv 0) (pa_cons pe_int pa_nil)))) pa_nil)) (blkOk_by (N := nSy) (sc := defScope sSystem) (by decide +kernel))
        (fun _ _ _ _ _ => pg_name (i := 1) scSy.nd rfl (Or.inl rfl)) (fun _ _ _ _ _ => pts_nil) (fun _ _ _ _ _ => pe_call GS hr (by rfl) mS kS bS .nil pass0 (pa_cons (pv 0) pa_nil)))), ?_⟩
    have n0 := FA.n0
    refine ⟨_, rfl, p, c, ks, y, n, 3, rfl, FA, by omega, by decide, by decide, fun d ks1 H1 d0 d4 FA1 sv1 => ⟨1, d, rfl, rfl, ?_⟩⟩
    refine ⟨1 + d, rfl, by omega, by omega, fun D hD => lc_range (lo := 0) (n := (1 + d).toNat) (fun i H2 => ∃ (vs : List V) (sss : List (List (List Stp))) (ks2 : List Int) (n2 : Int), H2 D = some (.lst vs) ∧ TDs H2 vs (sss.map statesD) ∧ sss.length = i ∧ (∀ ss ∈ sss, KOk ss) ∧ FeedAt H2 p c ks2 y n2 ∧ n2 ≤ n + 1 + 100 * (i : Int) ∧ Save p c H H2) ?_ (fun i H2 hi ⟨vs, sss, ks2, n2, d2, t2, l2, k2, FA2, le2, sv2⟩ => ?_) fun H2 ⟨vs, sss, ks2, n2, d2, t2, l2, k2, FA2, le2, sv2⟩ => ?_⟩
    · have dp : D ≠ p := Ne.symm (ne_of_none FA1.ob hD)
      have dc : D ≠ c := Ne.symm (ne_of_none FA1.cs hD)
      exact ⟨[], [], ks1, n + 1, upd_same, .nil, rfl, (fun ss m => nomatch m), FA1.wr dp dc, by omega, sv1.wr (sv1.free hD dp dc)⟩
    · have dp : D ≠ p := Ne.symm (ne_of_none FA1.ob hD)
      have dc : D ≠ c := Ne.symm (ne_of_none FA1.cs hD)
      have D0 := sv1.free hD dp dc
      have vl := t2.lenm
      refine ⟨rfl, _, rfl, p, c, ks2, y, n2, rfl, FA2, by omega, fun a ss ks3 n3 H3 t3 k3 FA3 le3 sv3 => ?_⟩
      have d3 := sv3 _ _ d2 dp dc
      have tp : Tup H3 (upd H3 D (.lst (vs ++ [.ref a]))) := Tup.at_ d3 fun xs z => nomatch z
      refine ⟨vs, d3, small_lt (m := 4) (by omega), vs ++ [.ref a], sss ++ [ss], ks3, n3, upd_same, ?_, by rw [List.length_append, l2]; rfl, fun x m => ?_, FA3.wr dp dc, by omega, (sv2.trans sv3).wr D0⟩
      · rw [List.map_append]
        exact TDs.snoc (t3.to tp) ((t2.to (Save.tup FA2 sv3)).to tp)
      · rcases List.mem_append.mp m with m | m
        · exact k2 x m
        · rw [List.mem_singleton.mp m]
          exact k3
    · have dp : D ≠ p := Ne.symm (ne_of_none FA1.ob hD)
      have dc : D ≠ c := Ne.symm (ne_of_none FA1.cs hD)
      exact k D vs sss ks2 n2 H2 (sv1.free hD dp dc) d2 t2 (by omega) (by omega) k2 FA2 (by omega) sv2
abbrev nEv : List Str := ["_law_states_here", "_law_found", "_law_state", "_law_part"]
theorem scEv : FnScope nEv ["_law_states_here"] (defScope sLEvents) := ⟨rfl, rfl, rfl, by decide +kernel, rfl, by decide +kernel, by decide +kernel⟩
theorem ok_levents {f : Addr} {fd : FuncData} (F : Fun K "_law_events" "_law_events" sLEvents f fd) (mset : mg "set" = none) (msorted : mg "sorted" = none) :
    FnOk P w K mg base CX0 1 f fd ["_law_states_here"] spEvents := by
  refine F.ok scEv (fun vs H Q E h => ?_) (fun cdv A outer s H vs Q E hr h => ?_)
  · obtain ⟨a, ss, rfl, _⟩ := h
    rfl
  · obtain ⟨a, ss, rfl, ts, ko, k⟩ := h
    have hu := hr.units
    obtain ⟨sv, hs, tv⟩ := ts.tup_of
    have lsv := tv.lenm
    refine ⟨_, pss_cons (ps_set (i := 1) scEv.nd rfl (Or.inl rfl) (pe_lst pa_nil))
      (pss_cons (ps_for PassesOwn.never rfl (pi_tup (pv 0)) (pg_name (i := 2) scEv.nd rfl (Or.inl rfl))
        (pss_one (ps_set (i := 1) scEv.nd rfl (Or.inl rfl) (pe_op op_cat (pv 1) (pe_lc (own := [("_law_part", 3)]) (g := gName 3) (tt := tYes) rfl scEv.nd (pi_tup (pv 2)) (blkOk_by (N := nEv) (sc := defScope sLEvents) (by decide +kernel))
            (fun _ _ _ _ _ => pg_name (i := 3) scEv.nd rfl (Or.inl rfl)) (fun _ _ _ _ _ => pts_nil) (fun _ _ _ _ _ => pe_slice (r := rSlT K) sl_tup (pv 3) po_none (po_some pe_int)))))))
      (pss_one (ps_ret (pe_callB (cr_sortS rfl hu) (by rfl) msorted PyProof.Rows.boot_sorted (pa_cons (pe_callTy (cr_setOfD rfl hu) (by rfl) mset PyProof.Rows.boot_set (pa_cons (pv 1) pa_nil)) pa_nil))))), ?_⟩
    refine ⟨by show 0 ≤ sizeLine; decide, fun fo hfo => ?_⟩
    have s0 := same_new (o := .lst []) hfo
    have one := ko.one
    have most := ko.most
    obtain ⟨E0, few0, mem0⟩ := ko.evs
    refine ⟨_, rfl, a, rfl, ⟨_, SqT.of (s0 _ _ hs)⟩, for_tup (K := K) (a := a) (xs := sv) (fun i σ H2 => ∃ (o2 : Option V) (fo2 : Addr) (ks : List (Addr × List Key)), σ = [some (.ref a), some (.ref fo2), o2, none] ∧ Same H H2 ∧ H fo2 = none ∧ H2 fo2 = some (.lst (ks.map fun q => V.ref q.1)) ∧ ks.length ≤ 24 * i ∧
        ∀ q ∈ ks, H2 q.1 = some (.tup (q.2.map kV)) ∧ ∃ e : Ev, q.2 = evK e ∧ Wrd e.1 ∧ Wrd e.2 ∧ e ∈ E0 ∧ EvIn ss e)
      ⟨none, fo, [], rfl, s0, hfo, upd_same, Nat.zero_le _, fun q m => nomatch m⟩ (fun i σ H2 _ ⟨_, _, _, _, s2, _⟩ => SqT.of (s2 _ _ hs)) ?_ ?_⟩
    · rintro i x σ H2 ex ⟨o2, fo2, ks, rfl, s2, f2, hf2, kl, kq⟩
      obtain ⟨st, es, td⟩ := tv.at_ ex
      have mst := List.mem_of_getElem? es
      have lt : i < ss.length := (List.getElem?_eq_some_iff.mp es).1
      have so := ko.all st mst
      obtain ⟨b, xs, rfl, hb, tx⟩ := TD.ref_of td
      have lx := tx.lenm
      have few := so.few
      have hb2 := s2 _ _ hb
      refine ⟨_, rfl, _, rfl, b, rfl, ⟨_, SqT.of hb2⟩, fun D2 hD2 => lc_tup (K := K) (a := b) (xs := xs) (fun j H3 => Same H2 H3 ∧ ∃ ls : List (Addr × List Key), H3 D2 = some (.lst (ls.map fun q => V.ref q.1)) ∧ ls.length = j ∧ ∀ q ∈ ls, H3 q.1 = some (.tup (q.2.map kV)) ∧ ∃ e : Ev, q.2 = evK e ∧ Wrd e.1 ∧ Wrd e.2 ∧ e ∈ E0 ∧ EvIn ss e)
        ⟨same_new hD2, [], upd_same, rfl, fun q m => nomatch m⟩ (fun j H3 _ ⟨s3, _⟩ => SqT.of (s3 _ _ hb2)) (fun j x H3 ex3 ⟨s3, ls, d3, l3, q3⟩ => ?_) fun H3 ⟨s3, ls, d3, l3, q3⟩ => ?_⟩
      · obtain ⟨z, ez, tz⟩ := tx.at_ ex3
        have mz := List.mem_of_getElem? ez
        obtain ⟨b3, rfl, hz⟩ := step_of tz
        have hz3 := s3 _ _ (s2 _ _ hz)
        have lt3 : j < st.length := (List.getElem?_eq_some_iff.mp ez).1
        refine ⟨rfl, _, rfl, 2, rfl, b3, _, rfl, SqT.of hz3, (fun z => absurd (show HT.sIx 3 3 (some 2) = 3 from z.2) (by decide)), fun p hp => ⟨ls.map fun q => V.ref q.1, same_new hp _ _ d3, ?_, ?_, ls ++ [(p, evK (evOf z))], ?_, ?_, ?_⟩⟩
        · rw [List.length_map]
          exact small_lt (m := 24) (by omega)
        · exact same_at (s3.trans (same_new hp)) hD2
        · rw [upd_same, List.map_append]
          rfl
        · rw [List.length_append, l3]
          rfl
        · intro q hq
          have d4 := same_new (o := .tup (cutV [V.str z.1, V.str z.2.1, V.int z.2.2] none (some 2))) hp _ _ d3
          have tp : Tup (upd H3 p (.tup (cutV [V.str z.1, V.str z.2.1, V.int z.2.2] none (some 2)))) (upd (upd H3 p (.tup (cutV [V.str z.1, V.str z.2.1, V.int z.2.2] none (some 2)))) D2 (.lst ((ls.map fun q => V.ref q.1) ++ [.ref p]))) := Tup.at_ d4 fun xs z => nomatch z
          rcases List.mem_append.mp hq with m | m
          · exact ⟨tp _ _ (same_new hp _ _ (q3 q m).1), (q3 q m).2⟩
          · rw [List.mem_singleton.mp m]
            exact ⟨tp _ _ upd_same, evOf z, rfl, (so.all z mz).w1, (so.all z mz).w2, mem0 st mst z mz, st, mst, z, mz, rfl⟩
      · refine ⟨fo2, D2, _, _, rfl, rfl, s3 _ _ hf2, d3, ?_, fun q hq => ?_⟩
        · rw [List.length_map, List.length_map]
          exact small_len (m := 1000) (by omega)
        have sq := same_new (o := .lst ((ks.map fun q => V.ref q.1) ++ ls.map fun q => V.ref q.1)) hq
        refine ⟨_, q, ks ++ ls, rfl, s2.trans (s3.trans sq), (s2.trans s3).free hq, ?_, by rw [List.length_append]; omega, fun r m => ?_⟩
        · rw [upd_same, List.map_append]
        · rcases List.mem_append.mp m with m | m
          · exact ⟨sq _ _ (s3 _ _ (kq r m).1), (kq r m).2⟩
          · exact ⟨sq _ _ (q3 r m).1, (q3 r m).2⟩
    · rintro σ H2 ⟨o2, fo2, ks, rfl, s2, f2, hf2, kl, kq⟩
      refine ⟨_, rfl, fo2, ks, rfl, SqL.of hf2, fun q m => SqT.of (kq q m).1, ⟨E0.map evK, fun q m => ?_, by rw [List.length_map]; omega⟩, fun a2 L ha2 sub all nd => ?_⟩
      · obtain ⟨_, e, e1, _, _, e2, _⟩ := kq q m
        rw [e1]
        exact List.mem_map.mpr ⟨e, e2, rfl⟩
      have keep : ∀ q ∈ ks, (upd H2 a2 (SetO P w a2 L)) q.1 = some (.tup (q.2.map kV)) := fun q m => same_new ha2 _ _ (kq q m).1
      refine ⟨a2, L, rfl, upd_same, fun q m => SqT.of (keep q (sub q m)), ?_, ?_, fun L1 p pm less nd1 hp => ?_⟩
      · intro d hd d' hd'
        obtain ⟨q, m, rfl⟩ := List.mem_map.mp hd
        obtain ⟨r, m', rfl⟩ := List.mem_map.mp hd'
        obtain ⟨_, x, ex, _⟩ := kq q (sub q m)
        obtain ⟨_, y, ey, _⟩ := kq r (sub r m')
        rw [ex, ey]
        rfl
      · refine .inl fun d hd => ?_
        obtain ⟨q, m, rfl⟩ := List.mem_map.mp hd
        obtain ⟨_, x, ex, _⟩ := kq q (sub q m)
        rw [ex]
        exact ⟨_, _, rfl⟩
      have mem1 : ∀ q ∈ L1.mergeSort (PySem.W.dataLe false fun q : Addr × List Key => tD q.2), q ∈ ks := fun q m => sub q (pm.mem_iff.mp ((List.mergeSort_perm _ _).mem_iff.mp m))
      have lenM : (L1.mergeSort (PySem.W.dataLe false fun q : Addr × List Key => tD q.2)).length < 64 := by rw [List.length_mergeSort, pm.length_eq]; exact less
      generalize L1.mergeSort (PySem.W.dataLe false fun q : Addr × List Key => tD q.2) = M at mem1 lenM ⊢
      obtain ⟨es, t1, l1, w1⟩ := rows_evs (Pr := EvIn ss) (H := upd (upd H2 a2 (SetO P w a2 L)) p (.lst (M.map fun q => V.ref q.1))) M fun q m => ⟨same_new hp _ _ (keep q (mem1 q m)), let ⟨_, e, e1, e2, e3, _, e5⟩ := kq q (mem1 q m); ⟨e, e1, e2, e3, e5⟩⟩
      have sA := same_new (o := SetO P w a2 L) ha2
      exact k p _ es _ (s2.trans (sA.trans (same_new hp))) ((s2.trans sA).free hp) upd_same t1 (by omega) w1
abbrev nDi : List Str := ["_law_deck_here", "_law_machines", "_law_at", "_law_some"]
theorem scDi : FnScope nDi ["_law_deck_here", "_law_machines"] (defScope sDid) := ⟨rfl, rfl, rfl, by decide +kernel, rfl, by decide +kernel, by decide +kernel⟩
theorem ok_did {f fE fP fD : Addr} {fd fdE fdP fdD : FuncData} (F : Fun K "_law_did" "_law_did" sDid f fd) (mlen : mg "len" = none)
    (GE : FnOk P w K mg base CX0 1 fE fdE ["_law_states_here"] spEvents) (mE : mg "_law_events" = some (.ref fE)) (kE : PySem.W.keepIn K (.ref fE) = true) (bE : Binds K fdE ["_law_states_here"] [])
    (GP : FnOk P w K mg base CX0 2 fP fdP ["_law_deck_here", "_law_some"] spPick) (mP : mg "_law_pick" = some (.ref fP)) (kP : PySem.W.keepIn K (.ref fP) = true) (bP : Binds K fdP ["_law_deck_here", "_law_some"] [])
    (GD : FnOk P w K mg base CX0 1 fD fdD ["_law_deck_here", "_law_count"] spDigit) (mD : mg "_law_draw" = some (.ref fD)) (kD : PySem.W.keepIn K (.ref fD) = true) (bD : Binds K fdD ["_law_deck_here", "_law_count"] []) :
    FnOk P w K mg base CX0 3 f fd ["_law_deck_here", "_law_machines"] spDid := by
  refine F.ok scDi (fun vs H Q E h => ?_) (fun cdv A outer s H vs Q E hr h => ?_)
  · obtain ⟨p, c, O, ks, y, n, ov, sss, rfl, _⟩ := h
    rfl
  · obtain ⟨p, c, O, ks, y, n, ov, sss, rfl, FA, hn, hO, tO, o1, o4, ko, Op, Oc, k1, k2⟩ := h
    have hu := hr.units
    have hr1 := hr.mono (show 1 ≤ 2 by omega)
    refine ⟨_, pss_cons (ps_set (i := 2) scDi.nd rfl (Or.inl rfl) (pe_call GD hr1 (by rfl) mD kD bD .nil pass0 (pa_cons (pv 0) (pa_cons (pe_callB (r := rLenQ K) call_len_seq (by rfl) mlen PySem.boot_len (pa_cons (pv 1) pa_nil)) pa_nil))))
      (pss_cons (ps_set (i := 3) scDi.nd rfl (Or.inl rfl) (pe_call GE hr1 (by rfl) mE kE bE .nil pass0 (pa_cons (pe_ix (r := rIxL K) ix_list (pv 1) (pv 2) (fun _ _ => rfl)) pa_nil)))
      (pss_one (ps_ret (pe_ifExp (pt_cmpR (op_eqD hu) (pv 3) (pe_lst pa_nil) (nomark _)) pe_non (pe_op op_catA (pe_tup (pa_cons (pv 2) pa_nil)) (pe_call GP hr (by rfl) mP kP bP .nil pass0 (pa_cons (pv 0) (pa_cons (pv 3) pa_nil)))))))), ?_⟩
    have n0 := FA.n0
    have lov := tO.lenm
    refine ⟨_, rfl, _, rfl, O, ov, rfl, .inl (SqL.of hO), p, c, ks, y, n, _, rfl, FA, by omega, by omega, by omega, fun i ks1 H1 i0 i1 FA1 sv1 => ?_⟩
    have lti : i.toNat < ov.length := by omega
    have ev := atI_nat (List.getElem?_eq_getElem lti)
    rw [Int.toNat_of_nonneg i0] at ev
    have hO1 := sv1 _ _ hO Op Oc
    have tO1 := tO.to (Save.tup FA sv1)
    obtain ⟨ss, es_, ts⟩ := tO1.at_ (List.getElem?_eq_getElem lti)
    generalize ov[i.toNat] = v at ev ts
    have ks_ := ko ss (List.mem_of_getElem? es_)
    obtain ⟨a, xs, rfl, ha, hx⟩ := TD.ref_of (ds := ss.map stateD) ts
    refine ⟨_, rfl, _, rfl, O, ov, i, _, rfl, rfl, SqL.of hO1, ev, a, ss, rfl, ts, ks_, fun R rv es H2 s2 fR hR tR lR wR => ?_⟩
    refine ⟨_, rfl, by show 0 ≤ sizeLine; decide, fun e he => ?_⟩
    have s3 := same_new (o := .lst []) he
    have hR3 := s3 _ _ hR
    have tR3 := tR.to (Tup.of s3)
    have hE3 : (upd H2 e (.lst [])) e = some (.lst []) := upd_same
    generalize upd H2 e (.lst []) = H3 at s3 hR3 tR3 hE3 ⊢
    have sh := shaped_rows es fun e m => ⟨(wR e m).1, (wR e m).2.1⟩
    rw [evs_list] at sh
    have s13 := s2.trans s3
    have FA3 := FA1.same s13
    have sv3 := sv1.trans (Save.of s13)
    refine ⟨_, _, .lst (SqL.of hR3) (TDs.dp tR3), .lst (SqL.of hE3) .nil, sh, by decide, _, rfl, ?_⟩
    rw [eqv_evs]
    have Rp : R ≠ p := fun z => by rw [z, FA1.ob] at fR; cases fR
    have Rc : R ≠ c := fun z => by rw [z, FA1.cs] at fR; cases fR
    cases es with
    | nil => exact iteT (k1 ks1 (n + 1) _ FA3 (by omega) sv3)
    | cons e0 es =>
      have lrv := tR3.lenm
      rw [List.length_cons] at lrv lR
      refine iteF ⟨_, rfl, by show 1 ≤ sizeLine; decide, fun q hq => ?_⟩
      have s4 := same_new (o := .tup [V.int i]) hq
      have FA4 := FA3.same s4
      refine ⟨_, rfl, _, rfl, p, c, R, rv, ks1, y, n + 1, rfl, FA4, by omega, s4 _ _ hR3, Rp, Rc, by omega, by omega, fun x ks2 H5 mx FA5 sv5 => ?_⟩
      obtain ⟨j, ej⟩ := List.getElem?_of_mem mx
      obtain ⟨e1, ee1, te1⟩ := tR3.at_ ej
      obtain ⟨t1, rfl, ht1⟩ := ev_of ((te1.to (Tup.of s4)).to (Save.tup FA4 sv5))
      have hq5 := Save.tup FA4 sv5 _ _ (upd_same (H := H3) (a := q) (o := .tup [V.int i]))
      have we := wR e1 (List.mem_of_getElem? ee1)
      refine ⟨q, t1, _, _, rfl, rfl, hq5, ht1, by show 3 ≤ sizeLine; decide, fun T H6 s6 hT => ?_⟩
      exact k2 T i e1.1 e1.2 ks2 (n + 1 + 1) H6 hT ⟨i0, ss, es_, we.2.2⟩ (FA5.same s6) (by omega) (((sv3.trans (Save.of s4)).trans sv5).trans (Save.of s6))
end
end My

-- ===== KN3 =====
set_option Elab.async false
set_option linter.all false
set_option maxRecDepth 100000
set_option maxHeartbeats 4000000
namespace Kd
open PySem L2 PyProof.Rows PySem.Spec
/-! ### xs.remove(i), xs whole numbers -/
def rRemZ : V → List V → Hp → VK → Prop := fun x vs H Q => ∃ (l : Addr) (zs : List Int) (z : Int), x = .ref l ∧ vs = [.int z] ∧ H l = some (.lst (zs.map V.int)) ∧ z ∈ zs ∧ Q .non (upd H l (.lst ((zs.erase z).map V.int)))
theorem eqv_int (x y : Int) : PyData.eqv (.int x) (.int y) = decide (x = y) := by
  simp only [PyData.eqv]
  by_cases h : x = y
  · rw [h, decide_eq_true rfl, beq_self_eq_true]
  · rw [decide_eq_false h]
    exact beq_eq_false_iff_ne.mpr h
theorem er_map {α β : Type} (f : α → β) : ∀ (l : List α) (j : Nat), (l.eraseIdx j).map f = (l.map f).eraseIdx j
  | [], j => by simp
  | x :: l, 0 => by simp
  | x :: l, j + 1 => by simp [er_map f l j]
theorem place_int {zs : List Int} {z : Int} (h : z ∈ zs) : ∃ j, SeqAt.dataPlace (zs.map PyData.int) (.int z) = some j ∧ zs.erase z = zs.eraseIdx j := by
  have e : SeqAt.dataPlace (zs.map PyData.int) (.int z) = zs.idxOf? z := by
    unfold SeqAt.dataPlace List.idxOf?
    rw [List.findIdx?_map]
    refine congrArg (fun p => zs.findIdx? p) (funext fun y => ?_)
    show PyData.eqv (.int y) (.int z) = (y == z)
    rw [eqv_int]
    rfl
  have q := List.erase_eq_eraseIdx zs z
  cases o : zs.idxOf? z with
  | none =>
    exact absurd h (by simpa [List.idxOf?_eq_none_iff] using o)
  | some j =>
    rw [o] at q
    exact ⟨j, by rw [e, o], q⟩
theorem reads_ints {h : Heap} : ∀ {zs : List Int} {its : List Value}, Vals (zs.map V.int) its → ∃ as, ReadsAll h its (zs.map PyData.int) as
  | [], its, r => by
    cases r
    exact ⟨[], .nil⟩
  | z :: zs, its, r => by
    cases r with
    | cons p q =>
      obtain ⟨t, rfl⟩ := p
      obtain ⟨as, ra⟩ := reads_ints (h := h) q
      exact ⟨_, .cons (.int z t) ra⟩
theorem plain_ints : ∀ zs : List Int, PyData.plainAll (zs.map PyData.int) = true
  | [] => by simp [PyData.plainAll]
  | z :: zs => by simp [PyData.plainAll, PyData.plain, plain_ints zs]
theorem mt_removeZ {X : Cx} (hu : X.A.units + 64 < cLine) : MtR X "list.remove" rRemZ := by
  intro pins s σ H x vs v us Q I rx rv h
  obtain ⟨l, zs, z, rfl, rfl, hH, hz, q⟩ := h
  cases rx
  obtain ⟨u, rfl, ru⟩ := rv.one
  obtain ⟨t, rfl⟩ := ru
  obtain ⟨sz, its, n, r, hl, e⟩ := I.lstM hH
  obtain ⟨j, hp, he⟩ := place_int hz
  obtain ⟨as, ra⟩ := reads_ints (h := s.heap) r
  have dd : min (PyData.depthAll (zs.map PyData.int)) (PyData.int z).depth = 0 := by simp [PyData.depth]
  refine SeqAt.remove_list_data (vs := its.toArray) (xs := zs.map PyData.int) (d := .int z) (j := j) ⟨_, e, rfl, n, rfl⟩ ra (.int z t) (plain_ints zs) (by simp [PyData.plain]) (by rw [dd]; omega) hp (by rw [List.size_toArray, ← hl]; exact sz) ?_
  refine ⟨.non, _, I.lset (its' := its.eraseIdx j) (ys := (zs.erase z).map V.int) (t' := s.toks) hH e ?_ ?_ ?_, rfl, q⟩
  · show its.toArray.eraseIdxIfInBounds j = (its.eraseIdx j).toArray
    rw [List.eraseIdxIfInBounds_toArray]
  · rw [he, er_map]
    exact r.eraseIdx j
  · have := List.length_erase_le (a := z) (l := zs)
    rw [List.length_map] at sz ⊢
    omega
end Kd

-- ===== K15U0 =====
set_option Elab.async false
set_option linter.all false
set_option maxRecDepth 100000
set_option maxHeartbeats 4000000
namespace My
open PySem L2 PyProof.Rows PySem.Spec Kd
/-! ### the lists it keeps -/
structure Dst (H : Hp) (p c T Oq C : Addr) : Prop where
  tp : T ≠ p
  tc : T ≠ c
  op : Oq ≠ p
  oc : Oq ≠ c
  cp : C ≠ p
  cc : C ≠ c
  to : T ≠ Oq
  tC : T ≠ C
  oC : Oq ≠ C
  fT : H T = none
  fO : H Oq = none
  fC : H C = none
structure HSt (H H2 : Hp) (p c T Oq C : Addr) (y n2 : Int) (tv : List V) (ths : List Th) (os cs : List Int) : Prop where
  fd : ∃ ks, FeedAt H2 p c ks y n2
  sv : Save p c H H2
  ht : H2 T = some (.lst tv)
  tt : TDs H2 tv (ths.map thD)
  oo : H2 Oq = some (.lst (os.map V.int))
  cs_ : H2 C = some (.lst (cs.map V.int))
section
variable {H H2 H3 : Hp} {p c T Oq C : Addr} {y n2 n3 : Int} {tv : List V} {ths : List Th} {os cs : List Int}
theorem HSt.step (D : Dst H p c T Oq C) (h : HSt H H2 p c T Oq C y n2 tv ths os cs) (sv : Save p c H2 H3) (fd : ∃ ks, FeedAt H3 p c ks y n3) : HSt H H3 p c T Oq C y n3 tv ths os cs := by
  obtain ⟨ks, F⟩ := h.fd
  exact ⟨fd, h.sv.trans sv, sv _ _ h.ht D.tp D.tc, h.tt.to (Save.tup F sv), sv _ _ h.oo D.op D.oc, sv _ _ h.cs_ D.cp D.cc⟩
theorem HSt.same (D : Dst H p c T Oq C) (h : HSt H H2 p c T Oq C y n2 tv ths os cs) (s : Same H2 H3) : HSt H H3 p c T Oq C y n2 tv ths os cs :=
  h.step D (Save.of s) (let ⟨ks, F⟩ := h.fd; ⟨ks, F.same s⟩)
theorem HSt.putT (D : Dst H p c T Oq C) (h : HSt H H2 p c T Oq C y n2 tv ths os cs) {b : Addr} {th : Th} (hb : TD H2 (.ref b) (thD th)) : HSt H (upd H2 T (.lst (tv ++ [.ref b]))) p c T Oq C y n2 (tv ++ [.ref b]) (ths ++ [th]) os cs := by
  obtain ⟨ks, F⟩ := h.fd
  have tp : Tup H2 (upd H2 T (.lst (tv ++ [.ref b]))) := Tup.at_ h.ht fun xs z => nomatch z
  refine ⟨⟨ks, F.wr D.tp D.tc⟩, h.sv.wr D.fT, upd_same, ?_, by rw [upd_ne (Ne.symm D.to)]; exact h.oo, by rw [upd_ne (Ne.symm D.tC)]; exact h.cs_⟩
  rw [List.map_append]
  exact TDs.snoc (hb.to tp) (h.tt.to tp)
theorem HSt.putO (D : Dst H p c T Oq C) (h : HSt H H2 p c T Oq C y n2 tv ths os cs) {os' : List Int} : HSt H (upd H2 Oq (.lst (os'.map V.int))) p c T Oq C y n2 tv ths os' cs := by
  obtain ⟨ks, F⟩ := h.fd
  have tp : Tup H2 (upd H2 Oq (.lst (os'.map V.int))) := Tup.at_ h.oo fun xs z => nomatch z
  exact ⟨⟨ks, F.wr D.op D.oc⟩, h.sv.wr D.fO, by rw [upd_ne D.to]; exact h.ht, h.tt.to tp, upd_same, by rw [upd_ne (Ne.symm D.oC)]; exact h.cs_⟩
theorem HSt.putC (D : Dst H p c T Oq C) (h : HSt H H2 p c T Oq C y n2 tv ths os cs) {cs' : List Int} : HSt H (upd H2 C (.lst (cs'.map V.int))) p c T Oq C y n2 tv ths os cs' := by
  obtain ⟨ks, F⟩ := h.fd
  have tp : Tup H2 (upd H2 C (.lst (cs'.map V.int))) := Tup.at_ h.cs_ fun xs z => nomatch z
  exact ⟨⟨ks, F.wr D.cp D.cc⟩, h.sv.wr D.fC, by rw [upd_ne D.tC]; exact h.ht, h.tt.to tp, by rw [upd_ne D.oC]; exact h.oo, upd_same⟩
end
theorem eqv_ints (os : List Int) : PyData.eqv (.list (os.map PyData.int)) (.list []) = os.isEmpty := by
  cases os with
  | nil => simp [PyData.eqv, PyData.eqvAll]
  | cons e es => simp [PyData.eqv, PyData.eqvAll]
theorem PT.wk {X : Cx} {e : Expr} {t u : TT} (h : PT X e t) (k : ∀ σ H Q, u σ H Q → t σ H Q) : PT X e u := ⟨fun pins s σ H Q I q => h.run pins s σ H Q I (k σ H Q q)⟩
theorem dec_int (x y : Int) : decide (V.int x = V.int y) = decide (x = y) := by
  by_cases h : x = y
  · rw [h, decide_eq_true rfl, decide_eq_true rfl]
  · rw [decide_eq_false h, decide_eq_false fun z => h (V.int.inj z)]
theorem PE.wk {X : Cx} {e : Expr} {t u : TE} (h : PE X e t) (k : ∀ σ H Q, u σ H Q → t σ H Q) : PE X e u := ⟨fun pins s σ H Q I q => h.run pins s σ H Q I (k σ H Q q)⟩
theorem new_ne {H : Hp} {a b : Addr} {o : HO} (h : upd H a o b = none) : b ≠ a ∧ H b = none := by
  have n : b ≠ a := fun z => by
    rw [z, upd_same] at h
    cases h
  exact ⟨n, by rwa [upd_ne n] at h⟩
theorem at_intZ {cs : List Int} {z : Int} (h0 : 0 ≤ z) (h1 : z < cs.length) : ∃ k, cs[z.toNat]? = some k ∧ atI (cs.map V.int) z = some (.int k) := by
  have lt : z.toNat < cs.length := by omega
  have e : (cs.map V.int)[z.toNat]? = some (.int cs[z.toNat]) := by rw [List.getElem?_map, List.getElem?_eq_getElem lt]; rfl
  have q := atI_nat e
  rw [Int.toNat_of_nonneg h0] at q
  exact ⟨_, List.getElem?_eq_getElem lt, q⟩
/-- the word of an end -/
def u4 : TE := fun σ H Q => ∃ (p c : Addr) (ks : List Int) (w n wy : Int), σ[0]? = some (some (.ref p)) ∧ σ[7]? = some (some (.int wy)) ∧ FeedAt H p c ks w n ∧ n < 999999 ∧
  ∀ (z : Str) (ks' : List Int) (n' : Int) (H' : Hp), (z = "commit" ∨ z = "abort") → FeedAt H' p c ks' w n' → n' ≤ n + 1 → Save p c H H' → Q (.str z) H'
/-- the first test -/
def u1 : TT := fun σ H Q => ∃ (C Oq : Addr) (cs os : List Int) (wy : Int), σ[5]? = some (some (.ref C)) ∧ σ[4]? = some (some (.ref Oq)) ∧ σ[7]? = some (some (.int wy)) ∧ H C = some (.lst (cs.map V.int)) ∧ H Oq = some (.lst (os.map V.int)) ∧
  (∀ H', Same H H' → cs.length < 10 → Q true H') ∧ ∀ H', Same H H' → Q false H'
def u2 : TT := fun σ H Q => ∃ (Oq : Addr) (os : List Int) (wy : Int), σ[4]? = some (some (.ref Oq)) ∧ σ[7]? = some (some (.int wy)) ∧ H Oq = some (.lst (os.map V.int)) ∧
  (∀ H', Same H H' → os ≠ [] → wy < 6 → Q true H') ∧ ∀ H', Same H H' → Q false H'
end My

-- ===== K15V =====
set_option Elab.async false
set_option linter.all false
set_option maxRecDepth 100000
set_option maxHeartbeats 4000000
namespace My
open PySem L2 PyProof.Rows PySem.Spec Kd
def spHist : Sp := fun vs H Q _ => ∃ (p c O : Addr) (ks : List Int) (w n m : Int) (ov : List V) (sss : List (List (List Stp))), vs = [.ref p, .ref O, .int m] ∧ FeedAt H p c ks w n ∧ n < 890000 ∧ 0 ≤ m ∧ m ≤ 200 ∧ H O = some (.lst ov) ∧ TDs H ov (sss.map statesD) ∧ 1 ≤ sss.length ∧ sss.length ≤ 4 ∧ (∀ ss ∈ sss, KOk ss) ∧ O ≠ p ∧ O ≠ c ∧
  ∀ (t : Addr) (ths : List Th) (ks' : List Int) (n' : Int) (H' : Hp), TD H' (.ref t) (histD ths) → AllFit sss ths → ths.length ≤ 200 → (opRun ths).length ≤ 10 → FeedAt H' p c ks' w n' → n' ≤ n + 1 + 1000 → Save p c H H' → Q (.ref t) H'
section
variable {P : Program} {w : World} {K : PySem.W.Frag} {mg : Str → Option Value} {base : Heap}
abbrev nHi : List Str := ["_law_deck_here", "_law_machines", "_law_many", "_law_things", "_law_opened", "_law_counts", "_law_k", "_law_way", "_law_did_here", "_law_number"]
theorem scHi : FnScope nHi ["_law_deck_here", "_law_machines", "_law_many"] (defScope sHist) := ⟨rfl, rfl, rfl, by decide +kernel, rfl, by decide +kernel, by decide +kernel⟩
theorem ok_hist {f fI fP fD : Addr} {fd fdI fdP fdD : FuncData} (F : Fun K "_law_history" "_law_history" sHist f fd) (mlen : mg "len" = none) (mrange : mg "range" = none) (mtup : mg "tuple" = none)
    (GI : FnOk P w K mg base CX0 3 fI fdI ["_law_deck_here", "_law_machines"] spDid) (mI : mg "_law_did" = some (.ref fI)) (kI : PySem.W.keepIn K (.ref fI) = true) (bI : Binds K fdI ["_law_deck_here", "_law_machines"] [])
    (GP : FnOk P w K mg base CX0 2 fP fdP ["_law_deck_here", "_law_some"] spPick) (mP : mg "_law_pick" = some (.ref fP)) (kP : PySem.W.keepIn K (.ref fP) = true) (bP : Binds K fdP ["_law_deck_here", "_law_some"] [])
    (GD : FnOk P w K mg base CX0 1 fD fdD ["_law_deck_here", "_law_count"] spDigit) (mD : mg "_law_draw" = some (.ref fD)) (kD : PySem.W.keepIn K (.ref fD) = true) (bD : Binds K fdD ["_law_deck_here", "_law_count"] []) :
    FnOk P w K mg base CX0 4 f fd ["_law_deck_here", "_law_machines", "_law_many"] spHist := by
  refine F.ok scHi (fun vs H Q E h => ?_) (fun cdv A outer s H vs Q E hr h => ?_)
  · obtain ⟨p, c, O, ks, y, n, m, ov, sss, rfl, _⟩ := h
    rfl
  · obtain ⟨p, c, O, ks, y, n, m, ov, sss, rfl, FA, hn, m0, m2, hO, tO, o1, o4, ko, Op, Oc, k⟩ := h
    have hu := hr.units
    have hr1 := hr.mono (show 1 ≤ 3 by omega)
    have hr2 := hr.mono (show 2 ≤ 3 by omega)
    refine ⟨_, (pss_cons (ps_par3 (i := 3) (j := 4) (l := 5) rfl scHi.nd rfl rfl rfl (by decide) (by decide) (by decide) rfl rfl rfl (pa_cons (pe_lst pa_nil) (pa_cons (pe_lst pa_nil) (pa_cons (pe_lst pa_nil) pa_nil))) (by rfl)) (pss_cons (ps_for PassesOwn.never rfl (pi_range1 (by rfl) mrange (pa_cons (pe_call GD hr1 (by rfl) mD kD bD .nil pass0 (pa_cons (pv 0) (pa_cons (pe_op op_add (pv 2) pe_int) pa_nil))) pa_nil)) (pg_name (i := 6) scHi.nd rfl (Or.inl rfl)) (pss_cons (ps_set (i := 7) scHi.nd rfl (Or.inl rfl) (pe_call GD hr1 (by rfl) mD kD bD .nil pass0 (pa_cons (pv 0) (pa_cons pe_int pa_nil)))) (pss_one (ps_if (PT.wk (u := u1) (PW.pt (pw_and (pt_cmpR op_lt (pe_callB (r := rLenQ K) call_len_seq (by rfl) mlen PySem.boot_len (pa_cons (pv 5) pa_nil)) pe_int (nomark _)) (pw_and1 (PW.pt (pw_or (pt_cmpR (op_eqD hu) (pv 4) (pe_lst pa_nil) (nomark _)) (pw_or1 (pt_cmpR op_eq (pv 7) pe_int (nomark _)))))))) (fun σ H Q ⟨C, Oq, cs, os, wy, e5, e4, e7, hC, hO, qt, qf⟩ => by
      refine ⟨_, e5, C, _, rfl, .inl (SqL.of hC), _, _, rfl, rfl, _, rfl, ?_⟩
      rw [List.length_map]
      by_cases c10 : cs.length < 10
      · rw [decide_eq_true (show (cs.length : Int) < 10 by omega)]
        refine iteT ⟨_, e4, by show 0 ≤ sizeLine; decide, fun e he => ⟨_, _, .lst (SqL.of (same_new he _ _ hO)) (dp_ints os), .lst (SqL.of upd_same) .nil, shaped_ints os, by decide, _, rfl, ?_⟩⟩
        rw [eqv_ints]
        have s := same_new (o := .lst []) he
        cases os with
        | nil => exact iteT (qt _ s c10)
        | cons z os =>
          refine iteF ⟨_, e7, rfl, _, rfl, ?_⟩
          cases decide (V.int wy = V.int 0) with
          | true => exact qt _ s c10
          | false => exact qf _ s
      · rw [decide_eq_false (show ¬ (cs.length : Int) < 10 by omega)]
        exact iteF (qf _ (Same.refl H)))) (pss_cons (ps_expr (pe_bm PySem.F.plainAttrs_list PySem.F.slot_list_append PySem.F.type_list_append mt_append (pv 3) (pa_cons (pe_tup (pa_cons pe_str pa_nil)) pa_nil))) (pss_cons (ps_expr (pe_bm PySem.F.plainAttrs_list PySem.F.slot_list_append PySem.F.type_list_append mt_append (pv 4) (pa_cons (pe_callB (r := rLenQ K) call_len_seq (by rfl) mlen PySem.boot_len (pa_cons (pv 5) pa_nil)) pa_nil))) (pss_one (ps_expr (pe_bm PySem.F.plainAttrs_list PySem.F.slot_list_append PySem.F.type_list_append mt_append (pv 5) (pa_cons pe_int pa_nil)))))) (pss_one (ps_if (PT.wk (u := u2) (PW.pt (pw_and (pt_cmpR (op_neD hu) (pv 4) (pe_lst pa_nil) (nomark _)) (pw_and1 (pt_cmpR op_lt (pv 7) pe_int (nomark _))))) (fun σ H Q ⟨Oq, os, wy, e4, e7, hO, qt, qf⟩ => by
      refine ⟨_, e4, by show 0 ≤ sizeLine; decide, fun e he => ⟨_, _, .lst (SqL.of (same_new he _ _ hO)) (dp_ints os), .lst (SqL.of upd_same) .nil, shaped_ints os, by decide, _, rfl, ?_⟩⟩
      rw [eqv_ints]
      have s := same_new (o := .lst []) he
      cases os with
      | nil => exact iteF (qf _ s)
      | cons z os =>
        refine iteT ⟨_, e7, _, _, rfl, rfl, _, rfl, ?_⟩
        by_cases w6 : wy < 6
        · rw [decide_eq_true w6]
          exact qt _ s (by simp) w6
        · rw [decide_eq_false w6]
          exact qf _ s)) (pss_cons (ps_par (i := 8) (j := 9) rfl scHi.nd rfl rfl (by decide) rfl rfl (pa_cons (pe_call GI hr (by rfl) mI kI bI .nil pass0 (pa_cons (pv 0) (pa_cons (pv 1) pa_nil))) (pa_cons (pe_call GP hr2 (by rfl) mP kP bP .nil pass0 (pa_cons (pv 0) (pa_cons (pv 4) pa_nil))) pa_nil)) (by rfl)) (pss_one (ps_if (PW.pt (pw_and (pt_cmp (pc_notN (pv 8))) (pw_and1 (pt_cmpR op_lt (pe_ix (r := rIxL K) ix_list (pv 5) (pv 9) (fun _ _ => rfl)) pe_int (nomark _))))) (pss_cons (ps_expr (pe_bm PySem.F.plainAttrs_list PySem.F.slot_list_append PySem.F.type_list_append mt_append (pv 3) (pa_cons (pe_op op_catA (pe_tup (pa_cons pe_str (pa_cons (pv 9) pa_nil))) (pv 8)) pa_nil))) (pss_one (ps_asg (pe_op op_add (pe_ix (r := rIxL K) ix_list (pv 5) (pv 9) (fun _ _ => rfl)) pe_int) (pg_sub (pv 5) (pv 9) set_list)))) pss_nil))) (pss_one (ps_if (pt_cmpR (op_neD hu) (pv 4) (pe_lst pa_nil) (nomark _)) (pss_cons (ps_set (i := 9) scHi.nd rfl (Or.inl rfl) (pe_call GP hr2 (by rfl) mP kP bP .nil pass0 (pa_cons (pv 0) (pa_cons (pv 4) pa_nil)))) (pss_cons (ps_expr (pe_bm PySem.F.plainAttrs_list PySem.F.slot_list_remove PySem.F.type_list_remove (mt_removeZ hu) (pv 4) (pa_cons (pv 9) pa_nil))) (pss_one (ps_expr (pe_bm PySem.F.plainAttrs_list PySem.F.slot_list_append PySem.F.type_list_append mt_append (pv 3) (pa_cons (pe_tup (pa_cons (PE.wk (u := u4) (pe_ifExp (PW.pt (pw_or (pt_cmpR op_eq (pv 7) pe_int (nomark _)) (pw_or1 (pt_cmpR op_eq (pe_call GD hr1 (by rfl) mD kD bD .nil pass0 (pa_cons (pv 0) (pa_cons pe_int pa_nil))) pe_int (nomark _))))) pe_str pe_str) (fun σ H Q ⟨p, c, ks, y, n, wy, e0, e7, FA, hn, q⟩ => by
      refine ⟨_, e7, rfl, _, rfl, ?_⟩
      cases decide (V.int wy = V.int 6) with
      | true => exact iteT (q _ ks n H (.inl rfl) FA (by omega) (Save.refl p c H))
      | false =>
        refine iteF ⟨_, e0, p, c, ks, y, n, 2, rfl, FA, by omega, by decide, by decide, fun d ks1 H1 d0 d2 F1 sv1 => ⟨rfl, _, rfl, ?_⟩⟩
        cases decide (V.int d = V.int 0) with
        | true => exact iteT (q _ ks1 _ H1 (.inl rfl) F1 (by omega) sv1)
        | false => exact iteF (q _ ks1 _ H1 (.inr rfl) F1 (by omega) sv1))) (pa_cons (pv 9) pa_nil))) pa_nil)))))) pss_nil)))))))) (pss_one (ps_ret (pe_callTy call_tuple_of (by rfl) mtup (by decide +kernel) (pa_cons (pv 3) pa_nil)))))), ?_⟩
    have n0 := FA.n0
    refine ⟨by show 0 ≤ sizeLine; decide, fun T hT => ⟨by show 0 ≤ sizeLine; decide, fun Oq hOq => ⟨by show 0 ≤ sizeLine; decide, fun C hC => ⟨_, _, _, rfl, ?_⟩⟩⟩⟩
    obtain ⟨nOT, fO⟩ := new_ne hOq
    obtain ⟨nCO, hC1⟩ := new_ne hC
    obtain ⟨nCT, fC⟩ := new_ne hC1
    have off : ∀ x : Addr, H x = none → x ≠ p ∧ x ≠ c := fun x z => ⟨Ne.symm (ne_of_none FA.ob z), Ne.symm (ne_of_none FA.cs z)⟩
    have D : Dst H p c T Oq C := ⟨(off T hT).1, (off T hT).2, (off Oq fO).1, (off Oq fO).2, (off C fC).1, (off C fC).2, Ne.symm nOT, Ne.symm nCT, Ne.symm nCO, hT, fO, fC⟩
    have s0 := (same_new (o := .lst []) hT).trans ((same_new (o := .lst []) hOq).trans (same_new (o := .lst []) hC))
    have S0 : HSt H (upd (upd (upd H T (.lst [])) Oq (.lst [])) C (.lst [])) p c T Oq C y n [] [] [] [] :=
      ⟨⟨ks, FA.same s0⟩, Save.of s0, same_new hC _ _ (same_new hOq _ _ upd_same), .nil, same_new hC _ _ upd_same, upd_same⟩
    generalize upd (upd (upd H T (.lst [])) Oq (.lst [])) C (.lst []) = H0 at S0 ⊢
    obtain ⟨ks0, F0⟩ := S0.fd
    refine ⟨_, rfl, _, rfl, _, _, rfl, rfl, p, c, ks0, y, n, _, rfl, F0, by omega, by omega, by omega, fun r ks1 H1 r0 r1 F1 sv1 => ?_⟩
    have S1 := S0.step D sv1 ⟨_, F1⟩
    refine ⟨r, rfl, by omega, by omega, for_range (lo := 0) (n := r.toNat) (fun j σ H2 => ∃ (o6 o7 o8 o9 : Option V) (n2 : Int) (tv : List V) (ths : List Th) (os cs : List Int), σ = [some (.ref p), some (.ref O), some (.int m), some (.ref T), some (.ref Oq), some (.ref C), o6, o7, o8, o9] ∧
        HSt H H2 p c T Oq C y n2 tv ths os cs ∧ n2 ≤ n + 1 + 5 * (j : Int) ∧ AllFit sss ths ∧ ths.length ≤ j ∧ HInv (opRun ths) os cs)
      ⟨none, none, none, none, n + 1, [], [], [], [], rfl, S1, by omega, fit_nil, Nat.le_refl _, ⟨List.nodup_nil, (fun z m => nomatch m), rfl, Nat.le_refl _, Nat.zero_le _⟩⟩ ?_ ?_⟩
    · rintro j σ H2 hj ⟨o6, o7, o8, o9, n2, tv, ths, os, cs, rfl, S2, le2, af, tl, hi⟩
      obtain ⟨ks2, F2⟩ := S2.fd
      have tvl := S2.tt.lenm
      have ol := hi.ol
      have few := hi.few
      refine ⟨_, rfl, p, c, ks2, y, n2, 8, rfl, F2, by omega, by decide, by decide, fun wy ks3 H3 w0 w8 F3 sv3 => ?_⟩
      have S3 := S2.step D sv3 ⟨_, F3⟩
      clear S2 F2 F3 sv3
      refine ⟨C, Oq, cs, os, wy, rfl, rfl, rfl, S3.cs_, S3.oo, fun H4 s4 c10 => ?_, fun H4 s4 => ?_⟩
      · refine iteT ?_
        have S4 := S3.same D s4
        refine ⟨_, rfl, .inl ⟨rfl, _, SqL.of S4.ht⟩, by show 1 ≤ sizeLine; decide, fun b hb => ?_⟩
        have S5 := S4.same D (same_new (o := .tup [V.str "begin"]) hb)
        have tb : TD (upd H4 b (.tup [V.str "begin"])) (.ref b) (thD .beg) := .tup upd_same (.cons (.str _) .nil)
        have S6 := S5.putT D (th := .beg) tb
        refine ⟨T, tv, _, rfl, rfl, S5.ht, small_lt (m := 200) (by omega), ?_⟩
        refine ⟨_, rfl, .inl ⟨rfl, _, SqL.of S6.oo⟩, _, rfl, C, _, rfl, .inl (SqL.of S6.cs_), Oq, _, _, rfl, rfl, S6.oo, small_lt (m := 10) (by rw [List.length_map]; omega), ?_⟩
        have e1 : os.map V.int ++ [V.int ((cs.map V.int).length : Int)] = (os ++ [(cs.length : Int)]).map V.int := by simp
        rw [e1]
        have S7 := S6.putO D (os' := os ++ [(cs.length : Int)])
        refine ⟨_, rfl, .inl ⟨rfl, _, SqL.of S7.cs_⟩, C, _, _, rfl, rfl, S7.cs_, small_lt (m := 10) (by rw [List.length_map]; omega), ?_⟩
        have e2 : cs.map V.int ++ [V.int 0] = (cs ++ [0]).map V.int := by simp
        rw [e2]
        exact ⟨_, _, _, _, n2 + 1, tv ++ [.ref b], ths ++ [.beg], os ++ [(cs.length : Int)], cs ++ [0], rfl, S7.putC D, by omega, fit_snoc (th := .beg) af trivial, by rw [List.length_append]; exact Nat.succ_le_succ tl, by rw [run_snoc]; exact hi.beg c10⟩
      · refine iteF ?_
        have S4 := S3.same D s4
        refine ⟨Oq, os, wy, rfl, rfl, S4.oo, fun H5 s5 ne w6 => ?_, fun H5 s5 => ?_⟩
        · refine iteT ?_
          have S5 := S4.same D s5
          obtain ⟨ks5, F5⟩ := S5.fd
          have o1' : 1 ≤ (os.map V.int).length := by
            rw [List.length_map]
            cases os with
            | nil => exact absurd rfl ne
            | cons z os => exact Nat.succ_le_succ (Nat.zero_le _)
          have o2' : (os.map V.int).length ≤ 100 := by rw [List.length_map]; omega
          refine ⟨_, rfl, _, rfl, p, c, O, ks5, y, n2 + 1, ov, sss, rfl, F5, by omega, S5.sv _ _ hO Op Oc, tO.to (Save.tup FA S5.sv), o1, o4, ko, Op, Oc, fun ks6 n6 H6 F6 le6 sv6 => ?_, fun t i x z ks6 n6 H6 ht evf F6 le6 sv6 => ?_⟩
          · have S6 := S5.step D sv6 ⟨_, F6⟩
            refine ⟨_, rfl, _, rfl, p, c, Oq, _, ks6, y, n6, rfl, F6, by omega, S6.oo, D.op, D.oc, o1', o2', fun v ks7 H7 mv F7 sv7 => ⟨_, _, rfl, ?_⟩⟩
            have S7 := S6.step D sv7 ⟨_, F7⟩
            refine ⟨_, rfl, _, rfl, ?_⟩
            rw [show (!decide (V.non = V.non)) = false from by simp]
            refine iteF (iteF ?_)
            exact ⟨_, _, _, _, n6 + 1, tv, ths, os, cs, rfl, S7, by omega, af, by omega, hi⟩
          · have S6 := S5.step D sv6 ⟨_, F6⟩
            refine ⟨_, rfl, _, rfl, p, c, Oq, _, ks6, y, n6, rfl, F6, by omega, S6.oo, D.op, D.oc, o1', o2', fun v ks7 H7 mv F7 sv7 => ⟨_, _, rfl, ?_⟩⟩
            have S7 := S6.step D sv7 ⟨_, F7⟩
            obtain ⟨nn, mo, rfl⟩ := List.mem_map.mp mv
            obtain ⟨p0, p1, p2⟩ := hi.op nn mo
            have cl := hi.cl
            obtain ⟨kk, ek, eat⟩ := at_intZ (cs := cs) p0 (by omega)
            refine ⟨_, rfl, _, rfl, ?_⟩
            rw [show (!decide (V.ref t = V.non)) = true from by simp]
            refine iteT ⟨_, rfl, _, rfl, C, _, nn, _, rfl, rfl, SqL.of S7.cs_, eat, _, _, rfl, rfl, _, rfl, ?_⟩
            by_cases k12 : kk < 12
            · rw [decide_eq_true k12]
              refine iteT ?_
              have ht7 := Save.tup F6 sv7 _ _ ht
              refine ⟨_, rfl, .inl ⟨rfl, _, SqL.of S7.ht⟩, _, rfl, by show 2 ≤ sizeLine; decide, fun b hb => ⟨_, rfl, ?_⟩⟩
              have s8 := same_new (o := .tup [V.str "did", .int nn]) hb
              refine ⟨b, t, _, _, rfl, rfl, upd_same, s8 _ _ ht7, by show 5 ≤ sizeLine; decide, fun R H9 s9 hR => ?_⟩
              have S9 := S7.same D (s8.trans s9)
              have tb : TD H9 (.ref R) (thD (.did nn (i, x, z))) := .tup hR (.cons (.str _) (.cons (.int _) (.cons (.int _) (.cons (.str _) (.cons (.str _) .nil)))))
              have Sa := S9.putT D tb
              refine ⟨T, tv, _, rfl, rfl, S9.ht, small_lt (m := 200) (by omega), ?_⟩
              refine ⟨_, rfl, _, rfl, C, _, nn, _, rfl, rfl, SqL.of Sa.cs_, eat, _, _, rfl, rfl, _, rfl, _, rfl, C, _, nn, nn.toNat, rfl, rfl, Sa.cs_, ?_, ?_⟩
              · have z1 := Evl.ixN_nat (n := (cs.map V.int).length) (j := nn.toNat) (by rw [List.length_map]; omega)
                rwa [Int.toNat_of_nonneg p0] at z1
              · have e3 : (cs.map V.int).set nn.toNat (.int (kk + 1)) = (cs.set nn.toNat (kk + 1)).map V.int := by rw [List.map_set]
                rw [e3]
                exact ⟨_, _, _, _, n6 + 1, tv ++ [.ref R], ths ++ [.did nn (i, x, z)], os, cs.set nn.toNat (kk + 1), rfl, Sa.putC D, by omega, fit_snoc (th := .did nn (i, x, z)) af ⟨p0, p2, evf⟩, by rw [List.length_append]; exact Nat.succ_le_succ tl, by rw [run_snoc]; exact hi.did (List.length_set ..)⟩
            · rw [decide_eq_false k12]
              refine iteF ?_
              exact ⟨_, _, _, _, n6 + 1, tv, ths, os, cs, rfl, S7, by omega, af, by omega, hi⟩
        · refine iteF ?_
          have S5 := S4.same D s5
          refine ⟨_, rfl, by show 0 ≤ sizeLine; decide, fun e he => ⟨_, _, .lst (SqL.of (same_new he _ _ S5.oo)) (dp_ints os), .lst (SqL.of upd_same) .nil, shaped_ints os, by decide, _, rfl, ?_⟩⟩
          rw [eqv_ints]
          have S6 := S5.same D (same_new (o := .lst []) he)
          by_cases ne : os = []
          · rw [show os.isEmpty = true from by rw [ne]; rfl]
            refine iteF ?_
            exact ⟨_, _, _, _, n2 + 1, tv, ths, os, cs, rfl, S6, by omega, af, by omega, hi⟩
          · have o1' : 1 ≤ (os.map V.int).length := by
              rw [List.length_map]
              cases os with
              | nil => exact absurd rfl ne
              | cons z os => exact Nat.succ_le_succ (Nat.zero_le _)
            have o2' : (os.map V.int).length ≤ 100 := by rw [List.length_map]; omega
            rw [show os.isEmpty = false from by simpa using ne]
            refine iteT ?_
            obtain ⟨ks6, F6⟩ := S6.fd
            refine ⟨_, rfl, _, rfl, p, c, Oq, _, ks6, y, n2 + 1, rfl, F6, by omega, S6.oo, D.op, D.oc, o1', o2', fun v ks7 H7 mv F7 sv7 => ?_⟩
            have S7 := S6.step D sv7 ⟨_, F7⟩
            obtain ⟨nn, mo, rfl⟩ := List.mem_map.mp mv
            obtain ⟨p0, p1, p2⟩ := hi.op nn mo
            refine ⟨_, rfl, .inl ⟨rfl, _, SqL.of S7.oo⟩, _, rfl, Oq, os, nn, rfl, rfl, S7.oo, mo, ?_⟩
            have S8 := S7.putO D (os' := os.erase nn)
            obtain ⟨ks8, F8⟩ := S8.fd
            refine ⟨_, rfl, .inl ⟨rfl, _, SqL.of S8.ht⟩, p, c, ks8, y, n2 + 1 + 1, wy, rfl, rfl, F8, by omega, fun z ks9 n9 H9 hz F9 le9 sv9 => ⟨_, rfl, by show 2 ≤ sizeLine; decide, fun b hb => ?_⟩⟩
            have S9 := (S8.step D sv9 ⟨_, F9⟩).same D (same_new (o := .tup [V.str z, .int nn]) hb)
            have at_ : (upd H9 b (.tup [V.str z, .int nn])) b = some (.tup [V.str z, .int nn]) := upd_same
            generalize upd H9 b (.tup [V.str z, .int nn]) = Ha at S9 at_ ⊢
            refine ⟨T, tv, _, rfl, rfl, S9.ht, small_lt (m := 200) (by omega), ?_⟩
            rcases hz with rfl | rfl
            · exact ⟨_, _, _, _, n9, tv ++ [.ref b], ths ++ [.com nn], os.erase nn, cs, rfl, S9.putT D (th := .com nn) (.tup at_ (.cons (.str _) (.cons (.int _) .nil))), by omega, fit_snoc (th := .com nn) af ⟨p0, p2⟩, by rw [List.length_append]; exact Nat.succ_le_succ tl, by rw [run_snoc]; exact hi.fin p0⟩
            · exact ⟨_, _, _, _, n9, tv ++ [.ref b], ths ++ [.abo nn], os.erase nn, cs, rfl, S9.putT D (th := .abo nn) (.tup at_ (.cons (.str _) (.cons (.int _) .nil))), by omega, fit_snoc (th := .abo nn) af ⟨p0, p2⟩, by rw [List.length_append]; exact Nat.succ_le_succ tl, by rw [run_snoc]; exact hi.fin p0⟩
    · rintro σ H2 ⟨o6, o7, o8, o9, n2, tv, ths, os, cs, rfl, S2, le2, af, tl, hi⟩
      obtain ⟨ks2, F2⟩ := S2.fd
      refine ⟨_, rfl, T, tv, rfl, .inl ⟨SqL.of S2.ht, fun b hb => ?_⟩⟩
      exact k b ths ks2 n2 _ (.tup upd_same (S2.tt.to (Tup.new hb))) af (by omega) (by have := hi.cl; have := hi.few; omega) (F2.same (same_new hb)) (by omega) (S2.sv.trans (Save.of (same_new hb)))
end
end My

-- ===== K15H =====
set_option Elab.async false
set_option linter.all false
set_option maxRecDepth 100000
set_option maxHeartbeats 4000000
namespace My
open PySem L2 PyProof.Rows PySem.Spec Kd TL
abbrev sHtext : Stmt := top 32
abbrev sHline : Stmt := top 33
abbrev sLtext : Stmt := top 47
/-! ### texts of histories -/
def numT (i : Int) : Str := (toString i : String)
def thV : Th → List V
  | .beg => [.str "begin"]
  | .did n a => [.str "did", .int n, .int a.1, .str a.2.1, .str a.2.2]
  | .com n => [.str "commit", .int n]
  | .abo n => [.str "abort", .int n]
def partsV : Th → List V
  | .beg => [.str "begin"]
  | .did n a => [.int n, .int a.1, .str a.2.1, .str a.2.2]
  | .com n => [.str "commit", .int n]
  | .abo n => [.str "abort", .int n]
def wordsT : Th → List Str
  | .beg => ["begin"]
  | .did n a => [numT n, numT a.1, a.2.1, a.2.2]
  | .com n => ["commit", numT n]
  | .abo n => ["abort", numT n]
def lineT (th : Th) : Str := Txt.join " " (wordsT th)
def textT (ths : List Th) : Str := Txt.join "\n" (ths.map lineT)
def ThOk : Th → Prop
  | .beg => True
  | .did n a => 0 ≤ n ∧ n < 20 ∧ 0 ≤ a.1 ∧ a.1 < 4 ∧ Wrd a.2.1 ∧ Wrd a.2.2
  | .com n => 0 ≤ n ∧ n < 20
  | .abo n => 0 ≤ n ∧ n < 20
theorem th_at {H : Hp} {t : Addr} {th : Th} (h : TD H (.ref t) (thD th)) : H t = some (.tup (thV th)) := by
  cases th with
  | beg =>
    obtain ⟨xs, ht, hx⟩ := TD.tup_of h
    cases hx with
    | cons h1 t1 =>
      cases h1
      cases t1
      exact ht
  | did n a =>
    obtain ⟨xs, ht, hx⟩ := TD.tup_of h
    cases hx with
    | cons h1 t1 =>
      cases h1
      cases t1 with
      | cons h2 t2 =>
        cases h2
        cases t2 with
        | cons h3 t3 =>
          cases h3
          cases t3 with
          | cons h4 t4 =>
            cases h4
            cases t4 with
            | cons h5 t5 =>
              cases h5
              cases t5
              exact ht
  | com n =>
    obtain ⟨xs, ht, hx⟩ := TD.tup_of h
    cases hx with
    | cons h1 t1 =>
      cases h1
      cases t1 with
      | cons h2 t2 =>
        cases h2
        cases t2
        exact ht
  | abo n =>
    obtain ⟨xs, ht, hx⟩ := TD.tup_of h
    cases hx with
    | cons h1 t1 =>
      cases h1
      cases t1 with
      | cons h2 t2 =>
        cases h2
        cases t2
        exact ht
theorem th_new {H : Hp} {t : Addr} {th : Th} (h : H t = some (.tup (thV th))) : TD H (.ref t) (thD th) := by
  cases th with
  | beg => exact .tup h (.cons (.str _) .nil)
  | did n a => exact .tup h (.cons (.str _) (.cons (.int _) (.cons (.int _) (.cons (.str _) (.cons (.str _) .nil)))))
  | com n => exact .tup h (.cons (.str _) (.cons (.int _) .nil))
  | abo n => exact .tup h (.cons (.str _) (.cons (.int _) .nil))
theorem run_mono (ths : List Th) : ∀ i, (opRun (ths.take i)).length ≤ (opRun ths).length := fun i => by
  have step : ∀ (S : List Bool) (th : Th), S.length ≤ (opStep S th).length := fun S th => by
    cases th with
    | beg => show S.length ≤ (S ++ [true]).length; rw [List.length_append]; omega
    | did n a => exact Nat.le_refl _
    | com n => show S.length ≤ (S.set _ _).length; rw [List.length_set]; exact Nat.le_refl _
    | abo n => show S.length ≤ (S.set _ _).length; rw [List.length_set]; exact Nat.le_refl _
  have all : ∀ (l : List Th) (S : List Bool), S.length ≤ (l.foldl opStep S).length := by
    intro l
    induction l with
    | nil => exact fun S => Nat.le_refl _
    | cons th l ih => exact fun S => Nat.le_trans (step S th) (ih _)
  have e : opRun ths = (ths.drop i).foldl opStep (opRun (ths.take i)) := by
    unfold opRun
    rw [← List.foldl_append, List.take_append_drop]
  rw [e]
  exact all _ _
theorem evof_words {sss : List (List (List Stp))} (ko : ∀ ss ∈ sss, KOk ss) {a : Act} (h : EvOf sss a) : Wrd a.2.1 ∧ Wrd a.2.2 := by
  obtain ⟨_, ss, es, st, mst, x, mx, e⟩ := h
  have q := ((ko ss (List.mem_of_getElem? es)).all st mst).all x mx
  rw [← e]
  exact ⟨q.w1, q.w2⟩
theorem thok_all {sss : List (List (List Stp))} {ths : List Th} (af : AllFit sss ths) (ko : ∀ ss ∈ sss, KOk ss) (l4 : sss.length ≤ 4) (few : (opRun ths).length ≤ 20) : ∀ th ∈ ths, ThOk th := fun th m => by
  obtain ⟨i, e⟩ := List.getElem?_of_mem m
  have f := af i th e
  have l := run_mono ths i
  have lt : ∀ n : Int, 0 ≤ n → (opRun (ths.take i))[n.toNat]? = some true → n < 20 := fun n n0 q => by
    have := (List.getElem?_eq_some_iff.mp q).1
    omega
  cases th with
  | beg => trivial
  | did n a =>
    obtain ⟨n0, q, ev⟩ := f
    obtain ⟨w1, w2⟩ := evof_words ko ev
    obtain ⟨a0, ss, es, _⟩ := ev
    have := (List.getElem?_eq_some_iff.mp es).1
    exact ⟨n0, lt n n0 q, a0, by omega, w1, w2⟩
  | com n => exact ⟨f.1, lt n f.1 f.2⟩
  | abo n => exact ⟨f.1, lt n f.1 f.2⟩
theorem num_tl (n : Nat) : tl (numT n) = numL n := tl_num n
theorem num_len {i : Int} (h0 : 0 ≤ i) (h1 : i < 100) : (numT i).length ≤ 2 := by
  obtain ⟨n, rfl⟩ := Int.eq_ofNat_of_zero_le h0
  rw [len_tl, num_tl]
  exact numL_len (by decide) (by omega)
theorem num_log {i : Int} (h0 : 0 ≤ i) (h1 : i < 300) : i.natAbs.log2 < 1920 := by
  rcases Nat.eq_zero_or_pos i.natAbs with e | e
  · rw [e]
    decide
  · have h : i.natAbs < 2 ^ 9 := by omega
    exact Nat.lt_trans ((Nat.log2_lt (by omega)).mpr h) (by decide)
theorem joinL_len (S : List Nat) : ∀ (ps : List (List Nat)), (joinL S ps).length ≤ (ps.map (·.length)).sum + ps.length * S.length
  | [] => by simp [joinL]
  | [p] => by simp [joinL]
  | p :: q :: r => by
    have ih := joinL_len S (q :: r)
    simp only [joinL, List.length_append, List.map_cons, List.sum_cons, List.length_cons] at ih ⊢
    have e : (r.length + 1 + 1) * S.length = (r.length + 1) * S.length + S.length := Nat.succ_mul _ _
    omega
theorem join_tl (y : Str) (ps : List Str) : tl (Txt.join y ps) = joinL (tl y) (ps.map tl) := by rw [join_eq, tl_join]
theorem sum_le {α : Type} (f : α → Nat) (k : Nat) : ∀ l : List α, (∀ x ∈ l, f x ≤ k) → (l.map f).sum ≤ l.length * k
  | [], _ => by simp
  | x :: l, h => by
    have h1 := h x List.mem_cons_self
    have h2 := sum_le f k l fun y m => h y (List.mem_cons_of_mem _ m)
    rw [List.map_cons, List.sum_cons, List.length_cons, Nat.succ_mul]
    omega
theorem join_len {y : Str} {ps : List Str} {k m : Nat} (hl : ps.length ≤ m) (hk : ∀ p ∈ ps, p.length ≤ k) : (Txt.join y ps).length ≤ m * (k + y.length) := by
  have h1 := joinL_len (tl y) (ps.map tl)
  rw [← join_tl, List.map_map, List.length_map, ← len_tl, ← len_tl] at h1
  have e : ((fun x : List Nat => x.length) ∘ tl) = fun p : Str => p.length := funext fun p => (len_tl p).symm
  rw [e] at h1
  have h2 := sum_le (fun p : Str => p.length) k ps hk
  have h3 : ps.length * k + ps.length * y.length ≤ m * (k + y.length) := by
    rw [← Nat.mul_add]
    exact Nat.mul_le_mul_right _ hl
  omega
theorem words_len {th : Th} (h : ThOk th) : (wordsT th).length ≤ 4 ∧ ∀ p ∈ wordsT th, p.length ≤ 12 := by
  cases th with
  | beg => exact ⟨by show 1 ≤ 4; decide, fun p m => by rw [List.mem_singleton.mp m]; decide⟩
  | did n a =>
    obtain ⟨n0, n1, a0, a1, w1, w2⟩ := h
    have q1 := num_len n0 (by omega)
    have q2 := num_len a0 (by omega)
    refine ⟨Nat.le_refl _, fun p m => ?_⟩
    rcases List.mem_cons.mp m with rfl | m
    · omega
    rcases List.mem_cons.mp m with rfl | m
    · omega
    rcases List.mem_cons.mp m with rfl | m
    · exact w1.2.1
    · rw [List.mem_singleton.mp m]
      exact w2.2.1
  | com n =>
    have q1 := num_len h.1 (by have := h.2; omega)
    refine ⟨by show 2 ≤ 4; decide, fun p m => ?_⟩
    rcases List.mem_cons.mp m with rfl | m
    · decide
    · rw [List.mem_singleton.mp m]
      omega
  | abo n =>
    have q1 := num_len h.1 (by have := h.2; omega)
    refine ⟨by show 2 ≤ 4; decide, fun p m => ?_⟩
    rcases List.mem_cons.mp m with rfl | m
    · decide
    · rw [List.mem_singleton.mp m]
      omega
theorem line_len {th : Th} (h : ThOk th) : (lineT th).length ≤ 52 := by
  obtain ⟨h1, h2⟩ := words_len h
  exact join_len (y := " ") (k := 12) (m := 4) h1 h2
theorem text_len {ths : List Th} (h : ∀ th ∈ ths, ThOk th) (l : ths.length ≤ 300) : (textT ths).length ≤ 15900 :=
  join_len (y := "\n") (k := 52) (m := 300) (by rw [List.length_map]; exact l) fun p hp => by
    obtain ⟨x, m, rfl⟩ := List.mem_map.mp hp
    exact line_len (h x m)
/-- str of a text or a number -/
def rStrW : List V → Hp → VK → Prop := fun xs H Q => (∃ i, xs = [.int i] ∧ i.natAbs.log2 < 1920 ∧ Q (.str (numT i)) H) ∨ ∃ a, xs = [.str a] ∧ Q (.str a) H
theorem call_strW {X : Cx} : CallR X (.type "str") rStrW := by
  intro pins s σ H xs us Q I r h
  rcases h with h | h
  · exact call_str_int pins s σ H xs us Q I r h
  · exact SkE.call_str_str pins s σ H xs us Q I r h
def strV : V → Str
  | .int i => numT i
  | .str x => x
  | _ => ""
theorem parts_words (th : Th) : (partsV th).map strV = wordsT th := by cases th <;> rfl
theorem parts_ok {th : Th} (h : ThOk th) {v : V} (m : v ∈ partsV th) {H : Hp} {Q : VK} (q : Q (.str (strV v)) H) : rStrW [v] H Q := by
  have num : ∀ i : Int, 0 ≤ i → i < 20 → Q (.str (numT i)) H → rStrW [.int i] H Q := fun i h0 h1 q => .inl ⟨i, rfl, num_log h0 (by omega), q⟩
  have txt : ∀ x : Str, Q (.str x) H → rStrW [.str x] H Q := fun x q => .inr ⟨x, rfl, q⟩
  cases th with
  | beg =>
    rw [List.mem_singleton.mp m] at q ⊢
    exact txt _ q
  | did n a =>
    obtain ⟨n0, n1, a0, a1, w1, w2⟩ := h
    rcases List.mem_cons.mp m with rfl | m
    · exact num _ n0 n1 q
    rcases List.mem_cons.mp m with rfl | m
    · exact num _ a0 (by omega) q
    rcases List.mem_cons.mp m with rfl | m
    · exact txt _ q
    · rw [List.mem_singleton.mp m] at q ⊢
      exact txt _ q
  | com n =>
    rcases List.mem_cons.mp m with rfl | m
    · exact txt _ q
    · rw [List.mem_singleton.mp m] at q ⊢
      exact num _ h.1 h.2 q
  | abo n =>
    rcases List.mem_cons.mp m with rfl | m
    · exact txt _ q
    · rw [List.mem_singleton.mp m] at q ⊢
      exact num _ h.1 h.2 q
theorem dec_str (x y : Str) : decide (V.str x = V.str y) = decide (x = y) := by
  by_cases h : x = y
  · rw [h, decide_eq_true rfl, decide_eq_true rfl]
  · rw [decide_eq_false h, decide_eq_false fun z => h (V.str.inj z)]
/-- what is written of a thing -/
def uParts (i : Nat) : TE := fun σ H Q => ∃ (t : Addr) (th : Th), σ[i]? = some (some (.ref t)) ∧ H t = some (.tup (thV th)) ∧ ∀ r H', Same H H' → H' r = some (.tup (partsV th)) → Q (.ref r) H'
def spHline : Sp := fun vs H Q _ => ∃ (t : Addr) (th : Th), vs = [.ref t] ∧ H t = some (.tup (thV th)) ∧ ThOk th ∧ ∀ H', Same H H' → Q (.str (lineT th)) H'
def spHtext : Sp := fun vs H Q _ => ∃ (t : Addr) (ths : List Th), vs = [.ref t] ∧ TD H (.ref t) (histD ths) ∧ (∀ th ∈ ths, ThOk th) ∧ ths.length ≤ 300 ∧ ∀ H', Same H H' → Q (.str (textT ths)) H'
section
variable {P : Program} {w : World} {K : PySem.W.Frag} {mg : Str → Option Value} {base : Heap}
abbrev nHl : List Str := ["thing", "words", "word"]
theorem scHl : FnScope nHl ["thing"] (defScope sHline) := ⟨rfl, rfl, rfl, by decide +kernel, rfl, by decide +kernel, by decide +kernel⟩
theorem ok_hline {f : Addr} {fd : FuncData} (F : Fun K "_line" "_line" sHline f fd) (mstr : mg "str" = none) : FnOk P w K mg base CX0 1 f fd ["thing"] spHline := by
  refine F.ok scHl (fun vs H Q E h => ?_) (fun cdv A outer s H vs Q E hr h => ?_)
  · obtain ⟨t, th, rfl, _⟩ := h
    rfl
  · obtain ⟨t, th, rfl, ht, tok, k⟩ := h
    refine ⟨_, pss_cons (ps_set (i := 1) scHl.nd rfl (Or.inl rfl) (PE.wk (u := uParts 0) (pe_ifExp (pt_cmpR op_eq (pe_ix ix_tup (pv 0) pe_int (fun _ _ => rfl)) pe_str (nomark _)) (pe_slice (r := rSlT K) sl_tup (pv 0) (po_some pe_int) po_none) (pv 0)) (fun σ H Q ⟨t, th, e0, ht, q⟩ => by
          cases th with
          | beg =>
            refine ⟨_, e0, t, _, 0, .str "begin", rfl, rfl, SqT.of ht, rfl, rfl, _, rfl, ?_⟩
            rw [decide_eq_false (by decide)]
            exact iteF ⟨_, e0, q t H (Same.refl H) ht⟩
          | did n a =>
            refine ⟨_, e0, t, _, 0, .str "did", rfl, rfl, SqT.of ht, rfl, rfl, _, rfl, ?_⟩
            rw [decide_eq_true rfl]
            exact iteT ⟨_, e0, 1, rfl, t, _, rfl, SqT.of ht, (by show ¬ (HT.sIx 5 0 (some 1) = 0 ∧ HT.sIx 5 5 none = 5); decide), fun r hr => q r _ (same_new hr) upd_same⟩
          | com n =>
            refine ⟨_, e0, t, _, 0, .str "commit", rfl, rfl, SqT.of ht, rfl, rfl, _, rfl, ?_⟩
            rw [decide_eq_false (by decide)]
            exact iteF ⟨_, e0, q t H (Same.refl H) ht⟩
          | abo n =>
            refine ⟨_, e0, t, _, 0, .str "abort", rfl, rfl, SqT.of ht, rfl, rfl, _, rfl, ?_⟩
            rw [decide_eq_false (by decide)]
            exact iteF ⟨_, e0, q t H (Same.refl H) ht⟩)))
      (pss_one (ps_ret (pe_join pe_str (pe_lc (own := [("word", 2)]) (g := gName 2) (tt := tYes) rfl scHl.nd (pi_tup (pv 1)) (blkOk_by (N := nHl) (sc := defScope sHline) (by decide +kernel))
          (fun _ _ _ _ _ => pg_name (i := 2) scHl.nd rfl (Or.inl rfl)) (fun _ _ _ _ _ => pts_nil) (fun _ _ _ _ _ => pe_callTy (T := "str") (r := rStrW) call_strW (by rfl) mstr (by decide +kernel) (pa_cons (pv 2) pa_nil)))))), ?_⟩
    refine ⟨t, th, rfl, ht, fun r H1 s1 hr => ?_⟩
    obtain ⟨wl, wk⟩ := words_len tok
    have pw := parts_words th
    have pl : (partsV th).length = (wordsT th).length := by rw [← pw, List.length_map]
    refine ⟨⟨_, rfl⟩, _, rfl, r, rfl, ⟨_, SqT.of hr⟩, fun D hD => lc_tup (K := K) (a := r) (xs := partsV th) (fun i H2 => Same H1 H2 ∧ H2 D = some (.lst (((wordsT th).take i).map V.str))) ⟨same_new hD, upd_same⟩ (fun i H2 _ ⟨s2, _⟩ => SqT.of (s2 _ _ hr)) (fun i x H2 ex ⟨s2, d2⟩ => ?_) fun H2 ⟨s2, d2⟩ => ?_⟩
    · have lt : i < (partsV th).length := (List.getElem?_eq_some_iff.mp ex).1
      refine ⟨rfl, _, rfl, ?_⟩
      dsimp only [tNil]
      refine parts_ok tok (List.mem_of_getElem? ex) ⟨_, d2, ?_, same_at s2 hD, ?_⟩
      · rw [List.length_map, List.length_take]
        exact small_lt (m := 4) (by omega)
      · have ew : (wordsT th)[i]? = some (strV x) := by rw [← pw, List.getElem?_map, ex]; rfl
        rw [upd_same, List.take_succ, ew, List.map_append]
        rfl
    · rw [pl, List.take_length] at d2
      refine ⟨_, D, wordsT th, rfl, rfl, .inl (SqL.of d2), ?_, k _ (s1.trans s2)⟩
      have z := sum_le (fun p : Str => p.length) 12 (wordsT th) wk
      have e2 : (" " : Str).length = 1 := rfl
      rw [e2]
      omega
abbrev nHx : List Str := ["history", "thing"]
theorem scHx : FnScope nHx ["history"] (defScope sHtext) := ⟨rfl, rfl, rfl, by decide +kernel, rfl, by decide +kernel, by decide +kernel⟩
theorem ok_htext {f fL : Addr} {fd fdL : FuncData} (F : Fun K "history_text" "history_text" sHtext f fd)
    (GL : FnOk P w K mg base CX0 1 fL fdL ["thing"] spHline) (mL : mg "line_histories" = some (.ref fL)) (kL : PySem.W.keepIn K (.ref fL) = true) (bL : Binds K fdL ["thing"] []) : FnOk P w K mg base CX0 2 f fd ["history"] spHtext := by
  refine F.ok scHx (fun vs H Q E h => ?_) (fun cdv A outer s H vs Q E hr h => ?_)
  · obtain ⟨t, ths, rfl, _⟩ := h
    rfl
  · obtain ⟨t, ths, rfl, tt, tok, few, k⟩ := h
    refine ⟨_, pss_one (ps_ret (pe_join pe_str (pe_lc (own := [("thing", 1)]) (g := gName 1) (tt := tYes) rfl scHx.nd (pi_tup (pv 0)) (blkOk_by (N := nHx) (sc := defScope sHtext) (by decide +kernel))
          (fun _ _ _ _ _ => pg_name (i := 1) scHx.nd rfl (Or.inl rfl)) (fun _ _ _ _ _ => pts_nil) (fun _ _ _ _ _ => pe_call GL hr (by rfl) mL kL bL .nil pass0 (pa_cons (pv 1) pa_nil))))), ?_⟩
    obtain ⟨xs, ht, tx⟩ := tt.tup_of
    have lx := tx.lenm
    refine ⟨⟨_, rfl⟩, _, rfl, t, rfl, ⟨_, SqT.of ht⟩, fun D hD => lc_tup (K := K) (a := t) (xs := xs) (fun i H2 => Same H H2 ∧ H2 D = some (.lst (((ths.take i).map lineT).map V.str))) ⟨same_new hD, upd_same⟩ (fun i H2 _ ⟨s2, _⟩ => SqT.of (s2 _ _ ht)) (fun i x H2 ex ⟨s2, d2⟩ => ?_) fun H2 ⟨s2, d2⟩ => ?_⟩
    · obtain ⟨th, eth, td⟩ := tx.at_ ex
      have lt : i < ths.length := (List.getElem?_eq_some_iff.mp eth).1
      obtain ⟨b, rfl⟩ : ∃ b, x = .ref b := by
        cases th <;> (obtain ⟨b, _, e, _⟩ := TD.ref_of td; exact ⟨b, e⟩)
      refine ⟨rfl, _, rfl, b, th, rfl, s2 _ _ (th_at td), tok th (List.mem_of_getElem? eth), fun H3 s3 => ⟨_, s3 _ _ d2, ?_, same_at (s2.trans s3) hD, ?_⟩⟩
      · rw [List.length_map, List.length_map, List.length_take]
        exact small_lt (m := 300) (by omega)
      · rw [upd_same, List.take_succ, eth, List.map_append, List.map_append]
        rfl
    · rw [lx, List.take_length] at d2
      refine ⟨_, D, ths.map lineT, rfl, rfl, .inl (SqL.of d2), ?_, k _ s2⟩
      have z := sum_le (fun p : Str => p.length) 52 (ths.map lineT) fun p hp => by
        obtain ⟨th, m, rfl⟩ := List.mem_map.mp hp
        exact line_len (tok th m)
      have e2 : ("\n" : Str).length = 1 := rfl
      rw [List.length_map] at z ⊢
      rw [e2]
      omega
abbrev nLt : List Str := ["_law_acts", "_law_lines", "_law_thing", "_law_part"]
theorem scLt : FnScope nLt ["_law_acts"] (defScope sLtext) := ⟨rfl, rfl, rfl, by decide +kernel, rfl, by decide +kernel, by decide +kernel⟩
theorem ok_ltext {f : Addr} {fd : FuncData} (F : Fun K "_law_text" "_law_text" sLtext f fd) (mstr : mg "str" = none) : FnOk P w K mg base CX0 1 f fd ["_law_acts"] spHtext := by
  refine F.ok scLt (fun vs H Q E h => ?_) (fun cdv A outer s H vs Q E hr h => ?_)
  · obtain ⟨t, ths, rfl, _⟩ := h
    rfl
  · obtain ⟨t, ths, rfl, tt, tok, few, k⟩ := h
    refine ⟨_, pss_cons (ps_set (i := 1) scLt.nd rfl (Or.inl rfl) (pe_lst pa_nil))
      (pss_cons (ps_for PassesOwn.never rfl (pi_tup (pv 0)) (pg_name (i := 2) scLt.nd rfl (Or.inl rfl))
        (pss_one (ps_expr (pe_bm PySem.F.plainAttrs_list PySem.F.slot_list_append PySem.F.type_list_append mt_append (pv 1) (pa_cons (pe_join pe_str (pe_lc (own := [("_law_part", 3)]) (g := gName 3) (tt := tYes) rfl scLt.nd
          (pi_tup (PE.wk (u := uParts 2) (pe_ifExp (pt_cmpR op_eq (pe_ix ix_tup (pv 2) pe_int (fun _ _ => rfl)) pe_str (nomark _)) (pe_slice (r := rSlT K) sl_tup (pv 2) (po_some pe_int) po_none) (pv 2)) (fun σ H Q ⟨t, th, e0, ht, q⟩ => by
            cases th with
            | beg =>
              refine ⟨_, e0, t, _, 0, .str "begin", rfl, rfl, SqT.of ht, rfl, rfl, _, rfl, ?_⟩
              rw [decide_eq_false (by decide)]
              exact iteF ⟨_, e0, q t H (Same.refl H) ht⟩
            | did n a =>
              refine ⟨_, e0, t, _, 0, .str "did", rfl, rfl, SqT.of ht, rfl, rfl, _, rfl, ?_⟩
              rw [decide_eq_true rfl]
              exact iteT ⟨_, e0, 1, rfl, t, _, rfl, SqT.of ht, (by show ¬ (HT.sIx 5 0 (some 1) = 0 ∧ HT.sIx 5 5 none = 5); decide), fun r hr => q r _ (same_new hr) upd_same⟩
            | com n =>
              refine ⟨_, e0, t, _, 0, .str "commit", rfl, rfl, SqT.of ht, rfl, rfl, _, rfl, ?_⟩
              rw [decide_eq_false (by decide)]
              exact iteF ⟨_, e0, q t H (Same.refl H) ht⟩
            | abo n =>
              refine ⟨_, e0, t, _, 0, .str "abort", rfl, rfl, SqT.of ht, rfl, rfl, _, rfl, ?_⟩
              rw [decide_eq_false (by decide)]
              exact iteF ⟨_, e0, q t H (Same.refl H) ht⟩))) (blkOk_by (N := nLt) (sc := defScope sLtext) (by decide +kernel))
          (fun _ _ _ _ _ => pg_name (i := 3) scLt.nd rfl (Or.inl rfl)) (fun _ _ _ _ _ => pts_nil) (fun _ _ _ _ _ => pe_callTy (T := "str") (r := rStrW) call_strW (by rfl) mstr (by decide +kernel) (pa_cons (pv 3) pa_nil)))) pa_nil)))))
      (pss_one (ps_ret (pe_join pe_str (pv 1))))), ?_⟩
    obtain ⟨xs, ht, tx⟩ := tt.tup_of
    have lx := tx.lenm
    refine ⟨by show 0 ≤ sizeLine; decide, fun L hL => ?_⟩
    have ht0 := same_new (o := .lst []) hL _ _ ht
    refine ⟨_, rfl, t, rfl, ⟨_, SqT.of ht0⟩, for_tup (K := K) (a := t) (xs := xs) (fun i σ H2 => ∃ o2 : Option V, σ = [some (.ref t), some (.ref L), o2, none] ∧ Same H H2 ∧ H2 L = some (.lst (((ths.take i).map lineT).map V.str))) ⟨none, rfl, same_new hL, upd_same⟩ (fun i σ H2 _ ⟨_, _, s2, _⟩ => SqT.of (s2 _ _ ht)) ?_ ?_⟩
    · rintro i x σ H2 ex ⟨o2, rfl, s2, d2⟩
      obtain ⟨th, eth, td⟩ := tx.at_ ex
      have lt : i < ths.length := (List.getElem?_eq_some_iff.mp eth).1
      obtain ⟨b, rfl⟩ : ∃ b, x = .ref b := by
        cases th <;> (obtain ⟨b, _, e, _⟩ := TD.ref_of td; exact ⟨b, e⟩)
      have thk := tok th (List.mem_of_getElem? eth)
      obtain ⟨wl, wk⟩ := words_len thk
      have pw := parts_words th
      have pl : (partsV th).length = (wordsT th).length := by rw [← pw, List.length_map]
      refine ⟨_, rfl, .inl ⟨rfl, _, SqL.of d2⟩, ⟨_, rfl⟩, b, th, rfl, s2 _ _ (th_at td), fun r H3 s3 hr => ?_⟩
      have d3 := s3 _ _ d2
      refine ⟨r, rfl, ⟨_, SqT.of hr⟩, fun D hD => lc_tup (K := K) (a := r) (xs := partsV th) (fun j H4 => Same H3 H4 ∧ H4 D = some (.lst (((wordsT th).take j).map V.str))) ⟨same_new hD, upd_same⟩ (fun j H4 _ ⟨s4, _⟩ => SqT.of (s4 _ _ hr)) (fun j x H4 ex ⟨s4, d4⟩ => ?_) fun H4 ⟨s4, d4⟩ => ?_⟩
      · have lt : j < (partsV th).length := (List.getElem?_eq_some_iff.mp ex).1
        refine ⟨rfl, _, rfl, ?_⟩
        dsimp only [tNil]
        refine parts_ok thk (List.mem_of_getElem? ex) ⟨_, d4, ?_, same_at s4 hD, ?_⟩
        · rw [List.length_map, List.length_take]
          exact small_lt (m := 4) (by omega)
        · have ew : (wordsT th)[j]? = some (strV x) := by rw [← pw, List.getElem?_map, ex]; rfl
          rw [upd_same, List.take_succ, ew, List.map_append]
          rfl
      · rw [pl, List.take_length] at d4
        refine ⟨_, D, wordsT th, rfl, rfl, .inl (SqL.of d4), ?_, L, _, _, rfl, rfl, s4 _ _ d3, ?_, some (.ref b), rfl, same_at (s2.trans (s3.trans s4)) hL, ?_⟩
        · have z := sum_le (fun p : Str => p.length) 12 (wordsT th) wk
          have e2 : (" " : Str).length = 1 := rfl
          rw [e2]
          omega
        · rw [List.length_map, List.length_map, List.length_take]
          exact small_lt (m := 300) (by omega)
        · rw [upd_same, List.take_succ, eth, List.map_append, List.map_append]
          rfl
    · rintro σ H2 ⟨o2, rfl, s2, d2⟩
      rw [lx, List.take_length] at d2
      refine ⟨⟨_, rfl⟩, _, rfl, _, L, ths.map lineT, rfl, rfl, .inl (SqL.of d2), ?_, k _ s2⟩
      have z := sum_le (fun p : Str => p.length) 52 (ths.map lineT) fun p hp => by
        obtain ⟨th, m, rfl⟩ := List.mem_map.mp hp
        exact line_len (tok th m)
      have e2 : ("\n" : Str).length = 1 := rfl
      rw [List.length_map] at z ⊢
      rw [e2]
      omega
end
end My

-- ===== K15I =====
set_option Elab.async false
set_option linter.all false
set_option maxRecDepth 100000
set_option maxHeartbeats 4000000
namespace My
open PySem L2 PyProof.Rows PySem.Spec Kd TL
abbrev sThings : Stmt := top 36
abbrev sThing : Stmt := top 37
/-! ### texts of histories, taken apart -/
theorem lets_free : ∀ c ∈ LETS.cps.toList, c ≠ 32 ∧ c ≠ 10 := by decide +kernel
theorem wrd_free {z : Str} (h : Wrd z) : 32 ∉ tl z ∧ 10 ∉ tl z := ⟨fun m => (lets_free _ (h.2.2 _ m)).1 rfl, fun m => (lets_free _ (h.2.2 _ m)).2 rfl⟩
theorem num_free {i : Int} (h : 0 ≤ i) {s : Nat} (hs : s < 48 ∨ 57 < s) : s ∉ tl (numT i) := by
  obtain ⟨n, rfl⟩ := Int.eq_ofNat_of_zero_le h
  rw [num_tl]
  exact numL_free hs
theorem num_inj {i j : Int} (hi : 0 ≤ i) (hj : 0 ≤ j) (h : numT i = numT j) : i = j := by
  obtain ⟨n, rfl⟩ := Int.eq_ofNat_of_zero_le hi
  obtain ⟨m, rfl⟩ := Int.eq_ofNat_of_zero_le hj
  have z := congrArg tl h
  rw [num_tl, num_tl] at z
  rw [numL_inj z]
theorem txt_free : ∀ p ∈ [("begin" : Str), "commit", "abort"], 32 ∉ tl p ∧ 10 ∉ tl p := by decide +kernel
theorem words_free {th : Th} (h : ThOk th) : ∀ p ∈ wordsT th, 32 ∉ tl p ∧ 10 ∉ tl p := fun p m => by
  cases th with
  | beg =>
    rw [List.mem_singleton.mp m]
    exact txt_free _ (by simp)
  | did n a =>
    obtain ⟨n0, n1, a0, a1, w1, w2⟩ := h
    rcases List.mem_cons.mp m with rfl | m
    · exact ⟨num_free n0 (.inl (by decide)), num_free n0 (.inl (by decide))⟩
    rcases List.mem_cons.mp m with rfl | m
    · exact ⟨num_free a0 (.inl (by decide)), num_free a0 (.inl (by decide))⟩
    rcases List.mem_cons.mp m with rfl | m
    · exact wrd_free w1
    · rw [List.mem_singleton.mp m]
      exact wrd_free w2
  | com n =>
    rcases List.mem_cons.mp m with rfl | m
    · exact txt_free _ (by simp)
    · rw [List.mem_singleton.mp m]
      exact ⟨num_free h.1 (.inl (by decide)), num_free h.1 (.inl (by decide))⟩
  | abo n =>
    rcases List.mem_cons.mp m with rfl | m
    · exact txt_free _ (by simp)
    · rw [List.mem_singleton.mp m]
      exact ⟨num_free h.1 (.inl (by decide)), num_free h.1 (.inl (by decide))⟩
theorem words_ne (th : Th) : wordsT th ≠ [] := by cases th <;> simp [wordsT]
theorem line_split {th : Th} (h : ThOk th) : Txt.split (lineT th) " " = wordsT th :=
  split_join (s := 32) (S := []) rfl (by decide +kernel) (words_ne th) fun p hp => (words_free h p hp).1
theorem joinL_free {s : Nat} {S : List Nat} (hS : s ∉ S) : ∀ {ps : List (List Nat)}, (∀ p ∈ ps, s ∉ p) → s ∉ joinL S ps
  | [], _ => fun z => nomatch z
  | [p], h => h p List.mem_cons_self
  | p :: q :: r, h => by
    simp only [joinL, List.mem_append, not_or]
    exact ⟨h p List.mem_cons_self, hS, joinL_free hS fun z m => h z (List.mem_cons_of_mem _ m)⟩
theorem line_free {th : Th} (h : ThOk th) : 10 ∉ tl (lineT th) := by
  unfold lineT
  rw [join_tl]
  refine joinL_free (by decide) fun p hp => ?_
  obtain ⟨y, m, rfl⟩ := List.mem_map.mp hp
  exact (words_free h y m).2
theorem text_split {ths : List Th} (h : ∀ th ∈ ths, ThOk th) (ne : ths ≠ []) : Txt.split (textT ths) "\n" = ths.map lineT := by
  refine split_join (s := 10) (S := []) rfl (by decide +kernel) (fun e => ne (List.map_eq_nil_iff.mp e)) fun p hp => ?_
  obtain ⟨th, m, rfl⟩ := List.mem_map.mp hp
  exact line_free (h th m)
theorem text_ne {ths : List Th} (h : ∀ th ∈ ths, ThOk th) (ne : ths ≠ []) : textT ths ≠ "" := fun e => by
  have s := text_split h ne
  rw [e, show Txt.split ("" : Str) "\n" = [("" : Str)] from by decide +kernel] at s
  cases ths with
  | nil => exact ne rfl
  | cons th r =>
    injection s with s1 s2
    have q := line_split (h th List.mem_cons_self)
    rw [← s1, show Txt.split ("" : Str) " " = [("" : Str)] from by decide +kernel] at q
    cases th with
    | beg => revert q; unfold wordsT; decide
    | did n a =>
      have := congrArg List.length q
      simp [wordsT] at this
    | com n =>
      have := congrArg List.length q
      simp [wordsT] at this
    | abo n =>
      have := congrArg List.length q
      simp [wordsT] at this
/-! the numbers' dict -/
def numsD (m : Nat) : List (Key × V) := (List.range m).map fun n : Nat => ((Sum.inr (numT (n : Int)) : Key), V.int n)
theorem nums_key {m : Nat} {p : Key × V} (h : p ∈ numsD m) : ∃ n : Nat, n < m ∧ p = (Sum.inr (numT n), V.int n) := by
  obtain ⟨n, hn, rfl⟩ := List.mem_map.mp h
  exact ⟨n, List.mem_range.mp hn, rfl⟩
theorem nums_new (m : Nat) : ∀ p ∈ numsD m, p.1 ≠ Sum.inr (numT (m : Int)) := fun p hp e => by
  obtain ⟨n, lt, rfl⟩ := nums_key hp
  have z := num_inj (by omega) (by omega) (Sum.inr.inj e)
  omega
theorem nums_put (m : Nat) : putK (numsD m) (Sum.inr (numT (m : Int))) (V.int m) = numsD (m + 1) := by
  unfold putK
  rw [if_neg]
  · unfold numsD
    rw [List.range_succ, List.map_append]
    rfl
  · intro z
    obtain ⟨p, mem, e⟩ := List.any_eq_true.mp z
    exact nums_new m p mem (of_decide_eq_true e)
theorem nums_val {m : Nat} {g : Int} (g0 : 0 ≤ g) (h : g < m) : valV (numsD m) (Sum.inr (numT g)) = some (.int g) := by
  obtain ⟨g, rfl⟩ := Int.eq_ofNat_of_zero_le g0
  unfold valV
  have ex : ∃ p, (numsD m).find? (fun kv => decide (kv.1 = (Sum.inr (numT (g : Int)) : Key))) = some p := by
    rw [← Option.isSome_iff_exists, List.find?_isSome]
    exact ⟨_, List.mem_map.mpr ⟨g, List.mem_range.mpr (by omega), rfl⟩, by simp⟩
  obtain ⟨p, e⟩ := ex
  rw [e]
  have m1 := List.mem_of_find?_eq_some e
  have m2 := List.find?_some e
  obtain ⟨n, lt, rfl⟩ := nums_key m1
  have z := num_inj (by omega) (by omega) (Sum.inr.inj (of_decide_eq_true m2))
  have z2 : n = g := by omega
  rw [z2]
  rfl
/-- its numbers are looked up -/
def ThLt (m : Nat) : Th → Prop
  | .beg => True
  | .did n a => n < m ∧ a.1 < m
  | .com n => n < m
  | .abo n => n < m
theorem num_strok {i : Int} (h : 0 ≤ i) : PyData.strOk (numT i) = true := by
  unfold PyData.strOk
  rw [Array.all_eq_true']
  intro c hc
  obtain ⟨n, rfl⟩ := Int.eq_ofNat_of_zero_le h
  have m : c ∈ tl (numT (n : Int)) := Array.mem_toList_iff.mpr hc
  rw [num_tl] at m
  have r := numL_digits n c m
  have : c < 1114112 := by omega
  simpa using this
theorem words_shaped {th : Th} (h : ThOk th) : SeqAt.shaped (.list ((wordsT th).map .str)) = true := by
  have b : PyData.strOk "begin" = true := by decide +kernel
  have c : PyData.strOk "commit" = true := by decide +kernel
  have a_ : PyData.strOk "abort" = true := by decide +kernel
  have go : (PyData.list ((wordsT th).map .str)).canLay0 = true ∧ (PyData.list ((wordsT th).map .str)).depth ≤ 64 := by
    cases th with
    | beg => exact ⟨by simp [wordsT, PyData.canLay0, PyData.canLayAll0, b], by simp [wordsT, PyData.depth, PyData.depthAll]⟩
    | did n a =>
      obtain ⟨n0, n1, a0, a1, w1, w2⟩ := h
      exact ⟨by simp [wordsT, PyData.canLay0, PyData.canLayAll0, num_strok n0, num_strok a0, wrd_ok w1, wrd_ok w2], by simp [wordsT, PyData.depth, PyData.depthAll]⟩
    | com n => exact ⟨by simp [wordsT, PyData.canLay0, PyData.canLayAll0, num_strok h.1, c], by simp [wordsT, PyData.depth, PyData.depthAll]⟩
    | abo n => exact ⟨by simp [wordsT, PyData.canLay0, PyData.canLayAll0, num_strok h.1, a_], by simp [wordsT, PyData.depth, PyData.depthAll]⟩
  unfold SeqAt.shaped
  rw [Bool.and_eq_true]
  exact ⟨go.1, decide_eq_true go.2⟩
theorem dp_strs {K : PySem.W.Frag} {H : Hp} : ∀ ws : List Str, DpAll K H (ws.map V.str) (ws.map PyData.str)
  | [] => .nil
  | x :: ws => .cons (.str x) (dp_strs ws)
theorem eqv_words (th : Th) : PyData.eqv (.list ((wordsT th).map .str)) (.list [.str "begin"]) = (match th with | .beg => true | _ => false) := by
  cases th with
  | beg => simp [wordsT, PyData.eqv, PyData.eqvAll]
  | did n a => simp [wordsT, PyData.eqv, PyData.eqvAll]
  | com n => simp [wordsT, PyData.eqv, PyData.eqvAll]
  | abo n => simp [wordsT, PyData.eqv, PyData.eqvAll]
def spThing : Sp := fun vs H Q _ => ∃ (a b : Addr) (th : Th) (m : Nat), vs = [.ref a, .ref b] ∧ H a = some (.lst ((wordsT th).map V.str)) ∧ H b = some (.dK (numsD m)) ∧ ThOk th ∧ ThLt m th ∧ ∀ p H', Same H H' → H' p = some (.tup (thV th)) → Q (.ref p) H'
def spThings : Sp := fun vs H Q _ => ∃ (sy : Addr) (hv : List V) (ths : List Th), vs = [.ref sy, .str (textT ths)] ∧ H sy = some (.tup hv) ∧ hv.length ≤ 100 ∧ (∀ th ∈ ths, ThOk th) ∧ (∀ th ∈ ths, ThLt (ths.length + hv.length) th) ∧ ths.length ≤ 200 ∧ ∀ p H', Same H H' → TD H' (.ref p) (histD ths) → Q (.ref p) H'
section
variable {P : Program} {w : World} {K : PySem.W.Frag} {mg : Str → Option Value} {base : Heap}
theorem scTg : FnScope ["words", "numbers"] ["words", "numbers"] (defScope sThing) := ⟨rfl, rfl, rfl, by decide +kernel, rfl, by decide +kernel, by decide +kernel⟩
theorem ok_thing {f : Addr} {fd : FuncData} (F : Fun K "_thing" "_thing" sThing f fd) (mlen : mg "len" = none) : FnOk P w K mg base CX0 1 f fd ["words", "numbers"] spThing := by
  refine F.ok scTg (fun vs H Q E h => ?_) (fun cdv A outer s H vs Q E hr h => ?_)
  · obtain ⟨a, b, th, m, rfl, _⟩ := h
    rfl
  · obtain ⟨a, b, th, m, rfl, ha, hb, tok, tlt, k⟩ := h
    have hu := hr.units
    have hu2 : (A.deeper (envOfC "_thing" (defScope sThing) s.heap.objs.size f cdv)).units + 1 < cLine := by omega
    refine ⟨_, pss_cons (ps_if (pt_cmpR (op_eqD hu) (pv 0) (pe_lst (pa_cons pe_str pa_nil)) (nomark _)) (pss_one (ps_ret (pe_tup (pa_cons pe_str pa_nil)))) pss_nil)
      (pss_cons (ps_if (PW.pt (pw_and (pt_cmpR op_eq (pe_callB call_len_seq (by rfl) mlen PySem.boot_len (pa_cons (pv 0) pa_nil)) pe_int (nomark _)) (pw_and1 (pt_cmp (pc_din hu2 (pe_ix ix_list (pv 0) pe_int (fun _ _ => rfl)) (pv 1))))))
        (pss_one (ps_ret (pe_tup (pa_cons (pe_ix ix_list (pv 0) pe_int (fun _ _ => rfl)) (pa_cons (pe_dget hu2 (pv 1) (pe_ix ix_list (pv 0) pe_int (fun _ _ => rfl)) (fun _ _ => rfl)) pa_nil))))) pss_nil)
      (pss_cons (ps_if (PW.pt (pw_and (pt_cmpR op_eq (pe_callB call_len_seq (by rfl) mlen PySem.boot_len (pa_cons (pv 0) pa_nil)) pe_int (nomark _)) (pw_and (pt_cmp (pc_din hu2 (pe_ix ix_list (pv 0) pe_int (fun _ _ => rfl)) (pv 1))) (pw_and1 (pt_cmp (pc_din hu2 (pe_ix ix_list (pv 0) pe_int (fun _ _ => rfl)) (pv 1)))))))
        (pss_one (ps_ret (pe_tup (pa_cons pe_str (pa_cons (pe_dget hu2 (pv 1) (pe_ix ix_list (pv 0) pe_int (fun _ _ => rfl)) (fun _ _ => rfl)) (pa_cons (pe_dget hu2 (pv 1) (pe_ix ix_list (pv 0) pe_int (fun _ _ => rfl)) (fun _ _ => rfl)) (pa_cons (pe_ix ix_list (pv 0) pe_int (fun _ _ => rfl)) (pa_cons (pe_ix ix_list (pv 0) pe_int (fun _ _ => rfl)) pa_nil)))))))) pss_nil)
      (pss_one (ps_ret pe_non)))), ?_⟩
    refine ⟨_, rfl, by show 1 ≤ sizeLine; decide, fun e he => ⟨_, _, .lst (SqL.of (same_new he _ _ ha)) (dp_strs _), .lst (SqL.of upd_same) (.cons (.str _) .nil), words_shaped tok, by decide +kernel, _, rfl, ?_⟩⟩
    rw [eqv_words]
    have s1 := same_new (o := .lst [V.str "begin"]) he
    have ha1 := s1 _ _ ha
    have hb1 := s1 _ _ hb
    generalize upd H e (.lst [V.str "begin"]) = H1 at s1 ha1 hb1 ⊢
    have get : ∀ i : Int, 0 ≤ i → i < m → DGet H1 b (.str (numT i)) (some (.int i)) := fun i h0 h1 => .inl ⟨numsD m, Sum.inr (numT i), .inl hb1, rfl, (nums_val h0 h1).symm⟩
    cases th with
    | beg => exact iteT ⟨by show 1 ≤ sizeLine; decide, fun q hq => k q _ (s1.trans (same_new hq)) upd_same⟩
    | did n ac =>
      obtain ⟨n0, n1, a0, a1, w1, w2⟩ := tok
      refine iteF ⟨_, rfl, a, _, rfl, .inl (SqL.of ha1), rfl, _, rfl, iteF (iteF ?_)⟩
      refine ⟨_, rfl, a, _, rfl, .inl (SqL.of ha1), rfl, _, rfl, iteT ?_⟩
      refine ⟨_, rfl, a, _, _, _, rfl, rfl, SqL.of ha1, rfl, _, rfl, b, _, rfl, get n n0 tlt.1, _, rfl, iteT ?_⟩
      refine ⟨_, rfl, a, _, _, _, rfl, rfl, SqL.of ha1, rfl, _, rfl, b, _, rfl, get ac.1 a0 tlt.2, _, rfl, iteT ?_⟩
      refine ⟨_, rfl, _, rfl, a, _, _, _, rfl, rfl, SqL.of ha1, rfl, b, _, rfl, get n n0 tlt.1, _, rfl, _, rfl, a, _, _, _, rfl, rfl, SqL.of ha1, rfl, b, _, rfl, get ac.1 a0 tlt.2, _, rfl, a, _, _, _, rfl, rfl, SqL.of ha1, rfl, _, rfl, a, _, _, _, rfl, rfl, SqL.of ha1, rfl, ?_⟩
      exact ⟨by show 5 ≤ sizeLine; decide, fun q hq => k q _ (s1.trans (same_new hq)) upd_same⟩
    | com n =>
      obtain ⟨n0, n1⟩ := tok
      refine iteF ⟨_, rfl, a, _, rfl, .inl (SqL.of ha1), rfl, _, rfl, iteT ?_⟩
      refine ⟨_, rfl, a, _, _, _, rfl, rfl, SqL.of ha1, rfl, _, rfl, b, _, rfl, get n n0 tlt, _, rfl, iteT ?_⟩
      refine ⟨_, rfl, a, _, _, _, rfl, rfl, SqL.of ha1, rfl, _, rfl, _, rfl, a, _, _, _, rfl, rfl, SqL.of ha1, rfl, b, _, rfl, get n n0 tlt, ?_⟩
      exact ⟨by show 2 ≤ sizeLine; decide, fun q hq => k q _ (s1.trans (same_new hq)) upd_same⟩
    | abo n =>
      obtain ⟨n0, n1⟩ := tok
      refine iteF ⟨_, rfl, a, _, rfl, .inl (SqL.of ha1), rfl, _, rfl, iteT ?_⟩
      refine ⟨_, rfl, a, _, _, _, rfl, rfl, SqL.of ha1, rfl, _, rfl, b, _, rfl, get n n0 tlt, _, rfl, iteT ?_⟩
      refine ⟨_, rfl, a, _, _, _, rfl, rfl, SqL.of ha1, rfl, _, rfl, _, rfl, a, _, _, _, rfl, rfl, SqL.of ha1, rfl, b, _, rfl, get n n0 tlt, ?_⟩
      exact ⟨by show 2 ≤ sizeLine; decide, fun q hq => k q _ (s1.trans (same_new hq)) upd_same⟩
abbrev nTs : List Str := ["system", "text", "lines", "numbers", "number", "line"]
theorem scTs : FnScope nTs ["system", "text"] (defScope sThings) := ⟨rfl, rfl, rfl, by decide +kernel, rfl, by decide +kernel, by decide +kernel⟩
theorem ok_things {f fT : Addr} {fd fdT : FuncData} (F : Fun K "_things" "_things" sThings f fd) (mlen : mg "len" = none) (mrange : mg "range" = none) (mstr : mg "str" = none) (mtup : mg "tuple" = none)
    (GT : FnOk P w K mg base CX0 1 fT fdT ["words", "numbers"] spThing) (mT : mg "_thing" = some (.ref fT)) (kT : PySem.W.keepIn K (.ref fT) = true) (bT : Binds K fdT ["words", "numbers"] []) :
    FnOk P w K mg base CX0 2 f fd ["system", "text"] spThings := by
  refine F.ok scTs (fun vs H Q E h => ?_) (fun cdv A outer s H vs Q E hr h => ?_)
  · obtain ⟨sy, hv, ths, rfl, _⟩ := h
    rfl
  · obtain ⟨sy, hv, ths, rfl, hs, l100, tok, tlt, few, k⟩ := h
    refine ⟨_, pss_cons (ps_if (pt_cmpR op_eq (pv 1) pe_str (nomark _)) (pss_one (ps_ret (pe_tup pa_nil))) pss_nil)
      (pss_cons (ps_set (i := 2) scTs.nd rfl (Or.inl rfl) (pe_split (pv 1) pe_str))
      (pss_cons (ps_set (i := 3) scTs.nd rfl (Or.inr rfl) (pe_dc (own := [("number", 4)]) (g := gName 4) (tt := tYes) (tv := tVar 4) rfl scTs.nd (pi_range1 (by rfl) mrange (pa_cons (pe_op op_add (pe_callB (r := rLenQ K) call_len_seq (by rfl) mlen PySem.boot_len (pa_cons (pv 2) pa_nil)) (pe_callB (r := rLenQ K) call_len_seq (by rfl) mlen PySem.boot_len (pa_cons (pv 0) pa_nil))) pa_nil)) (blkOk_by (N := nTs) (sc := defScope sThings) (by decide +kernel))
          (fun _ _ _ _ _ => pg_name (i := 4) scTs.nd rfl (Or.inl rfl)) (fun _ _ _ _ _ => pts_nil) (fun _ _ _ _ _ => pe_callTy call_str_int (by rfl) mstr (by decide +kernel) (pa_cons (pv 4) pa_nil)) (fun _ _ _ _ _ => pv 4)))
      (pss_one (ps_ret (pe_callTy call_tuple_of (by rfl) mtup (by decide +kernel) (pa_cons (pe_lc (own := [("line", 5)]) (g := gName 5) (tt := tYes) rfl scTs.nd (pi_list (pv 2)) (blkOk_by (N := nTs) (sc := defScope sThings) (by decide +kernel))
          (fun _ _ _ _ _ => pg_name (i := 5) scTs.nd rfl (Or.inl rfl)) (fun _ _ _ _ _ => pts_nil) (fun _ _ _ _ _ => pe_call GT hr (by rfl) mT kT bT .nil pass0 (pa_cons (pe_split (pv 5) pe_str) (pa_cons (pv 3) pa_nil)))) pa_nil)))))), ?_⟩
    have big := sizeLine_eq
    have l := text_len tok (by omega)
    refine ⟨_, rfl, rfl, _, rfl, ?_⟩
    by_cases ne : ths = []
    · subst ne
      rw [show decide (V.str (textT []) = V.str "") = true from decide_eq_true (by show V.str Str.empty = V.str ""; rfl)]
      exact iteT ⟨by show 0 ≤ sizeLine; decide, fun p hp => k p _ (same_new hp) (.tup upd_same .nil)⟩
    · rw [decide_eq_false (fun e => text_ne tok ne (V.str.inj e))]
      refine iteF ?_
      refine ⟨_, rfl, ⟨_, rfl⟩, _, _, rfl, rfl, rfl, by omega, fun p hp => ?_⟩
      rw [text_split tok ne]
      have s1 : Same H (upd H p (.lst ((ths.map lineT).map V.str))) := same_new hp
      have hp1 : (upd H p (.lst ((ths.map lineT).map V.str))) p = some (.lst ((ths.map lineT).map V.str)) := upd_same
      generalize upd H p (.lst ((ths.map lineT).map V.str)) = H1 at s1 hp1 ⊢
      have hs1 := s1 _ _ hs
      refine ⟨_, rfl, p, _, rfl, .inl (SqL.of hp1), _, rfl, sy, _, rfl, .inr (SqT.of hs1), _, _, rfl, rfl, _, rfl, ?_⟩
      rw [List.length_map, List.length_map, show ((ths.length : Int) + (hv.length : Int)) = ((ths.length + hv.length : Nat) : Int) by omega]
      have hN : ths.length + hv.length ≤ 300 := by omega
      generalize ths.length + hv.length = N at tlt hN ⊢
      refine ⟨by omega, by omega, fun b hb => ⟨fun i m H2 => m = N - i ∧ i ≤ N ∧ Same H1 H2 ∧ H2 b = some (.dK (numsD i)), ⟨_, rfl, Nat.zero_le _, same_new hb, upd_same⟩, fun i m H2 ⟨em, le, s2, d2⟩ => ?_⟩⟩
      subst em
      rcases Nat.lt_or_ge i N with lt | ge
      · refine .inr ⟨by show i < (N : Int).toNat; omega, fun H3 => Same H1 H3 ∧ H3 b = some (.dK (numsD (i + 1))), fun H3 ⟨s3, d3⟩ => ⟨_, by omega, rfl, lt, s3, d3⟩, fun v H3 yl => ?_⟩
        obtain ⟨eH, ev⟩ := yl
        subst eH ev
        rw [Int.zero_add]
        refine ⟨rfl, _, rfl, (i : Int), rfl, num_log (by omega) (by omega), _, rfl, numsD i, Sum.inr (numT i), rfl, d2, ?_, same_at s2 hb, ?_⟩
        · unfold numsD
          rw [List.length_map, List.length_range]
          exact small_lt (m := 300) (by omega)
        · rw [upd_same, nums_put]
      · have e : i = N := by omega
        subst e
        refine .inl ⟨by show (i : Int).toNat ≤ i; omega, ?_⟩
        have hp2 := s2 _ _ hp1
        refine ⟨_, rfl, p, rfl, ⟨_, SqL.of hp2⟩, fun D hD => lc_list (K := K) (a := p) (xs := (ths.map lineT).map V.str) (fun j H3 => Same H2 H3 ∧ ∃ vs, H3 D = some (.lst vs) ∧ TDs H3 vs ((ths.take j).map thD)) ⟨same_new hD, [], upd_same, by simpa using TDs.nil⟩ (fun j H3 _ ⟨s3, _⟩ => SqL.of (s3 _ _ hp2)) (fun j x H3 ex ⟨s3, vs, d3, tv⟩ => ?_) fun H3 ⟨s3, vs, d3, tv⟩ => ?_⟩
        · rw [List.getElem?_map, List.getElem?_map] at ex
          obtain ⟨z, ez, rfl⟩ := Option.map_eq_some_iff.mp ex
          obtain ⟨th, eth, rfl⟩ := Option.map_eq_some_iff.mp ez
          have m := List.mem_of_getElem? eth
          have lt : j < ths.length := (List.getElem?_eq_some_iff.mp eth).1
          have vl := tv.lenm
          rw [List.length_take] at vl
          have ll := line_len (tok th m)
          refine ⟨rfl, _, rfl, ⟨_, rfl⟩, _, _, rfl, rfl, rfl, by omega, fun q hq => ⟨_, rfl, ?_⟩⟩
          rw [line_split (tok th m)]
          have s4 := same_new (o := .lst ((wordsT th).map V.str)) hq
          refine ⟨q, b, th, i, rfl, upd_same, s4 _ _ (s3 _ _ d2), tok th m, tlt th m, fun r H5 s5 hr => ?_⟩
          have d5 := s5 _ _ (s4 _ _ d3)
          have tp : Tup H5 (upd H5 D (.lst (vs ++ [.ref r]))) := Tup.at_ d5 fun xs z => nomatch z
          refine ⟨vs, d5, small_lt (m := 200) (by omega), same_at (s3.trans (s4.trans s5)) hD, vs ++ [.ref r], upd_same, ?_⟩
          rw [List.take_succ, eth, Option.toList_some, List.map_append]
          exact TDs.snoc (th_new (tp _ _ hr)) ((tv.to (Tup.of (s4.trans s5))).to tp)
        · rw [List.length_map, List.length_map, List.take_length] at tv
          exact ⟨D, vs, rfl, .inl ⟨SqL.of d3, fun q hq => k q _ ((s1.trans (s2.trans s3)).trans (same_new hq)) (.tup upd_same (tv.to (Tup.new hq)))⟩⟩
end
end My

-- ===== K15J =====
set_option Elab.async false
set_option linter.all false
set_option maxRecDepth 100000
set_option maxHeartbeats 4000000
namespace My
open PySem L2 PyProof.Rows PySem.Spec Kd TL StX ClX
abbrev sKev : Stmt := inClass sKind 5
abbrev sEo : Stmt := top 26
abbrev sIa : Stmt := top 27
theorem rows_evs2 {H : Hp} : ∀ M : List (Addr × List Key), (∀ q ∈ M, H q.1 = some (.tup (q.2.map kV)) ∧ ∃ e : Ev, q.2 = evK e) → ∃ es : List Ev, TDs H (M.map fun q => V.ref q.1) (es.map evD) ∧ M.map Prod.snd = es.map evK
  | [], _ => ⟨[], .nil, rfl⟩
  | q :: M, h => by
    obtain ⟨es, h1, h2⟩ := rows_evs2 M fun r m => h r (List.mem_cons_of_mem _ m)
    obtain ⟨a, e, ee⟩ := h q List.mem_cons_self
    refine ⟨e :: es, .cons (ev_new (by rw [ee] at a; exact a)) h1, by rw [List.map_cons, List.map_cons, ee, h2]⟩
def spKev (C : Addr) : Sp := fun vs H Q _ => ∃ (v : V) (ss : List (List Stp)), vs = [v] ∧ KindAt C H v ss ∧ KOk ss ∧ ∀ (R : Addr) (es : List Ev) (H' : Hp), Same H H' → TD H' (.ref R) (.tuple (es.map evD)) → (∀ e, e ∈ es ↔ EvIn ss e) → es.Nodup → es.length ≤ 24 → Q (.ref R) H'
/-- the events' dict -/
def evB (e : Ev) : List Key × V := (evK e, .bl true)
def EvTab (H : Hp) (R : Addr) (sss : List (List (List Stp))) : Prop := ∃ bs : List Addr, H R = some (.lst (bs.map V.ref)) ∧ bs.length = sss.length ∧ ∀ (i : Nat) (b : Addr) (ss : List (List Stp)), bs[i]? = some b → sss[i]? = some ss → ∃ es : List Ev, H b = some (.dT (es.map evB)) ∧ ∀ e, EvIn ss e → e ∈ es
def HouseAt (C : Addr) (H : Hp) (hv : List V) (sss : List (List (List Stp))) : Prop := hv.length = sss.length ∧ ∀ (i : Nat) (v : V) (ss : List (List Stp)), hv[i]? = some v → sss[i]? = some ss → KindAt C H v ss
theorem HouseAt.same {C : Addr} {H H' : Hp} {hv : List V} {sss : List (List (List Stp))} (s : Same H H') (h : HouseAt C H hv sss) : HouseAt C H' hv sss := ⟨h.1, fun i v ss e1 e2 => (h.2 i v ss e1 e2).same s⟩
def spEo (C : Addr) : Sp := fun vs H Q _ => ∃ (sy : Addr) (hv : List V) (sss : List (List (List Stp))), vs = [.ref sy] ∧ H sy = some (.tup hv) ∧ HouseAt C H hv sss ∧ (∀ ss ∈ sss, KOk ss) ∧ sss.length ≤ 4 ∧ ∀ R H', Same H H' → H R = none → EvTab H' R sss → Q (.ref R) H'
def spIa : Sp := fun vs H Q _ => ∃ (R : Addr) (a : Act) (sss : List (List (List Stp))), vs = [.ref R, .int a.1, .str a.2.1, .str a.2.2] ∧ EvTab H R sss ∧ EvOf sss a ∧ ∀ H', Same H H' → Q (.bl true) H'
theorem evd_dict {K : PySem.W.Frag} {o0 o1 : Option V} {b : Addr} {ys : List V} {es : List Ev} {H : Hp} (hb : H b = some (.tup ys)) (hy : TDs H ys (es.map evD)) (nd : es.Nodup) (few : es.length ≤ 24) {Q : VK}
    (q : ∀ D H', Same H H' → H' D = some (.dT (es.map evB)) → Q (.ref D) H') :
    DcW (gName 2) (tVar 2) (tC (.bl true)) [2] [o0, o1, none] Q (Itt K b) H := by
  intro D hD
  have len := hy.lenm
  refine ⟨fun i m H2 => m = ys.length - i ∧ i ≤ ys.length ∧ Same H H2 ∧ H2 D = some (.dT ((es.take i).map evB)), ⟨_, rfl, Nat.zero_le _, same_new hD, by simp [upd_same]⟩, fun i m H2 ⟨em, le, s2, d2⟩ => ?_⟩
  subst em
  have hb2 := s2 _ _ hb
  rcases Nat.lt_or_ge i ys.length with lt | ge
  · obtain ⟨y, ey⟩ : ∃ y, ys[i]? = some y := ⟨_, List.getElem?_eq_getElem lt⟩
    obtain ⟨e, ee, te⟩ := hy.at_ ey
    obtain ⟨c, rfl, hc⟩ := ev_of te
    refine .inr ⟨⟨ys, _, SqT.of hb2, ey⟩, fun H3 => Same H H3 ∧ H3 D = some (.dT ((es.take (i + 1)).map evB)), fun H3 ⟨s3, d3⟩ => ⟨_, by omega, rfl, lt, s3, d3⟩, fun v H3 yl => ?_⟩
    obtain ⟨eH, yv⟩ := yl
    subst eH
    have e0 : ys[i]? = some v := yv _ (SqT.of hb2)
    rw [ey] at e0
    cases e0
    refine ⟨rfl, _, rfl, (es.take i).map evB, evK e, c, rfl, s2 _ _ hc, d2, ?_, same_at s2 hD, ?_⟩
    · rw [List.length_map, List.length_take]
      exact small_lt (m := 24) (by omega)
    · rw [upd_same, putK_new, List.take_succ, ee, List.map_append]
      · rfl
      · intro p mp e2
        obtain ⟨x, mx, rfl⟩ := List.mem_map.mp mp
        have ex : x = e := evK_inj e2
        rw [ex] at mx
        obtain ⟨lt2, rfl⟩ := List.getElem?_eq_some_iff.mp ee
        obtain ⟨j, hj, e3⟩ := List.mem_take_iff_getElem.mp mx
        have := (List.getElem_inj nd).mp e3
        omega
  · have e : i = ys.length := by omega
    subst e
    rw [len, List.take_length] at d2
    exact .inl ⟨⟨ys, SqT.of hb2, Nat.le_refl _⟩, q D H2 s2 d2⟩
theorem val_in {es : List Ev} {e : Ev} (h : e ∈ es) : (valV (es.map evB) (evK e)).isSome = true := by
  unfold valV
  have ex : ∃ p, (es.map evB).find? (fun kv => decide (kv.1 = evK e)) = some p := by
    rw [← Option.isSome_iff_exists, List.find?_isSome]
    exact ⟨evB e, List.mem_map.mpr ⟨e, h, rfl⟩, by simp [evB]⟩
  obtain ⟨p, q⟩ := ex
  rw [q]
  rfl
section
variable {P : Program} {w : World} {K : PySem.W.Frag} {mg : Str → Option Value} {base : Heap} {C : Addr}
abbrev nKv : List Str := ["self", "state", "step"]
theorem scKv : FnScope nKv ["self"] (defScope sKev) := ⟨rfl, rfl, rfl, by decide +kernel, rfl, by decide +kernel, by decide +kernel⟩
theorem ok_kev {f : Addr} {fd : FuncData} (F : Fun K "events" "Kind.events" sKev f fd) (cl : Cls K C) (n1 : NoAttr K C "states") (mtup : mg "tuple" = none) (msorted : mg "sorted" = none) : FnOk P w K mg base CX0 1 f fd ["self"] (spKev C) := by
  refine F.ok scKv (fun vs H Q E h => ?_) (fun cdv A outer s H vs Q E hr h => ?_)
  · obtain ⟨v, ss, rfl, _⟩ := h
    rfl
  · obtain ⟨v, ss, rfl, hk, so, k⟩ := h
    have hu := hr.units
    have hu2 : (A.deeper (envOfC "Kind.events" (defScope sKev) s.heap.objs.size f cdv)).units + 2 < cLine := by omega
    refine ⟨_, pss_one (ps_ret (pe_callTy call_tuple_of (by rfl) mtup (by decide +kernel) (pa_cons (pe_callB (cr_sortS rfl hu) (by rfl) msorted PyProof.Rows.boot_sorted (pa_cons
      (pe_sc2 (own := [("state", 1), ("step", 2)]) (us := [2]) (wb := iTup K (tVar 1)) (te := tSl (rSlT K) (tVar 2) tNoPart (tPart (tC (V.int 2)))) rfl scKv.nd hu2 (pi_tup (pe_fld (pv 0) rfl)) (blkOk_by (N := nKv) (sc := defScope sKev) (by decide +kernel)) (by decide)
            (fun _ _ _ _ _ => pg_name (i := 1) scKv.nd rfl (Or.inl rfl)) (fun _ _ _ _ _ => pi_tup (pv 1)) (fun _ _ _ _ _ => pg_name (i := 2) scKv.nd rfl (Or.inl rfl)) (fun _ _ _ _ _ => pe_slice (r := rSlT K) sl_tup (pv 2) po_none (po_some pe_int))) pa_nil)) pa_nil))), ?_⟩
    obtain ⟨om, dx, a, m, rfl, ho, ht, hm⟩ := hk
    obtain ⟨xs, ha, hxs⟩ := ht.tup_of
    obtain ⟨es0, e1, e2⟩ := so.evs
    refine ⟨_, rfl, om, C, dx, _, _, rfl, ho, cl, n1, rfl, a, rfl, ⟨_, SqT.of ha⟩, ev_set (K := K) (P := P) (w := w) (o := some (V.ref om)) (Q := fun x H1 => rSortS K P w [x] H1 fun y H2 => rTupO K [y] H2 Q) ha hxs e1 e2 fun D2 H3 L s3 h1 h2 h3 h4 h5 => ?_⟩
    have ek : ∀ q ∈ L, ∃ e : Ev, q.2 = evK e := fun q mq => by
      obtain ⟨st, _, x, _, e⟩ := (h4 q.2).mp (List.mem_map.mpr ⟨q, mq, rfl⟩)
      exact ⟨evOf x, e⟩
    refine ⟨D2, L, rfl, h1, fun q mq => SqT.of (h2 q mq), ?_, ?_, fun L1 p pm l64 nd2 hp => ?_⟩
    · intro d hd d' hd'
      obtain ⟨q, mq, rfl⟩ := List.mem_map.mp hd
      obtain ⟨r, mr, rfl⟩ := List.mem_map.mp hd'
      obtain ⟨x, ex⟩ := ek q mq
      obtain ⟨y, ey⟩ := ek r mr
      rw [ex, ey]
      rfl
    · refine .inl fun d hd => ?_
      obtain ⟨q, mq, rfl⟩ := List.mem_map.mp hd
      obtain ⟨x, ex⟩ := ek q mq
      rw [ex]
      exact ⟨_, _, rfl⟩
    have pm2 : (L1.mergeSort (PySem.W.dataLe false fun q : Addr × List Key => tD q.2)).Perm L := (List.mergeSort_perm _ _).trans pm
    generalize L1.mergeSort (PySem.W.dataLe false fun q : Addr × List Key => tD q.2) = M at pm2 ⊢
    refine ⟨p, _, rfl, .inl ⟨SqL.of upd_same, fun r hr3 => ?_⟩⟩
    have sA := (same_new (o := .lst (M.map fun q => V.ref q.1)) hp).trans (same_new (o := .tup (M.map fun q => V.ref q.1)) hr3)
    obtain ⟨es, t1, t2⟩ := rows_evs2 (H := upd (upd H3 p (.lst (M.map fun q => V.ref q.1))) r (.tup (M.map fun q => V.ref q.1))) M fun q mq => ⟨sA _ _ (h2 q (pm2.mem_iff.mp mq)), ek q (pm2.mem_iff.mp mq)⟩
    have ndk : (es.map evK).Nodup := by
      rw [← t2]
      exact (pm2.map Prod.snd).nodup_iff.mpr h3
    have lm : es.length = L.length := by
      have z := congrArg List.length t2
      rw [List.length_map, List.length_map, pm2.length_eq] at z
      exact z.symm
    refine k r es _ (s3.trans sA) (.tup upd_same t1) (fun e => ?_) (List.Pairwise.of_map evK (fun x y n e => n (by rw [e])) ndk) (by omega)
    have q1 : e ∈ es ↔ evK e ∈ M.map Prod.snd := by
      rw [t2, List.mem_map]
      exact ⟨fun m => ⟨e, m, rfl⟩, fun ⟨x, mx, ex⟩ => by rw [← evK_inj ex]; exact mx⟩
    rw [q1, (pm2.map Prod.snd).mem_iff, h4]
    unfold EvIn
    constructor
    · rintro ⟨st, m1, x, m2, e3⟩
      exact ⟨st, m1, x, m2, (evK_inj e3).symm⟩
    · rintro ⟨st, m1, x, m2, e3⟩
      exact ⟨st, m1, x, m2, by rw [e3]⟩
abbrev nEo : List Str := ["system", "kind", "event"]
theorem scEo : FnScope nEo ["system"] (defScope sEo) := ⟨rfl, rfl, rfl, by decide +kernel, rfl, by decide +kernel, by decide +kernel⟩
theorem ok_eo {f p3 g3 : Addr} {fd fd3 : FuncData} (F : Fun K "events_of" "events_of" sEo f fd) (cl : Cls K C) (m3 : PropOf K C "events" p3 g3) (G3 : FnOk P w K mg base CX0 1 g3 fd3 ["self"] (spKev C)) (b3 : Binds K fd3 ["self"] []) : FnOk P w K mg base CX0 3 f fd ["system"] (spEo C) := by
  refine F.ok scEo (fun vs H Q E h => ?_) (fun cdv A outer s H vs Q E hr h => ?_)
  · obtain ⟨sy, hv, sss, rfl, _⟩ := h
    rfl
  · obtain ⟨sy, hv, sss, rfl, hs, hh, ko, l4, k⟩ := h
    have hu := hr.units
    have hu2 : (A.deeper (envOfC "events_of" (defScope sEo) s.heap.objs.size f cdv)).units + 2 < cLine := by omega
    refine ⟨_, pss_one (ps_ret (pe_lc (own := [("kind", 1)]) (g := gName 1) (tt := tYes) (te := tDcT (iTup K (tProp C (spKev C) [] E0 (tVar 1))) (gName 2) (tVar 2) (tC (.bl true)) [2]) rfl scEo.nd (pi_tup (pv 0)) (blkOk_by (N := nEo) (sc := defScope sEo) (by decide +kernel))
            (fun _ _ _ _ _ => pg_name (i := 1) scEo.nd rfl (Or.inl rfl)) (fun _ _ _ _ _ => pts_nil)
            (fun _ _ _ _ _ => pe_dcT (own := [("event", 2)]) rfl scEo.nd hu2 (pi_tup (pe_prop (pv 1) cl m3 G3 hr b3 .nil pass0 rfl)) (blkOk_by (N := nEo) (sc := relS (lcScope sEo) (defScope sEo)) (by decide +kernel))
              (fun _ _ _ _ _ => pg_name (i := 2) scEo.nd rfl (Or.inl rfl)) (fun _ _ _ _ _ => pv 2) (fun _ _ _ _ _ => pe_bl)))), ?_⟩
    have lh := hh.1
    refine ⟨_, rfl, sy, rfl, ⟨_, SqT.of hs⟩, fun D hD => lc_tup (K := K) (a := sy) (xs := hv) (fun i H2 => Same H H2 ∧ ∃ bs : List Addr, H2 D = some (.lst (bs.map V.ref)) ∧ bs.length = i ∧ ∀ (j : Nat) (b : Addr) (ss : List (List Stp)), bs[j]? = some b → sss[j]? = some ss → ∃ es : List Ev, H2 b = some (.dT (es.map evB)) ∧ ∀ e, EvIn ss e → e ∈ es)
      ⟨same_new hD, [], upd_same, rfl, fun j b st e => by simp at e⟩ (fun i H2 _ ⟨s2, _⟩ => SqT.of (s2 _ _ hs)) (fun i x H2 ex ⟨s2, bs, d2, bl, hbs⟩ => ?_) fun H2 ⟨s2, bs, d2, bl, hbs⟩ => ?_⟩
    · have lt : i < hv.length := (List.getElem?_eq_some_iff.mp ex).1
      obtain ⟨ss, es_⟩ : ∃ ss, sss[i]? = some ss := ⟨sss[i]'(by omega), List.getElem?_eq_getElem _⟩
      have ka := (hh.2 i x ss ex es_).same s2
      have kss := ko ss (List.mem_of_getElem? es_)
      obtain ⟨om, dx, a0, m0, rfl, hom, _, _⟩ := id ka
      refine ⟨rfl, _, rfl, om, dx, _, rfl, hom, _, ss, rfl, ka, kss, fun R es H3 s3 tR iff nd few => ?_⟩
      obtain ⟨ys, hR, tys⟩ := tR.tup_of
      refine ⟨R, rfl, ⟨_, SqT.of hR⟩, evd_dict (K := K) (o0 := some (V.ref sy)) (o1 := some (V.ref om)) (Q := fun y H4 => ∃ acc, H4 D = some (.lst acc) ∧ acc.length < sizeLine ∧ Same H (upd H4 D (.lst (acc ++ [y]))) ∧ ∃ bs : List Addr, (upd H4 D (.lst (acc ++ [y]))) D = some (.lst (bs.map V.ref)) ∧ bs.length = i + 1 ∧ ∀ (j : Nat) (b : Addr) (ss : List (List Stp)), bs[j]? = some b → sss[j]? = some ss → ∃ es : List Ev, (upd H4 D (.lst (acc ++ [y]))) b = some (.dT (es.map evB)) ∧ ∀ e, EvIn ss e → e ∈ es)
        hR tys nd few fun D2 H4 s4 d4 => ⟨_, s4 _ _ (s3 _ _ d2), ?_, same_at (s2.trans (s3.trans s4)) hD, bs ++ [D2], ?_, ?_, fun j c sj ec ej => ?_⟩⟩
      · rw [List.length_map]
        exact small_lt (m := 40) (by omega)
      · rw [upd_same, List.map_append]
        rfl
      · rw [List.length_append, bl]
        rfl
      · have at_ : ∃ es : List Ev, H4 c = some (.dT (es.map evB)) ∧ ∀ e, EvIn sj e → e ∈ es := by
          rcases Nat.lt_or_ge j bs.length with l | g
          · rw [List.getElem?_append_left l] at ec
            obtain ⟨es', q1, q2⟩ := hbs j c sj ec ej
            exact ⟨es', s4 _ _ (s3 _ _ q1), q2⟩
          · rw [List.getElem?_append_right g] at ec
            have e0 : j - bs.length = 0 := by
              have z := (List.getElem?_eq_some_iff.mp ec).1
              simp at z
              omega
            have ej2 : j = i := by omega
            rw [e0] at ec
            have e2 : D2 = c := Option.some.inj ec
            rw [ej2, es_] at ej
            rw [← Option.some.inj ej, ← e2]
            exact ⟨es, d4, fun e h => (iff e).mpr h⟩
        obtain ⟨es', q1, q2⟩ := at_
        refine ⟨es', ?_, q2⟩
        rw [upd_ne fun z => by rw [z, s4 _ _ (s3 _ _ d2)] at q1; cases q1]
        exact q1
    · exact k D H2 s2 hD ⟨bs, d2, by rw [bl, lh], hbs⟩
theorem scIa : FnScope ["events", "place", "operation", "answer"] ["events", "place", "operation", "answer"] (defScope sIa) := ⟨rfl, rfl, rfl, by decide +kernel, rfl, by decide +kernel, by decide +kernel⟩
theorem ok_ia {f fN : Addr} {fd fdN : FuncData} (F : Fun K "is_answer" "is_answer" sIa f fd) (mlen : mg "len" = none) (misi : mg "isinstance" = none) (mstr : mg "str" = none)
    (GN : FnOk P w K mg base CX0 1 fN fdN ["thing"] spNumber) (mN : mg "is_number" = some (.ref fN)) (kN : PySem.W.keepIn K (.ref fN) = true) (bN : Binds K fdN ["thing"] []) : FnOk P w K mg base CX0 2 f fd ["events", "place", "operation", "answer"] spIa := by
  refine F.ok scIa (fun vs H Q E h => ?_) (fun cdv A outer s H vs Q E hr h => ?_)
  · obtain ⟨R, a, sss, rfl, _⟩ := h
    rfl
  · obtain ⟨R, a, sss, rfl, et, ev, k⟩ := h
    have hu := hr.units
    have hu2 : (A.deeper (envOfC "is_answer" (defScope sIa) s.heap.objs.size f cdv)).units + 1 < cLine := by omega
    refine ⟨_, pss_cons (ps_if (PW.pt (pw_or (pt_not (pt_val (pe_call GN hr (by rfl) mN kN bN .nil pass0 (pa_cons (pv 1) pa_nil)))) (pw_or1 (pt_cmpR op_ge (pv 1) (pe_callB (r := rLenQ K) call_len_seq (by rfl) mlen PySem.boot_len (pa_cons (pv 0) pa_nil)) (nomark _))))) (pss_one (ps_ret pe_bl)) pss_nil)
      (pss_cons (ps_if (PW.pt (pw_or (pt_not (pt_val (pe_callB call_isi (by rfl) misi boot_isinstance (pa_cons (pv 2) (pa_cons (pe_bltn (v := .ty "str") (by rfl) mstr PyProof.Rows.boot_str rfl) pa_nil)))))
          (pw_or1 (pt_not (pt_val (pe_callB call_isi (by rfl) misi boot_isinstance (pa_cons (pv 3) (pa_cons (pe_bltn (v := .ty "str") (by rfl) mstr PyProof.Rows.boot_str rfl) pa_nil)))))))) (pss_one (ps_ret pe_bl)) pss_nil)
      (pss_one (ps_ret (pe_cmp (pc_din hu2 (pe_tup (pa_cons (pv 2) (pa_cons (pv 3) pa_nil))) (pe_ix ix_list (pv 0) (pv 1) (fun _ _ => rfl))))))), ?_⟩
    obtain ⟨a0, ss, es_, evin⟩ := ev
    obtain ⟨bs, hR, bl, hbs⟩ := et
    have lt : a.1.toNat < sss.length := (List.getElem?_eq_some_iff.mp es_).1
    obtain ⟨b, eb⟩ : ∃ b, bs[a.1.toNat]? = some b := ⟨bs[a.1.toNat]'(by omega), List.getElem?_eq_getElem _⟩
    obtain ⟨es, hb, mem⟩ := hbs _ _ _ eb es_
    refine ⟨_, rfl, _, rfl, a0, _, rfl, iteF ?_⟩
    refine ⟨_, rfl, _, rfl, R, _, rfl, .inl (SqL.of hR), _, _, rfl, rfl, _, rfl, ?_⟩
    rw [List.length_map, decide_eq_false (show ¬ (a.1 ≥ (bs.length : Int)) by omega)]
    refine iteF ?_
    refine ⟨_, rfl, _, _, _, _, _, rfl, .ty "str", .base (.str a.2.1), kit_ty (a := "str") (b := "str") (r := true) (by decide +kernel), _, rfl, iteF ?_⟩
    refine ⟨_, rfl, _, _, _, _, _, rfl, .ty "str", .base (.str a.2.2), kit_ty (a := "str") (b := "str") (r := true) (by decide +kernel), _, rfl, iteF ?_⟩
    refine ⟨_, rfl, _, rfl, by show 2 ≤ sizeLine; decide, fun t ht => ?_⟩
    have s1 := same_new (o := .tup [V.str a.2.1, .str a.2.2]) ht
    have eat : atI (bs.map V.ref) a.1 = some (.ref b) := by
      have q := atI_nat (xs := bs.map V.ref) (j := a.1.toNat) (v := .ref b) (by rw [List.getElem?_map, eb]; rfl)
      rwa [Int.toNat_of_nonneg a0] at q
    refine ⟨_, rfl, _, rfl, R, _, _, _, rfl, rfl, SqL.of (s1 _ _ hR), eat, b, _, rfl, .inr ⟨es.map evB, evK a.2, t, .inl (s1 _ _ hb), rfl, upd_same, rfl⟩, ?_⟩
    rw [val_in (mem _ evin)]
    exact k _ s1
end
end My

-- ===== K15K =====
set_option Elab.async false
set_option linter.all false
set_option maxRecDepth 100000
set_option maxHeartbeats 4000000
namespace My
open PySem L2 PyProof.Rows PySem.Spec Kd TL StX ClX
abbrev sIh : Stmt := top 29
abbrev sFo : Stmt := top 30
abbrev sTk : Stmt := top 31
abbrev sRh : Stmt := top 35
theorem th_shaped {th : Th} (h : ThOk th) : SeqAt.shaped (thD th) = true := by
  have b : PyData.strOk "begin" = true := by decide +kernel
  have c : PyData.strOk "commit" = true := by decide +kernel
  have a_ : PyData.strOk "abort" = true := by decide +kernel
  have d : PyData.strOk "did" = true := by decide +kernel
  have go : (thD th).canLay0 = true ∧ (thD th).depth ≤ 64 := by
    cases th with
    | beg => exact ⟨by simp [thD, PyData.canLay0, PyData.canLayAll0, b], by simp [thD, PyData.depth, PyData.depthAll]⟩
    | did n a =>
      obtain ⟨n0, n1, a0, a1, w1, w2⟩ := h
      exact ⟨by simp [thD, PyData.canLay0, PyData.canLayAll0, d, wrd_ok w1, wrd_ok w2], by simp [thD, PyData.depth, PyData.depthAll]⟩
    | com n => exact ⟨by simp [thD, PyData.canLay0, PyData.canLayAll0, c], by simp [thD, PyData.depth, PyData.depthAll]⟩
    | abo n => exact ⟨by simp [thD, PyData.canLay0, PyData.canLayAll0, a_], by simp [thD, PyData.depth, PyData.depthAll]⟩
  unfold SeqAt.shaped
  rw [Bool.and_eq_true]
  exact ⟨go.1, decide_eq_true go.2⟩
theorem eqv_empty (th : Th) : PyData.eqv (thD th) (.tuple []) = false := by
  cases th with
  | beg => simp [thD, PyData.eqv, PyData.eqvAll]
  | did n a => simp [thD, PyData.eqv, PyData.eqvAll]
  | com n => simp [thD, PyData.eqv, PyData.eqvAll]
  | abo n => simp [thD, PyData.eqv, PyData.eqvAll]
/-- all but one -/
def But1 (D : Addr) (H H' : Hp) : Prop := ∀ x o, H x = some o → x ≠ D → H' x = some o
def spFo : Sp := fun vs H Q _ => ∃ (R Oq t : Addr) (S : List Bool) (sss : List (List (List Stp))) (th : Th), vs = [.ref R, .ref Oq, .ref t] ∧ EvTab H R sss ∧ H Oq = some (.lst (S.map V.bl)) ∧ H t = some (.tup (thV th)) ∧ ThOk th ∧ Fits sss S th ∧ ∀ H', Same H H' → Q (.bl true) H'
def spTk : Sp := fun vs H Q _ => ∃ (Oq t : Addr) (S : List Bool) (sss : List (List (List Stp))) (th : Th), vs = [.ref Oq, .ref t] ∧ H Oq = some (.lst (S.map V.bl)) ∧ S.length ≤ 1000 ∧ H t = some (.tup (thV th)) ∧ Fits sss S th ∧ ∀ H', But1 Oq H H' → H' Oq = some (.lst ((opStep S th).map V.bl)) → Q .non H'
def spIh (C : Addr) : Sp := fun vs H Q _ => ∃ (sy t : Addr) (hv : List V) (sss : List (List (List Stp))) (ths : List Th), vs = [.ref sy, .ref t] ∧ H sy = some (.tup hv) ∧ HouseAt C H hv sss ∧ (∀ ss ∈ sss, KOk ss) ∧ sss.length ≤ 4 ∧ TD H (.ref t) (histD ths) ∧ (∀ th ∈ ths, ThOk th) ∧ AllFit sss ths ∧ ths.length ≤ 200 ∧ ∀ H', Same H H' → Q (.bl true) H'
def spRh (C : Addr) : Sp := fun vs H Q _ => ∃ (sy : Addr) (hv : List V) (sss : List (List (List Stp))) (ths : List Th), vs = [.ref sy, .str (textT ths)] ∧ H sy = some (.tup hv) ∧ HouseAt C H hv sss ∧ (∀ ss ∈ sss, KOk ss) ∧ sss.length ≤ 4 ∧ (∀ th ∈ ths, ThOk th) ∧ AllFit sss ths ∧ ths.length ≤ 200 ∧ ∀ p H', Same H H' → TD H' (.ref p) (histD ths) → Q (.ref p) H'
theorem run_le (ths : List Th) : ∀ i, (opRun (ths.take i)).length ≤ i := fun i => by
  have all : ∀ (l : List Th) (S : List Bool), (l.foldl opStep S).length ≤ S.length + l.length := by
    intro l
    induction l with
    | nil => exact fun S => Nat.le_refl _
    | cons th l ih =>
      intro S
      have h := ih (opStep S th)
      have q : (opStep S th).length ≤ S.length + 1 := by
        cases th with
        | beg => show (S ++ [true]).length ≤ _; rw [List.length_append]; exact Nat.le_refl _
        | did n a => exact Nat.le_succ _
        | com n => show (S.set _ _).length ≤ _; rw [List.length_set]; exact Nat.le_succ _
        | abo n => show (S.set _ _).length ≤ _; rw [List.length_set]; exact Nat.le_succ _
      show (l.foldl opStep (opStep S th)).length ≤ _
      rw [List.length_cons]
      omega
  have z := all (ths.take i) []
  have l2 : (ths.take i).length ≤ i := List.length_take_le _ _
  show ((ths.take i).foldl opStep []).length ≤ i
  simp at z
  omega
theorem thlt_all {sss : List (List (List Stp))} {ths : List Th} (af : AllFit sss ths) {k : Nat} (hk : k = sss.length) : ∀ th ∈ ths, ThLt (ths.length + k) th := fun th m => by
  obtain ⟨i, e⟩ := List.getElem?_of_mem m
  have f := af i th e
  have l := run_le ths i
  have li := (List.getElem?_eq_some_iff.mp e).1
  have lt : ∀ n : Int, 0 ≤ n → (opRun (ths.take i))[n.toNat]? = some true → n < ((ths.length + k : Nat) : Int) := fun n n0 q => by
    have := (List.getElem?_eq_some_iff.mp q).1
    omega
  cases th with
  | beg => trivial
  | did n a =>
    obtain ⟨n0, q, a0, ss, es, _⟩ := f
    have := (List.getElem?_eq_some_iff.mp es).1
    exact ⟨lt n n0 q, by omega⟩
  | com n => exact lt n f.1 f.2
  | abo n => exact lt n f.1 f.2
theorem at_bl {S : List Bool} {n : Int} (h0 : 0 ≤ n) (e : S[n.toNat]? = some true) : n < S.length ∧ atI (S.map V.bl) n = some (.bl true) := by
  have lt := (List.getElem?_eq_some_iff.mp e).1
  have q := atI_nat (xs := S.map V.bl) (j := n.toNat) (v := .bl true) (by rw [List.getElem?_map, e]; rfl)
  rw [Int.toNat_of_nonneg h0] at q
  exact ⟨by omega, q⟩
section
variable {P : Program} {w : World} {K : PySem.W.Frag} {mg : Str → Option Value} {base : Heap} {C : Addr}
theorem scFo : FnScope ["events", "opened", "thing"] ["events", "opened", "thing"] (defScope sFo) := ⟨rfl, rfl, rfl, by decide +kernel, rfl, by decide +kernel, by decide +kernel⟩
theorem ok_fo {f fN fA : Addr} {fd fdN fdA : FuncData} (F : Fun K "_follows" "_follows" sFo f fd) (mlen : mg "len" = none) (misi : mg "isinstance" = none) (mtup : mg "tuple" = none)
    (GN : FnOk P w K mg base CX0 1 fN fdN ["thing"] spNumber) (mN : mg "is_number" = some (.ref fN)) (kN : PySem.W.keepIn K (.ref fN) = true) (bN : Binds K fdN ["thing"] [])
    (GA : FnOk P w K mg base CX0 2 fA fdA ["events", "place", "operation", "answer"] spIa) (mA : mg "is_answer" = some (.ref fA)) (kA : PySem.W.keepIn K (.ref fA) = true) (bA : Binds K fdA ["events", "place", "operation", "answer"] []) :
    FnOk P w K mg base CX0 3 f fd ["events", "opened", "thing"] spFo := by
  refine F.ok scFo (fun vs H Q E h => ?_) (fun cdv A outer s H vs Q E hr h => ?_)
  · obtain ⟨R, Oq, t, S, sss, th, rfl, _⟩ := h
    rfl
  · obtain ⟨R, Oq, t, S, sss, th, rfl, et, hO, ht, tok, fits, k⟩ := h
    have hu := hr.units
    have hr1 := hr.mono (show 1 ≤ 2 by omega)
    refine ⟨_, (pss_cons (ps_if (PW.pt (pw_or (pt_not (pt_val (pe_callB call_isi (by rfl) misi boot_isinstance (pa_cons (pv 2) (pa_cons (pe_bltn (v := .ty "tuple") (by rfl) mtup PyProof.Rows.boot_tuple rfl) pa_nil))))) (pw_or1 (pt_cmpR (op_eqD hu) (pv 2) (pe_tup pa_nil) (nomark _))))) (pss_one (ps_ret pe_bl)) pss_nil) (pss_cons (ps_if (pt_cmpR op_eq (pe_callB (r := rLenQ K) call_len_seq (by rfl) mlen PySem.boot_len (pa_cons (pv 2) pa_nil)) pe_int (nomark _)) (pss_one (ps_ret (pe_cmpR op_eq (pe_ix ix_tup (pv 2) pe_int (fun _ _ => rfl)) pe_str (nomark _)))) pss_nil) (pss_cons (ps_if (PW.pt (pw_or (pt_not (pt_val (pe_call GN hr1 (by rfl) mN kN bN .nil pass0 (pa_cons (pe_ix ix_tup (pv 2) pe_int (fun _ _ => rfl)) pa_nil)))) (pw_or (pt_cmpR op_ge (pe_ix ix_tup (pv 2) pe_int (fun _ _ => rfl)) (pe_callB (r := rLenQ K) call_len_seq (by rfl) mlen PySem.boot_len (pa_cons (pv 1) pa_nil)) (nomark _)) (pw_or1 (pt_not (pt_val (pe_ix ix_list (pv 1) (pe_ix ix_tup (pv 2) pe_int (fun _ _ => rfl)) (fun _ _ => rfl)))))))) (pss_one (ps_ret pe_bl)) pss_nil) (pss_cons (ps_if (pt_cmpR op_eq (pe_callB (r := rLenQ K) call_len_seq (by rfl) mlen PySem.boot_len (pa_cons (pv 2) pa_nil)) pe_int (nomark _)) (pss_one (ps_ret (pe_or (pe_cmpR op_eq (pe_ix ix_tup (pv 2) pe_int (fun _ _ => rfl)) pe_str (nomark _)) (pe_one (pe_cmpR op_eq (pe_ix ix_tup (pv 2) pe_int (fun _ _ => rfl)) pe_str (nomark _)))))) pss_nil) (pss_one (ps_ret (pe_and (pe_cmpR op_eq (pe_callB (r := rLenQ K) call_len_seq (by rfl) mlen PySem.boot_len (pa_cons (pv 2) pa_nil)) pe_int (nomark _)) (pe_and (pe_cmpR op_eq (pe_ix ix_tup (pv 2) pe_int (fun _ _ => rfl)) pe_str (nomark _)) (pe_one (pe_call GA hr (by rfl) mA kA bA .nil pass0 (pa_cons (pv 0) (pa_cons (pe_ix ix_tup (pv 2) pe_int (fun _ _ => rfl)) (pa_cons (pe_ix ix_tup (pv 2) pe_int (fun _ _ => rfl)) (pa_cons (pe_ix ix_tup (pv 2) pe_int (fun _ _ => rfl)) pa_nil)))))))))))))), ?_⟩
    refine ⟨_, rfl, _, _, _, _, _, rfl, .ty "tuple", .base (.tup ht), kit_ty (a := "tuple") (b := "tuple") (r := true) (by decide +kernel), _, rfl, iteF ?_⟩
    refine ⟨_, rfl, by show 0 ≤ sizeLine; decide, fun e he => ?_⟩
    have s1 := same_new (o := .tup []) he
    refine ⟨_, _, (th_new (s1 _ _ ht)).dp, .tup (SqT.of upd_same) .nil, th_shaped tok, by decide, _, rfl, ?_⟩
    rw [eqv_empty]
    refine iteF ?_
    have hO1 := s1 _ _ hO
    have ht1 := s1 _ _ ht
    have et1 : EvTab (upd H e (.tup [])) R sss := by
      obtain ⟨bs, h1, h2, h3⟩ := et
      exact ⟨bs, s1 _ _ h1, h2, fun i b ss e1 e2 => let ⟨es, q1, q2⟩ := h3 i b ss e1 e2; ⟨es, s1 _ _ q1, q2⟩⟩
    generalize upd H e (.tup []) = H1 at s1 hO1 ht1 et1 ⊢
    have num : ∀ (n : Int) (xs : List V), 0 ≤ n → S[n.toNat]? = some true → True := fun _ _ _ _ => trivial
    cases th with
    | beg =>
      refine ⟨_, rfl, t, _, rfl, .inr (SqT.of ht1), rfl, _, rfl, iteT ?_⟩
      refine ⟨_, rfl, t, _, 0, _, rfl, rfl, SqT.of ht1, rfl, rfl, ?_⟩
      exact k _ s1
    | did n a =>
      obtain ⟨n0, q, ev⟩ := fits
      obtain ⟨lt, eat⟩ := at_bl n0 q
      refine ⟨_, rfl, t, _, rfl, .inr (SqT.of ht1), rfl, _, rfl, iteF ?_⟩
      refine ⟨_, rfl, t, _, 1, _, rfl, rfl, SqT.of ht1, rfl, n, rfl, n0, _, rfl, iteF ?_⟩
      refine ⟨_, rfl, t, _, 1, _, rfl, rfl, SqT.of ht1, rfl, _, rfl, Oq, _, rfl, .inl (SqL.of hO1), _, _, rfl, rfl, _, rfl, ?_⟩
      rw [List.length_map, decide_eq_false (show ¬ (n ≥ (S.length : Int)) by omega)]
      refine iteF ?_
      refine ⟨_, rfl, _, rfl, t, _, 1, _, rfl, rfl, SqT.of ht1, rfl, Oq, _, n, _, rfl, rfl, SqL.of hO1, eat, _, rfl, iteF ?_⟩
      refine ⟨_, rfl, t, _, rfl, .inr (SqT.of ht1), rfl, _, rfl, iteF ?_⟩
      refine ⟨_, rfl, t, _, rfl, .inr (SqT.of ht1), rfl, ?_⟩
      refine ⟨_, rfl, iteT ⟨_, rfl, t, _, 0, _, rfl, rfl, SqT.of ht1, rfl, rfl, _, rfl, iteT ?_⟩⟩
      refine ⟨_, rfl, _, rfl, t, _, 2, _, rfl, rfl, SqT.of ht1, rfl, _, rfl, t, _, 3, _, rfl, rfl, SqT.of ht1, rfl, _, rfl, t, _, 4, _, rfl, rfl, SqT.of ht1, rfl, ?_⟩
      exact ⟨R, a, sss, rfl, et1, ev, fun H2 s2 => k _ (s1.trans s2)⟩
    | com n =>
      obtain ⟨n0, q⟩ := fits
      obtain ⟨lt, eat⟩ := at_bl n0 q
      refine ⟨_, rfl, t, _, rfl, .inr (SqT.of ht1), rfl, _, rfl, iteF ?_⟩
      refine ⟨_, rfl, t, _, 1, _, rfl, rfl, SqT.of ht1, rfl, n, rfl, n0, _, rfl, iteF ?_⟩
      refine ⟨_, rfl, t, _, 1, _, rfl, rfl, SqT.of ht1, rfl, _, rfl, Oq, _, rfl, .inl (SqL.of hO1), _, _, rfl, rfl, _, rfl, ?_⟩
      rw [List.length_map, decide_eq_false (show ¬ (n ≥ (S.length : Int)) by omega)]
      refine iteF ?_
      refine ⟨_, rfl, _, rfl, t, _, 1, _, rfl, rfl, SqT.of ht1, rfl, Oq, _, n, _, rfl, rfl, SqL.of hO1, eat, _, rfl, iteF ?_⟩
      refine ⟨_, rfl, t, _, rfl, .inr (SqT.of ht1), rfl, _, rfl, iteT ?_⟩
      refine ⟨_, rfl, t, _, 0, _, rfl, rfl, SqT.of ht1, rfl, rfl, _, rfl, iteT ?_⟩
      exact k _ s1
    | abo n =>
      obtain ⟨n0, q⟩ := fits
      obtain ⟨lt, eat⟩ := at_bl n0 q
      refine ⟨_, rfl, t, _, rfl, .inr (SqT.of ht1), rfl, _, rfl, iteF ?_⟩
      refine ⟨_, rfl, t, _, 1, _, rfl, rfl, SqT.of ht1, rfl, n, rfl, n0, _, rfl, iteF ?_⟩
      refine ⟨_, rfl, t, _, 1, _, rfl, rfl, SqT.of ht1, rfl, _, rfl, Oq, _, rfl, .inl (SqL.of hO1), _, _, rfl, rfl, _, rfl, ?_⟩
      rw [List.length_map, decide_eq_false (show ¬ (n ≥ (S.length : Int)) by omega)]
      refine iteF ?_
      refine ⟨_, rfl, _, rfl, t, _, 1, _, rfl, rfl, SqT.of ht1, rfl, Oq, _, n, _, rfl, rfl, SqL.of hO1, eat, _, rfl, iteF ?_⟩
      refine ⟨_, rfl, t, _, rfl, .inr (SqT.of ht1), rfl, _, rfl, iteT ?_⟩
      refine ⟨_, rfl, t, _, 0, _, rfl, rfl, SqT.of ht1, rfl, rfl, _, rfl, iteF ?_⟩
      refine ⟨_, rfl, t, _, 0, _, rfl, rfl, SqT.of ht1, rfl, rfl, ?_⟩
      exact k _ s1
theorem scTk : FnScope ["opened", "thing"] ["opened", "thing"] (defScope sTk) := ⟨rfl, rfl, rfl, by decide +kernel, rfl, by decide +kernel, by decide +kernel⟩
theorem ok_tk {f : Addr} {fd : FuncData} (F : Fun K "_take" "_take" sTk f fd) : FnOk P w K mg base CX0 1 f fd ["opened", "thing"] spTk := by
  refine F.ok scTk (fun vs H Q E h => ?_) (fun cdv A outer s H vs Q E hr h => ?_)
  · obtain ⟨Oq, t, S, sss, th, rfl, _⟩ := h
    rfl
  · obtain ⟨Oq, t, S, sss, th, rfl, hO, few, ht, fits, k⟩ := h
    refine ⟨_, (pss_one (ps_if (pt_cmpR op_eq (pe_ix ix_tup (pv 1) pe_int (fun _ _ => rfl)) pe_str (nomark _)) (pss_one (ps_expr (pe_bm PySem.F.plainAttrs_list PySem.F.slot_list_append PySem.F.type_list_append mt_append (pv 0) (pa_cons pe_bl pa_nil)))) (pss_one (ps_if (pt_cmpR op_ne (pe_ix ix_tup (pv 1) pe_int (fun _ _ => rfl)) pe_str (nomark _)) (pss_one (ps_asg pe_bl (pg_sub (pv 0) (pe_ix ix_tup (pv 1) pe_int (fun _ _ => rfl)) set_list))) pss_nil)))), ?_⟩
    have but : ∀ o, But1 Oq H (upd H Oq o) := fun o x u e ne => by
      rw [upd_ne ne]
      exact e
    have fin : ∀ n : Int, 0 ≤ n → S[n.toNat]? = some true → ixN (S.map V.bl).length n = some n.toNat := fun n n0 q => by
      have lt := (List.getElem?_eq_some_iff.mp q).1
      have z1 := Evl.ixN_nat (n := (S.map V.bl).length) (j := n.toNat) (by rw [List.length_map]; omega)
      rwa [Int.toNat_of_nonneg n0] at z1
    cases th with
    | beg =>
      refine ⟨_, rfl, t, _, 0, _, rfl, rfl, SqT.of ht, rfl, rfl, _, rfl, iteT ?_⟩
      refine ⟨_, rfl, .inl ⟨rfl, _, SqL.of hO⟩, Oq, _, _, rfl, rfl, hO, small_lt (m := 1000) (by rw [List.length_map]; exact few), ?_⟩
      refine k _ (but _) ?_
      rw [upd_same]
      show _ = some (HO.lst ((S ++ [true]).map V.bl))
      rw [List.map_append]
      rfl
    | did n a =>
      refine ⟨_, rfl, t, _, 0, _, rfl, rfl, SqT.of ht, rfl, rfl, _, rfl, iteF ?_⟩
      refine ⟨_, rfl, t, _, 0, _, rfl, rfl, SqT.of ht, rfl, rfl, _, rfl, iteF ?_⟩
      exact k H (fun x o e _ => e) hO
    | com n =>
      obtain ⟨n0, q⟩ := fits
      refine ⟨_, rfl, t, _, 0, _, rfl, rfl, SqT.of ht, rfl, rfl, _, rfl, iteF ?_⟩
      refine ⟨_, rfl, t, _, 0, _, rfl, rfl, SqT.of ht, rfl, rfl, _, rfl, iteT ?_⟩
      refine ⟨_, rfl, _, rfl, t, _, 1, _, rfl, rfl, SqT.of ht, rfl, Oq, _, n, _, rfl, rfl, hO, fin n n0 q, k _ (but _) ?_⟩
      rw [upd_same]
      show _ = some (HO.lst ((S.set n.toNat false).map V.bl))
      rw [List.map_set]
    | abo n =>
      obtain ⟨n0, q⟩ := fits
      refine ⟨_, rfl, t, _, 0, _, rfl, rfl, SqT.of ht, rfl, rfl, _, rfl, iteF ?_⟩
      refine ⟨_, rfl, t, _, 0, _, rfl, rfl, SqT.of ht, rfl, rfl, _, rfl, iteT ?_⟩
      refine ⟨_, rfl, _, rfl, t, _, 1, _, rfl, rfl, SqT.of ht, rfl, Oq, _, n, _, rfl, rfl, hO, fin n n0 q, k _ (but _) ?_⟩
      rw [upd_same]
      show _ = some (HO.lst ((S.set n.toNat false).map V.bl))
      rw [List.map_set]
theorem EvTab.but {H H' : Hp} {R D : Addr} {sss : List (List (List Stp))} {xs : List V} (h : EvTab H R sss) (b : But1 D H H') (hD : H D = some (.lst xs)) (ne : R ≠ D) : EvTab H' R sss := by
  obtain ⟨bs, h1, h2, h3⟩ := h
  refine ⟨bs, b _ _ h1 ne, h2, fun i c ss e1 e2 => ?_⟩
  obtain ⟨es, q1, q2⟩ := h3 i c ss e1 e2
  exact ⟨es, b _ _ q1 (fun z => by rw [z, hD] at q1; cases q1), q2⟩
theorem EvTab.same {H H' : Hp} {R : Addr} {sss : List (List (List Stp))} (h : EvTab H R sss) (s : Same H H') : EvTab H' R sss := by
  obtain ⟨bs, h1, h2, h3⟩ := h
  exact ⟨bs, s _ _ h1, h2, fun i c ss e1 e2 => let ⟨es, q1, q2⟩ := h3 i c ss e1 e2; ⟨es, s _ _ q1, q2⟩⟩
abbrev nIh : List Str := ["system", "thing", "events", "opened", "part"]
theorem scIh : FnScope nIh ["system", "thing"] (defScope sIh) := ⟨rfl, rfl, rfl, by decide +kernel, rfl, by decide +kernel, by decide +kernel⟩
theorem ok_ih {f fE fF fT : Addr} {fd fdE fdF fdT : FuncData} (F : Fun K "is_history" "is_history" sIh f fd) (misi : mg "isinstance" = none) (mtup : mg "tuple" = none)
    (GE : FnOk P w K mg base CX0 3 fE fdE ["system"] (spEo C)) (mE : mg "events_of" = some (.ref fE)) (kE : PySem.W.keepIn K (.ref fE) = true) (bE : Binds K fdE ["system"] [])
    (GF : FnOk P w K mg base CX0 3 fF fdF ["events", "opened", "thing"] spFo) (mF : mg "_follows" = some (.ref fF)) (kF : PySem.W.keepIn K (.ref fF) = true) (bF : Binds K fdF ["events", "opened", "thing"] [])
    (GT : FnOk P w K mg base CX0 1 fT fdT ["opened", "thing"] spTk) (mT : mg "_take" = some (.ref fT)) (kT : PySem.W.keepIn K (.ref fT) = true) (bT : Binds K fdT ["opened", "thing"] []) :
    FnOk P w K mg base CX0 4 f fd ["system", "thing"] (spIh C) := by
  refine F.ok scIh (fun vs H Q E h => ?_) (fun cdv A outer s H vs Q E hr h => ?_)
  · obtain ⟨sy, t, hv, sss, ths, rfl, _⟩ := h
    rfl
  · obtain ⟨sy, t, hv, sss, ths, rfl, hs, hh, ko, l4, tt, tok, af, few, k⟩ := h
    have hr1 := hr.mono (show 1 ≤ 3 by omega)
    obtain ⟨tv, ht, tts⟩ := tt.tup_of
    have ltv := tts.lenm
    refine ⟨_, (pss_cons (ps_if (pt_not (pt_val (pe_callB call_isi (by rfl) misi boot_isinstance (pa_cons (pv 1) (pa_cons (pe_bltn (v := .ty "tuple") (by rfl) mtup PyProof.Rows.boot_tuple rfl) pa_nil))))) (pss_one (ps_ret pe_bl)) pss_nil) (pss_cons (ps_set (i := 2) scIh.nd rfl (Or.inl rfl) (pe_call GE hr (by rfl) mE kE bE .nil pass0 (pa_cons (pv 0) pa_nil))) (pss_cons (ps_set (i := 3) scIh.nd rfl (Or.inl rfl) (pe_lst pa_nil)) (pss_cons (ps_for PassesOwn.never rfl (pi_tup (pv 1)) (pg_name (i := 4) scIh.nd rfl (Or.inl rfl)) (pss_cons (ps_if (pt_not (pt_val (pe_call GF hr (by rfl) mF kF bF .nil pass0 (pa_cons (pv 2) (pa_cons (pv 3) (pa_cons (pv 4) pa_nil)))))) (pss_one (ps_ret pe_bl)) pss_nil) (pss_one (ps_expr (pe_call GT hr1 (by rfl) mT kT bT .nil pass0 (pa_cons (pv 3) (pa_cons (pv 4) pa_nil))))))) (pss_one (ps_ret pe_bl)))))), ?_⟩
    refine ⟨_, rfl, _, _, _, _, _, rfl, .ty "tuple", .base (.tup ht), kit_ty (a := "tuple") (b := "tuple") (r := true) (by decide +kernel), _, rfl, iteF ?_⟩
    refine ⟨_, rfl, sy, hv, sss, rfl, hs, hh, ko, l4, fun R H1 s1 fR et => ?_⟩
    refine ⟨by show 0 ≤ sizeLine; decide, fun Oq hOq => ?_⟩
    have s2 := same_new (o := .lst []) hOq
    have RO : R ≠ Oq := by
      obtain ⟨bs, h1, _⟩ := et
      exact ne_of_none h1 hOq
    have et2 := et.same s2
    have s02 := s1.trans s2
    have hO2 : (upd H1 Oq (.lst [])) Oq = some (.lst []) := upd_same
    have fO : H Oq = none := s1.free hOq
    generalize upd H1 Oq (.lst []) = H2 at s2 et2 s02 hO2 ⊢
    refine ⟨_, rfl, t, rfl, ⟨_, SqT.of (s02 _ _ ht)⟩, for_tup (K := K) (a := t) (xs := tv) (fun i σ H3 => ∃ o4 : Option V, σ = [some (.ref sy), some (.ref t), some (.ref R), some (.ref Oq), o4] ∧ Same H H3 ∧ EvTab H3 R sss ∧ H3 Oq = some (.lst ((opRun (ths.take i)).map V.bl))) ⟨none, rfl, s02, et2, hO2⟩ (fun i σ H3 _ ⟨_, _, s3, _⟩ => SqT.of (s3 _ _ ht)) ?_ ?_⟩
    · rintro i x σ H3 ex ⟨o4, rfl, s3, et3, hO3⟩
      obtain ⟨th, eth, td⟩ := tts.at_ ex
      have m := List.mem_of_getElem? eth
      obtain ⟨b, rfl⟩ : ∃ b, x = .ref b := by
        cases th <;> (obtain ⟨b, _, e, _⟩ := TD.ref_of td; exact ⟨b, e⟩)
      have hb := s3 _ _ (th_at td)
      have lt : i < ths.length := (List.getElem?_eq_some_iff.mp eth).1
      have fit := af i th eth
      refine ⟨_, rfl, _, rfl, _, rfl, R, Oq, b, _, sss, th, rfl, et3, hO3, hb, tok th m, fit, fun H4 s4 => ⟨_, rfl, iteF ?_⟩⟩
      have hO4 := s4 _ _ hO3
      have rl := run_le ths i
      refine ⟨_, rfl, _, rfl, Oq, b, _, sss, th, rfl, hO4, by omega, s4 _ _ hb, fit, fun H5 b5 hO5 => ?_⟩
      refine ⟨some (.ref b), rfl, fun x u e => ?_, (et3.same s4).but b5 hO4 RO, ?_⟩
      · exact b5 _ _ (s4 _ _ (s3 _ _ e)) (fun z => by rw [z, fO] at e; cases e)
      · rw [run_next eth]
        exact hO5
    · rintro σ H3 ⟨o4, rfl, s3, et3, hO3⟩
      exact k _ s3
abbrev nRh : List Str := ["system", "text", "history"]
theorem scRh : FnScope nRh ["system", "text"] (defScope sRh) := ⟨rfl, rfl, rfl, by decide +kernel, rfl, by decide +kernel, by decide +kernel⟩
theorem ok_rh {f fS fH : Addr} {fd fdS fdH : FuncData} (F : Fun K "read_history" "read_history" sRh f fd) (misi : mg "isinstance" = none) (mstr : mg "str" = none)
    (GS : FnOk P w K mg base CX0 2 fS fdS ["system", "text"] spThings) (mS : mg "_things" = some (.ref fS)) (kS : PySem.W.keepIn K (.ref fS) = true) (bS : Binds K fdS ["system", "text"] [])
    (GH : FnOk P w K mg base CX0 4 fH fdH ["system", "thing"] (spIh C)) (mH : mg "is_history" = some (.ref fH)) (kH : PySem.W.keepIn K (.ref fH) = true) (bH : Binds K fdH ["system", "thing"] []) :
    FnOk P w K mg base CX0 5 f fd ["system", "text"] (spRh C) := by
  refine F.ok scRh (fun vs H Q E h => ?_) (fun cdv A outer s H vs Q E hr h => ?_)
  · obtain ⟨sy, hv, sss, ths, rfl, _⟩ := h
    rfl
  · obtain ⟨sy, hv, sss, ths, rfl, hs, hh, ko, l4, tok, af, few, k⟩ := h
    have hr2 := hr.mono (show 2 ≤ 4 by omega)
    have lh := hh.1
    refine ⟨_, (pss_cons (ps_if (pt_not (pt_val (pe_callB call_isi (by rfl) misi boot_isinstance (pa_cons (pv 1) (pa_cons (pe_bltn (v := .ty "str") (by rfl) mstr PyProof.Rows.boot_str rfl) pa_nil))))) (pss_one ps_never) pss_nil) (pss_cons (ps_set (i := 2) scRh.nd rfl (Or.inl rfl) (pe_call GS hr2 (by rfl) mS kS bS .nil pass0 (pa_cons (pv 0) (pa_cons (pv 1) pa_nil)))) (pss_cons (ps_if (pt_not (pt_val (pe_call GH hr (by rfl) mH kH bH .nil pass0 (pa_cons (pv 0) (pa_cons (pv 2) pa_nil))))) (pss_one ps_never) pss_nil) (pss_one (ps_ret (pv 2)))))), ?_⟩
    refine ⟨_, rfl, _, _, _, _, _, rfl, .ty "str", .base (.str (textT ths)), kit_ty (a := "str") (b := "str") (r := true) (by decide +kernel), _, rfl, iteF ?_⟩
    refine ⟨_, rfl, _, rfl, sy, hv, ths, rfl, hs, by omega, tok, thlt_all af lh, few, fun p H1 s1 tp => ?_⟩
    refine ⟨_, rfl, _, rfl, sy, p, hv, sss, ths, rfl, s1 _ _ hs, hh.same s1, ko, l4, tp, tok, af, few, fun H2 s2 => ⟨_, rfl, iteF ⟨_, rfl, k p H2 (s1.trans s2) (tp.to (Tup.of s2))⟩⟩⟩
end
end My

-- ===== K15W =====
set_option Elab.async false
set_option linter.all false
set_option maxRecDepth 100000
set_option maxHeartbeats 4000000
namespace My
open PySem L2 PyProof.Rows PySem.Spec Kd TL
/-! ### how long the texts shown are -/
theorem sh_small : ∀ i : Fin 300, (PyData.int (i.val : Int)).showable = true ∧ (PyData.int (i.val : Int)).shown.length ≤ 4 := by decide +kernel
theorem sh_int {i : Int} (h0 : 0 ≤ i) (h1 : i < 300) : Sh 4 (.int i) := by
  have z := sh_small ⟨i.toNat, by omega⟩
  rw [show ((⟨i.toNat, by omega⟩ : Fin 300).val : Int) = i from Int.toNat_of_nonneg h0] at z
  exact ⟨z.1, z.2⟩
theorem sh_wrd {z : Str} (h : Wrd z) : Sh 122 (.str z) := by
  have h2 : ∀ c ∈ LETS.cps.toList, c < 256 := by decide +kernel
  have := PySem.StrLaws.reprText_len z fun c m => Nat.lt_trans (h2 c (h.2.2 c m)) (by decide)
  have := h.2.1
  exact ⟨by simp only [PyData.showable], by simp only [PyData.shown]; omega⟩
theorem deep_all {α : Type} {f : α → PyData} {k : Nat} : ∀ (l : List α), (∀ x ∈ l, (f x).depth ≤ k) → PyData.depthAll (l.map f) ≤ k
  | [], _ => by simp [PyData.depthAll]
  | x :: l, h => by
    have h1 := h x List.mem_cons_self
    have h2 := deep_all l fun y m => h y (List.mem_cons_of_mem _ m)
    simp only [List.map_cons, PyData.depthAll]
    omega
theorem sh_tag : ∀ z ∈ [("begin" : Str), "did", "commit", "abort"], Sh 122 (.str z) := fun z m => by
  have h : ∀ z ∈ [("begin" : Str), "did", "commit", "abort"], (PyData.str z).showable = true ∧ (PyData.str z).shown.length ≤ 122 := by decide +kernel
  exact ⟨(h z m).1, (h z m).2⟩
theorem sh_th {th : Th} (h : ThOk th) : Sh 623 (thD th) := by
  cases th with
  | beg => exact sh_mono (sh_tuple (k := 122) (m := 1) (fun d hd => by
      rw [List.mem_singleton.mp hd]
      exact sh_tag _ (by simp)) (Nat.le_refl _)) (by decide)
  | did n a =>
    obtain ⟨n0, n1, a0, a1, w1, w2⟩ := h
    exact sh_tuple (k := 122) (m := 5) (fun d hd => by
      rcases List.mem_cons.mp hd with rfl | hd
      · exact sh_tag _ (by simp)
      rcases List.mem_cons.mp hd with rfl | hd
      · exact sh_mono (sh_int n0 (by omega)) (by decide)
      rcases List.mem_cons.mp hd with rfl | hd
      · exact sh_mono (sh_int a0 (by omega)) (by decide)
      rcases List.mem_cons.mp hd with rfl | hd
      · exact sh_wrd w1
      · rw [List.mem_singleton.mp hd]
        exact sh_wrd w2) (Nat.le_refl _)
  | com n => exact sh_mono (sh_tuple (k := 122) (m := 2) (fun d hd => by
      rcases List.mem_cons.mp hd with rfl | hd
      · exact sh_tag _ (by simp)
      · rw [List.mem_singleton.mp hd]
        exact sh_mono (sh_int h.1 (by have := h.2; omega)) (by decide)) (Nat.le_refl _)) (by decide)
  | abo n => exact sh_mono (sh_tuple (k := 122) (m := 2) (fun d hd => by
      rcases List.mem_cons.mp hd with rfl | hd
      · exact sh_tag _ (by simp)
      · rw [List.mem_singleton.mp hd]
        exact sh_mono (sh_int h.1 (by have := h.2; omega)) (by decide)) (Nat.le_refl _)) (by decide)
theorem sh_hist {ths : List Th} (h : ∀ th ∈ ths, ThOk th) (l : ths.length ≤ 200) : Sh 125003 (histD ths) :=
  sh_tuple (k := 623) (m := 200) (fun d hd => by
    obtain ⟨th, m, rfl⟩ := List.mem_map.mp hd
    exact sh_th (h th m)) (by rw [List.length_map]; exact l)
theorem deep_hist (ths : List Th) : (histD ths).depth ≤ 3 := by
  have h2 : PyData.depthAll (ths.map thD) ≤ 1 := deep_all ths fun th _ => by
    cases th <;> simp [thD, PyData.depth, PyData.depthAll]
  unfold histD
  simp only [PyData.depth]
  omega
def twoD (d : PyData) : PyData := .list [d, d]
theorem two_show {d : PyData} (h : Sh 125003 d) (hd : d.depth ≤ 3) : (twoD d).showable = true ∧ (twoD d).depth ≤ 60 ∧ (twoD d).shown.length ≤ sizeLine := by
  have h2 := listText_len_le [d.shown, d.shown]
  simp only [List.map_cons, List.map_nil, List.sum_cons, List.sum_nil, List.length_cons, List.length_nil] at h2
  have big := sizeLine_eq
  have sz := h.sz
  unfold twoD
  refine ⟨by simp only [PyData.showable, PyData.showableAll, h.sh, Bool.and_self], by simp only [PyData.depth, PyData.depthAll]; omega, ?_⟩
  simp only [PyData.shown, PyData.shownAll]
  omega
/-! ### the history with numbers of two digits -/
def GoodH (sss : List (List (List Stp))) (ths : List Th) : Prop := AllFit sss ths ∧ ths.length ≤ 200 ∧ (opRun ths).length ≤ 20
theorem beg_rep (sss : List (List (List Stp))) : ∀ k : Nat, AllFit sss (List.replicate k .beg) ∧ opRun (List.replicate k .beg) = List.replicate k true
  | 0 => ⟨fit_nil, rfl⟩
  | k + 1 => by
    obtain ⟨h1, h2⟩ := beg_rep sss k
    rw [List.replicate_succ']
    refine ⟨fit_snoc (th := .beg) h1 trivial, ?_⟩
    rw [run_snoc, h2, List.replicate_succ']
    rfl
def twoDig (d : Int) : List Th := ((List.replicate 10 .beg ++ [.abo d]) ++ [.beg]) ++ [.com 10]
theorem good_two (sss : List (List (List Stp))) {d : Int} (h0 : 0 ≤ d) (h1 : d < 10) : GoodH sss (twoDig d) := by
  obtain ⟨f0, e0⟩ := beg_rep sss 10
  have f1 := fit_snoc (th := .abo d) f0 ⟨h0, by rw [e0, List.getElem?_replicate, if_pos (by omega)]⟩
  have f2 := fit_snoc (th := .beg) f1 trivial
  have e2 : opRun ((List.replicate 10 .beg ++ [.abo d]) ++ [.beg]) = (List.replicate 10 true).set d.toNat false ++ [true] := by
    rw [run_snoc, run_snoc, e0]
    rfl
  have f3 := fit_snoc (th := .com 10) f2 ⟨by decide, by
    rw [e2, List.getElem?_append_right (by rw [List.length_set, List.length_replicate]; decide), List.length_set, List.length_replicate]
    rfl⟩
  refine ⟨f3, by show _ ≤ 200; unfold twoDig; simp, ?_⟩
  unfold twoDig
  rw [run_snoc, e2]
  show (List.set _ _ _).length ≤ 20
  rw [List.length_set, List.length_append, List.length_set, List.length_replicate]
  decide
theorem set_same {α : Type} : ∀ (l : List α) (i : Nat) (v : α), l[i]? = some v → l.set i v = l
  | [], i, v, h => rfl
  | x :: l, 0, v, h => by
    have e : x = v := Option.some.inj h
    rw [e]
    rfl
  | x :: l, i + 1, v, h => by
    show x :: l.set i v = _
    rw [set_same l i v h]
theorem PS.wk {X : Cx} {st : Stmt} {t u : TS} (h : PS X st t) (k : ∀ D σ H, u D σ H → t D σ H) : PS X st u := ⟨fun pins s σ H D I q => h.run pins s σ H D I (k D σ H q)⟩
theorem TDs.rep {H : Hp} {v : V} {d : PyData} (h : TD H v d) : ∀ k : Nat, TDs H (List.replicate k v) (List.replicate k d)
  | 0 => .nil
  | k + 1 => .cons h (TDs.rep h k)
def u5 : TE := fun σ H Q => ∃ t : Int, σ[2]? = some (some (.int t)) ∧ ∀ z : Int, 0 ≤ z → z ≤ 200 → Q (.int z) H
def u6 : TS := fun D σ H => ∃ (p c t : Addr) (ks : List Int) (w n tn : Int) (sss : List (List (List Stp))) (ths : List Th), σ[1]? = some (some (.ref p)) ∧ σ[2]? = some (some (.int tn)) ∧ σ[5]? = some (some (.ref t)) ∧ FeedAt H p c ks w n ∧ n < 999999 ∧ TD H (.ref t) (histD ths) ∧ GoodH sss ths ∧
  ∀ (t' : Addr) (ths' : List Th) (ks' : List Int) (n' : Int) (H' : Hp), TD H' (.ref t') (histD ths') → GoodH sss ths' → FeedAt H' p c ks' w n' → n' ≤ n + 1 → Save p c H H' → D.nx (σ.set 5 (some (.ref t'))) H'
def spLaw (K : PySem.W.Frag) : Sp := fun vs H Q _ => ∃ (a : Addr) (ns : List Int), vs = [.ref a] ∧ SqL K H a (ns.map V.int) ∧ ns.length ≤ 63 ∧ Bits ns ∧ ∀ H', Q (.bl true) H'
end My

-- ===== K15X =====
set_option Elab.async false
set_option linter.all false
set_option maxRecDepth 100000
set_option maxHeartbeats 4000000
namespace My
open PySem L2 PyProof.Rows PySem.Spec Kd TL
theorem fnR_of {P : Program} {w : World} {K : PySem.W.Frag} {mg : Str → Option Value} {base : Heap} {CX : CXT} {k : Nat} {f : Addr} {fd : FuncData} {ps : List Str} {sp : Sp} (F : FnOk P w K mg base CX k f fd ps sp) (hb : Binds K fd ps []) : FnR P w K mg base CX k f sp :=
  (F.raw hb .nil).imp fun vs H Q E h => by rw [List.append_nil]; exact h
/-- a kind stays where a list of kinds is written -/
theorem kind_wr {C D : Addr} {H : Hp} {v : V} {ss : List (List Stp)} {vs : List V} {o' : HO} (h : KindAt C H v ss) (so : KOk ss) (hD : H D = some (.lst vs)) (first : vs = [] ∨ ∃ o dx fs, vs[0]? = some (.ref o) ∧ H o = some (.ins C dx fs)) : KindAt C (upd H D o') v ss := by
  obtain ⟨o, dx, a, m, rfl, ho, ht, bs, h1, h2, h3⟩ := h
  have one := so.one
  have nm : m ≠ D := fun z => by
    rw [z, hD] at h1
    have e := HO.lst.inj (Option.some.inj h1)
    cases bs with
    | nil => simp at h2; omega
    | cons b bs =>
      obtain ⟨st, es⟩ : ∃ st, ss[0]? = some st := ⟨ss[0]'(by omega), List.getElem?_eq_getElem _⟩
      have hb := h3 0 b st rfl es
      rcases first with f | ⟨o1, dx1, fs1, f1, f2⟩
      · rw [f] at e
        cases e
      · rw [e] at f1
        have e2 : V.ref b = V.ref o1 := Option.some.inj f1
        rw [V.ref.inj e2, f2] at hb
        cases hb
  have keep : ∀ {x : Addr} {u : HO}, H x = some u → (∀ ys, u ≠ .lst ys) → (upd H D o') x = some u := fun {x u} e n => by
    rw [upd_ne fun z => by rw [z, hD] at e; exact n _ (Option.some.inj e).symm]
    exact e
  refine ⟨o, dx, a, m, rfl, keep ho (fun _ z => nomatch z), ht.to (Tup.at_ hD fun xs z => nomatch z), bs, by rw [upd_ne nm]; exact h1, h2, fun i b st e1 e2 => keep (h3 i b st e1 e2) (fun _ z => nomatch z)⟩
/-- a kind stays where the deck is drawn from -/
theorem kind_save {C p c : Addr} {H H' : Hp} {v : V} {ss : List (List Stp)} {ks : List Int} {y n : Int} (h : KindAt C H v ss) (so : KOk ss) (F : FeedAt H p c ks y n) (sv : Save p c H H') : KindAt C H' v ss := by
  obtain ⟨o, dx, a, m, rfl, ho, ht, bs, h1, h2, h3⟩ := h
  have one := so.one
  have keep : ∀ {x : Addr} {u : HO}, H x = some u → (∀ ys, u ≠ .lst ys) → H' x = some u := fun {x u} e n =>
    sv _ _ e (fun z => by rw [z, F.ob] at e; exact n _ (Option.some.inj e).symm) (fun z => by rw [z, F.cs] at e; exact n _ (Option.some.inj e).symm)
  obtain ⟨b, bs, rfl⟩ : ∃ b r, bs = b :: r := by
    cases bs with
    | nil => simp at h2; omega
    | cons b r => exact ⟨b, r, rfl⟩
  have np : m ≠ p := fun z => by
    rw [z, F.ob] at h1
    have e := HO.lst.inj (Option.some.inj h1)
    rw [List.map_cons] at e
    injection e with _ e
    cases bs with
    | nil => cases e
    | cons b2 r => injection e with e _; cases e
  have nc : m ≠ c := fun z => by
    rw [z, F.cs] at h1
    have e := HO.lst.inj (Option.some.inj h1)
    cases ks with
    | nil => cases e
    | cons i r => injection e with e _; cases e
  exact ⟨o, dx, a, m, rfl, keep ho (fun _ z => nomatch z), ht.to (Save.tup F sv), b :: bs, sv _ _ h1 np nc, h2, fun i b' st e1 e2 => keep (h3 i b' st e1 e2) (fun _ z => nomatch z)⟩
/-- arguments by name -/
def kgl {α : Type} : List α → List α → List α
  | [], [a, b] => [b, a]
  | _, _ => []
def kg1 {α : Type} : List α → List α → List α
  | [], [a] => [a]
  | _, _ => []
structure KOf (P : Program) (w : World) (K : PySem.W.Frag) (mg : Str → Option Value) (base : Heap) (C : Addr) : Prop where
  nm : mg "Kind" = some (.ref C)
  cr : ∃ mc, ClX.CRead K C mc ∧ ∃ p g fd, ClX.CMet K C mc "of" p g ∧ FnOk P w K mg base CX0 7 g fd ["cls", "states"] (spOf C) ∧ Binds K fd ["cls", "states"] []
section
variable {P : Program} {w : World} {K : PySem.W.Frag} {mg : Str → Option Value} {base : Heap} {C : Addr}
abbrev nLw : List Str := ["_law_script", "_law_deck_here", "_law_turn", "_law_objects", "_law_house", "_law_acts", "_law_due", "_law_found", "_law_states_here"]
theorem scLw : FnScope nLw ["_law_script"] (defScope sLaw) := ⟨rfl, rfl, rfl, by decide +kernel, rfl, by decide +kernel, by decide +kernel⟩
theorem ok_law {f fF fS fH fU fT fR fD : Addr} {fd fdF fdS fdH fdU fdT fdR fdD : FuncData} (F : Fun K "law" "law" sLaw f fd) (T : KOf P w K mg base C) (mrange : mg "range" = none) (mtup : mg "tuple" = none) (mrepr : mg "repr" = none)
    (GF : FnOk P w K mg base CX0 1 fF fdF ["_law_script"] (spFeed K)) (mF : mg "_law_deck" = some (.ref fF)) (kF : PySem.W.keepIn K (.ref fF) = true) (bF : Binds K fdF ["_law_script"] [])
    (GD : FnOk P w K mg base CX0 1 fD fdD ["_law_deck_here", "_law_count"] spDigit) (mD : mg "_law_draw" = some (.ref fD)) (kD : PySem.W.keepIn K (.ref fD) = true) (bD : Binds K fdD ["_law_deck_here", "_law_count"] [])
    (GS : FnOk P w K mg base CX0 4 fS fdS ["_law_deck_here"] spSystem) (mS : mg "_law_system" = some (.ref fS)) (kS : PySem.W.keepIn K (.ref fS) = true) (bS : Binds K fdS ["_law_deck_here"] [])
    (GH : FnOk P w K mg base CX0 4 fH fdH ["_law_deck_here", "_law_machines", "_law_many"] spHist) (mH : mg "_law_history" = some (.ref fH)) (kH : PySem.W.keepIn K (.ref fH) = true) (bH : Binds K fdH ["_law_deck_here", "_law_machines", "_law_many"] [])
    (GU : FnOk P w K mg base CX0 1 fU fdU ["_law_acts"] spHtext) (mU : mg "_law_text" = some (.ref fU)) (kU : PySem.W.keepIn K (.ref fU) = true) (bU : Binds K fdU ["_law_acts"] [])
    (GT : FnOk P w K mg base CX0 2 fT fdT ["history"] spHtext) (mT : mg "history_text" = some (.ref fT)) (kT : PySem.W.keepIn K (.ref fT) = true) (bT : Binds K fdT ["history"] []) (kbT : KBinds K fdT ["history"] ["history"] kg1 kg1)
    (GR : FnOk P w K mg base CX0 5 fR fdR ["system", "text"] (spRh C)) (mR : mg "read_history" = some (.ref fR)) (kR : PySem.W.keepIn K (.ref fR) = true) (bR : Binds K fdR ["system", "text"] []) (kbR : KBinds K fdR ["system", "text"] ["text", "system"] kgl kgl) :
    FnG true (fun A => A.guards = some []) P w K mg base CX0 8 f fd ["_law_script"] (spLaw K) := by
  obtain ⟨mc, cr, p1, g1, fd1, m1, G1, b1⟩ := T.cr
  have R1 := fnR_of G1 b1
  refine okG F scLw (fun vs H Q E h => ?_) (fun cdv A outer s H vs Q E hh hgA hr h => ?_)
  · obtain ⟨a, ns, rfl, _⟩ := h
    rfl
  · obtain ⟨a, ns, rfl, hS, hlen, hbits, k⟩ := h
    have hR : Room 7 (A.deeper (envOfC "law" (defScope sLaw) s.heap.objs.size f cdv)) := ⟨hh rfl, hr.dp, hr.un⟩
    have hG : (A.deeper (envOfC "law" (defScope sLaw) s.heap.objs.size f cdv)).guards = some [] := hgA
    have hu := hR.units
    have hR5 := hR.mono (show 5 ≤ 7 by omega)
    have hR4 := hR.mono (show 4 ≤ 7 by omega)
    have hR2 := hR.mono (show 2 ≤ 7 by omega)
    have hR1 := hR.mono (show 1 ≤ 7 by omega)
    refine ⟨_, PSs.nox (pss_cons (ps_set (i := 1) scLw.nd rfl (Or.inl rfl) (pe_call GF hR1 (by rfl) mF kF bF .nil pass0 (pa_cons (pv 0) pa_nil))) (pss_cons (ps_for PassesOwn.never rfl (pi_range1 (by rfl) mrange (pa_cons pe_int pa_nil)) (pg_name (i := 2) scLw.nd rfl (Or.inl rfl)) (pss_cons (ps_set (i := 3) scLw.nd rfl (Or.inl rfl) (pe_call GS hR4 (by rfl) mS kS bS .nil pass0 (pa_cons (pv 1) pa_nil))) (pss_cons (ps_set (i := 4) scLw.nd rfl (Or.inl rfl) (pe_callTy call_tuple_of (by rfl) mtup (by decide +kernel) (pa_cons (pe_lc (own := [("_law_states_here", 8)]) (g := gName 8) (tt := tYes) rfl scLw.nd (pi_list (pv 3)) (blkOk_by (N := nLw) (sc := defScope sLaw) (by decide +kernel)) (fun _ _ _ _ _ => pg_name (i := 8) scLw.nd rfl (Or.inl rfl)) (fun _ _ _ _ _ => pts_nil) (fun _ _ _ _ _ => ClX.pe_cmeth (pl := _) (pe_glob (v := .ref C) (by rfl) T.nm rfl) cr m1 R1 hR pass0 (pa_cons (pv 8) pa_nil))) pa_nil))) (pss_cons (ps_set (i := 5) scLw.nd rfl (Or.inl rfl) (pe_call GH hR4 (by rfl) mH kH bH .nil pass0 (pa_cons (pv 1) (pa_cons (pv 3) (pa_cons (PE.wk (u := u5) (pe_ifExp (pt_cmpR op_gt (pv 2) pe_int (nomark _)) pe_int pe_int) (fun σ H Q ⟨t, e2, q⟩ => by
              refine ⟨_, e2, _, _, rfl, rfl, _, rfl, ?_⟩
              cases decide (t > 0) with
              | true => exact iteT (q 30 (by decide) (by decide))
              | false => exact iteF (q 200 (by decide) (by decide)))) pa_nil))))) (pss_cons (PS.wk (u := u6) (ps_if (pt_cmpR op_eq (pe_op op_mod (pv 2) pe_int) pe_int (nomark _)) (pss_one (ps_set (i := 5) scLw.nd rfl (Or.inl rfl) (pe_op op_catA (pe_op (r := rRepT K) op_repT (pe_tup (pa_cons (pe_tup (pa_cons pe_str pa_nil)) pa_nil)) pe_int) (pe_tup (pa_cons (pe_tup (pa_cons pe_str (pa_cons (pe_call GD hR1 (by rfl) mD kD bD .nil pass0 (pa_cons (pv 1) (pa_cons pe_int pa_nil))) pa_nil))) (pa_cons (pe_tup (pa_cons pe_str pa_nil)) (pa_cons (pe_tup (pa_cons pe_str (pa_cons pe_int pa_nil))) pa_nil))))))) pss_nil) (fun D σ H ⟨p, c, t, ks, y, n, tn, sss, ths, e1, e2, e5, FA, hn, tt, gd, q⟩ => by
              refine ⟨_, e2, _, _, rfl, rfl, (by show (0 : Int) < _; decide), rfl, _, rfl, ?_⟩
              cases decide (V.int (tn % 3) = V.int 2) with
              | false =>
                refine iteF ?_
                have z := q t ths ks n H tt gd FA (by omega) (Save.refl p c H)
                rw [set_same _ _ _ e5] at z
                exact z
              | true =>
                refine iteT ?_
                refine ⟨by show 1 ≤ sizeLine; decide, fun b0 hb0 => ⟨by show 1 ≤ sizeLine; decide, fun l hl => ?_⟩⟩
                have s1 := (same_new (o := .tup [V.str "begin"]) hb0).trans (same_new (o := .tup [V.ref b0]) hl)
                have at0 : (upd (upd H b0 (.tup [V.str "begin"])) l (.tup [V.ref b0])) b0 = some (.tup [V.str "begin"]) := same_new hl _ _ upd_same
                have atl : (upd (upd H b0 (.tup [V.str "begin"])) l (.tup [V.ref b0])) l = some (.tup [V.ref b0]) := upd_same
                generalize upd (upd H b0 (.tup [V.str "begin"])) l (.tup [V.ref b0]) = H1 at s1 at0 atl ⊢
                refine ⟨l, 10, _, rfl, rfl, SqT.of atl, by simp, by decide, by decide, by simp, fun p1 hp1 => ?_⟩
                have s2 := same_new (o := .tup (List.replicate (10 : Int).toNat [V.ref b0]).flatten) hp1
                have at1 : (upd H1 p1 (.tup (List.replicate (10 : Int).toNat [V.ref b0]).flatten)) p1 = some (.tup (List.replicate 10 (V.ref b0))) := upd_same
                have at0 := s2 _ _ at0
                generalize upd H1 p1 (.tup (List.replicate (10 : Int).toNat [V.ref b0]).flatten) = H2 at s2 at0 at1 ⊢
                have F2 := FA.same (s1.trans s2)
                refine ⟨_, e1, p, c, ks, y, n, 10, rfl, F2, by omega, by decide, by decide, fun d ks3 H3 d0 d10 F3 sv3 => ⟨by show 2 ≤ sizeLine; decide, fun r1 hr1 => ⟨by show 1 ≤ sizeLine; decide, fun r2 hr2 => ⟨by show 2 ≤ sizeLine; decide, fun r3 hr3 => ⟨by show 3 ≤ sizeLine; decide, fun r4 hr4 => ?_⟩⟩⟩⟩⟩
                have tu3 := Save.tup F2 sv3
                have sA := same_new (o := .tup [V.str "abort", .int d]) hr1
                have sB := same_new (o := .tup [V.str "begin"]) hr2
                have sC := same_new (o := .tup [V.str "commit", .int 10]) hr3
                have sD := same_new (o := .tup [V.ref r1, .ref r2, .ref r3]) hr4
                have sAD := sA.trans (sB.trans (sC.trans sD))
                refine ⟨p1, r4, _, _, rfl, rfl, sAD _ _ (tu3 _ _ at1), upd_same, by show 13 ≤ sizeLine; decide, fun R H5 s5 hR5 => ?_⟩
                have tb : TD H5 (.ref b0) (thD .beg) := th_new (s5 _ _ (sAD _ _ (tu3 _ _ at0)))
                have ta : TD H5 (.ref r1) (thD (.abo d)) := th_new (s5 _ _ (sD _ _ (sC _ _ (sB _ _ upd_same))))
                have tb2 : TD H5 (.ref r2) (thD .beg) := th_new (s5 _ _ (sD _ _ (sC _ _ upd_same)))
                have tc : TD H5 (.ref r3) (thD (.com 10)) := th_new (s5 _ _ (sD _ _ upd_same))
                refine q R (twoDig d) ks3 (n + 1) H5 (.tup hR5 ?_) (good_two sss d0 d10) (F3.same (sAD.trans s5)) (by omega) (((Save.of (s1.trans s2)).trans sv3).trans (Save.of (sAD.trans s5)))
                unfold twoDig
                rw [List.map_append, List.map_append, List.map_append, List.map_replicate]
                rw [List.append_assoc, List.append_assoc]
                exact TDs.app (TDs.rep tb 10) (.cons ta (.cons tb2 (.cons tc .nil))))) (pss_cons (ps_set (i := 6) scLw.nd rfl (Or.inl rfl) (pe_call GU hR1 (by rfl) mU kU bU .nil pass0 (pa_cons (pv 5) pa_nil))) (pss_cons (ps_if (PW.pt (pw_or (pt_cmpR op_ne (pe_call GT hR2 (by rfl) mT kT bT .nil pass0 (pa_cons (pv 5) pa_nil)) (pv 6) (nomark _)) (pw_or1 (pt_cmpR op_ne (pe_callK0 GT hR2 (by rfl) mT kT kbT pass0 (pk_cons (pv 5) pk_nil)) (pv 6) (nomark _))))) (pss_one (ps_ret pe_bl)) pss_nil) (pss_cons (ps_set (i := 7) scLw.nd rfl (Or.inl rfl) (pe_lstL (pa_cons (pe_call GR hR5 (by rfl) mR kR bR .nil pass0 (pa_cons (pv 4) (pa_cons (pv 6) pa_nil))) (pa_cons (pe_callK0 GR hR5 (by rfl) mR kR kbR pass0 (pk_cons (pv 6) (pk_cons (pv 4) pk_nil))) pa_nil)))) (pss_one (ps_if (pt_cmpR op_ne (pe_callB (call_reprD (F := fun _ => True) hG hu) (by rfl) mrepr boot_repr (pa_cons (pv 7) pa_nil)) (pe_callB (call_reprD (F := fun _ => True) hG hu) (by rfl) mrepr boot_repr (pa_cons (pe_lstL (pa_cons (pv 5) (pa_cons (pv 5) pa_nil))) pa_nil)) (nomark _)) (pss_one (ps_ret pe_bl)) pss_nil)))))))))) (pss_one (ps_ret pe_bl)))), ?_⟩
    refine ⟨_, rfl, a, ns, rfl, hS, hlen, hbits, fun p c ks y H1 _ _ _ FA => ?_⟩
    refine ⟨6, rfl, by decide, by decide, for_range (lo := 0) (n := 6) (fun m σ H2 => ∃ (o2 o3 o4 o5 o6 o7 : Option V) (ks' : List Int) (n' : Int), σ = [some (.ref a), some (.ref p), o2, o3, o4, o5, o6, o7, none] ∧ FeedAt H2 p c ks' y n' ∧ n' ≤ 2000 * (m : Int)) ⟨none, none, none, none, none, none, ks, 0, rfl, FA, by omega⟩ ?_ ?_⟩
    · rintro m σ H2 hm ⟨o2, o3, o4, o5, o6, o7, ks1, n1, rfl, FA1, le1⟩
      -- objects
      refine ⟨_, rfl, p, c, ks1, y, n1, rfl, FA1, by omega, fun O ov sss ks2 n2 H3 fO hO tO l1 l4 ko FA2 le2 sv2 => ?_⟩
      have off : ∀ x : Addr, H2 x = none → x ≠ p ∧ x ≠ c := fun x z => ⟨Ne.symm (ne_of_none FA1.ob z), Ne.symm (ne_of_none FA1.cs z)⟩
      have lov := tO.lenm
      -- house
      refine ⟨_, rfl, O, rfl, ⟨_, SqL.of hO⟩, fun D hD => lc_list (K := K) (a := O) (xs := ov) (fun i H4 => ∃ vs : List V, Same H3 H4 ∧ H4 D = some (.lst vs) ∧ vs.length = i ∧ ∀ (j : Nat) (v : V) (ss : List (List Stp)), vs[j]? = some v → sss[j]? = some ss → KindAt C H4 v ss) ⟨[], same_new hD, upd_same, rfl, fun j v ss e => by simp at e⟩ (fun i H4 _ ⟨_, s4, _⟩ => SqL.of (s4 _ _ hO)) (fun i x H4 ex ⟨vs, s4, d4, lv, kv⟩ => ?_) fun H4 ⟨hv, s4, d4, lv, kv⟩ => ?_⟩
      · obtain ⟨ss, es, td⟩ := tO.at_ ex
        have lt : i < sss.length := (List.getElem?_eq_some_iff.mp es).1
        have kss := ko ss (List.mem_of_getElem? es)
        obtain ⟨b, xs, rfl, hb, hx⟩ := TD.ref_of (ds := ss.map stateD) td
        refine ⟨rfl, rfl, _, rfl, b, ss, rfl, td.to (Tup.of s4), kss, fun vm H5 s5 km => ⟨vs, s5 _ _ d4, small_lt (m := 4) (by omega), vs ++ [vm], same_at (s4.trans s5) hD, upd_same, by rw [List.length_append, lv]; rfl, fun j v sj ev ej => ?_⟩⟩
        have d5 := s5 _ _ d4
        have first : vs = [] ∨ ∃ o dx fs, vs[0]? = some (.ref o) ∧ H5 o = some (.ins C dx fs) := by
          cases vs with
          | nil => exact .inl rfl
          | cons v0 vs =>
            obtain ⟨s0, e0⟩ : ∃ s0, sss[0]? = some s0 := ⟨sss[0]'(by omega), List.getElem?_eq_getElem _⟩
            obtain ⟨o, dx, a', m', rfl, ho, _⟩ := (kv 0 v0 s0 rfl e0).same s5
            exact .inr ⟨o, dx, _, rfl, ho⟩
        have kj : KindAt C H5 v sj := by
          rcases Nat.lt_or_ge j vs.length with l | g
          · rw [List.getElem?_append_left l] at ev
            exact (kv j v sj ev ej).same s5
          · rw [List.getElem?_append_right g] at ev
            have e0 : j - vs.length = 0 := by
              have z := (List.getElem?_eq_some_iff.mp ev).1
              simp at z
              omega
            have ej2 : j = i := by omega
            rw [e0] at ev
            rw [ej2, es] at ej
            rw [← Option.some.inj ej, ← show vm = v from Option.some.inj ev]
            exact km
        exact kind_wr kj (ko sj (List.mem_of_getElem? ej)) d5 first
      · refine ⟨D, hv, rfl, .inl ⟨SqL.of d4, fun W hW => ?_⟩⟩
        have sW := same_new (o := .tup hv) hW
        have hW5 : (upd H4 W (.tup hv)) W = some (.tup hv) := upd_same
        have hh : HouseAt C (upd H4 W (.tup hv)) hv sss := ⟨by omega, fun j v ss e1 e2 => (kv j v ss e1 e2).same sW⟩
        have s5 := s4.trans sW
        generalize upd H4 W (.tup hv) = H5 at s5 hW5 hh ⊢
        have FA5 := FA2.same s5
        -- the history
        refine ⟨_, rfl, _, rfl, _, rfl, fun z z0 z200 => ⟨p, c, O, ks2, y, n2, z, ov, sss, rfl, FA5, by omega, z0, z200, s5 _ _ hO, tO.to (Tup.of s5), l1, l4, ko, (off O fO).1, (off O fO).2, fun t ths ks3 n3 H6 tt af tl s10 FA6 le6 sv6 => ?_⟩⟩
        refine ⟨p, c, t, ks3, y, n3, _, sss, ths, rfl, rfl, rfl, FA6, by omega, tt, ⟨af, tl, by omega⟩, fun t2 ths2 ks4 n4 H7 tt2 gd FA7 le7 sv7 => ?_⟩
        have hW7 := Save.tup FA6 sv7 _ _ (Save.tup FA5 sv6 _ _ hW5)
        have hh7 : HouseAt C H7 hv sss := ⟨hh.1, fun j v ss e1 e2 => kind_save (kind_save (hh.2 j v ss e1 e2) (ko ss (List.mem_of_getElem? e2)) FA5 sv6) (ko ss (List.mem_of_getElem? e2)) FA6 sv7⟩
        have tok := thok_all gd.1 ko l4 gd.2.2
        have l200 := gd.2.1
        -- the text
        refine ⟨_, rfl, t2, ths2, rfl, tt2, tok, by omega, fun H8 s8 => ?_⟩
        refine ⟨_, rfl, t2, ths2, rfl, tt2.to (Tup.of s8), tok, by omega, fun H9 s9 => ⟨_, rfl, rfl, _, rfl, ?_⟩⟩
        rw [decide_eq_true rfl]
        refine iteF ⟨_, rfl, t2, ths2, rfl, tt2.to (Tup.of (s8.trans s9)), tok, by omega, fun Ha sa => ⟨_, rfl, rfl, _, rfl, ?_⟩⟩
        rw [decide_eq_true rfl]
        refine iteF ?_
        have s7a := s8.trans (s9.trans sa)
        -- read back
        refine ⟨_, rfl, _, rfl, W, hv, sss, ths2, rfl, s7a _ _ hW7, hh7.same s7a, ko, l4, tok, gd.1, l200, fun q1 Hb sb tb => ?_⟩
        have s7b := s7a.trans sb
        refine ⟨_, rfl, _, rfl, W, hv, sss, ths2, rfl, s7b _ _ hW7, hh7.same s7b, ko, l4, tok, gd.1, l200, fun q2 Hc sc tc => ⟨by show 2 ≤ sizeLine; decide, fun l hl big => ?_⟩⟩
        have th := two_show (sh_hist tok l200) (deep_hist ths2)
        have sl := same_new (o := .lst [V.ref q1, .ref q2]) hl
        have tb2 := tb.to (Tup.of (sc.trans sl))
        have tc2 := tc.to (Tup.of sl)
        refine ⟨_, rfl, .ref l, twoD (histD ths2), rfl, .lst big trivial upd_same (.cons tb2.dq (.cons tc2.dq .nil)), th.1, th.2.1, th.2.2, ?_⟩
        refine ⟨_, rfl, _, rfl, by show 2 ≤ sizeLine; decide, fun l2 hl2 big2 => ?_⟩
        have sl2 := same_new (o := .lst [V.ref t2, .ref t2]) hl2
        have t7d := tt2.to (Tup.of (s7b.trans (sc.trans (sl.trans sl2))))
        refine ⟨.ref l2, twoD (histD ths2), rfl, .lst big2 trivial upd_same (.cons t7d.dq (.cons t7d.dq .nil)), th.1, th.2.1, th.2.2, rfl, _, rfl, ?_⟩
        rw [decide_eq_true rfl]
        exact iteF ⟨_, _, _, _, _, _, ks4, n4, rfl, FA7.same (s7b.trans (sc.trans (sl.trans sl2))), by omega⟩
    · rintro σ H2 ⟨o2, o3, o4, o5, o6, o7, ks1, n1, rfl, FA1, le1⟩
      exact k _
end
end My

-- ===== K15Y =====
set_option Elab.async false
set_option linter.all false
set_option maxRecDepth 100000
set_option maxHeartbeats 4000000
namespace My
open PySem L2 PyProof.Rows PySem.Spec Kd StX ClX
theorem kgl_rel {vs zs : List V} {us ws : List Value} (r : Vals vs us) (z : Vals zs ws) : Vals (kgl vs zs) (kgl us ws) := by
  cases r with
  | nil =>
    cases z with
    | nil => exact .nil
    | cons a z =>
      cases z with
      | nil => exact .nil
      | cons b z =>
        cases z with
        | nil => exact .cons b (.cons a .nil)
        | cons _ _ => exact .nil
  | cons _ _ => exact .nil
theorem kg1_rel {vs zs : List V} {us ws : List Value} (r : Vals vs us) (z : Vals zs ws) : Vals (kg1 vs zs) (kg1 us ws) := by
  cases r with
  | nil =>
    cases z with
    | nil => exact .nil
    | cons a z =>
      cases z with
      | nil => exact .cons a .nil
      | cons _ _ => exact .nil
  | cons _ _ => exact .nil
set_option linter.unusedVariables false in
theorem all_mk {P : Program} {w : World} {K : PySem.W.Frag} {h : Heap} {mg : Str → Option Value} {fa C p1 p3 fM fW fB fS fA fE fe1 fe2 fe3 fe4 fe5 fe6 fe7 fe8 fe9 ff1 fF fD fK fb1 fb2 fb3 fb4 fb5 fb6 fL fi fo fv : Addr} {rest1 rest3 : List Value} {t1 t2 t3 t4 : Tok} (X : K.In h) (G : h.Ns mainGlobals mg) (hfa : mg "law" = some (.ref fa))
    {oc_M kV_M doc_M pm_M cd_M ct_M : Value} {od_M an_M : Option Addr} {sl_M : Array (Option Value)} {oc_W kV_W doc_W pm_W cd_W ct_W : Value} {od_W an_W : Option Addr} {sl_W : Array (Option Value)} {oc_B kV_B doc_B pm_B cd_B ct_B : Value} {od_B an_B : Option Addr} {sl_B : Array (Option Value)} {oc_S kV_S doc_S pm_S cd_S ct_S : Value} {od_S an_S : Option Addr} {sl_S : Array (Option Value)} {oc_A kV_A doc_A pm_A cd_A ct_A : Value} {od_A an_A : Option Addr} {sl_A : Array (Option Value)} {oc_E kV_E doc_E pm_E cd_E ct_E : Value} {od_E an_E : Option Addr} {sl_E : Array (Option Value)} {oc_e1 kV_e1 doc_e1 pm_e1 cd_e1 ct_e1 : Value} {od_e1 an_e1 : Option Addr} {sl_e1 : Array (Option Value)} {oc_e2 kV_e2 doc_e2 pm_e2 cd_e2 ct_e2 : Value} {od_e2 an_e2 : Option Addr} {sl_e2 : Array (Option Value)} {oc_e3 kV_e3 doc_e3 pm_e3 cd_e3 ct_e3 : Value} {od_e3 an_e3 : Option Addr} {sl_e3 : Array (Option Value)} {oc_e4 kV_e4 doc_e4 pm_e4 cd_e4 ct_e4 : Value} {od_e4 an_e4 : Option Addr} {sl_e4 : Array (Option Value)} {oc_e5 kV_e5 doc_e5 pm_e5 cd_e5 ct_e5 : Value} {od_e5 an_e5 : Option Addr} {sl_e5 : Array (Option Value)} {oc_e6 kV_e6 doc_e6 pm_e6 cd_e6 ct_e6 : Value} {od_e6 an_e6 : Option Addr} {sl_e6 : Array (Option Value)} {oc_e7 kV_e7 doc_e7 pm_e7 cd_e7 ct_e7 : Value} {od_e7 an_e7 : Option Addr} {sl_e7 : Array (Option Value)} {oc_e8 kV_e8 doc_e8 pm_e8 cd_e8 ct_e8 : Value} {od_e8 an_e8 : Option Addr} {sl_e8 : Array (Option Value)} {oc_e9 kV_e9 doc_e9 pm_e9 cd_e9 ct_e9 : Value} {od_e9 an_e9 : Option Addr} {sl_e9 : Array (Option Value)} {oc_f1 kV_f1 doc_f1 pm_f1 cd_f1 ct_f1 : Value} {od_f1 an_f1 : Option Addr} {sl_f1 : Array (Option Value)} {oc_F kV_F doc_F pm_F cd_F ct_F : Value} {od_F an_F : Option Addr} {sl_F : Array (Option Value)} {oc_D kV_D doc_D pm_D cd_D ct_D : Value} {od_D an_D : Option Addr} {sl_D : Array (Option Value)} {oc_K kV_K doc_K pm_K cd_K ct_K : Value} {od_K an_K : Option Addr} {sl_K : Array (Option Value)} {oc_b1 kV_b1 doc_b1 pm_b1 cd_b1 ct_b1 : Value} {od_b1 an_b1 : Option Addr} {sl_b1 : Array (Option Value)} {oc_b2 kV_b2 doc_b2 pm_b2 cd_b2 ct_b2 : Value} {od_b2 an_b2 : Option Addr} {sl_b2 : Array (Option Value)} {oc_b3 kV_b3 doc_b3 pm_b3 cd_b3 ct_b3 : Value} {od_b3 an_b3 : Option Addr} {sl_b3 : Array (Option Value)} {oc_b4 kV_b4 doc_b4 pm_b4 cd_b4 ct_b4 : Value} {od_b4 an_b4 : Option Addr} {sl_b4 : Array (Option Value)} {oc_b5 kV_b5 doc_b5 pm_b5 cd_b5 ct_b5 : Value} {od_b5 an_b5 : Option Addr} {sl_b5 : Array (Option Value)} {oc_b6 kV_b6 doc_b6 pm_b6 cd_b6 ct_b6 : Value} {od_b6 an_b6 : Option Addr} {sl_b6 : Array (Option Value)} {oc_L kV_L doc_L pm_L cd_L ct_L : Value} {od_L an_L : Option Addr} {sl_L : Array (Option Value)} {oc_i kV_i doc_i pm_i cd_i ct_i : Value} {od_i an_i : Option Addr} {sl_i : Array (Option Value)} {oc_o kV_o doc_o pm_o cd_o ct_o : Value} {od_o an_o : Option Addr} {sl_o : Array (Option Value)} {oc_v kV_v doc_v pm_v cd_v ct_v : Value} {od_v an_v : Option Addr} {sl_v : Array (Option Value)}
    (aC : PySem.W.nsIn K mainGlobals "Kind" = some (some (.ref C)))
    (clpg : PySem.W.plainGet K C Str.empty = true)
    (clhd : PySem.W.hasDictIn K C = true)
    (clpo : PySem.W.plainOver K C = true)
    (clsa : PySem.W.findIn K (.ref C) "__setattr__" = some (some (.builtin "object.__setattr__")))
    (n1 : PySem.W.findIn K (.ref C) "states" = some none)
    (n2 : PySem.W.findIn K (.ref C) "moves" = some none)
    (rd : PySem.W.readsIn K C (.type "type") = true)
    (ga : PySem.W.specialIn K (.ref C) "__getattribute__" = some (some (.builtin "type.__getattribute__")))
    (m_of : PySem.W.findCls K (.ref C) (.type "type") "of" = some (.get (.builtin "classmethod.__get__") (.ref p1) .none (.ref C)))
    (r_of : PySem.W.recIn K p1 "classmethod" = some (.ref fo :: rest1))
    (f_of : PySem.W.fnIn K fo = true)
    (ptx : PySem.W.findIn K (.ref C) "events" = some (some (.ref p3)))
    (gtx : PySem.W.specialIn K (.ref p3) "__get__" = some (some (.builtin "property.__get__")))
    (ttx : PySem.W.takesIn K (.ref p3) = some true)
    (rtx : PySem.W.recIn K p3 "property" = some (.ref fv :: rest3))
    (mk1 : PySem.W.makesIn K C = true)
    (mk2 : PySem.W.findIn K (.ref C) "__init__" = some (some (.ref fi)))
    (mk3 : PySem.W.isFn K (.ref fi) = true)
    (mk4 : PySem.W.keepIn K (.ref C) = true)
    (a_M : PySem.W.nsIn K mainGlobals "moves_of" = some (some (.ref fM)))
    (l_M : K.lookup fM = some ⟨oc_M, od_M, .func (PySem.W.fnOf "moves_of" "moves_of" (defArgs sMoves) (defBody sMoves) (defScope sMoves) .none kV_M doc_M pm_M an_M cd_M ct_M), sl_M⟩)
    (e_M : PySem.W.codeIn K cd_M "moves_of" = true)
    (k_M : PySem.W.keepIn K (.ref fM) = true)
    (a_W : PySem.W.nsIn K mainGlobals "is_word" = some (some (.ref fW)))
    (l_W : K.lookup fW = some ⟨oc_W, od_W, .func (PySem.W.fnOf "is_word" "is_word" (defArgs sWord) (defBody sWord) (defScope sWord) .none kV_W doc_W pm_W an_W cd_W ct_W), sl_W⟩)
    (e_W : PySem.W.codeIn K cd_W "is_word" = true)
    (k_W : PySem.W.keepIn K (.ref fW) = true)
    (a_B : PySem.W.nsIn K mainGlobals "is_number" = some (some (.ref fB)))
    (l_B : K.lookup fB = some ⟨oc_B, od_B, .func (PySem.W.fnOf "is_number" "is_number" (defArgs sNumber) (defBody sNumber) (defScope sNumber) .none kV_B doc_B pm_B an_B cd_B ct_B), sl_B⟩)
    (e_B : PySem.W.codeIn K cd_B "is_number" = true)
    (k_B : PySem.W.keepIn K (.ref fB) = true)
    (a_S : PySem.W.nsIn K mainGlobals "is_states" = some (some (.ref fS)))
    (l_S : K.lookup fS = some ⟨oc_S, od_S, .func (PySem.W.fnOf "is_states" "is_states" (defArgs sStates) (defBody sStates) (defScope sStates) .none kV_S doc_S pm_S an_S cd_S ct_S), sl_S⟩)
    (e_S : PySem.W.codeIn K cd_S "is_states" = true)
    (k_S : PySem.W.keepIn K (.ref fS) = true)
    (a_A : PySem.W.nsIn K mainGlobals "_is_state" = some (some (.ref fA)))
    (l_A : K.lookup fA = some ⟨oc_A, od_A, .func (PySem.W.fnOf "_is_state" "_is_state" (defArgs sState) (defBody sState) (defScope sState) .none kV_A doc_A pm_A an_A cd_A ct_A), sl_A⟩)
    (e_A : PySem.W.codeIn K cd_A "_is_state" = true)
    (k_A : PySem.W.keepIn K (.ref fA) = true)
    (a_E : PySem.W.nsIn K mainGlobals "_is_step" = some (some (.ref fE)))
    (l_E : K.lookup fE = some ⟨oc_E, od_E, .func (PySem.W.fnOf "_is_step" "_is_step" (defArgs sStep) (defBody sStep) (defScope sStep) .none kV_E doc_E pm_E an_E cd_E ct_E), sl_E⟩)
    (e_E : PySem.W.codeIn K cd_E "_is_step" = true)
    (k_E : PySem.W.keepIn K (.ref fE) = true)
    (a_e1 : PySem.W.nsIn K mainGlobals "events_of" = some (some (.ref fe1)))
    (l_e1 : K.lookup fe1 = some ⟨oc_e1, od_e1, .func (PySem.W.fnOf "events_of" "events_of" (defArgs sEo) (defBody sEo) (defScope sEo) .none kV_e1 doc_e1 pm_e1 an_e1 cd_e1 ct_e1), sl_e1⟩)
    (e_e1 : PySem.W.codeIn K cd_e1 "events_of" = true)
    (k_e1 : PySem.W.keepIn K (.ref fe1) = true)
    (a_e2 : PySem.W.nsIn K mainGlobals "is_answer" = some (some (.ref fe2)))
    (l_e2 : K.lookup fe2 = some ⟨oc_e2, od_e2, .func (PySem.W.fnOf "is_answer" "is_answer" (defArgs sIa) (defBody sIa) (defScope sIa) .none kV_e2 doc_e2 pm_e2 an_e2 cd_e2 ct_e2), sl_e2⟩)
    (e_e2 : PySem.W.codeIn K cd_e2 "is_answer" = true)
    (k_e2 : PySem.W.keepIn K (.ref fe2) = true)
    (a_e3 : PySem.W.nsIn K mainGlobals "is_history" = some (some (.ref fe3)))
    (l_e3 : K.lookup fe3 = some ⟨oc_e3, od_e3, .func (PySem.W.fnOf "is_history" "is_history" (defArgs sIh) (defBody sIh) (defScope sIh) .none kV_e3 doc_e3 pm_e3 an_e3 cd_e3 ct_e3), sl_e3⟩)
    (e_e3 : PySem.W.codeIn K cd_e3 "is_history" = true)
    (k_e3 : PySem.W.keepIn K (.ref fe3) = true)
    (a_e4 : PySem.W.nsIn K mainGlobals "_follows" = some (some (.ref fe4)))
    (l_e4 : K.lookup fe4 = some ⟨oc_e4, od_e4, .func (PySem.W.fnOf "_follows" "_follows" (defArgs sFo) (defBody sFo) (defScope sFo) .none kV_e4 doc_e4 pm_e4 an_e4 cd_e4 ct_e4), sl_e4⟩)
    (e_e4 : PySem.W.codeIn K cd_e4 "_follows" = true)
    (k_e4 : PySem.W.keepIn K (.ref fe4) = true)
    (a_e5 : PySem.W.nsIn K mainGlobals "_take" = some (some (.ref fe5)))
    (l_e5 : K.lookup fe5 = some ⟨oc_e5, od_e5, .func (PySem.W.fnOf "_take" "_take" (defArgs sTk) (defBody sTk) (defScope sTk) .none kV_e5 doc_e5 pm_e5 an_e5 cd_e5 ct_e5), sl_e5⟩)
    (e_e5 : PySem.W.codeIn K cd_e5 "_take" = true)
    (k_e5 : PySem.W.keepIn K (.ref fe5) = true)
    (a_e6 : PySem.W.nsIn K mainGlobals "history_text" = some (some (.ref fe6)))
    (l_e6 : K.lookup fe6 = some ⟨oc_e6, od_e6, .func (PySem.W.fnOf "history_text" "history_text" (defArgs sHtext) (defBody sHtext) (defScope sHtext) .none kV_e6 doc_e6 pm_e6 an_e6 cd_e6 ct_e6), sl_e6⟩)
    (e_e6 : PySem.W.codeIn K cd_e6 "history_text" = true)
    (k_e6 : PySem.W.keepIn K (.ref fe6) = true)
    (a_e7 : PySem.W.nsIn K mainGlobals "line_histories" = some (some (.ref fe7)))
    (l_e7 : K.lookup fe7 = some ⟨oc_e7, od_e7, .func (PySem.W.fnOf "_line" "_line" (defArgs sHline) (defBody sHline) (defScope sHline) .none kV_e7 doc_e7 pm_e7 an_e7 cd_e7 ct_e7), sl_e7⟩)
    (e_e7 : PySem.W.codeIn K cd_e7 "_line" = true)
    (k_e7 : PySem.W.keepIn K (.ref fe7) = true)
    (a_e8 : PySem.W.nsIn K mainGlobals "read_history" = some (some (.ref fe8)))
    (l_e8 : K.lookup fe8 = some ⟨oc_e8, od_e8, .func (PySem.W.fnOf "read_history" "read_history" (defArgs sRh) (defBody sRh) (defScope sRh) .none kV_e8 doc_e8 pm_e8 an_e8 cd_e8 ct_e8), sl_e8⟩)
    (e_e8 : PySem.W.codeIn K cd_e8 "read_history" = true)
    (k_e8 : PySem.W.keepIn K (.ref fe8) = true)
    (a_e9 : PySem.W.nsIn K mainGlobals "_things" = some (some (.ref fe9)))
    (l_e9 : K.lookup fe9 = some ⟨oc_e9, od_e9, .func (PySem.W.fnOf "_things" "_things" (defArgs sThings) (defBody sThings) (defScope sThings) .none kV_e9 doc_e9 pm_e9 an_e9 cd_e9 ct_e9), sl_e9⟩)
    (e_e9 : PySem.W.codeIn K cd_e9 "_things" = true)
    (k_e9 : PySem.W.keepIn K (.ref fe9) = true)
    (a_f1 : PySem.W.nsIn K mainGlobals "_thing" = some (some (.ref ff1)))
    (l_f1 : K.lookup ff1 = some ⟨oc_f1, od_f1, .func (PySem.W.fnOf "_thing" "_thing" (defArgs sThing) (defBody sThing) (defScope sThing) .none kV_f1 doc_f1 pm_f1 an_f1 cd_f1 ct_f1), sl_f1⟩)
    (e_f1 : PySem.W.codeIn K cd_f1 "_thing" = true)
    (k_f1 : PySem.W.keepIn K (.ref ff1) = true)
    (a_F : PySem.W.nsIn K mainGlobals "_law_deck" = some (some (.ref fF)))
    (l_F : K.lookup fF = some ⟨oc_F, od_F, .func (PySem.W.fnOf "_law_deck" "_law_deck" (defArgs sFeed) (defBody sFeed) (defScope sFeed) .none kV_F doc_F pm_F an_F cd_F ct_F), sl_F⟩)
    (e_F : PySem.W.codeIn K cd_F "_law_deck" = true)
    (k_F : PySem.W.keepIn K (.ref fF) = true)
    (a_D : PySem.W.nsIn K mainGlobals "_law_draw" = some (some (.ref fD)))
    (l_D : K.lookup fD = some ⟨oc_D, od_D, .func (PySem.W.fnOf "_law_draw" "_law_draw" (defArgs sDigit) (defBody sDigit) (defScope sDigit) .none kV_D doc_D pm_D an_D cd_D ct_D), sl_D⟩)
    (e_D : PySem.W.codeIn K cd_D "_law_draw" = true)
    (k_D : PySem.W.keepIn K (.ref fD) = true)
    (a_K : PySem.W.nsIn K mainGlobals "_law_pick" = some (some (.ref fK)))
    (l_K : K.lookup fK = some ⟨oc_K, od_K, .func (PySem.W.fnOf "_law_pick" "_law_pick" (defArgs sPick) (defBody sPick) (defScope sPick) .none kV_K doc_K pm_K an_K cd_K ct_K), sl_K⟩)
    (e_K : PySem.W.codeIn K cd_K "_law_pick" = true)
    (k_K : PySem.W.keepIn K (.ref fK) = true)
    (a_b1 : PySem.W.nsIn K mainGlobals "_law_states" = some (some (.ref fb1)))
    (l_b1 : K.lookup fb1 = some ⟨oc_b1, od_b1, .func (PySem.W.fnOf "_law_states" "_law_states" (defArgs sLStates) (defBody sLStates) (defScope sLStates) .none kV_b1 doc_b1 pm_b1 an_b1 cd_b1 ct_b1), sl_b1⟩)
    (e_b1 : PySem.W.codeIn K cd_b1 "_law_states" = true)
    (k_b1 : PySem.W.keepIn K (.ref fb1) = true)
    (a_b2 : PySem.W.nsIn K mainGlobals "_law_system" = some (some (.ref fb2)))
    (l_b2 : K.lookup fb2 = some ⟨oc_b2, od_b2, .func (PySem.W.fnOf "_law_system" "_law_system" (defArgs sSystem) (defBody sSystem) (defScope sSystem) .none kV_b2 doc_b2 pm_b2 an_b2 cd_b2 ct_b2), sl_b2⟩)
    (e_b2 : PySem.W.codeIn K cd_b2 "_law_system" = true)
    (k_b2 : PySem.W.keepIn K (.ref fb2) = true)
    (a_b3 : PySem.W.nsIn K mainGlobals "_law_events" = some (some (.ref fb3)))
    (l_b3 : K.lookup fb3 = some ⟨oc_b3, od_b3, .func (PySem.W.fnOf "_law_events" "_law_events" (defArgs sLEvents) (defBody sLEvents) (defScope sLEvents) .none kV_b3 doc_b3 pm_b3 an_b3 cd_b3 ct_b3), sl_b3⟩)
    (e_b3 : PySem.W.codeIn K cd_b3 "_law_events" = true)
    (k_b3 : PySem.W.keepIn K (.ref fb3) = true)
    (a_b4 : PySem.W.nsIn K mainGlobals "_law_did" = some (some (.ref fb4)))
    (l_b4 : K.lookup fb4 = some ⟨oc_b4, od_b4, .func (PySem.W.fnOf "_law_did" "_law_did" (defArgs sDid) (defBody sDid) (defScope sDid) .none kV_b4 doc_b4 pm_b4 an_b4 cd_b4 ct_b4), sl_b4⟩)
    (e_b4 : PySem.W.codeIn K cd_b4 "_law_did" = true)
    (k_b4 : PySem.W.keepIn K (.ref fb4) = true)
    (a_b5 : PySem.W.nsIn K mainGlobals "_law_history" = some (some (.ref fb5)))
    (l_b5 : K.lookup fb5 = some ⟨oc_b5, od_b5, .func (PySem.W.fnOf "_law_history" "_law_history" (defArgs sHist) (defBody sHist) (defScope sHist) .none kV_b5 doc_b5 pm_b5 an_b5 cd_b5 ct_b5), sl_b5⟩)
    (e_b5 : PySem.W.codeIn K cd_b5 "_law_history" = true)
    (k_b5 : PySem.W.keepIn K (.ref fb5) = true)
    (a_b6 : PySem.W.nsIn K mainGlobals "_law_text" = some (some (.ref fb6)))
    (l_b6 : K.lookup fb6 = some ⟨oc_b6, od_b6, .func (PySem.W.fnOf "_law_text" "_law_text" (defArgs sLtext) (defBody sLtext) (defScope sLtext) .none kV_b6 doc_b6 pm_b6 an_b6 cd_b6 ct_b6), sl_b6⟩)
    (e_b6 : PySem.W.codeIn K cd_b6 "_law_text" = true)
    (k_b6 : PySem.W.keepIn K (.ref fb6) = true)
    (a_L : PySem.W.nsIn K mainGlobals "law" = some (some (.ref fL)))
    (l_L : K.lookup fL = some ⟨oc_L, od_L, .func (PySem.W.fnOf "law" "law" (defArgs sLaw) (defBody sLaw) (defScope sLaw) .none kV_L doc_L pm_L an_L cd_L ct_L), sl_L⟩)
    (e_L : PySem.W.codeIn K cd_L "law" = true)
    (k_L : PySem.W.keepIn K (.ref fL) = true)
    (l_i : K.lookup fi = some ⟨oc_i, od_i, .func (PySem.W.fnOf "__init__" "Kind.__init__" (defArgs sInit) (defBody sInit) (defScope sInit) .none kV_i doc_i pm_i an_i cd_i ct_i), sl_i⟩)
    (e_i : PySem.W.codeIn K cd_i "Kind.__init__" = true)
    (k_i : PySem.W.keepIn K (.ref fi) = true)
    (l_o : K.lookup fo = some ⟨oc_o, od_o, .func (PySem.W.fnOf "of" "Kind.of" (defArgs sOf) (defBody sOf) (defScope sOf) .none kV_o doc_o pm_o an_o cd_o ct_o), sl_o⟩)
    (e_o : PySem.W.codeIn K cd_o "Kind.of" = true)
    (k_o : PySem.W.keepIn K (.ref fo) = true)
    (l_v : K.lookup fv = some ⟨oc_v, od_v, .func (PySem.W.fnOf "events" "Kind.events" (defArgs sKev) (defBody sKev) (defScope sKev) .none kV_v doc_v pm_v an_v cd_v ct_v), sl_v⟩)
    (e_v : PySem.W.codeIn K cd_v "Kind.events" = true)
    (k_v : PySem.W.keepIn K (.ref fv) = true)
    (z_isinstance : PySem.W.nsIn K mainGlobals "isinstance" = some none)
    (z_str : PySem.W.nsIn K mainGlobals "str" = some none)
    (z_int : PySem.W.nsIn K mainGlobals "int" = some none)
    (z_bool : PySem.W.nsIn K mainGlobals "bool" = some none)
    (z_tuple : PySem.W.nsIn K mainGlobals "tuple" = some none)
    (z_len : PySem.W.nsIn K mainGlobals "len" = some none)
    (z_all : PySem.W.nsIn K mainGlobals "all" = some none)
    (z_set : PySem.W.nsIn K mainGlobals "set" = some none)
    (z_sorted : PySem.W.nsIn K mainGlobals "sorted" = some none)
    (z_range : PySem.W.nsIn K mainGlobals "range" = some none)
    (z_repr : PySem.W.nsIn K mainGlobals "repr" = some none)
    (z_enumerate : PySem.W.nsIn K mainGlobals "enumerate" = some none)
    (z_list : PySem.W.nsIn K mainGlobals "list" = some none)
    (v_MOST_STATES : PySem.W.nsIn K mainGlobals "MOST_STATES" = some (some (.int 40 t1)))
    (v_MOST_EVENTS : PySem.W.nsIn K mainGlobals "MOST_EVENTS" = some (some (.int 24 t2)))
    (v_MOST_LETTERS : PySem.W.nsIn K mainGlobals "MOST_LETTERS" = some (some (.int 12 t3)))
    (v_LETTERS : PySem.W.nsIn K mainGlobals "LETTERS" = some (some (.str LETS t4))) :
    ∃ fd : FuncData, (∀ (s : Shared) (v : Value), BindsTo s fd ⟨[v], []⟩ [("_law_script", v)]) ∧ ∀ base : Heap, K.In base → base.Ns mainGlobals mg → FnG true (fun A => A.guards = some []) P w K mg base CX0 8 fa fd ["_law_script"] (spLaw K) := by
  have e := hfa.symm.trans (PySem.W.mg_of X G a_L)
  cases e
  have nn : ∀ {n : Str}, PySem.W.nsIn K mainGlobals n = some none → mg n = none := fun {n} e => PySem.W.mg_none_of X G e
  have m_isinstance := nn z_isinstance
  have m_str := nn z_str
  have m_int := nn z_int
  have m_bool := nn z_bool
  have m_tuple := nn z_tuple
  have m_len := nn z_len
  have m_all := nn z_all
  have m_set := nn z_set
  have m_sorted := nn z_sorted
  have m_range := nn z_range
  have m_repr := nn z_repr
  have m_enumerate := nn z_enumerate
  have m_list := nn z_list
  have g : Gs mg := ⟨m_isinstance, m_str, m_int, m_bool, m_tuple, m_len, m_all, m_set, m_sorted, m_range, m_repr, m_enumerate, m_list, ⟨t1, PySem.W.mg_of X G v_MOST_STATES⟩, ⟨t2, PySem.W.mg_of X G v_MOST_EVENTS⟩, ⟨t3, PySem.W.mg_of X G v_MOST_LETTERS⟩, ⟨t4, PySem.W.mg_of X G v_LETTERS⟩⟩
  have cl : Cls K C := ⟨clpg, clhd, clpo, clsa⟩
  have M : Mk K C fi := ⟨mk1, mk2, mk3, mk4⟩
  have FM := fun_mk (st := sMoves) l_M e_M k_M
  have bM := FM.binds (ps := ["states"]) fun _ _ _ _ _ _ us hl => match us, hl with | [_], _ => rfl
  have mM := PySem.W.mg_of X G a_M
  have FW := fun_mk (st := sWord) l_W e_W k_W
  have bW := FW.binds (ps := ["thing"]) fun _ _ _ _ _ _ us hl => match us, hl with | [_], _ => rfl
  have mW := PySem.W.mg_of X G a_W
  have FB := fun_mk (st := sNumber) l_B e_B k_B
  have bB := FB.binds (ps := ["thing"]) fun _ _ _ _ _ _ us hl => match us, hl with | [_], _ => rfl
  have mB := PySem.W.mg_of X G a_B
  have FS := fun_mk (st := sStates) l_S e_S k_S
  have bS := FS.binds (ps := ["thing"]) fun _ _ _ _ _ _ us hl => match us, hl with | [_], _ => rfl
  have mS := PySem.W.mg_of X G a_S
  have FA := fun_mk (st := sState) l_A e_A k_A
  have bA := FA.binds (ps := ["thing", "many"]) fun _ _ _ _ _ _ us hl => match us, hl with | [_, _], _ => rfl
  have mA := PySem.W.mg_of X G a_A
  have FE := fun_mk (st := sStep) l_E e_E k_E
  have bE := FE.binds (ps := ["thing", "many"]) fun _ _ _ _ _ _ us hl => match us, hl with | [_, _], _ => rfl
  have mE := PySem.W.mg_of X G a_E
  have Fe1 := fun_mk (st := sEo) l_e1 e_e1 k_e1
  have be1 := Fe1.binds (ps := ["system"]) fun _ _ _ _ _ _ us hl => match us, hl with | [_], _ => rfl
  have me1 := PySem.W.mg_of X G a_e1
  have Fe2 := fun_mk (st := sIa) l_e2 e_e2 k_e2
  have be2 := Fe2.binds (ps := ["events", "place", "operation", "answer"]) fun _ _ _ _ _ _ us hl => match us, hl with | [_, _, _, _], _ => rfl
  have me2 := PySem.W.mg_of X G a_e2
  have Fe3 := fun_mk (st := sIh) l_e3 e_e3 k_e3
  have be3 := Fe3.binds (ps := ["system", "thing"]) fun _ _ _ _ _ _ us hl => match us, hl with | [_, _], _ => rfl
  have me3 := PySem.W.mg_of X G a_e3
  have Fe4 := fun_mk (st := sFo) l_e4 e_e4 k_e4
  have be4 := Fe4.binds (ps := ["events", "opened", "thing"]) fun _ _ _ _ _ _ us hl => match us, hl with | [_, _, _], _ => rfl
  have me4 := PySem.W.mg_of X G a_e4
  have Fe5 := fun_mk (st := sTk) l_e5 e_e5 k_e5
  have be5 := Fe5.binds (ps := ["opened", "thing"]) fun _ _ _ _ _ _ us hl => match us, hl with | [_, _], _ => rfl
  have me5 := PySem.W.mg_of X G a_e5
  have Fe6 := fun_mk (st := sHtext) l_e6 e_e6 k_e6
  have be6 := Fe6.binds (ps := ["history"]) fun _ _ _ _ _ _ us hl => match us, hl with | [_], _ => rfl
  have me6 := PySem.W.mg_of X G a_e6
  have Fe7 := fun_mk (st := sHline) l_e7 e_e7 k_e7
  have be7 := Fe7.binds (ps := ["thing"]) fun _ _ _ _ _ _ us hl => match us, hl with | [_], _ => rfl
  have me7 := PySem.W.mg_of X G a_e7
  have Fe8 := fun_mk (st := sRh) l_e8 e_e8 k_e8
  have be8 := Fe8.binds (ps := ["system", "text"]) fun _ _ _ _ _ _ us hl => match us, hl with | [_, _], _ => rfl
  have me8 := PySem.W.mg_of X G a_e8
  have Fe9 := fun_mk (st := sThings) l_e9 e_e9 k_e9
  have be9 := Fe9.binds (ps := ["system", "text"]) fun _ _ _ _ _ _ us hl => match us, hl with | [_, _], _ => rfl
  have me9 := PySem.W.mg_of X G a_e9
  have Ff1 := fun_mk (st := sThing) l_f1 e_f1 k_f1
  have bf1 := Ff1.binds (ps := ["words", "numbers"]) fun _ _ _ _ _ _ us hl => match us, hl with | [_, _], _ => rfl
  have mf1 := PySem.W.mg_of X G a_f1
  have FF := fun_mk (st := sFeed) l_F e_F k_F
  have bF := FF.binds (ps := ["_law_script"]) fun _ _ _ _ _ _ us hl => match us, hl with | [_], _ => rfl
  have mF := PySem.W.mg_of X G a_F
  have FD := fun_mk (st := sDigit) l_D e_D k_D
  have bD := FD.binds (ps := ["_law_deck_here", "_law_count"]) fun _ _ _ _ _ _ us hl => match us, hl with | [_, _], _ => rfl
  have mD := PySem.W.mg_of X G a_D
  have FK := fun_mk (st := sPick) l_K e_K k_K
  have bK := FK.binds (ps := ["_law_deck_here", "_law_some"]) fun _ _ _ _ _ _ us hl => match us, hl with | [_, _], _ => rfl
  have mK := PySem.W.mg_of X G a_K
  have Fb1 := fun_mk (st := sLStates) l_b1 e_b1 k_b1
  have bb1 := Fb1.binds (ps := ["_law_deck_here"]) fun _ _ _ _ _ _ us hl => match us, hl with | [_], _ => rfl
  have mb1 := PySem.W.mg_of X G a_b1
  have Fb2 := fun_mk (st := sSystem) l_b2 e_b2 k_b2
  have bb2 := Fb2.binds (ps := ["_law_deck_here"]) fun _ _ _ _ _ _ us hl => match us, hl with | [_], _ => rfl
  have mb2 := PySem.W.mg_of X G a_b2
  have Fb3 := fun_mk (st := sLEvents) l_b3 e_b3 k_b3
  have bb3 := Fb3.binds (ps := ["_law_states_here"]) fun _ _ _ _ _ _ us hl => match us, hl with | [_], _ => rfl
  have mb3 := PySem.W.mg_of X G a_b3
  have Fb4 := fun_mk (st := sDid) l_b4 e_b4 k_b4
  have bb4 := Fb4.binds (ps := ["_law_deck_here", "_law_machines"]) fun _ _ _ _ _ _ us hl => match us, hl with | [_, _], _ => rfl
  have mb4 := PySem.W.mg_of X G a_b4
  have Fb5 := fun_mk (st := sHist) l_b5 e_b5 k_b5
  have bb5 := Fb5.binds (ps := ["_law_deck_here", "_law_machines", "_law_many"]) fun _ _ _ _ _ _ us hl => match us, hl with | [_, _, _], _ => rfl
  have mb5 := PySem.W.mg_of X G a_b5
  have Fb6 := fun_mk (st := sLtext) l_b6 e_b6 k_b6
  have bb6 := Fb6.binds (ps := ["_law_acts"]) fun _ _ _ _ _ _ us hl => match us, hl with | [_], _ => rfl
  have mb6 := PySem.W.mg_of X G a_b6
  have FL := fun_mk (st := sLaw) l_L e_L k_L
  have Fi := fun_mk (st := sInit) l_i e_i k_i
  have Fo := fun_mk (st := sOf) l_o e_o k_o
  have bo := Fo.binds (ps := ["cls", "states"]) fun _ _ _ _ _ _ us hl => match us, hl with | [_, _], _ => rfl
  have Fv := fun_mk (st := sKev) l_v e_v k_v
  have bv := Fv.binds (ps := ["self"]) fun _ _ _ _ _ _ us hl => match us, hl with | [_], _ => rfl
  have kbT : KBinds K (PySem.W.fnOf "history_text" "history_text" (defArgs sHtext) (defBody sHtext) (defScope sHtext) .none kV_e6 doc_e6 pm_e6 an_e6 cd_e6 ct_e6) ["history"] ["history"] kg1 kg1 := by
    refine ⟨fun s us ws _ hl => ?_, fun r z => kg1_rel r z⟩
    match us, ws, hl with
    | [], [a], _ => exact .of_eq rfl
  have kbR : KBinds K (PySem.W.fnOf "read_history" "read_history" (defArgs sRh) (defBody sRh) (defScope sRh) .none kV_e8 doc_e8 pm_e8 an_e8 cd_e8 ct_e8) ["system", "text"] ["text", "system"] kgl kgl := by
    refine ⟨fun s us ws _ hl => ?_, fun r z => kgl_rel r z⟩
    match us, ws, hl with
    | [], [a, b], _ => exact .of_eq rfl
  refine ⟨PySem.W.fnOf "law" "law" (defArgs sLaw) (defBody sLaw) (defScope sLaw) .none kV_L doc_L pm_L an_L cd_L ct_L, fun s v => .of_eq rfl, fun base _ _ => ?_⟩
  have oF := ok_feed (P := P) (w := w) (mg := mg) (base := base) FF m_list
  have oD := ok_digit (P := P) (w := w) (mg := mg) (base := base) FD
  have oW := ok_word (P := P) (w := w) (mg := mg) (base := base) FW g
  have oB := ok_number (P := P) (w := w) (mg := mg) (base := base) FB g
  have oE := ok_step (P := P) (w := w) (mg := mg) (base := base) FE g oW mW k_W bW oB mB k_B bB
  have oA := ok_state (P := P) (w := w) (mg := mg) (base := base) FA g oE mE k_E bE
  have oS := ok_states (P := P) (w := w) (mg := mg) (base := base) FS g oA mA k_A bA
  have oM := ok_moves (P := P) (w := w) (mg := mg) (base := base) FM
  have oi := ok_init (P := P) (w := w) (mg := mg) (base := base) Fi cl n1 n2 oS mS k_S bS oM mM k_M bM
  have oo := ok_of (P := P) (w := w) (mg := mg) (base := base) Fo g M oi
  have ov := ok_kev (P := P) (w := w) (mg := mg) (base := base) Fv cl n1 m_tuple m_sorted
  have oe1 := ok_eo (P := P) (w := w) (mg := mg) (base := base) Fe1 cl ⟨ptx, gtx, ttx, ⟨rest3, rtx⟩⟩ ov bv
  have oe2 := ok_ia (P := P) (w := w) (mg := mg) (base := base) Fe2 m_len m_isinstance m_str oB mB k_B bB
  have oe4 := ok_fo (P := P) (w := w) (mg := mg) (base := base) Fe4 m_len m_isinstance m_tuple oB mB k_B bB oe2 me2 k_e2 be2
  have oe5 := ok_tk (P := P) (w := w) (mg := mg) (base := base) Fe5
  have oe3 := ok_ih (P := P) (w := w) (mg := mg) (base := base) Fe3 m_isinstance m_tuple oe1 me1 k_e1 be1 oe4 me4 k_e4 be4 oe5 me5 k_e5 be5
  have oe7 := ok_hline (P := P) (w := w) (mg := mg) (base := base) Fe7 m_str
  have oe6 := ok_htext (P := P) (w := w) (mg := mg) (base := base) Fe6 oe7 me7 k_e7 be7
  have of1 := ok_thing (P := P) (w := w) (mg := mg) (base := base) Ff1 m_len
  have oe9 := ok_things (P := P) (w := w) (mg := mg) (base := base) Fe9 m_len m_range m_str m_tuple of1 mf1 k_f1 bf1
  have oe8 := ok_rh (P := P) (w := w) (mg := mg) (base := base) Fe8 m_isinstance m_str oe9 me9 k_e9 be9 oe3 me3 k_e3 be3
  have oK := ok_pick (P := P) (w := w) (mg := mg) (base := base) FK m_len oD mD k_D bD
  have ob1 := ok_lstates (P := P) (w := w) (mg := mg) (base := base) Fb1 m_tuple m_int m_range oK mK k_K bK oD mD k_D bD
  have ob2 := ok_system (P := P) (w := w) (mg := mg) (base := base) Fb2 m_range ob1 mb1 k_b1 bb1 oD mD k_D bD
  have ob3 := ok_levents (P := P) (w := w) (mg := mg) (base := base) Fb3 m_set m_sorted
  have ob4 := ok_did (P := P) (w := w) (mg := mg) (base := base) Fb4 m_len ob3 mb3 k_b3 bb3 oK mK k_K bK oD mD k_D bD
  have ob5 := ok_hist (P := P) (w := w) (mg := mg) (base := base) Fb5 m_len m_range m_tuple ob4 mb4 k_b4 bb4 oK mK k_K bK oD mD k_D bD
  have ob6 := ok_ltext (P := P) (w := w) (mg := mg) (base := base) Fb6 m_str
  have T : KOf P w K mg base C := ⟨PySem.W.mg_of X G aC, ⟨.type "type", ⟨rd, ga⟩, p1, fo, _, ⟨m_of, ⟨rest1, r_of⟩, f_of⟩, oo, bo⟩⟩
  exact ok_law FL T m_range m_tuple m_repr oF mF k_F bF oD mD k_D bD ob2 mb2 k_b2 bb2 ob5 mb5 k_b5 bb5 ob6 mb6 k_b6 bb6 oe6 me6 k_e6 be6 kbT oe8 me8 k_e8 be8 kbR
end My
-- ===== end =====
open PySem PySem.W PyProof.Rows
set_option maxRecDepth 100000
set_option maxHeartbeats 0
open_top head15 for PySem.Challenge.rw_mustwait_k15_texts_of_histories
set_option maxRecDepth 100000 in
set_option maxHeartbeats 0 in
theorem PySem.Challenge.cw_mustwait_k15_texts_of_histories_holds : PySem.Challenge.rw_mustwait_k15_texts_of_histories.Holds :=
  head15 (by
  k_fill
  refine My.walk_ofG (l := PySem.Challenge.rw_mustwait_k15_texts_of_histories) (n := 63) (k := 8) (x := "_law_script") (sp := My.spLaw) rfl (by decide) rfl ⟨rfl, by decide, by decide⟩ (fun w h Y => PySem.W.kIn_of Y) ?F (fun K H a ns hl hb _ hS => ⟨a, ns, rfl, hS, hl, hb, fun _ => rfl⟩)
  case F =>
    intro w mg fa h KX G hmg
    refine' My.all_mk KX G hmg ?aC ?clpg ?clhd ?clpo ?clsa ?n1 ?n2 ?rd ?ga ?m_of ?r_of ?f_of ?ptx ?gtx ?ttx ?rtx ?mk1 ?mk2 ?mk3 ?mk4 ?a_M ?l_M ?e_M ?k_M ?a_W ?l_W ?e_W ?k_W ?a_B ?l_B ?e_B ?k_B ?a_S ?l_S ?e_S ?k_S ?a_A ?l_A ?e_A ?k_A ?a_E ?l_E ?e_E ?k_E ?a_e1 ?l_e1 ?e_e1 ?k_e1 ?a_e2 ?l_e2 ?e_e2 ?k_e2 ?a_e3 ?l_e3 ?e_e3 ?k_e3 ?a_e4 ?l_e4 ?e_e4 ?k_e4 ?a_e5 ?l_e5 ?e_e5 ?k_e5 ?a_e6 ?l_e6 ?e_e6 ?k_e6 ?a_e7 ?l_e7 ?e_e7 ?k_e7 ?a_e8 ?l_e8 ?e_e8 ?k_e8 ?a_e9 ?l_e9 ?e_e9 ?k_e9 ?a_f1 ?l_f1 ?e_f1 ?k_f1 ?a_F ?l_F ?e_F ?k_F ?a_D ?l_D ?e_D ?k_D ?a_K ?l_K ?e_K ?k_K ?a_b1 ?l_b1 ?e_b1 ?k_b1 ?a_b2 ?l_b2 ?e_b2 ?k_b2 ?a_b3 ?l_b3 ?e_b3 ?k_b3 ?a_b4 ?l_b4 ?e_b4 ?k_b4 ?a_b5 ?l_b5 ?e_b5 ?k_b5 ?a_b6 ?l_b6 ?e_b6 ?k_b6 ?a_L ?l_L ?e_L ?k_L ?l_i ?e_i ?k_i ?l_o ?e_o ?k_o ?l_v ?e_v ?k_v ?z_isinstance ?z_str ?z_int ?z_bool ?z_tuple ?z_len ?z_all ?z_set ?z_sorted ?z_range ?z_repr ?z_enumerate ?z_list ?v_MOST_STATES ?v_MOST_EVENTS ?v_MOST_LETTERS ?v_LETTERS
    (case aC => k_is)
    (case clpg => k_is)
    (case clhd => k_is)
    (case clpo => k_is)
    (case clsa => k_is)
    (case n1 => k_is)
    (case n2 => k_is)
    (case rd => k_is)
    (case ga => k_is)
    (case m_of => k_is)
    (case r_of => k_is)
    (case f_of => k_is)
    (case ptx => k_is)
    (case gtx => k_is)
    (case ttx => k_is)
    (case rtx => k_is)
    (case mk1 => k_is)
    (case mk2 => k_is)
    (case mk3 => k_is)
    (case mk4 => k_is)
    (case a_M => k_is)
    (case l_M => k_is)
    (case e_M => k_is)
    (case k_M => k_is)
    (case a_W => k_is)
    (case l_W => k_is)
    (case e_W => k_is)
    (case k_W => k_is)
    (case a_B => k_is)
    (case l_B => k_is)
    (case e_B => k_is)
    (case k_B => k_is)
    (case a_S => k_is)
    (case l_S => k_is)
    (case e_S => k_is)
    (case k_S => k_is)
    (case a_A => k_is)
    (case l_A => k_is)
    (case e_A => k_is)
    (case k_A => k_is)
    (case a_E => k_is)
    (case l_E => k_is)
    (case e_E => k_is)
    (case k_E => k_is)
    (case a_e1 => k_is)
    (case l_e1 => k_is)
    (case e_e1 => k_is)
    (case k_e1 => k_is)
    (case a_e2 => k_is)
    (case l_e2 => k_is)
    (case e_e2 => k_is)
    (case k_e2 => k_is)
    (case a_e3 => k_is)
    (case l_e3 => k_is)
    (case e_e3 => k_is)
    (case k_e3 => k_is)
    (case a_e4 => k_is)
    (case l_e4 => k_is)
    (case e_e4 => k_is)
    (case k_e4 => k_is)
    (case a_e5 => k_is)
    (case l_e5 => k_is)
    (case e_e5 => k_is)
    (case k_e5 => k_is)
    (case a_e6 => k_is)
    (case l_e6 => k_is)
    (case e_e6 => k_is)
    (case k_e6 => k_is)
    (case a_e7 => k_is)
    (case l_e7 => k_is)
    (case e_e7 => k_is)
    (case k_e7 => k_is)
    (case a_e8 => k_is)
    (case l_e8 => k_is)
    (case e_e8 => k_is)
    (case k_e8 => k_is)
    (case a_e9 => k_is)
    (case l_e9 => k_is)
    (case e_e9 => k_is)
    (case k_e9 => k_is)
    (case a_f1 => k_is)
    (case l_f1 => k_is)
    (case e_f1 => k_is)
    (case k_f1 => k_is)
    (case a_F => k_is)
    (case l_F => k_is)
    (case e_F => k_is)
    (case k_F => k_is)
    (case a_D => k_is)
    (case l_D => k_is)
    (case e_D => k_is)
    (case k_D => k_is)
    (case a_K => k_is)
    (case l_K => k_is)
    (case e_K => k_is)
    (case k_K => k_is)
    (case a_b1 => k_is)
    (case l_b1 => k_is)
    (case e_b1 => k_is)
    (case k_b1 => k_is)
    (case a_b2 => k_is)
    (case l_b2 => k_is)
    (case e_b2 => k_is)
    (case k_b2 => k_is)
    (case a_b3 => k_is)
    (case l_b3 => k_is)
    (case e_b3 => k_is)
    (case k_b3 => k_is)
    (case a_b4 => k_is)
    (case l_b4 => k_is)
    (case e_b4 => k_is)
    (case k_b4 => k_is)
    (case a_b5 => k_is)
    (case l_b5 => k_is)
    (case e_b5 => k_is)
    (case k_b5 => k_is)
    (case a_b6 => k_is)
    (case l_b6 => k_is)
    (case e_b6 => k_is)
    (case k_b6 => k_is)
    (case a_L => k_is)
    (case l_L => k_is)
    (case e_L => k_is)
    (case k_L => k_is)
    (case l_i => k_is)
    (case e_i => k_is)
    (case k_i => k_is)
    (case l_o => k_is)
    (case e_o => k_is)
    (case k_o => k_is)
    (case l_v => k_is)
    (case e_v => k_is)
    (case k_v => k_is)
    (case z_isinstance => k_is)
    (case z_str => k_is)
    (case z_int => k_is)
    (case z_bool => k_is)
    (case z_tuple => k_is)
    (case z_len => k_is)
    (case z_all => k_is)
    (case z_set => k_is)
    (case z_sorted => k_is)
    (case z_range => k_is)
    (case z_repr => k_is)
    (case z_enumerate => k_is)
    (case z_list => k_is)
    (case v_MOST_STATES => k_is)
    (case v_MOST_EVENTS => k_is)
    (case v_MOST_LETTERS => k_is)
    (case v_LETTERS => k_is))
#print axioms PySem.Challenge.cw_mustwait_k15_texts_of_histories_holds
