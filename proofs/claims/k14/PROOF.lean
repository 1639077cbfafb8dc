import PyProof.Rows.All
import Wide.All
import OpenK.AllK
import Wide.FinOn
import HandS.ForMost
import HandS.Wide
import HandS.Style
import HandS.EndBits
import HandS.Conv
import PyProof.ReprLen
import PyProof.ReprReads
import PyProof.ReprRoads
import HandS.TupSets
import KE.KDictKeyed
import HandS.Strs
import KE.SortData
import KE.LtData
import HandS.Comp
import HandS.SetBool
import HandS.DictComp
import HandS.IsInst
import HandS.FStr
import HandS.Star
import HandS.ClsMeth
import HandS.Property
import HandS.Walk
import HandS.More
import KE.KDictWalk
import KE.KDictCopyH
import KE.KeyNested
import PyProof.Rows.TupTab
import PyProof.DictMoreH
import HandS.TupLen
import HandS.Deep
import PyProof.TupleOfSeq
import PyProof.P3In
import HandS.WordsExc
import HandS.HotCalls
import PyProof.Rows.TupAdd
import KE.DataFind
import KE.Datum
import HandS.Evl
import HandS.Words
import PySem.Challenge.RW_mustwait_k14_logs_of_histories
-- ===== K14A =====
set_option Elab.async false
set_option linter.all false
set_option maxRecDepth 100000
set_option maxHeartbeats 4000000
namespace My
open PySem L2
def top (i : Nat) : Stmt := PySem.Challenge.pw_mustwait_k14_logs_of_histories.main.body.getD i (.Pass ⟨0, 0, 0, 0⟩)
abbrev sFeed : Stmt := top 37
abbrev sDigit : Stmt := top 38

/-- bits of the script's numbers -/
def Bits (ks : List Int) : Prop := ∀ k ∈ ks, Builtin.Int.intBits k ≤ 1048576
/-- a feed at p: its numbers at c, the mixed number, how many draws there were -/
structure FeedAt (H : Hp) (p c : Addr) (ks : List Int) (w n : Int) : Prop where
  ob : H p = some (.lst [.ref c, .int w, .int n])
  cs : H c = some (.lst (ks.map V.int))
  bits : Bits ks
  len : ks.length ≤ 63
  w0 : 0 ≤ w
  w1 : w < 2147483648
  n0 : 0 ≤ n
theorem FeedAt.ne {H : Hp} {p c : Addr} {ks : List Int} {w n : Int} (F : FeedAt H p c ks w n) : c ≠ p := by
  intro e
  have h1 := F.ob
  have h2 := F.cs
  rw [e, h1] at h2
  have h3 := HO.lst.inj (Option.some.inj h2)
  cases ks with
  | nil => cases h3
  | cons k r =>
    injection h3 with h4 _
    cases h4
/-- all that was tracked is as it was, but for these two -/
def Save (p c : Addr) (H H' : Hp) : Prop := ∀ b o, H b = some o → b ≠ p → b ≠ c → H' b = some o
theorem Save.refl (p c : Addr) (H : Hp) : Save p c H H := fun _ _ h _ _ => h
theorem Save.trans {p c : Addr} {H H1 H2 : Hp} (a : Save p c H H1) (b : Save p c H1 H2) : Save p c H H2 := fun x o h h1 h2 => b x o (a x o h h1 h2) h1 h2
theorem Save.of {p c : Addr} {H H1 : Hp} (a : Same H H1) : Save p c H H1 := fun x o h _ _ => a x o h

/-- _law_feed(script): a new feed -/
def spFeed (K : PySem.W.Frag) : Sp := fun vs H Q _ => ∃ (a : Addr) (ns : List Int), vs = [.ref a] ∧ SqL K H a (ns.map V.int) ∧ ns.length ≤ 63 ∧ Bits ns ∧
  ∀ (p c : Addr) (ks : List Int) (w : Int) (H' : Hp), Same H H' → H p = none → H c = none → FeedAt H' p c ks w 0 → Q (.ref p) H'
/-- _law_digit(feed, many): a number below many -/
def spDigit : Sp := fun vs H Q _ => ∃ (p c : Addr) (ks : List Int) (w n m : Int), vs = [.ref p, .int m] ∧ FeedAt H p c ks w n ∧ n < 1000000 ∧ 0 < m ∧ m < 1000000 ∧
  ∀ (i : Int) (ks' : List Int) (H' : Hp), 0 ≤ i → i < m → FeedAt H' p c ks' w (n + 1) → Save p c H H' → Q (.int i) H'

theorem cut63 (xs : List V) : cutV xs none (some (63 : Int)) = xs.take 63 := by
  unfold cutV HT.sIx
  simp [List.take_eq_take_min]
theorem lay_ints : ∀ ks : List Int, PyData.canLayAll0 (ks.map PyData.int) = true
  | [] => by simp only [List.map_nil, PyData.canLayAll0]
  | k :: r => by simp only [List.map_cons, PyData.canLayAll0, PyData.canLay0, lay_ints r, Bool.and_self]
theorem deep_ints : ∀ ks : List Int, PyData.depthAll (ks.map PyData.int) ≤ 1
  | [] => by simp only [List.map_nil, PyData.depthAll]; omega
  | k :: r => by
    have ih := deep_ints r
    simp only [List.map_cons, PyData.depthAll, PyData.depth]
    omega
theorem shaped_ints (ks : List Int) : SeqAt.shaped (.list (ks.map PyData.int)) = true := by
  have h := deep_ints ks
  unfold SeqAt.shaped
  rw [Bool.and_eq_true]
  refine ⟨by simp only [PyData.canLay0, lay_ints], decide_eq_true ?_⟩
  simp only [PyData.depth]
  omega
theorem dp_ints {K : PySem.W.Frag} {H : Hp} : ∀ ks : List Int, DpAll K H (ks.map V.int) (ks.map PyData.int)
  | [] => .nil
  | k :: r => .cons (.int k) (dp_ints r)
theorem some_ints : ∀ (ks : List Int) (z : Int), PyData.eqv (.list ((ks ++ [z]).map PyData.int)) (.list []) = false
  | [], z => by simp [PyData.eqv, PyData.eqvAll]
  | k :: r, z => by simp [PyData.eqv, PyData.eqvAll]
theorem bits_mono {i j : Int} (h0 : 0 ≤ i) (h : i ≤ j) : Builtin.Int.intBits i ≤ Builtin.Int.intBits j := by
  unfold Builtin.Int.intBits
  by_cases e : i = 0
  · subst e
    simp
  · have ej : ¬ j = 0 := by omega
    have e1 : (i == 0) = false := by simpa using e
    have e2 : (j == 0) = false := by simpa using ej
    rw [e1, e2]
    have h2 : i.natAbs ≤ j.natAbs := by omega
    have h3 : i.natAbs ≠ 0 := by omega
    have h4 : j.natAbs ≠ 0 := by omega
    have := (Nat.le_log2 h4).mpr (Nat.le_trans (Nat.log2_self_le h3) h2)
    simp
    exact this
section
variable {P : Program} {w : World} {K : PySem.W.Frag} {mg : Str → Option Value} {base : Heap}
theorem scF : FnScope ["_law_script", "_law_cells", "_law_mixed", "_law_one"] ["_law_script"] (defScope sFeed) := ⟨rfl, rfl, rfl, by decide +kernel, rfl, by decide +kernel, by decide +kernel⟩
theorem ok_feed {f : Addr} {fd : FuncData} (F : Fun K "_law_deck" "_law_deck" sFeed f fd) (mlist : mg "list" = none) : FnOk P w K mg base CX0 1 f fd ["_law_script"] (spFeed K) := by
  refine F.ok scF (fun vs H Q E h => ?_) (fun cdv A outer s H vs Q E hr h => ?_)
  · obtain ⟨a, ns, rfl, _⟩ := h
    rfl
  · obtain ⟨a, ns, rfl, hS, hlen, hbits, k⟩ := h
    refine ⟨_, pss_cons (ps_par (i := 1) (j := 2) rfl scF.nd rfl rfl (by decide) rfl rfl
        (pa_cons (pe_callTy call_list_of (by rfl) mlist (by decide +kernel) (pa_cons (pe_slice sl_list (pv 0) po_none (po_some pe_int)) pa_nil)) (pa_cons pe_int pa_nil)) (by rfl))
      (pss_cons (ps_for PassesOwn.never rfl (pi_list (pv 1)) (pg_name (i := 3) scF.nd rfl (Or.inl rfl))
        (pss_one (ps_set (i := 2) scF.nd rfl (Or.inl rfl)
          (pe_op op_mod (pe_op op_add (pe_op op_add (pe_op op_mul (pv 2) pe_int) (pe_op op_mod (pv 3) pe_int)) pe_int) pe_int))))
      (pss_one (ps_ret (pe_lst (pa_cons (pe_revL (pv 1)) (pa_cons (pv 2) (pa_cons pe_int pa_nil))))))), ?_⟩
    refine ⟨_, rfl, 63, rfl, a, _, rfl, hS, fun q hq => ⟨q, _, rfl, .inl (SqL.of upd_same), fun l hl => ⟨_, _, rfl, ?_⟩⟩⟩
    have nlq : l ≠ q := fun e => by
      rw [e, upd_same] at hl
      cases hl
    have hl0 : H l = none := by
      rw [upd_ne nlq] at hl
      exact hl
    have s0 : Same H (upd (upd H q (.lst (cutV (ns.map V.int) none (some 63)))) l (.lst (cutV (ns.map V.int) none (some 63)))) := fun b o e => by
      rw [upd_ne (ne_of_none e hl0), upd_ne (ne_of_none e hq)]
      exact e
    have ecut : cutV (ns.map V.int) none (some 63) = (ns.take 63).map V.int := by rw [cut63, List.map_take]
    refine ⟨_, rfl, l, rfl, ⟨_, SqL.of upd_same⟩, for_list (K := K) (a := l) (xs := (ns.take 63).map V.int) (fun i σ H2 => ∃ (y : Int) (v : Option V), σ = [some (.ref a), some (.ref l), some (.int y), v] ∧ 0 ≤ y ∧ y < 2147483629 ∧ Same H H2 ∧ H2 l = some (.lst ((ns.take 63).map V.int)))
      ⟨90149, none, rfl, by decide, by decide, s0, by rw [upd_same, ecut]⟩ (fun i σ H2 _ ⟨_, _, _, _, _, _, e⟩ => SqL.of e) ?_ ?_⟩
    · rintro i x σ H2 hi ⟨y, v, rfl, y0, y1, s2, hc⟩
      obtain ⟨z, rfl⟩ : ∃ z, x = V.int z := by
        rw [List.getElem?_map] at hi
        cases e : (ns.take 63)[i]? with
        | none =>
          rw [e] at hi
          cases hi
        | some z =>
          rw [e] at hi
          exact ⟨z, (Option.some.inj hi).symm⟩
      refine ⟨_, rfl, _, _, rfl, rfl, .inl ⟨by omega, by omega⟩, _, rfl, _, _, rfl, rfl, (by show (0 : Int) < _; decide), _, _, rfl, rfl, _, _, rfl, rfl, _, _, rfl, rfl, (by show (0 : Int) < _; decide), ?_⟩
      exact ⟨_, _, rfl, Int.emod_nonneg _ (by decide), Int.emod_lt_of_pos _ (by decide), s2, hc⟩
    · rintro σ H2 ⟨y, v, rfl, y0, y1, s2, hc⟩
      refine ⟨_, rfl, l, _, rfl, SqL.of hc, fun c hcn => ⟨_, rfl, by show 3 ≤ sizeLine; decide, fun p hp => ?_⟩⟩
      have npc : p ≠ c := fun e => by
        rw [e, upd_same] at hp
        cases hp
      have hp0 : H2 p = none := by
        rw [upd_ne npc] at hp
        exact hp
      refine k p c (ns.take 63).reverse y _ (fun b o e => ?_) (s2.free hp0) (s2.free hcn) ⟨upd_same, ?_, ?_, ?_, y0, by omega, by decide⟩
      · rw [upd_ne (ne_of_none (s2 b o e) hp0), upd_ne (ne_of_none (s2 b o e) hcn)]
        exact s2 b o e
      · rw [upd_ne (Ne.symm npc), upd_same, List.map_reverse]
      · exact fun z hz => hbits z (List.mem_of_mem_take (List.mem_reverse.mp hz))
      · rw [List.length_reverse, List.length_take]
        omega
theorem scD : FnScope ["_law_deck_here", "_law_count", "_law_top", "_law_number"] ["_law_deck_here", "_law_count"] (defScope sDigit) := ⟨rfl, rfl, rfl, by decide +kernel, rfl, by decide +kernel, by decide +kernel⟩
theorem draw_b1 {z t : Int} (t0 : 0 ≤ t) (t1 : t < 1000001) : -(2 ^ 64 : Int) < z % 2147483563 + 69621 * t + 7 ∧ z % 2147483563 + 69621 * t + 7 < 2 ^ 64 := by
  have b0 := Int.emod_nonneg z (show (2147483563 : Int) ≠ 0 by decide)
  have b1 := Int.emod_lt_of_pos z (show (0 : Int) < 2147483563 by decide)
  constructor <;> omega
theorem ok_digit {f : Addr} {fd : FuncData} (F : Fun K "_law_draw" "_law_draw" sDigit f fd) : FnOk P w K mg base CX0 1 f fd ["_law_deck_here", "_law_count"] spDigit := by
  refine F.ok scD (fun vs H Q E h => ?_) (fun cdv A outer s H vs Q E hr h => ?_)
  · obtain ⟨p, c, ks, y, n, m, rfl, _⟩ := h
    rfl
  · obtain ⟨p, c, ks, y, n, m, rfl, FA, hn, m0, m1, k⟩ := h
    have hu := hu_of hr
    have ncp := FA.ne
    have w0 := FA.w0
    have w1 := FA.w1
    have n0 := FA.n0
    refine ⟨_, pss_cons (ps_asg (pe_op op_add (pe_ix ix_list (pv 0) pe_int (fun _ _ => rfl)) pe_int) (pg_sub (pv 0) pe_int set_list))
      (pss_cons (ps_set (i := 2) scD.nd rfl (Or.inl rfl) (pe_ix ix_list (pv 0) pe_int (fun _ _ => rfl)))
      (pss_cons (ps_if (pt_cmpR (op_neD hr.units) (pe_ix ix_list (pv 0) pe_int (fun _ _ => rfl)) (pe_lst pa_nil) (nomark _))
        (pss_cons (ps_set (i := 2) scD.nd rfl (Or.inl rfl) (pe_bm0 PySem.F.plainAttrs_list PySem.F.slot_list_pop PySem.F.type_list_pop mt_pop (pe_ix ix_list (pv 0) pe_int (fun _ _ => rfl))))
        (pss_one (ps_if (pt_cmpR op_ge (pv 2) (pe_op op_pow pe_int pe_int) (nomark _))
          (pss_cons (ps_expr (pe_bm PySem.F.plainAttrs_list PySem.F.slot_list_append PySem.F.type_list_append mt_append (pe_ix ix_list (pv 0) pe_int (fun _ _ => rfl)) (pa_cons (pe_op op_fdivW (pv 2) (pv 1)) pa_nil)))
          (pss_one (ps_ret (pe_op op_mod (pv 2) (pv 1))))) pss_nil))) pss_nil)
      (pss_cons (ps_set (i := 3) scD.nd rfl (Or.inl rfl) (pe_op op_mod (pe_op op_mul (pe_op op_add (pe_op op_add (pe_op op_mod (pv 2) pe_int) (pe_op op_mul pe_int (pe_ix ix_list (pv 0) pe_int (fun _ _ => rfl)))) pe_int) pe_int) pe_int))
      (pss_cons (ps_set (i := 3) scD.nd rfl (Or.inl rfl) (pe_op op_mod (pe_op op_add (pe_op op_add (pe_op op_mul (pv 3) (pv 3)) (pe_op op_mul pe_int (pe_ix ix_list (pv 0) pe_int (fun _ _ => rfl)))) pe_int) pe_int))
      (pss_one (ps_ret (pe_op op_mod (pe_op op_fdiv (pe_op op_mod (pe_op op_mul (pv 3) (pe_op op_add (pe_op op_fdiv (pv 3) pe_int) pe_int)) pe_int) pe_int) (pv 1)))))))), ?_⟩
    -- deck[2] = deck[2] + 1
    refine ⟨_, rfl, p, _, 2, .int n, rfl, rfl, SqL.of FA.ob, rfl, _, _, rfl, rfl, _, rfl, p, _, _, 2, rfl, rfl, FA.ob, rfl, ?_⟩
    have hp1 : (upd H p (.lst ([V.ref c, .int y, .int n].set 2 (.int (n + 1))))) p = some (.lst [V.ref c, .int y, .int (n + 1)]) := upd_same
    have hc1 : (upd H p (.lst ([V.ref c, .int y, .int n].set 2 (.int (n + 1))))) c = some (.lst (ks.map V.int)) := by
      rw [upd_ne ncp]
      exact FA.cs
    have sv1 : Save p c H (upd H p (.lst ([V.ref c, .int y, .int n].set 2 (.int (n + 1))))) := fun b o e h1 _ => by
      rw [upd_ne h1]
      exact e
    generalize upd H p (.lst ([V.ref c, .int y, .int n].set 2 (.int (n + 1)))) = H1 at hp1 hc1 sv1 ⊢
    -- top = deck[1]; if deck[0] != []
    refine ⟨_, rfl, p, _, 1, .int y, rfl, rfl, SqL.of hp1, rfl, ?_⟩
    refine ⟨_, rfl, p, _, 0, .ref c, rfl, rfl, SqL.of hp1, rfl, by show 0 ≤ sizeLine; decide, fun e he => ?_⟩
    refine ⟨.list (ks.map PyData.int), .list [], .lst (SqL.of (by rw [upd_ne (ne_of_none hc1 he)]; exact hc1)) (dp_ints ks), .lst (SqL.of upd_same) .nil, shaped_ints ks, by decide, _, rfl, ?_⟩
    have nce : c ≠ e := ne_of_none hc1 he
    have npe : p ≠ e := ne_of_none hp1 he
    have hp2 : (upd H1 e (.lst [])) p = some (.lst [V.ref c, .int y, .int (n + 1)]) := by
      rw [upd_ne npe]
      exact hp1
    have hc2 : (upd H1 e (.lst [])) c = some (.lst (ks.map V.int)) := by
      rw [upd_ne nce]
      exact hc1
    have sv2 : Save p c H (upd H1 e (.lst [])) := fun b o q h1 h2 => by
      have q1 := sv1 b o q h1 h2
      rw [upd_ne (ne_of_none q1 he)]
      exact q1
    generalize upd H1 e (.lst []) = H2 at hp2 hc2 sv2 ⊢
    have hbit := FA.bits
    have hlen := FA.len
    clear FA
    have t0 : 0 ≤ n + 1 := by omega
    have t1 : n + 1 < 1000001 := by omega
    have fin : ∀ (z : Int) (ks' : List Int) (H3 : Hp), H3 p = some (.lst [V.ref c, .int y, .int (n + 1)]) → H3 c = some (.lst (ks'.map V.int)) → Save p c H H3 → Bits ks' → ks'.length ≤ 63 →
        Q (.int (((((z % 2147483563 + 69621 * (n + 1) + 7) * 48271 % 2147483647) * ((z % 2147483563 + 69621 * (n + 1) + 7) * 48271 % 2147483647) + 16807 * (n + 1) + 13) % 2147483587) * ((((z % 2147483563 + 69621 * (n + 1) + 7) * 48271 % 2147483647) * ((z % 2147483563 + 69621 * (n + 1) + 7) * 48271 % 2147483647) + 16807 * (n + 1) + 13) % 2147483587 / 3 + 39373) % 2305843009213693951 / 128 % m)) H3 := fun z ks' H3 h1 h2 sv hb hl =>
      k _ ks' H3 (Int.emod_nonneg _ (by omega)) (Int.emod_lt_of_pos _ m0) ⟨h1, h2, hb, hl, w0, w1, by omega⟩ sv
    rcases List.eq_nil_or_concat ks with rfl | ⟨r, z, rfl⟩
    · have hb : (!PyData.eqv (.list (([] : List Int).map PyData.int)) (.list [])) = false := by decide
      rw [hb]
      refine iteF ?_
      have be := draw_b1 (z := y) t0 t1
      refine ⟨_, rfl, _, _, rfl, rfl, (by show (0 : Int) < _; decide), _, rfl, p, _, 2, .int (n + 1), rfl, rfl, SqL.of hp2, rfl, _, _, rfl, rfl, .inl ⟨by decide, by decide⟩, _, _, rfl, rfl, _, _, rfl, rfl, _, _, rfl, rfl, .inl be, _, _, rfl, rfl, (by show (0 : Int) < _; decide), ?_⟩
      have b0 := Int.emod_nonneg ((y % 2147483563 + 69621 * (n + 1) + 7) * 48271) (show (2147483647 : Int) ≠ 0 by decide)
      have b1 := Int.emod_lt_of_pos ((y % 2147483563 + 69621 * (n + 1) + 7) * 48271) (show (0 : Int) < 2147483647 by decide)
      have fz := fin y [] H2 hp2 hc2 sv2 hbit hlen
      generalize (y % 2147483563 + 69621 * (n + 1) + 7) * 48271 % 2147483647 = g at b0 b1 ⊢
      refine ⟨_, rfl, _, rfl, _, _, rfl, rfl, .inl ⟨by omega, by omega⟩, _, rfl, p, _, 2, .int (n + 1), rfl, rfl, SqL.of hp2, rfl, _, _, rfl, rfl, .inl ⟨by decide, by decide⟩, _, _, rfl, rfl, _, _, rfl, rfl, _, _, rfl, rfl, (by show (0 : Int) < _; decide), ?_⟩
      have d0 := Int.emod_nonneg (g * g + 16807 * (n + 1) + 13) (show (2147483587 : Int) ≠ 0 by decide)
      have d1 := Int.emod_lt_of_pos (g * g + 16807 * (n + 1) + 13) (show (0 : Int) < 2147483587 by decide)
      generalize (g * g + 16807 * (n + 1) + 13) % 2147483587 = j at d0 d1 ⊢
      refine ⟨_, rfl, _, rfl, _, _, rfl, rfl, ⟨by decide, by decide⟩, _, _, rfl, rfl, _, _, rfl, rfl, .inl ⟨by omega, by omega⟩, _, _, rfl, rfl, (by show (0 : Int) < _; decide), _, _, rfl, rfl, ⟨by decide, by decide⟩, _, rfl, _, _, rfl, rfl, m0, fz⟩
    · rw [List.concat_eq_append] at hc2 hbit hlen ⊢
      have hb : (!PyData.eqv (.list ((r ++ [z]).map PyData.int)) (.list [])) = true := by rw [some_ints] <;> rfl
      rw [hb]
      refine iteT ?_
      rw [List.map_append] at hc2
      have hc2' : H2 c = some (.lst (r.map V.int ++ [V.int z])) := hc2
      have hbr : Bits r := fun v hv => hbit v (List.mem_append_left _ hv)
      have hbz : Builtin.Int.intBits z ≤ 1048576 := hbit z (List.mem_append_right _ List.mem_cons_self)
      have hlr : r.length + 1 ≤ 63 := by
        rw [List.length_append] at hlen
        exact hlen
      refine ⟨_, rfl, p, _, 0, .ref c, rfl, rfl, SqL.of hp2, rfl, .inl ⟨rfl, _, SqL.of hc2'⟩, c, _, .int z, rfl, rfl, hc2', by simp, ?_⟩
      rw [List.dropLast_concat]
      have hp3 : (upd H2 c (.lst (r.map V.int))) p = some (.lst [V.ref c, .int y, .int (n + 1)]) := by
        rw [upd_ne (Ne.symm ncp)]
        exact hp2
      have hc3 : (upd H2 c (.lst (r.map V.int))) c = some (.lst (r.map V.int)) := upd_same
      have sv3 : Save p c H (upd H2 c (.lst (r.map V.int))) := fun b o q h1 h2 => by
        rw [upd_ne h2]
        exact sv2 b o q h1 h2
      generalize upd H2 c (.lst (r.map V.int)) = H3 at hp3 hc3 sv3 ⊢
      refine ⟨_, rfl, _, _, rfl, rfl, ⟨by decide, by decide, by decide⟩, _, _, rfl, rfl, _, rfl, ?_⟩
      by_cases big : (10 : Int) ^ ((18 : Int).toNat) ≤ z
      · rw [decide_eq_true big]
        refine iteT ?_
        have zb : (0 : Int) ≤ z := Int.le_trans (by decide) big
        refine ⟨_, rfl, p, _, 0, .ref c, rfl, rfl, SqL.of hp3, rfl, .inl ⟨rfl, _, SqL.of hc3⟩, _, rfl, _, rfl, _, _, rfl, rfl, wide_div m0 (b := 30) (by omega) (by decide) (by decide), c, _, _, rfl, rfl, hc3, small1000 (by rw [List.length_map]; omega), ?_⟩
        refine ⟨_, rfl, _, rfl, _, _, rfl, rfl, m0, ?_⟩
        refine k _ (r ++ [z / m]) _ (Int.emod_nonneg _ (by omega)) (Int.emod_lt_of_pos _ m0) ⟨by rw [upd_ne (Ne.symm ncp)]; exact hp3, by rw [upd_same, List.map_append] <;> rfl, fun v hv => ?_, by rw [List.length_append]; exact hlr, w0, w1, by omega⟩ fun b o q h1 h2 => ?_
        · rcases List.mem_append.mp hv with hv | hv
          · exact hbr v hv
          · obtain rfl : v = z / m := by simpa using hv
            exact Nat.le_trans (bits_mono (Int.ediv_nonneg zb (by omega)) (Int.ediv_le_self _ zb)) hbz
        · rw [upd_ne h2]
          exact sv3 b o q h1 h2
      · rw [decide_eq_false big]
        refine iteF ?_
        have be := draw_b1 (z := z) t0 t1
        refine ⟨_, rfl, _, _, rfl, rfl, (by show (0 : Int) < _; decide), _, rfl, p, _, 2, .int (n + 1), rfl, rfl, SqL.of hp3, rfl, _, _, rfl, rfl, .inl ⟨by decide, by decide⟩, _, _, rfl, rfl, _, _, rfl, rfl, _, _, rfl, rfl, .inl be, _, _, rfl, rfl, (by show (0 : Int) < _; decide), ?_⟩
        have b0 := Int.emod_nonneg ((z % 2147483563 + 69621 * (n + 1) + 7) * 48271) (show (2147483647 : Int) ≠ 0 by decide)
        have b1 := Int.emod_lt_of_pos ((z % 2147483563 + 69621 * (n + 1) + 7) * 48271) (show (0 : Int) < 2147483647 by decide)
        have fz := fin z r H3 hp3 hc3 sv3 hbr (by omega)
        generalize (z % 2147483563 + 69621 * (n + 1) + 7) * 48271 % 2147483647 = g at b0 b1 ⊢
        refine ⟨_, rfl, _, rfl, _, _, rfl, rfl, .inl ⟨by omega, by omega⟩, _, rfl, p, _, 2, .int (n + 1), rfl, rfl, SqL.of hp3, rfl, _, _, rfl, rfl, .inl ⟨by decide, by decide⟩, _, _, rfl, rfl, _, _, rfl, rfl, _, _, rfl, rfl, (by show (0 : Int) < _; decide), ?_⟩
        have d0 := Int.emod_nonneg (g * g + 16807 * (n + 1) + 13) (show (2147483587 : Int) ≠ 0 by decide)
        have d1 := Int.emod_lt_of_pos (g * g + 16807 * (n + 1) + 13) (show (0 : Int) < 2147483587 by decide)
        generalize (g * g + 16807 * (n + 1) + 13) % 2147483587 = j at d0 d1 ⊢
        refine ⟨_, rfl, _, rfl, _, _, rfl, rfl, ⟨by decide, by decide⟩, _, _, rfl, rfl, _, _, rfl, rfl, .inl ⟨by omega, by omega⟩, _, _, rfl, rfl, (by show (0 : Int) < _; decide), _, _, rfl, rfl, ⟨by decide, by decide⟩, _, rfl, _, _, rfl, rfl, m0, fz⟩
end
end My

-- ===== K14D =====
set_option Elab.async false
set_option linter.all false
set_option maxRecDepth 100000
set_option maxHeartbeats 4000000
namespace My
open PySem L2 PyProof.Rows PySem.Spec
/-! ### data, apart from two addresses -/
mutual
/-- v is the data d; F holds of where its objects stand -/
inductive Dq (F : Addr → Prop) (H : Hp) : V → PyData → Prop
  | non : Dq F H .non .none
  | bl (b : Bool) : Dq F H (.bl b) (.bool b)
  | int (i : Int) : Dq F H (.int i) (.int i)
  | str (x : Str) : Dq F H (.str x) (.str x)
  | lst {a : Addr} {xs : List V} {ds : List PyData} : sysModules < a → F a → H a = some (.lst xs) → DqAll F H xs ds → Dq F H (.ref a) (.list ds)
  | tup {a : Addr} {xs : List V} {ds : List PyData} : F a → H a = some (.tup xs) → DqAll F H xs ds → Dq F H (.ref a) (.tuple ds)
  | dct {a : Addr} {k : Str} {v : V} {d : PyData} : F a → H a = some (.dK [(Sum.inr k, v)]) → Dq F H v d → Dq F H (.ref a) (.dict [(.str k, d)])
inductive DqAll (F : Addr → Prop) (H : Hp) : List V → List PyData → Prop
  | nil : DqAll F H [] []
  | cons {v : V} {vs : List V} {d : PyData} {ds : List PyData} : Dq F H v d → DqAll F H vs ds → DqAll F H (v :: vs) (d :: ds)
end
mutual
/-- .. in another heap, where these objects stand, too; of less -/
theorem Dq.to {F F' : Addr → Prop} {H H' : Hp} (s : ∀ a o, F a → H a = some o → H' a = some o) (m : ∀ a, F a → F' a) : ∀ {v : V} {d : PyData}, Dq F H v d → Dq F' H' v d
  | _, _, .non => .non
  | _, _, .bl b => .bl b
  | _, _, .int i => .int i
  | _, _, .str x => .str x
  | _, _, .lst h1 h2 h4 h5 => .lst h1 (m _ h2) (s _ _ h2 h4) (DqAll.to s m h5)
  | _, _, .tup h2 h4 h5 => .tup (m _ h2) (s _ _ h2 h4) (DqAll.to s m h5)
  | _, _, .dct h2 h4 h5 => .dct (m _ h2) (s _ _ h2 h4) (Dq.to s m h5)
theorem DqAll.to {F F' : Addr → Prop} {H H' : Hp} (s : ∀ a o, F a → H a = some o → H' a = some o) (m : ∀ a, F a → F' a) : ∀ {vs : List V} {ds : List PyData}, DqAll F H vs ds → DqAll F' H' vs ds
  | _, _, .nil => .nil
  | _, _, .cons h1 h2 => .cons (Dq.to s m h1) (DqAll.to s m h2)
end
theorem DqAll.snoc {F : Addr → Prop} {H : Hp} {v : V} {d : PyData} (h : Dq F H v d) : ∀ {vs : List V} {ds : List PyData}, DqAll F H vs ds → DqAll F H (vs ++ [v]) (ds ++ [d])
  | _, _, .nil => .cons h .nil
  | _, _, .cons h1 h2 => .cons h1 (DqAll.snoc h h2)
section
variable {X : Cx} {pins : List (Addr × Obj)} {σ : L2.St} {H : Hp} {s : Shared} {F : Addr → Prop}
theorem modules_not {as bs : List Addr} (h1 : sysModules ∉ as) (h2 : sysModules ∉ bs) : sysModules ∉ as ++ bs := fun h => (List.mem_append.mp h).elim h1 h2
mutual
theorem Dq.reads (I : Inv X pins σ H s) : ∀ (d : PyData) (v : V) (u : Value), Dq F H v d → RelV v u → ∃ as, Reads s.heap u d as ∧ sysModules ∉ as
  | .none, _, _, h, r => by
    cases h
    cases r
    exact ⟨_, Reads.none, by simp⟩
  | .bool b, _, _, h, r => by
    cases h
    cases r
    exact ⟨_, Reads.bool b, by simp⟩
  | .int i, _, _, h, r => by
    cases h
    obtain ⟨t, rfl⟩ := r
    exact ⟨_, Reads.int i t, by simp⟩
  | .str x, _, _, h, r => by
    cases h
    obtain ⟨t, rfl⟩ := r
    exact ⟨_, Reads.str x t, by simp⟩
  | .list ds, _, _, h, r => by
    cases h with
    | lst big n1 ha hd =>
      rename_i a xs
      cases r
      obtain ⟨_, its, n, rv, ho⟩ := (show ObjOk X.prog X.w H s.heap a (.lst xs) from I.hok a _ ha)
      obtain ⟨as, hr, hn⟩ := DqAll.reads I ds _ its hd rv
      refine ⟨_, Reads.list ho rfl rfl (by simpa using hr), ?_⟩
      intro hm
      rcases List.mem_cons.mp hm with e | e
      · exact absurd big (by rw [← e]; exact Nat.lt_irrefl _)
      · exact hn e
  | .tuple ds, _, _, h, r => by
    cases h with
    | tup n1 ha hd =>
      rename_i a xs
      cases r
      obtain ⟨_, its, rv, o, ho, hc, n, hdt⟩ := (show ObjOk X.prog X.w H s.heap a (.tup xs) from I.hok a _ ha)
      obtain ⟨as, hr, hn⟩ := DqAll.reads I ds _ its hd rv
      exact ⟨_, Reads.tuple ho hc hdt (by simpa using hr), hn⟩
  | .dict [], _, _, h, _ => by cases h
  | .dict [(k, d)], _, _, h, r => by
    cases h with
    | dct n1 ha hd =>
      rename_i a k v
      cases r
      obtain ⟨_, low, vs, rel, o, es, ep, ho, hx, hdt, _, hp, _⟩ := (show ObjOk X.prog X.w H s.heap a (.dK [(Sum.inr k, v)]) from I.hok a _ ha)
      rcases vs with _ | ⟨⟨kk, u⟩, _ | ⟨_, _⟩⟩
      · cases rel
      · have r1 : (Sum.inr k = kk) ∧ RelV v u := by
          cases rel with
          | cons r1 rn => exact r1
        obtain ⟨e1, rv⟩ := r1
        subst e1
        generalize hl : es.toList = l at hp
        cases hp with
        | cons hk hv hrest =>
          cases hrest
          rename_i en
          obtain ⟨as, hr, hn⟩ := Dq.reads I d v u hd rv
          obtain ⟨t, hk'⟩ : ∃ t, en.key = Value.str k t := by
            have hk2 : keyIs (Sum.inr k) en.key = true := hk
            rcases keyIs_shape hk2 with ⟨i, t, q, _⟩ | ⟨y, t, q, z⟩
            · cases q
            · cases q
              exact ⟨t, z⟩
          refine ⟨_, Reads.dict (es := es) (as := []) (bs := as ++ []) ho hx.1 hdt ?_ ?_, ?_⟩
          · rw [hl]
            show ReadsAll s.heap [en.key] [PyData.str k] []
            rw [hk']
            exact .cons (as := []) (bs := []) (.str k t) .nil
          · rw [hl]
            show ReadsAll s.heap [en.val] [d] (as ++ [])
            rw [show en.val = u from hv]
            exact .cons hr .nil
          · intro hm
            have hm' : sysModules ∈ a :: (as ++ []) := by simpa using hm
            rcases List.mem_cons.mp hm' with e | e
            · rw [← e] at low
              exact absurd low (by simp)
            · exact hn (by simpa using e)
      · cases rel with
        | cons _ rn => cases rn
  | .dict (_ :: _ :: _), _, _, h, _ => by cases h
theorem DqAll.reads (I : Inv X pins σ H s) : ∀ (ds : List PyData) (vs : List V) (us : List Value), DqAll F H vs ds → Vals vs us → ∃ as, ReadsAll s.heap us ds as ∧ sysModules ∉ as
  | [], _, _, h, r => by
    cases h
    cases r
    exact ⟨_, ReadsAll.nil, by simp⟩
  | d :: ds, _, _, h, r => by
    cases h with
    | cons h1 h2 =>
      cases r with
      | cons r1 r2 =>
        obtain ⟨as, q1, n1⟩ := Dq.reads I d _ _ h1 r1
        obtain ⟨bs, q2, n2⟩ := DqAll.reads I ds _ _ h2 r2
        exact ⟨_, ReadsAll.cons q1 q2, modules_not n1 n2⟩
end
/-! ### repr of such data -/
def rReprD (F : Addr → Prop) : List V → Hp → VK → Prop := fun xs H Q => ∃ v d, xs = [v] ∧ Dq F H v d ∧ d.showable = true ∧ d.depth ≤ 60 ∧ d.shown.length ≤ sizeLine ∧ Q (.str d.shown) H
theorem call_reprD (hg : X.A.guards = some []) (hu : X.A.units + 64 < cLine) : CallR X (.builtin "repr") (rReprD F) := by
  intro pins s σ H xs us Q I r h
  obtain ⟨v, d, rfl, hd, hs, hdp, hz, q⟩ := h
  obtain ⟨u, rfl, rx⟩ := vals1 r
  obtain ⟨as, hr, hn⟩ := Dq.reads I d v u hd rx
  cases hd with
  | non =>
    cases (show u = Value.none from rx)
    exact P.repr_of_none ⟨.str _, H, I.tok _, ⟨_, rfl⟩, q⟩
  | bl b =>
    cases (show u = Value.bool b from rx)
    exact P.repr_of_bool ⟨.str _, H, I.tok _, ⟨_, rfl⟩, q⟩
  | int i =>
    obtain ⟨t, rfl⟩ := (show ∃ t, u = Value.int i t from rx)
    exact P.repr_of_int (by simpa [PyData.showable] using hs) ⟨.str _, H, I.tok _, ⟨_, rfl⟩, q⟩
  | str x =>
    obtain ⟨t, rfl⟩ := (show ∃ t, u = Value.str x t from rx)
    exact P.repr_of_str ⟨.str _, H, I.tok _, ⟨_, rfl⟩, q⟩ (by simpa only [PyData.shown] using hz)
  | lst _ _ _ _ =>
    cases rx
    exact repr_of_reads' hr hs (fun _ => hn) hg (by omega) (fun _ _ e => e) (fun h' t tk k => ⟨.str _, H, I.kept k, ⟨t, rfl⟩, q⟩) hz
  | tup _ _ _ =>
    cases rx
    exact repr_of_reads' hr hs (fun _ => hn) hg (by omega) (fun _ _ e => e) (fun h' t tk k => ⟨.str _, H, I.kept k, ⟨t, rfl⟩, q⟩) hz
  | dct _ _ _ =>
    cases rx
    exact repr_of_reads' hr hs (fun _ => hn) hg (by omega) (fun _ _ e => e) (fun h' t tk k => ⟨.str _, H, I.kept k, ⟨t, rfl⟩, q⟩) hz
end
end My

-- ===== KS1 =====
set_option Elab.async false
set_option linter.all false
set_option maxRecDepth 100000
set_option maxHeartbeats 1600000
/-! Sets whose members are objects told by a key (tuples of texts, nested tuples): search and add. -/
namespace Kd
open PySem PySem.Spec PyProof.Rows L2

section
variable {P : Program} {w : World} {K : Type} [DecidableEq K]
/-- keys that a set can have for members: nothing of the program is asked when they are compared -/
structure SetKind (knd : HeapKind P w K) : Prop where
  st : knd.Stays
  cls : ∀ {A : Around} {E : Value → Shared → Prop} {s : Shared} {k : K} {b : Addr} {Q : Bool → Shared → Prop}, knd.is s.heap k b → Q false s → wpAny (model P w) A (ofAClassStatement 8 (.ref b)) Q E s
  byv : ∀ {A : Around} {E : Value → Shared → Prop} {s : Shared} {k : K} {b : Addr} {Q : Bool → Shared → Prop}, knd.is s.heap k b → (∀ c, Q c s) → wpAny (model P w) A (hashByValue 8 (.ref b)) Q E s

def rowsH (knd : HeapKind P w K) (L : List (Addr × K)) : List (Int × Value) := L.map fun q => (knd.hash q.2, Value.ref q.1)
def hashH (knd : HeapKind P w K) (L : List (Addr × K)) : List Int := L.map fun q => knd.hash q.2
theorem rowsH_len (knd : HeapKind P w K) (L : List (Addr × K)) : (rowsH knd L).length = L.length := List.length_map ..
theorem hashH_len (knd : HeapKind P w K) (L : List (Addr × K)) : (hashH knd L).length = L.length := List.length_map ..
/-- at a the set with the members L: their addresses and keys, in the order of the table -/
structure SetH (knd : HeapKind P w K) (h : Heap) (a : Addr) (L : List (Addr × K)) (es : Array (Int × Value)) (ep : Nat) (t : SetTable) : Prop where
  ob : ∃ o, h.get? a = some o ∧ o.ExactSet ∧ o.data = .set es ep t
  rows : es.toList = rowsH knd L
  tab : TabOk t (hashH knd L)
  nd : (L.map Prod.snd).Nodup
  key : ∀ q ∈ L, knd.is h q.2 q.1
  led : w.params.followText "set-order" = true ∨ t.led = true
  room : L.length * 5 < t.mask * 3
  few : L.length < 64
end

section
variable {P : Program} {w : World} {K : Type} [DecidableEq K] {knd : HeapKind P w K} {A : Around} {E : Value → Shared → Prop} {s : Shared} {h : Heap} {a : Addr} {L : List (Addr × K)} {es : Array (Int × Value)} {ep : Nat} {t : SetTable}

theorem SetH.esz (Z : SetH knd h a L es ep t) : es.size = L.length := by
  have q := congrArg List.length Z.rows
  rwa [rowsH_len, Array.length_toList] at q
theorem SetH.psz (Z : SetH knd h a L es ep t) : t.place.size = L.length := by
  have q := Z.tab.sz
  rwa [hashH_len] at q
theorem SetH.fit (Z : SetH knd h a L es ep t) : t.fits es.size = true := by
  have q1 := Z.psz
  have q2 := Z.esz
  have q3 := Z.room
  unfold SetTable.fits SetTable.fill
  rw [Z.tab.dm, Bool.and_eq_true, beq_iff_eq, decide_eq_true_eq, q1, q2]
  refine ⟨rfl, ?_⟩
  show L.length + 0 ≤ t.mask
  omega
theorem SetH.at_ (Z : SetH knd h a L es ep t) {i : Nat} {q : Addr × K} (e : L[i]? = some q) : es[i]? = some (knd.hash q.2, Value.ref q.1) := by
  have z : es.toList[i]? = some (knd.hash q.2, Value.ref q.1) := by
    rw [Z.rows]
    show (L.map _)[i]? = _
    rw [List.getElem?_map, e]
    rfl
  rwa [Array.getElem?_toList] at z
theorem SetH.stands (Z : SetH knd h a L es ep t) : ¬ t.gaveWay = true := by
  unfold SetTable.gaveWay
  rw [mask_odd Z.tab.mok]
  decide
theorem nth_plain (m : Nat) : ∀ (n : Nat) (p : SetTable.Probe), p.dummy = none → (nth m p n).dummy = none
  | 0, _, e => e
  | n + 1, p, e => nth_plain m n (adv m p) (by unfold adv; split <;> exact e)

/-- comparing keys shows nothing -/
theorem unseen (S : SetKind knd) {k : K} {b : Addr} {Q : Bool → Shared → Prop} (hb : knd.is s.heap k b) {ys : List Value} (hy : ∀ y ∈ ys, ∃ k' c, y = Value.ref c ∧ knd.is s.heap k' c) (q : Q false s) :
    wpAny (model P w) A (searchCouldBeSeen (.ref b) ys) Q E s := by
  unfold searchCouldBeSeen
  refine wpAny_bind (wpAny_forIn_list _ (fun todo r s1 => r.1 = none ∧ s1 = s ∧ ∀ y ∈ todo, ∃ k' c, y = Value.ref c ∧ knd.is s.heap k' c) _ (fun y todo r s1 hI => ?_) (fun r s1 hI => ?_) _ _ ⟨rfl, rfl, hy⟩)
  · obtain ⟨e1, e2, e3⟩ := hI
    subst e2
    obtain ⟨k', c, e4, hc⟩ := e3 y List.mem_cons_self
    subst e4
    have more : ∀ y ∈ todo, ∃ k' c, y = Value.ref c ∧ knd.is s1.heap k' c := fun u hu => e3 u (List.mem_cons_of_mem _ hu)
    dsimp only
    by_cases same : (b == c || (carriedByValue (.ref b) && carriedByValue (.ref c))) = true
    · exact wp_if_pos same (wpAny_pure ⟨rfl, rfl, more⟩)
    · refine wp_if_neg same (wpAny_bind (knd.quiet hb ?_))
      simp only [Bool.not_true, Bool.false_eq_true, if_false]
      refine wpAny_bind (knd.quiet hc ?_)
      simp only [Bool.not_true, Bool.false_eq_true, if_false]
      refine wpAny_bind (S.cls hb ?_)
      simp only [Bool.false_eq_true, if_false]
      refine wpAny_bind (S.cls hc ?_)
      simp only [Bool.false_eq_true, if_false]
      exact wpAny_pure ⟨rfl, rfl, more⟩
  · obtain ⟨r1, r2⟩ := r
    obtain ⟨e1, e2, _⟩ := hI
    have e1 : r1 = none := e1
    subst e1
    subst e2
    exact wpAny_pure q

/-- the probe's state behind c steps -/
abbrev prob (t : SetTable) (g : Int) (c : Nat) : SetTable.Probe := nth t.mask (runAt t.mask (SetTable.bits g % (t.mask + 1)) (SetTable.bits g)) c

theorem seek (S : SetKind knd) (Z : SetH knd s.heap a L es ep t) {x : Addr} {k : K} (hx : knd.is s.heap k x) (hr : knd.room A) {K0 : Nat} (kf : K0 < 10 * SetTable.turns t.mask)
    (kout : way t.mask (knd.hash k) K0 ∉ t.place.toList) (kin : ∀ c, c < K0 → way t.mask (knd.hash k) c ∈ t.place.toList) {Q : SetFound → Shared → Prop}
    (yes : k ∈ L.map Prod.snd → Q (.there none) s) (no : k ∉ L.map Prod.snd → Q (.free (way t.mask (knd.hash k) K0) false) s) :
    ∀ (m f c : Nat) (stand : Option SetTable.Probe), K0 - c = m → m < f → c ≤ K0 → stand.getD (t.probeStart (knd.hash k)) = prob t (knd.hash k) c →
      (∀ (i : Nat) q, L[i]? = some q → q.2 = k → ∃ d, c ≤ d ∧ d < K0 ∧ t.place.toList[i]? = some (way t.mask (knd.hash k) d)) →
      wpAny (model P w) A (setSearchFrom a (.ref x) (knd.hash k) true f stand) Q E s := by
  intro m
  induction m using Nat.strongRecOn with
  | ind m ih =>
    intro f c stand em mf ck es0 left
    obtain ⟨f, rfl⟩ : ∃ f', f = f' + 1 := ⟨f - 1, by omega⟩
    obtain ⟨o, ho, hex, hdat⟩ := Z.ob
    rw [setSearchFrom_succ]
    refine wpAny_bind (wpAny_setState_of ho hdat Z.fit ?_)
    dsimp only
    refine wp_if_neg Z.stands ?_
    have step : ∀ d, nth t.mask (prob t (knd.hash k) c) d = prob t (knd.hash k) (c + d) := fun d => (nth_add t.mask c _ d).symm
    have stepj : ∀ d, (nth t.mask (prob t (knd.hash k) c) d).j = way t.mask (knd.hash k) (c + d) := fun d => by rw [step d]
    have hend : c + (K0 - c) = K0 := by omega
    have hat : ∀ (i : Nat) q, L[i]? = some q → (fun i => (es[i]?.map (·.1)).getD 0) i = knd.hash q.2 := fun i q e => by
      show (es[i]?.map (·.1)).getD 0 = _
      rw [Z.at_ e]
      rfl
    rcases go_spec t Z.tab.ris Z.tab.dm (fun i => (es[i]?.map (·.1)).getD 0) (knd.hash k) (10 * SetTable.turns t.mask) (K0 - c) (prob t (knd.hash k) c) (nth_plain _ _ _ rfl) (by omega)
        (fun d hd => by rw [stepj]; exact kin _ (by omega)) (by rw [stepj, hend]; exact kout) with ⟨d, i, d1, d2, d3, d4, d5⟩ | ⟨d1, d2⟩
    · rw [stepj] at d2
      rw [stepj, step] at d5
      have pr : t.probe (fun i => (es[i]?.map (·.1)).getD 0) (knd.hash k) (stand.getD (t.probeStart (knd.hash k))) = some (.candidate (way t.mask (knd.hash k) (c + d)) i (prob t (knd.hash k) (c + (d + 1)))) := by
        rw [es0]
        exact d5
      rw [pr]
      dsimp only
      have il : i < L.length := by
        have z := (List.getElem?_eq_some_iff.mp d2).1
        rw [Array.length_toList, Z.psz] at z
        exact z
      obtain ⟨q, eq⟩ : ∃ q, L[i]? = some q := ⟨_, List.getElem?_eq_getElem il⟩
      have qm : q ∈ L := List.mem_of_getElem? eq
      have go : wpAny (model P w) A (searchRest a (.ref x) (knd.hash k) true f es t (way t.mask (knd.hash k) (c + d)) i (prob t (knd.hash k) (c + (d + 1)))) Q E s := by
        unfold searchRest
        rw [Z.at_ eq]
        dsimp only
        refine wpAny_bind (wpAny_holding (knd.eqBool hr (Z.key q qm) hx ?_))
        refine wpAny_bind (wpAny_setState_of ho hdat Z.fit ?_)
        dsimp only
        have live : t.slot (way t.mask (knd.hash k) (c + d)) = .live i := slot_live Z.tab.ris d2
        by_cases ek : q.2 = k
        · exact wp_if_pos (by simp [ek]) (wpAny_pure (yes (List.mem_map.mpr ⟨q, qm, ek⟩)))
        · refine wp_if_neg (by simp [ek]) ?_
          rw [sameMem]
          dsimp only
          simp only [if_true, live, Z.at_ eq]
          refine wpAny_bind (wpAny_isSame_ref_self (wpAny_bind (wpAny_pure ?_)))
          simp only [if_true]
          refine wp_if_neg (by simp [ek]) (ih (K0 - (c + (d + 1))) (by omega) f (c + (d + 1)) _ rfl (by omega) (by omega) rfl fun i0 q0 e0 ek0 => ?_)
          obtain ⟨v, v1, v2, v3⟩ := left i0 q0 e0 ek0
          refine ⟨v, ?_, v2, v3⟩
          rcases Nat.lt_trichotomy v (c + d) with lt | e | gt
          · exact absurd ((hat i0 q0 e0).trans (congrArg knd.hash ek0)) (d4 (v - c) i0 (by omega) (by rw [stepj, show c + (v - c) = v by omega]; exact v3))
          · rw [e] at v3
            have live2 := slot_live Z.tab.ris v3
            rw [live] at live2
            cases live2
            rw [eq] at e0
            cases e0
            exact absurd ek0 ek
          · omega
      by_cases ld : t.led = true
      · exact wp_if_neg (by simp [ld]) go
      · refine wp_if_pos (by simp [ld]) (wpAny_bind (unseen S hx (fun y hy => ?_) (wp_if_neg (by decide) go)))
        obtain ⟨u, hu, rfl⟩ := List.mem_map.mp hy
        have hu1 : u ∈ es := by
          have z : u ∈ es ∧ u.1 = knd.hash k := by simpa using hu
          exact z.1
        have hu2 : u ∈ rowsH knd L := by
          rw [← Z.rows]
          simpa using hu1
        obtain ⟨q2, h2, rfl⟩ := List.mem_map.mp hu2
        exact ⟨q2.2, q2.1, rfl, Z.key q2 h2⟩
    · rw [stepj, hend] at d2
      have pr : t.probe (fun i => (es[i]?.map (·.1)).getD 0) (knd.hash k) (stand.getD (t.probeStart (knd.hash k))) = some (.empty (way t.mask (knd.hash k) K0) none) := by
        rw [es0]
        exact d2
      rw [pr]
      dsimp only
      refine wpAny_pure (no fun km => ?_)
      obtain ⟨q0, m0, ek0⟩ := List.mem_map.mp km
      obtain ⟨i0, l0, e0⟩ := List.getElem_of_mem m0
      have e1 : L[i0]? = some q0 := by rw [List.getElem?_eq_getElem l0, e0]
      obtain ⟨v, v1, v2, v3⟩ := left i0 q0 e1 ek0
      exact d1 (v - c) i0 (by omega) (by rw [stepj, show c + (v - c) = v by omega]; exact v3) ((hat i0 q0 e1).trans (congrArg knd.hash ek0))

/-- the search before an add -/
theorem find_at (S : SetKind knd) (Z : SetH knd s.heap a L es ep t) {x : Addr} {k : K} (hx : knd.is s.heap k x) (hr : knd.room A) {Q : SetFound → Shared → Prop} (yes : k ∈ L.map Prod.snd → Q (.there none) s)
    (no : ∀ c, k ∉ L.map Prod.snd → way t.mask (knd.hash k) c ∉ t.place.toList → (∀ d, d < c → way t.mask (knd.hash k) d ∈ t.place.toList) → Q (.free (way t.mask (knd.hash k) c) false) s) :
    wpAny (model P w) A (setSearch a (.ref x) (knd.hash k) true) Q E s := by
  have hroom := Z.room
  obtain ⟨c, c1, c2, c3⟩ := Z.tab.first (by rw [hashH_len]; omega) (knd.hash k)
  have small : c < 100000 := by
    have z : 10 * SetTable.turns t.mask ≤ 1420 := by
      unfold SetTable.turns
      rcases Z.tab.mok with e | e | e <;> omega
    omega
  refine seek S Z hx hr c1 c2 c3 yes (fun h => no c h c2 c3) c 100000 0 none (by omega) small (Nat.zero_le _) rfl fun i q e ek => ?_
  have hi : (hashH knd L)[i]? = some (knd.hash k) := by
    show (L.map _)[i]? = _
    rw [List.getElem?_map, e, ← ek]
    rfl
  have il : i < t.place.toList.length := by
    rw [Array.length_toList, Z.psz]
    exact (List.getElem?_eq_some_iff.mp e).1
  obtain ⟨d, d1, d2⟩ := Z.tab.before c2 hi (List.getElem?_eq_getElem il)
  exact ⟨d, Nat.zero_le _, d1, by rw [d2]; exact List.getElem?_eq_getElem il⟩
end
end Kd

-- ===== KS2 =====
set_option Elab.async false
set_option linter.all false
set_option maxRecDepth 100000
set_option maxHeartbeats 1600000
namespace Kd
open PySem PySem.Spec PyProof.Rows L2

theorem range_pick {α : Type} (L : List α) : ∀ n, n ≤ L.length → (List.range n).filterMap (fun i => L[i]?) = L.take n
  | 0, _ => by simp
  | n + 1, le => by
    have lt : n < L.length := le
    rw [List.range_succ, List.filterMap_append, range_pick L n (Nat.le_of_lt lt), List.take_succ, List.getElem?_eq_getElem lt]
    simp [List.getElem?_eq_getElem lt]

section
variable {P : Program} {w : World} {K : Type} [DecidableEq K] {knd : HeapKind P w K} {A : Around} {E : Value → Shared → Prop} {s : Shared} {a : Addr} {L : List (Addr × K)} {es : Array (Int × Value)} {ep : Nat} {t : SetTable}

theorem rows_get {L : List (Addr × K)} {es : Array (Int × Value)} (hr : es.toList = rowsH knd L) (i : Nat) : es[i]? = (L[i]?).map fun q => (knd.hash q.2, Value.ref q.1) := by
  have z : es.toList[i]? = (rowsH knd L)[i]? := by rw [hr]
  rw [Array.getElem?_toList] at z
  rw [z]
  unfold rowsH
  rw [List.getElem?_map]
theorem rows_hash {L : List (Addr × K)} {es : Array (Int × Value)} (hr : es.toList = rowsH knd L) : ∀ l : List Nat, (∀ i ∈ l, i < L.length) → hashH knd (l.filterMap fun i => L[i]?) = l.map fun i => (es.map Prod.fst).getD i 0
  | [], _ => rfl
  | i :: l, hl => by
    have lt := hl i List.mem_cons_self
    have ih := rows_hash hr l fun j hj => hl j (List.mem_cons_of_mem _ hj)
    have g := rows_get hr i
    rw [List.getElem?_eq_getElem lt] at g
    have g2 : (es.map Prod.fst).getD i 0 = knd.hash (L[i]).2 := by
      rw [Array.getD_eq_getD_getElem?, Array.getElem?_map, g]
      rfl
    rw [List.filterMap_cons_some (List.getElem?_eq_getElem lt), List.map_cons, g2, ← ih]
    rfl
/-- a key stays a key when a set changes -/
theorem SetKind.keeps (S : SetKind knd) {h h' : Heap} {a b : Addr} {k : K} {o : Obj} {es : Array (Int × Value)} {ep : Nat} {t : SetTable} (ho : h.get? a = some o) (hd : o.data = .set es ep t) (sb : Heap.SameBut a h h') (x : knd.is h k b) : knd.is h' k b := by
  refine S.st.stays (fun c u vs n e d => ?_) x
  have ne : c ≠ a := fun z => by
    rw [z, ho] at e
    rw [← Option.some.inj e, hd] at d
    cases d
  rw [sb.2 c ne]
  exact e

/-- the table laid anew -/
theorem relay (S : SetKind knd) {o : Obj} (ho : s.heap.get? a = some o) (hex : o.ExactSet) (hd : o.data = .set es ep t) (hr : es.toList = rowsH knd L) (hp : t.place.size = es.size) (dm : t.dummies = #[]) (fl : es.size ≤ t.mask) (nd : (L.map Prod.snd).Nodup)
    (key : ∀ q ∈ L, knd.is s.heap q.2 q.1) (ld : w.params.followText "set-order" = true ∨ t.led = true) (few : L.length < 64) {wanted M : Nat} (hw : SetTable.sizeAbove wanted - 1 = M) (hM : MaskOk M) (hw2 : SetTable.sizeAbove wanted ≤ 128) (hn : L.length * 5 < M * 3)
    {Q : Unit → Shared → Prop} (q : ∀ h' L' es' ep' t', Heap.SameBut a s.heap h' → SetH knd h' a L' es' ep' t' → L'.Perm L → Q () { s with heap := h' }) : wpAny (model P w) A (setRelay a wanted) Q E s := by
  have sz : es.size = L.length := by
    have z := congrArg List.length hr
    rwa [rowsH_len, Array.length_toList] at z
  have fit : t.fits es.size = true := by
    unfold SetTable.fits SetTable.fill
    rw [dm, Bool.and_eq_true, beq_iff_eq, decide_eq_true_eq, hp]
    exact ⟨rfl, fl⟩
  obtain ⟨t', ord, e1, e2, e3, e4, e5, _, _⟩ := relaid_ok t (hs := es.map Prod.fst) (wanted := wanted) hw hM (by rw [Array.size_map]; omega)
  rw [Array.size_map, sz] at e2
  have lt : ∀ i ∈ ord.toList, i < L.length := fun i hi => List.mem_range.mp (e2.mem_iff.mp hi)
  have pm : (ord.toList.filterMap fun i => L[i]?).Perm L := by
    have z := e2.filterMap fun i => L[i]?
    rwa [range_pick L L.length (Nat.le_refl _), List.take_length] at z
  rw [← rows_hash hr ord.toList lt] at e3
  have er : (ord.filterMap (es[·]?)).toList = rowsH knd (ord.toList.filterMap fun i => L[i]?) := by
    rw [Array.toList_filterMap]
    unfold rowsH
    rw [List.map_filterMap]
    congr 1
    funext i
    exact rows_get hr i
  generalize ord.toList.filterMap (fun i => L[i]?) = L' at e3 er pm
  have sz' : (ord.filterMap (es[·]?)).size = L.length := by
    rw [← Array.length_toList, er, rowsH_len, pm.length_eq]
  rw [setRelay_eq]
  refine wpAny_bind (wpAny_setState_of ho hd fit ?_)
  dsimp only
  refine wp_if_neg (by rw [sizeLine_eq]; omega) ?_
  rw [e1]
  dsimp only
  refine wpAny_bind (wp_if_neg (by rw [sz', sz]; simp) (wpAny_pure ?_))
  dsimp only
  have sb : Heap.SameBut a s.heap (s.heap.update a (Obj.putSet (ord.filterMap (es[·]?)) t')) := Heap.SameBut.update ..
  refine wpAny_storeSet_of ho hd (q _ L' _ (ep + 1) t' sb ⟨⟨_, store_at ho hd, hex, rfl⟩, er, e3, ?_, fun p hp => S.keeps ho hd sb (key p (pm.mem_iff.mp hp)), ?_, ?_, ?_⟩ pm) (by rw [sz', sizeLine_eq]; omega)
  · exact (pm.map Prod.snd).nodup_iff.mpr nd
  · rw [e5]
    exact ld
  · rw [pm.length_eq, e4]
    exact hn
  · rw [pm.length_eq]
    exact few

/-- a member added -/
theorem add_key (S : SetKind knd) (Z : SetH knd s.heap a L es ep t) {x : Addr} {k : K} (hx : knd.is s.heap k x) (hr : knd.room A) (hfew : k ∉ L.map Prod.snd → L.length + 1 < 64) {Q : Bool → Shared → Prop}
    (q : ∀ b h' L' es' ep' t', Heap.SameBut a s.heap h' → SetH knd h' a L' es' ep' t' → (k ∈ L.map Prod.snd → L' = L) → (k ∉ L.map Prod.snd → L'.Perm ((x, k) :: L)) → Q b { s with heap := h' }) :
    wpAny (model P w) A (setAddHashed a (.ref x) (knd.hash k)) Q E s := by
  obtain ⟨o, ho, hex, hd⟩ := Z.ob
  have sz := Z.esz
  have rm := Z.room
  unfold setAddHashed
  refine wpAny_holding ?_
  rw [show (100000 : Nat) = 99999 + 1 from rfl, setAddHashedIn_succ]
  refine wpAny_bind (wpAny_setState_of ho hd Z.fit ?_)
  dsimp only
  refine wp_if_neg (by simp [byScan, Value.scannable]) (wpAny_bind (find_at S Z hx hr (fun km => ?_) fun c kn out inn => ?_))
  · exact wpAny_pure (q false s.heap L es ep t (Heap.SameBut.refl a s.heap) Z (fun _ => rfl) fun n => absurd km n)
  · have less := hfew kn
    dsimp only
    refine wpAny_bind (wpAny_setState_of ho hd Z.fit ?_)
    dsimp only
    obtain ⟨p1, p2, p3, p4, p5, _, _, _, p9⟩ := Z.tab.put out inn
    rw [hashH_len] at p2 p9
    generalize t.put (way t.mask (knd.hash k) c) = pt at p1 p3 p4 p5 p9 ⊢
    obtain ⟨t1, at_⟩ := pt
    dsimp only at p1 p3 p4 p5 p9 ⊢
    subst p1
    generalize SetTable.below t.place (way t.mask (knd.hash k) c) = n at p2 p3 ⊢
    have pm : (L.take n ++ (x, k) :: L.drop n).Perm ((x, k) :: L) := put_perm L n (x, k)
    have hh : hashH knd (L.take n ++ (x, k) :: L.drop n) = (hashH knd L).take n ++ knd.hash k :: (hashH knd L).drop n := by
      unfold hashH
      rw [List.map_append, List.map_cons, List.map_take, List.map_drop]
    have rr : (SetTable.insertAt es n (knd.hash k, Value.ref x)).toList = rowsH knd (L.take n ++ (x, k) :: L.drop n) := by
      rw [SetTable.toList_insertAt, Z.rows]
      unfold rowsH
      rw [List.map_append, List.map_cons, List.map_take, List.map_drop]
    rw [← hh] at p3
    generalize L.take n ++ (x, k) :: L.drop n = L1 at pm p3 rr
    have len1 : L1.length = L.length + 1 := pm.length_eq
    have esz1 : (SetTable.insertAt es n (knd.hash k, Value.ref x)).size = L.length + 1 := by
      rw [← Array.length_toList, rr, rowsH_len, len1]
    have nd1 : (L1.map Prod.snd).Nodup := (pm.map Prod.snd).nodup_iff.mpr (List.nodup_cons.mpr ⟨kn, Z.nd⟩)
    generalize SetTable.insertAt es n (knd.hash k, Value.ref x) = es1 at rr esz1 ⊢
    -- whatever is told of the hash, the table is the same but for a mark
    have fin : ∀ t2 : SetTable, t2.mask = t1.mask → TabOk t2 (hashH knd L1) → t2.led = t1.led → t2.fill = t1.fill →
        wpAny (model P w) A (do
          storeSet a es1 t2
          if (!false && t2.tooFull) = true then do
              let _ ← setRelay a (SetTable.grown (es.size + 1))
              pure true
            else pure true) Q E s := fun t2 m2 ok2 led2 fill2 => by
      have sb : Heap.SameBut a s.heap (s.heap.update a (Obj.putSet es1 t2)) := Heap.SameBut.update ..
      have ho1 := store_at (es' := es1) (t' := t2) ho hd
      refine wpAny_bind (wpAny_storeSet_of ho hd ?_ (by rw [esz1, sizeLine_eq]; omega))
      generalize s.heap.update a (Obj.putSet es1 t2) = h1 at sb ho1 ⊢
      have key1 : ∀ p ∈ L1, knd.is h1 p.2 p.1 := fun p hp => by
        rcases List.mem_cons.mp (pm.mem_iff.mp hp) with e | m
        · rw [e]
          exact S.keeps ho hd sb hx
        · exact S.keeps ho hd sb (Z.key p m)
      have led1 : w.params.followText "set-order" = true ∨ t2.led = true := by
        rw [led2, p5]
        exact Z.led
      have full : t2.tooFull = decide ((L.length + 1) * 5 ≥ t.mask * 3) := by
        unfold SetTable.tooFull
        rw [fill2, p9, m2, p4]
      by_cases hf : (L.length + 1) * 5 ≥ t.mask * 3
      · refine wp_if_pos (by rw [full, decide_eq_true hf]; rfl) (wpAny_bind ?_)
        have sized : (t.mask = 7 ∧ L.length = 4) ∨ (t.mask = 31 ∧ L.length = 18) := by
          rcases Z.tab.mok with e | e | e
          · exact .inl ⟨e, by omega⟩
          · exact .inr ⟨e, by omega⟩
          · omega
        have anew : ∀ M, SetTable.sizeAbove (SetTable.grown (L.length + 1)) - 1 = M → MaskOk M → SetTable.sizeAbove (SetTable.grown (L.length + 1)) ≤ 128 → (L.length + 1) * 5 < M * 3 →
            wpAny (model P w) A (setRelay a (SetTable.grown (es.size + 1))) (fun _ s' => wpAny (model P w) A (pure true) Q E s') E { s with heap := h1 } := fun M g1 g2 g3 g4 => by
          rw [sz]
          refine relay S (s := { s with heap := h1 }) ho1 hex rfl rr ?_ ok2.dm ?_ nd1 key1 led1 (by rw [len1]; exact less) g1 g2 g3 (by rw [len1]; exact g4) fun h2 L2 es2 ep2 t2' sb2 Z2 pm2 => ?_
          · rw [ok2.sz, hashH_len, len1, esz1]
          · rw [esz1, m2, p4]
            rcases sized with ⟨e, e'⟩ | ⟨e, e'⟩ <;> omega
          · exact wpAny_pure (q true h2 L2 es2 ep2 t2' (sb.trans sb2) Z2 (fun n => absurd n kn) fun _ => pm2.trans pm)
        rcases sized with ⟨_, e⟩ | ⟨_, e⟩
        · exact anew 31 (by rw [e, size_20]) (.inr (.inl rfl)) (by rw [e, size_20]; decide) (by omega)
        · exact anew 127 (by rw [e, size_76]) (.inr (.inr rfl)) (by rw [e, size_76]; decide) (by omega)
      · refine wp_if_neg (by rw [full, decide_eq_false hf]; decide) (wpAny_pure (q true h1 L1 es1 (ep + 1) t2 sb ⟨⟨_, ho1, hex, rfl⟩, rr, ok2, nd1, key1, led1, ?_, by rw [len1]; exact less⟩ (fun n => absurd n kn) fun _ => pm))
        rw [len1, m2, p4]
        omega
    by_cases pl : t1.plain = true
    · refine wp_if_pos pl (wpAny_bind (S.byv hx fun c => ?_))
      cases c with
      | true => exact fin t1 rfl p3 rfl rfl
      | false => exact fin { t1 with plain := false } rfl ⟨p3.ris, p3.dm, p3.sz, p3.mok, p3.bd, p3.reach⟩ rfl rfl
    · refine wp_if_neg pl (wpAny_bind (wpAny_pure ?_))
      exact fin t1 rfl p3 rfl rfl

/-- set.add as a call -/
theorem call_add (S : SetKind knd) (Z : SetH knd s.heap a L es ep t) {x : Addr} {k : K} (hx : knd.is s.heap k x) (hr : knd.room A.in1) (hfew : k ∉ L.map Prod.snd → L.length + 1 < 64) {Q : Value → Shared → Prop}
    (q : ∀ h' tk L' es' ep' t', Heap.SameBut a s.heap h' → SetH knd h' a L' es' ep' t' → (k ∈ L.map Prod.snd → L' = L) → (k ∉ L.map Prod.snd → L'.Perm ((x, k) :: L)) → s.toks ≤ tk → Q .none { s with heap := h', toks := tk }) :
    wpAny (model P w) A (call (.builtin "set.add") [.ref a, .ref x]) Q E s := by
  obtain ⟨o, ho, hex, hd⟩ := Z.ob
  refine wpAny_call_entry F.slot_set_add ⟨o, ho, hex.1⟩ F.entry_set_add ?_ (F.args_set_add_2 _ _)
  unfold Builtin.«set.add» Builtin.Frozenset.oneOther
  simp only [List.isEmpty_nil, bind_assoc]
  unfold Builtin.Frozenset.addrOf setAdd
  refine wpAny_bind (wpAny_pure ?_)
  try dsimp only
  refine wpAny_bind (wpAny_pure ?_)
  try dsimp only
  refine wpAny_bind (wpAny_holding (wpAny_bind (knd.pyHash hr hx ?_)))
  refine add_key (s := { s with toks := s.toks + knd.draws k }) S Z hx hr hfew fun b h' L' es' ep' t' sb Z' c1 c2 => ?_
  show wpAny _ _ (ret Value.none) _ _ _
  exact wpAny_pure ⟨_, rfl, q h' (s.toks + knd.draws k) L' es' ep' t' sb Z' c1 c2 (Nat.le_add_right _ _)⟩
end
end Kd

-- ===== KS3 =====
set_option Elab.async false
set_option linter.all false
set_option maxRecDepth 100000
set_option maxHeartbeats 1600000
namespace Kd
open PySem PySem.Spec PyProof.Rows L2

/-! ### tuples of ints and texts are keys -/
section
variable {P : Program} {w : World} {A : Around} {E : Value → Shared → Prop} {s : Shared}
theorem mixed {ks : List Key} {vs : List Value} (x : ItemsAre (mixKind P w) ks vs) : ∀ v ∈ vs, (∃ i t, v = Value.int i t) ∨ ∃ z t, v = Value.str z t := by
  induction x with
  | nil => exact fun v m => nomatch m
  | @cons k u ks vs h _ ih =>
    intro v m
    rcases List.mem_cons.mp m with e | m
    · subst e
      have h : keyIs k v = true := h
      cases k with
      | inl i =>
        obtain ⟨t, e⟩ := Value.isInt_shape (k := i) (v := v) h
        exact .inl ⟨i, t, e⟩
      | inr z =>
        obtain ⟨t, e⟩ := Value.isStrOf_shape (x := z) (v := v) h
        exact .inr ⟨z, t, e⟩
    · exact ih v m
theorem mixed_cls (n : Nat) {v : Value} (h : (∃ i t, v = Value.int i t) ∨ ∃ z t, v = Value.str z t) : ofAClassStatement n v = pure false := by
  rcases h with ⟨i, t, rfl⟩ | ⟨z, t, rfl⟩ <;> cases n <;> rfl
theorem mixed_byv (n : Nat) {v : Value} (h : (∃ i t, v = Value.int i t) ∨ ∃ z t, v = Value.str z t) : ∃ c, hashByValue n v = pure c := by
  rcases h with ⟨i, t, rfl⟩ | ⟨z, t, rfl⟩ <;> cases n <;> exact ⟨_, rfl⟩
theorem mix_cls {ks : List Key} {b : Addr} {Q : Bool → Shared → Prop} (x : IsTupleKey (mixKind P w) s.heap ks b) (q : Q false s) : wpAny (model P w) A (ofAClassStatement 8 (.ref b)) Q E s := by
  have T := x.typeIs
  obtain ⟨o, its, n, ho, _, hd, hi⟩ := x
  unfold ofAClassStatement
  refine wpAny_bind (wpAny_typeOf T ?_)
  dsimp only
  have e : (("tuple" : String) == "tuple") = true := by decide
  simp only [e, if_true, Bool.not_true, Bool.false_eq_true, if_false]
  try refine wpAny_bind (wpAny_pure ?_)
  try simp only [Bool.not_true, Bool.false_eq_true, if_false]
  show wpAny _ _ (seqItems? (.ref b) >>= _) _ _ s
  refine wpAny_bind (wpAny_seqItems ho hd ?_)
  dsimp only
  refine wpAny_bind ?_
  show wpAny _ _ (forIn its _ _) _ _ s
  rw [← Array.forIn_toList]
  refine wpAny_forIn_list _ (fun todo r s1 => r.1 = none ∧ s1 = s ∧ ∀ v ∈ todo, (∃ i t, v = Value.int i t) ∨ ∃ z t, v = Value.str z t) _ (fun v todo r s1 hI => ?_) (fun r s1 hI => ?_) _ _ ⟨rfl, rfl, mixed hi⟩
  · obtain ⟨_, e2, e3⟩ := hI
    rw [mixed_cls 7 (e3 v List.mem_cons_self)]
    refine wpAny_bind (wpAny_pure ?_)
    simp only [Bool.false_eq_true, if_false]
    exact wpAny_pure ⟨rfl, e2, fun u m => e3 u (List.mem_cons_of_mem _ m)⟩
  · obtain ⟨r1, r2⟩ := r
    obtain ⟨e1, e2, _⟩ := hI
    have e1 : r1 = none := e1
    subst e1
    subst e2
    exact wpAny_pure q
theorem mix_byv {ks : List Key} {b : Addr} {Q : Bool → Shared → Prop} (x : IsTupleKey (mixKind P w) s.heap ks b) (q : ∀ c, Q c s) : wpAny (model P w) A (hashByValue 8 (.ref b)) Q E s := by
  have T := x.typeIs
  obtain ⟨o, its, n, ho, _, hd, hi⟩ := x
  unfold hashByValue
  refine wpAny_bind (wpAny_specialOf T F.slot_tuple_hash.lookup ?_)
  show wpAny _ _ (seqItems? (.ref b) >>= _) _ _ s
  refine wpAny_bind (wpAny_seqItems ho hd ?_)
  refine wpAny_bind ?_
  show wpAny _ _ (forIn its _ _) _ _ s
  rw [← Array.forIn_toList]
  refine wpAny_forIn_list _ (fun todo r s1 => r.1 = none ∧ s1 = s ∧ ∀ v ∈ todo, (∃ i t, v = Value.int i t) ∨ ∃ z t, v = Value.str z t) _ (fun v todo r s1 hI => ?_) (fun r s1 hI => ?_) _ _ ⟨rfl, rfl, mixed hi⟩
  · obtain ⟨_, e2, e3⟩ := hI
    obtain ⟨c, ec⟩ := mixed_byv 7 (e3 v List.mem_cons_self)
    rw [ec]
    refine wpAny_bind (wpAny_pure ?_)
    cases c with
    | true =>
      simp only [Bool.not_true, Bool.false_eq_true, if_false]
      exact wpAny_pure ⟨rfl, e2, fun u m => e3 u (List.mem_cons_of_mem _ m)⟩
    | false =>
      simp only [Bool.not_false, if_true]
      subst e2
      exact wpAny_pure (wpAny_pure (q false))
  · obtain ⟨r1, r2⟩ := r
    obtain ⟨e1, e2, _⟩ := hI
    have e1 : r1 = none := e1
    subst e1
    subst e2
    exact wpAny_pure (q true)
theorem mixSet : SetKind (tupleKind (mixKind P w)) where
  st := tupleKind_stays
  cls := fun x q => mix_cls x q
  byv := fun x q => mix_byv x q
end
end Kd

-- ===== KS4 =====
set_option Elab.async false
set_option linter.all false
set_option maxRecDepth 100000
set_option maxHeartbeats 3200000
namespace Kd
open PySem PySem.Spec PyProof.Rows L2

section
variable {P : Program} {w : World} {K : Type} [DecidableEq K] {knd : HeapKind P w K}
theorem SetH.stay (S : SetKind knd) {h h' : Heap} {a : Addr} {L : List (Addr × K)} {es : Array (Int × Value)} {ep : Nat} {t : SetTable} (Z : SetH knd h a L es ep t) (ha : ∀ o, h.get? a = some o → h'.get? a = some o) (hk : ∀ q ∈ L, knd.is h' q.2 q.1) : SetH knd h' a L es ep t := by
  obtain ⟨o, ho, r⟩ := Z.ob
  exact ⟨⟨o, ha o ho, r⟩, Z.rows, Z.tab, Z.nd, hk, Z.led, Z.room, Z.few⟩
theorem SetKind.kept (S : SetKind knd) {h h' : Heap} {k : K} {b : Addr} (x : knd.is h k b) (hk : ∀ c o, h.get? c = some o → h'.get? c = some o) : knd.is h' k b := S.st.stays (fun c o _ _ e _ => hk c o e) x
/-- an empty set, just made -/
abbrev newO (w : World) : Obj := { cls := .type "set", dict := none, data := .set #[] 0 (.fresh 0 0 (!w.params.followText "set-order")) }
theorem setH_new {h : Heap} {a : Addr} (ho : h.get? a = some (newO w)) : SetH knd h a [] #[] 0 (.fresh 0 0 (!w.params.followText "set-order")) where
  ob := ⟨_, ho, ⟨rfl, rfl, rfl⟩, rfl⟩
  rows := rfl
  tab := { ris := List.Pairwise.nil, dm := rfl, sz := rfl, mok := .inl rfl, bd := (fun x hx => nomatch hx), reach := fun i g j e => by simp [hashH] at e }
  nd := List.nodup_nil
  key := fun q m => nomatch m
  led := by
    show _ ∨ (!w.params.followText "set-order") = true
    cases e : w.params.followText "set-order"
    · exact .inr rfl
    · exact .inl rfl
  room := by
    show 0 * 5 < 7 * 3
    decide
  few := by
    show 0 < 64
    decide

/-- what came of the first i of the rows ks -/
structure Came (ks : List (Addr × K)) (i : Nat) (L : List (Addr × K)) : Prop where
  inn : ∀ q ∈ L, q ∈ ks.take i
  got : ∀ q ∈ ks.take i, q.2 ∈ L.map Prod.snd
  most : L.length ≤ i
theorem Came.step {ks L L' : List (Addr × K)} {i : Nat} {x : Addr × K} (c : Came ks i L) (e : ks[i]? = some x) (h1 : x.2 ∈ L.map Prod.snd → L' = L) (h2 : x.2 ∉ L.map Prod.snd → L'.Perm (x :: L)) : Came ks (i + 1) L' := by
  have tk : ks.take (i + 1) = ks.take i ++ [x] := by rw [List.take_succ, e]; rfl
  by_cases m : x.2 ∈ L.map Prod.snd
  · rw [h1 m]
    refine ⟨fun q hq => by rw [tk]; exact List.mem_append_left _ (c.inn q hq), fun q hq => ?_, Nat.le_succ_of_le c.most⟩
    rw [tk] at hq
    rcases List.mem_append.mp hq with z | z
    · exact c.got q z
    · rw [List.mem_singleton.mp z]
      exact m
  · have pm := h2 m
    refine ⟨fun q hq => ?_, fun q hq => ?_, by rw [pm.length_eq]; exact Nat.succ_le_succ c.most⟩
    · rw [tk]
      rcases List.mem_cons.mp (pm.mem_iff.mp hq) with z | z
      · rw [z]
        exact List.mem_append_right _ List.mem_cons_self
      · exact List.mem_append_left _ (c.inn q z)
    · rw [(pm.map Prod.snd).mem_iff]
      rw [tk] at hq
      rcases List.mem_append.mp hq with z | z
      · exact List.mem_cons_of_mem _ (c.got q z)
      · rw [List.mem_singleton.mp z]
        exact List.mem_cons_self
end

section
variable {P : Program} {w : World} {K : Type} [DecidableEq K] {knd : HeapKind P w K} {A : Around} {E : Value → Shared → Prop}
theorem nodup_most {α : Type} [DecidableEq α] : ∀ (l D : List α), l.Nodup → (∀ x ∈ l, x ∈ D) → l.length ≤ D.length
  | [], _, _, _ => Nat.zero_le _
  | x :: l, D, nd, sub => by
    obtain ⟨n1, n2⟩ := List.nodup_cons.mp nd
    have mx := sub x List.mem_cons_self
    have ih := nodup_most l (D.erase x) n2 fun y my => (List.mem_erase_of_ne fun (e : y = x) => n1 (by rw [← e]; exact my)).2 (sub y (List.mem_cons_of_mem _ my))
    rw [List.length_erase_of_mem mx] at ih
    have pos := List.length_pos_of_mem mx
    rw [List.length_cons]
    omega
theorem few_of {ks L : List (Addr × K)} {i : Nat} {q : Addr × K} (less : ∃ ds : List K, (∀ q ∈ ks, q.2 ∈ ds) ∧ ds.length < 64) (inn : ∀ p ∈ L, p ∈ ks.take i) (nd : (L.map Prod.snd).Nodup) (mq : q ∈ ks) (nq : q.2 ∉ L.map Prod.snd) : L.length + 1 < 64 := by
  obtain ⟨ds, h1, h2⟩ := less
  have z := nodup_most (q.2 :: L.map Prod.snd) ds (List.nodup_cons.mpr ⟨nq, nd⟩) fun x mx => by
    rcases List.mem_cons.mp mx with rfl | mx
    · exact h1 q mq
    · obtain ⟨p, mp, rfl⟩ := List.mem_map.mp mx
      exact h1 p (List.mem_of_mem_take (inn p mp))
  rw [List.length_cons, List.length_map] at z
  omega
/-- all that is walked goes into the set -/
theorem filled (S : SetKind knd) {I B : Addr} {fp wr : List Addr} {G : Array GenState → Array GenState → Prop} {n : Nat} {Pv : Nat → Value → Prop} {St : Nat → Shared → Prop} {R : Result → Shared → Prop} (W : WalksS P w A.in1 I fp wr G n Pv St) (hB : B ∉ fp)
    (ks : List (Addr × K)) (hn : n = ks.length) (less : ∃ ds : List K, (∀ q ∈ ks, q.2 ∈ ds) ∧ ds.length < 64) (val : ∀ i v, Pv i v → ∃ q, ks[i]? = some q ∧ v = .ref q.1) (g : Heap) (gk : ∀ q ∈ ks, knd.is g q.2 q.1) (gB : g.get? B = none) (gw : ∀ b ∈ wr, g.get? b = none) (room : knd.room A.in1) :
    ∀ (m i : Nat) (s : Shared), n - i = m → i ≤ n → St i s → (∀ b o, g.get? b = some o → s.heap.get? b = some o) → (∃ L es ep t, SetH knd s.heap B L es ep t ∧ Came ks i L) →
      (∀ s' L es ep t, Moved (B :: wr) G s s' → SetH knd s'.heap B L es ep t → Came ks n L → (∀ b o, g.get? b = some o → s'.heap.get? b = some o) → R (.ok (.ret .none)) s') →
      codeAny (model P w) A (.builtin "set.update.loop" ⟨[.ref B, .ref I], []⟩) R s := by
  have nBw : B ∉ wr := fun m => hB (W.sub _ m)
  have more : ∀ b ∈ wr, b ∈ B :: wr := fun b m => List.mem_cons_of_mem _ m
  have on : ∀ {s s' : Shared}, Moved wr G s s' → (∀ b o, g.get? b = some o → s.heap.get? b = some o) → ∀ b o, g.get? b = some o → s'.heap.get? b = some o := fun mv k b o e =>
    mv.heap b o (fun m => by rw [gw b m] at e; cases e) (k b o e)
  intro m
  induction m with
  | zero =>
    intro i s em le st kp ⟨L, es, ep, t, Z, c⟩ fin
    obtain rfl : i = n := by omega
    refine codeAny_builtin F.entry_set_update_loop ?_
    rw [Around.under_plainId F.plain_set_update_loop _]
    show wpAny _ A.in1 (pyNext (.ref I) >>= _) _ _ s
    refine wpAny_bind (W.done s _ _ st fun s' mv => ?_)
    show wpAny _ A.in1 (ret Value.none) _ _ s'
    have kp' := on mv kp
    exact wpAny_pure (fin s' L es ep t (mv.mono more) (Z.stay S (fun o e => mv.heap B o nBw e) fun q hq => S.kept (gk q (List.mem_of_mem_take (c.inn q hq))) kp') c kp')
  | succ m ih =>
    intro i s em le st kp ⟨L, es, ep, t, Z, c⟩ fin
    have lt : i < n := by omega
    refine codeAny_builtin F.entry_set_update_loop ?_
    rw [Around.under_plainId F.plain_set_update_loop _]
    show wpAny _ A.in1 (pyNext (.ref I) >>= _) _ _ s
    refine wpAny_bind (W.item i s _ _ lt st fun v s' pv st' mv => ?_)
    obtain ⟨q, eq, rfl⟩ := val i v pv
    have kp' := on mv kp
    have Z' : SetH knd s'.heap B L es ep t := Z.stay S (fun o e => mv.heap B o nBw e) fun p hp => S.kept (gk p (List.mem_of_mem_take (c.inn p hp))) kp'
    have hx : knd.is s'.heap q.2 q.1 := S.kept (gk q (List.mem_of_getElem? eq)) kp'
    show wpAny _ A.in1 (holding [Value.ref q.1] (setAdd B (.ref q.1)) >>= _) _ _ s'
    refine wpAny_bind (wpAny_holding ?_)
    unfold setAdd
    refine wpAny_holding (wpAny_bind (knd.pyHash room hx ?_))
    refine add_key (s := { s' with toks := s'.toks + knd.draws q.2 }) S Z' hx room (few_of less c.inn Z.nd (List.mem_of_getElem? eq)) fun b h' L' es' ep' t' sb Z2 c1 c2 => ?_
    have nB : ∀ b o, g.get? b = some o → b ≠ B := fun b o e z => by
      rw [z, gB] at e
      cases e
    have kp2 : ∀ b o, g.get? b = some o → h'.get? b = some o := fun b o e => (sb.2 b (nB b o e)).trans (kp' b o e)
    refine wpAny_pure ⟨plainId_quiet F.plain_set_update_loop _, ih (i + 1) _ (by omega) lt (W.frame _ s' _ _ st' (Nat.le_add_right _ _) fun b m o e => ?_) kp2 ⟨L', es', ep', t', Z2, c.step eq c1 c2⟩ fun s'' L2 es2 ep2 t2 mv2 Z3 c3 kp3 => ?_⟩
    · rw [sb.2 b fun z => hB (z ▸ m)]
      exact e
    · refine fin s'' L2 es2 ep2 t2 (Moved.trans W.gtrans ((mv.mono more).then_heap (Nat.le_add_right _ _) fun b o m e => ?_) mv2) Z3 c3 kp3
      rw [sb.2 b fun z => m (by rw [z]; exact List.mem_cons_self)]
      exact e
end
end Kd

-- ===== KS5 =====
set_option Elab.async false
set_option linter.all false
set_option maxRecDepth 100000
set_option maxHeartbeats 3200000
namespace Kd
open PySem PySem.Spec PyProof.Rows L2
section
variable {P : Program} {w : World} {K : Type} [DecidableEq K] {knd : HeapKind P w K} {A : Around} {E : Value → Shared → Prop} {s : Shared}
/-- what is left when set(..) has run -/
def SetMade (knd : HeapKind P w K) (s : Shared) (ks : List (Addr × K)) (s2 : Shared) : Prop :=
  ∃ h' tk L es ep t, s2 = { s with heap := h', toks := tk } ∧ SetH knd h' s.heap.objs.size L es ep t ∧ Came ks ks.length L ∧ ∀ b o, s.heap.get? b = some o → h'.get? b = some o
theorem call_set_keys (S : SetKind knd) {l : Addr} {its : Array Value} (ks : List (Addr × K)) {Q : Value → Shared → Prop} (calm : A.handled = none) (il : s.heap.IsList l its) (ev : its.toList = ks.map fun q => Value.ref q.1) (kk : ∀ q ∈ ks, knd.is s.heap q.2 q.1)
    (less : ∃ ds : List K, (∀ q ∈ ks, q.2 ∈ ds) ∧ ds.length < 64) (room : knd.room A.in1.in1.in1) (q : ∀ s2, SetMade knd s ks s2 → Q (.ref s.heap.objs.size) s2) : wpAny (model P w) A (call (.type "set") [.ref l]) Q E s := by
  have isz : its.size = ks.length := by rw [← Array.length_toList, ev, List.length_map]
  obtain ⟨c, tl, mro⟩ := F.called_set.mro
  have made := F.called_set.made
  have sub := F.called_set.sub
  refine wpAny_call (codeAny_of_tree ?_)
  show wpAny _ _ (callAny (.type "set") _) _ _ _
  refine wpAny_pure ⟨Code.quiet_builtin _ (by decide +kernel), codeAny_builtin F.entry_type_call ?_⟩
  rw [Around.under_plain (weight_type_call_type "set" [.ref l] []) rfl]
  have z1 := F.called_set.notType
  have z2 := F.called_set.canCreate
  have z3 := F.typeCall_set_1 (.ref l)
  repeat (any_goals (first | assumption | wp_step))
  refine codeAny_mono (code_set_led1 (.ref l) (E := E) (Q₁ := fun v s1 => v = .ref s.heap.objs.size ∧ s1 = { s with heap := s.heap.push (newO w) }) ⟨rfl, rfl⟩) fun r s1 hr => ?_
  rcases r with e | fl
  · exact hr
  cases fl with
  | ret obj =>
    obtain ⟨rfl, rfl⟩ := hr
    have at0 : (s.heap.push (newO w)).get? s.heap.objs.size = some (newO w) := Heap.get?_push_size _ rfl
    have T0 : Shared.TypeIs { s with heap := s.heap.push (newO w) } (.ref s.heap.objs.size) "set" := ⟨_, at0, rfl⟩
    have li := F.called_set.init.lookup
    have bi := F.called_set.init.bind (.ref s.heap.objs.size)
    repeat (any_goals (first | assumption | wp_step))
    refine codeAny_mono (codeAny_call_builtin (R := wants (fun r s2 => r = .none ∧ SetMade knd s ks s2) E) F.called_set.init.plain F.entry_set_init (check_set_init_1 T0 ?_)) fun r s2 hr => ?_
    · obtain ⟨⟨oc, od, ob, os⟩, ol, oc', on, ob'⟩ := il
      simp only at oc' ob'
      subst oc'
      subst ob'
      have ol2 := Heap.get?_push_of_some (newO w) ol
      have y1 := F.sub_list_set
      have y2 := F.sub_list_frozenset
      have y3 : (Value.type "list" == Value.type "dict") = false := by decide
      have il2 : (s.heap.push (newO w)).IsList l its := ⟨_, ol2, rfl, on, rfl⟩
      unfold Builtin.«set.__init__» noKeywords Builtin.Frozenset.updateFrom
      generalize hPI : pyIter = PI
      wp_walk
      subst hPI
      refine wpAny_pyIter_list il2 (wpAny_bind (wpAny_runValue ?_))
      have lS : l < s.heap.objs.size := Heap.lt_size ol
      have calm3 : A.in1.in1.in1.handled = none := by simp [calm]
      have szp : (s.heap.push (newO w)).objs.size = s.heap.objs.size + 1 := Heap.size_push ..
      have lI : l ≠ (s.heap.push (newO w)).objs.size := by
        rw [szp]
        exact Nat.ne_of_lt (Nat.lt_succ_of_lt lS)
      have free : ∀ b, s.heap.objs.size ≤ b → s.heap.get? b = none := fun b le => by
        cases e : s.heap.get? b with
        | none => rfl
        | some o => exact absurd (Heap.lt_size e) (Nat.not_lt.mpr le)
      refine filled S ((Walks.list calm3 _ l lI its).toS) (B := s.heap.objs.size) (fun m => ?_) ks isz less (fun i v e => ?_) s.heap kk (free _ (Nat.le_refl _)) (fun b m => free b ?_) room (its.size - 0) 0 _ rfl (Nat.zero_le _)
        ⟨⟨_, Heap.get?_push_size _ rfl, rfl, rfl⟩, il2.push _⟩ (fun b o e => Heap.get?_push_of_some _ (Heap.get?_push_of_some _ e)) ⟨[], #[], 0, _, setH_new (Heap.get?_push_of_some _ at0), fun q m => (nomatch m), fun q m => (by simp at m), Nat.le_refl _⟩ fun s' L es ep t mv Z c kp => ?_
      · rcases List.mem_cons.mp m with e | m
        · rw [szp] at e
          exact absurd e (Nat.ne_of_lt (Nat.lt_succ_self _))
        · have e := List.mem_singleton.mp m
          rw [← e] at lS
          exact absurd lS (Nat.lt_irrefl _)
      · have e2 : its.toList[i]? = some v := by rw [Array.getElem?_toList]; exact e
        rw [ev, List.getElem?_map] at e2
        obtain ⟨q, e3, e4⟩ := Option.map_eq_some_iff.mp e2
        exact ⟨q, e3, e4.symm⟩
      · rw [List.mem_singleton.mp m, szp]
        exact Nat.le_succ _
      · obtain ⟨h', g', d', tk, os'⟩ := s'
        obtain rfl : g' = s.gens := mv.gens
        obtain rfl : d' = s.drawn := mv.drawn
        obtain rfl : os' = s.os := mv.os
        show wpAny _ _ _ _ _ _
        refine wpAny_pure ?_
        show wpAny _ _ (ret Value.none) _ _ _
        rw [isz] at c
        exact wpAny_pure ⟨rfl, h', tk, L, es, ep, t, rfl, Z, c, kp⟩
    · rcases r with e | fl
      · exact hr
      cases fl with
      | ret r =>
        obtain ⟨rfl, mk⟩ := hr
        repeat (any_goals (first | assumption | wp_step))
        exact q _ mk
      | _ => exact hr.elim
  | _ => exact hr.elim
end
end Kd

-- ===== KS6 =====
set_option Elab.async false
set_option linter.all false
set_option maxRecDepth 100000
set_option maxHeartbeats 3200000
namespace Kd
open PySem PySem.Spec PyProof.Rows L2 PySem.W

theorem perm_lift {α β : Type} (f : α → β) {l m : List β} (p : l.Perm m) : ∀ L : List α, m = L.map f → ∃ L1 : List α, L1.Perm L ∧ l = L1.map f := by
  induction p with
  | nil =>
    intro L e
    refine ⟨[], ?_, rfl⟩
    rw [List.map_eq_nil_iff.mp e.symm]
  | cons x _ ih =>
    intro L e
    obtain ⟨y, L', rfl, rfl, e2⟩ := List.map_eq_cons_iff.mp e.symm
    obtain ⟨L1, p1, e3⟩ := ih L' e2.symm
    exact ⟨y :: L1, p1.cons y, by rw [e3, List.map_cons]⟩
  | swap x y l =>
    intro L e
    obtain ⟨u, L', rfl, rfl, e2⟩ := List.map_eq_cons_iff.mp e.symm
    obtain ⟨v, L'', rfl, rfl, e3⟩ := List.map_eq_cons_iff.mp e2
    exact ⟨v :: u :: L'', List.Perm.swap .., by rw [← e3]; rfl⟩
  | trans _ _ ih1 ih2 =>
    intro L e
    obtain ⟨L1, p1, e1⟩ := ih2 L e
    obtain ⟨L2, p2, e2⟩ := ih1 L1 e1
    exact ⟨L2, p2.trans p1, e2⟩

/-- a key as data -/
def kD : Key → PyData
  | .inl i => .int i
  | .inr x => .str x
def tD (k : List Key) : PyData := .tuple (k.map kD)

/-! ### the set as a tracked thing -/
structure Held (P : Program) (w : World) (h : Heap) (a : Addr) (L : List (Addr × List Key)) : Prop where
  ex : ∃ (es : Array (Int × Value)) (ep : Nat) (t : SetTable), (∃ o, h.get? a = some o ∧ o.ExactSet ∧ o.data = .set es ep t) ∧ es.toList = rowsH (tupleKind (mixKind P w)) L ∧ TabOk t (hashH (tupleKind (mixKind P w)) L) ∧ (L.map Prod.snd).Nodup ∧
    (w.params.followText "set-order" = true ∨ t.led = true) ∧ L.length * 5 < t.mask * 3 ∧ L.length < 64
/-- the set at a with the members L -/
def SetO (P : Program) (w : World) (a : Addr) (L : List (Addr × List Key)) : HO := .ext fun h => Held P w h a L
section
variable {P : Program} {w : World} {h : Heap} {a : Addr} {L : List (Addr × List Key)}
theorem SetH.held {es : Array (Int × Value)} {ep : Nat} {t : SetTable} (Z : SetH (tupleKind (mixKind P w)) h a L es ep t) : Held P w h a L := ⟨es, ep, t, Z.ob, Z.rows, Z.tab, Z.nd, Z.led, Z.room, Z.few⟩
theorem Held.set (R : Held P w h a L) (key : ∀ q ∈ L, IsTupleKey (mixKind P w) h q.2 q.1) : ∃ es ep t, SetH (tupleKind (mixKind P w)) h a L es ep t := by
  obtain ⟨es, ep, t, r1, r2, r3, r4, r5, r6, r7⟩ := R.ex
  exact ⟨es, ep, t, r1, r2, r3, r4, key, r5, r6, r7⟩
theorem setO_ok {H : Hp} (R : Held P w h a L) : ObjOk P w H h a (SetO P w a L) := by
  obtain ⟨es, ep, t, ⟨o, ho, _⟩, _⟩ := R.ex
  refine ⟨R, ⟨o, ho⟩, fun g1 g2 (R1 : Held P w g1 a L) k => ?_⟩
  obtain ⟨es, ep, t, ⟨o, ho, r⟩, q⟩ := R1.ex
  exact ⟨es, ep, t, ⟨o, k o ho, r⟩, q⟩
end

section
variable {X : Cx} {pins : List (Addr × Obj)} {σ : L2.St} {H : Hp} {s : Shared}
theorem items_mix {P : Program} {w : World} : ∀ {k : List Key} {us : List Value}, Vals (k.map kV) us → ItemsAre (mixKind P w) k us
  | [], _, .nil => .nil
  | .inl i :: k, _, .cons r t => by
    obtain ⟨tk, rfl⟩ := r
    exact .cons (mixKind_int P w i tk) (items_mix t)
  | .inr x :: k, _, .cons r t => by
    obtain ⟨tk, rfl⟩ := r
    exact .cons (mixKind_str P w x tk) (items_mix t)
theorem reads_mix {h : Heap} : ∀ {k : List Key} {us : List Value}, Vals (k.map kV) us → ReadsAll h us (k.map kD) []
  | [], _, .nil => .nil
  | .inl i :: k, _, .cons r t => by
    obtain ⟨tk, rfl⟩ := r
    exact ReadsAll.cons (as := []) (bs := []) (Reads.int i tk) (reads_mix t)
  | .inr x :: k, _, .cons r t => by
    obtain ⟨tk, rfl⟩ := r
    exact ReadsAll.cons (as := []) (bs := []) (Reads.str x tk) (reads_mix t)
theorem key_raw (I : Inv X pins σ H s) {b : Addr} {k : List Key} (h : SqT X.K H b (k.map kV)) : IsTupleKey (mixKind X.prog X.w) s.heap k b ∧ Reads s.heap (.ref b) (tD k) [] := by
  obtain ⟨its, r, ⟨o, ho, hc, n, hd⟩, _⟩ := I.tuple h
  exact ⟨⟨o, its.toArray, n, ho, hc, hd, by simpa using items_mix r⟩, Reads.tuple ho hc hd (by simpa using reads_mix r)⟩
theorem refs_raw {α : Type} (f : α → Addr) : ∀ {ks : List α} {us : List Value}, Vals (ks.map fun q => V.ref (f q)) us → us = ks.map fun q => Value.ref (f q)
  | [], _, .nil => rfl
  | q :: ks, _, .cons r t => by
    cases r
    rw [refs_raw f t]
    rfl
theorem refs_vals {α : Type} (f : α → Addr) : ∀ (ks : List α), Vals (ks.map fun q => V.ref (f q)) (ks.map fun q => Value.ref (f q))
  | [] => .nil
  | q :: ks => .cons rfl (refs_vals f ks)

/-- set(xs), xs a list of tuples -/
def rSetOfD (K : PySem.W.Frag) (P : Program) (w : World) : List V → Hp → VK → Prop := fun vs H Q => ∃ (l : Addr) (ks : List (Addr × List Key)), vs = [V.ref l] ∧ SqL K H l (ks.map fun q => V.ref q.1) ∧ (∀ q ∈ ks, SqT K H q.1 (q.2.map kV)) ∧ (∃ ds : List (List Key), (∀ q ∈ ks, q.2 ∈ ds) ∧ ds.length < 64) ∧
  ∀ a L, H a = none → (∀ q ∈ L, q ∈ ks) → (∀ q ∈ ks, q.2 ∈ L.map Prod.snd) → (L.map Prod.snd).Nodup → Q (.ref a) (upd H a (SetO P w a L))
theorem cr_setOfD (hc : X.calm = true) (hu : X.A.units + 64 < cLine) : CallR X (.type "set") (rSetOfD X.K X.prog X.w) := by
  intro pins s σ H vs us Q I r h
  obtain ⟨l, ks, rfl, hl, hk, hf, q⟩ := h
  rw [Vals.ref1 r]
  obtain ⟨its, rv, il, _⟩ := I.list hl
  refine call_set_keys (P := X.prog) (w := X.w) (knd := tupleKind (mixKind X.prog X.w)) mixSet ks (I.ok.hd hc) il.isList (by simpa using refs_raw Prod.fst rv) (fun p hp => (key_raw I (hk p hp)).1) hf (by show X.A.in1.in1.in1.units < cLine; have z : X.A.in1.in1.in1.units ≤ X.A.units + 64 := (by simp only [Around.in1]; omega); omega) fun s2 mk => ?_
  obtain ⟨h', tk, L, es, ep, t, rfl, Z, c, kp⟩ := mk
  refine ⟨.ref s.heap.objs.size, upd H s.heap.objs.size (SetO X.prog X.w s.heap.objs.size L), I.laid (t' := tk) kp (Nat.le_refl _) (setO_ok Z.held), rfl, q _ L (I.hok.fresh (Nat.le_refl _)) (fun p m => List.mem_of_mem_take (c.inn p m)) (fun p m => c.got p (by rw [List.take_length]; exact m)) Z.nd⟩

/-- set(xs), xs short -/
def rSetOf (K : PySem.W.Frag) (P : Program) (w : World) : List V → Hp → VK → Prop := fun vs H Q => ∃ (l : Addr) (ks : List (Addr × List Key)), vs = [V.ref l] ∧ SqL K H l (ks.map fun q => V.ref q.1) ∧ (∀ q ∈ ks, SqT K H q.1 (q.2.map kV)) ∧ ks.length < 64 ∧
  ∀ a L, H a = none → (∀ q ∈ L, q ∈ ks) → (∀ q ∈ ks, q.2 ∈ L.map Prod.snd) → (L.map Prod.snd).Nodup → Q (.ref a) (upd H a (SetO P w a L))
theorem cr_setOf (hc : X.calm = true) (hu : X.A.units + 64 < cLine) : CallR X (.type "set") (rSetOf X.K X.prog X.w) := by
  intro pins s σ H vs us Q I r h
  obtain ⟨l, ks, e, hl, hk, hf, q⟩ := h
  exact cr_setOfD hc hu pins s σ H vs us Q I r ⟨l, ks, e, hl, hk, ⟨ks.map Prod.snd, fun q m => List.mem_map.mpr ⟨q, m, rfl⟩, by rw [List.length_map]; exact hf⟩, q⟩

/-- len of such a set -/
def rLenS (P : Program) (w : World) : List V → Hp → VK → Prop := fun vs H Q => ∃ (a : Addr) (L : List (Addr × List Key)), vs = [V.ref a] ∧ H a = some (SetO P w a L) ∧ Q (.int L.length) H
theorem held_fits {P : Program} {w : World} {h : Heap} {L : List (Addr × List Key)} {es : Array (Int × Value)} {t : SetTable} (r : es.toList = rowsH (tupleKind (mixKind P w)) L) (T : TabOk t (hashH (tupleKind (mixKind P w)) L)) (rm : L.length * 5 < t.mask * 3) : es.size = L.length ∧ t.fits es.size = true := by
  have e1 : es.size = L.length := by rw [← Array.length_toList, r, rowsH_len]
  have e2 := T.sz
  rw [hashH_len] at e2
  refine ⟨e1, ?_⟩
  unfold SetTable.fits SetTable.fill
  rw [T.dm, Bool.and_eq_true, beq_iff_eq, decide_eq_true_eq, e2, e1]
  refine ⟨rfl, ?_⟩
  show L.length + 0 ≤ t.mask
  omega
theorem cr_lenS : CallR X (.builtin "len") (rLenS X.prog X.w) := by
  intro pins s σ H vs us Q I r h
  obtain ⟨a, L, rfl, ha, q⟩ := h
  rw [Vals.ref1 r]
  have R : Held X.prog X.w s.heap a L := (I.hok a _ ha).1
  obtain ⟨es, ep, t, ⟨o, ho, hex, hd⟩, r2, r3, _, _, r6, r7⟩ := R.ex
  obtain ⟨e1, e2⟩ := held_fits (h := s.heap) r2 r3 r6
  refine call_len_set ho hex hd e2 (by rw [e1]; omega) ⟨.int L.length, H, I.tok _, ⟨_, by rw [e1]⟩, q⟩

/-- sorted(xs) of a list of tuples: one list -/
def rSortL (K : PySem.W.Frag) : List V → Hp → VK → Prop := fun vs H Q => ∃ (a : Addr) (L : List (Addr × List Key)), vs = [V.ref a] ∧ SqL K H a (L.map fun q => V.ref q.1) ∧ (∀ q ∈ L, SqT K H q.1 (q.2.map kV)) ∧ AllAlike (L.map fun q => tD q.2) ∧ Sortable (L.map fun q => tD q.2) ∧
  ∀ p, H p = none → Q (.ref p) (upd H p (.lst ((L.mergeSort (dataLe false fun q => tD q.2)).map fun q => V.ref q.1)))
theorem tD_depth (k : List Key) : (tD k).depth ≤ 1 := by
  have all : ∀ k : List Key, PyData.depthAll (k.map kD) = 0 := by
    intro k
    induction k with
    | nil => rfl
    | cons x k ih => cases x <;> simp [kD, PyData.depthAll, PyData.depth, ih]
  simp [tD, PyData.depth, all]
theorem cr_sortL (hu : X.A.units + 64 < cLine) : CallR X (.builtin "sorted") (rSortL X.K) := by
  intro pins s σ H vs us Q I r h
  obtain ⟨a, L, rfl, hl, hk, al, so, q⟩ := h
  rw [Vals.ref1 r]
  obtain ⟨its, rv, il, sz⟩ := I.list hl
  have ei := refs_raw Prod.fst rv
  have each : ∀ (R : Value → Addr × List Key → Prop) (M : List (Addr × List Key)), (∀ q ∈ M, R (.ref q.1) q) → EachIs R (M.map fun q => Value.ref q.1) M := by
    intro R M
    induction M with
    | nil => exact fun _ => .nil
    | cons x M ih => exact fun g => .cons (g x List.mem_cons_self) (ih fun y m => g y (List.mem_cons_of_mem _ m))
  rw [List.length_map] at sz
  subst ei
  refine sorted_data (R := fun v q => v = Value.ref q.1) (enc := fun q : Addr × List Key => tD q.2) (bs := L) il.isList (each _ L fun q _ => rfl) (each _ L fun q m => ⟨[], (key_raw I (hk q m)).2⟩) al so sz (fun b _ => by have z := tD_depth b.2; omega) fun out lo eo => ?_
  have eout : ∀ {o : List Value} {M : List (Addr × List Key)}, EachIs (fun v q => v = Value.ref q.1) o M → o = M.map fun q => Value.ref q.1 := by
    intro o M z
    induction z with
    | nil => rfl
    | cons e _ ih => rw [e, ih]; rfl
  have eo' := eout eo
  subst eo'
  obtain ⟨ep, he⟩ := PyProof.Rows.sortedAll_at s.heap (L.map fun q => Value.ref q.1) (((L.mergeSort (dataLe false fun q => tD q.2)).map fun q => Value.ref q.1).toArray)
  refine ⟨.ref _, upd H (s.heap.objs.size + 1) (.lst ((L.mergeSort (dataLe false fun q => tD q.2)).map fun q => V.ref q.1)), I.laid (t' := s.toks) (fun _ _ => PyProof.Rows.sortedAll_old) (Nat.le_succ _) ⟨?_, _, ep, refs_vals Prod.fst _, he⟩, rfl, q _ (I.hok.fresh (Nat.le_succ _))⟩
  rw [List.length_map, List.length_mergeSort]
  exact sz

/-- sorted(set): one list, of the members in some order sorted -/
def rSortS (K : PySem.W.Frag) (P : Program) (w : World) : List V → Hp → VK → Prop := fun vs H Q => ∃ (a : Addr) (L : List (Addr × List Key)), vs = [V.ref a] ∧ H a = some (SetO P w a L) ∧ (∀ q ∈ L, SqT K H q.1 (q.2.map kV)) ∧ (AllAlike (L.map fun q => tD q.2)) ∧ Sortable (L.map fun q => tD q.2) ∧
  ∀ (L1 : List (Addr × List Key)) p, L1.Perm L → L.length < 64 → (L.map Prod.snd).Nodup → H p = none → Q (.ref p) (upd H p (.lst ((L1.mergeSort (dataLe false fun q => tD q.2)).map fun q => V.ref q.1)))
theorem cr_sortS (hc : X.calm = true) (hu : X.A.units + 64 < cLine) : CallR X (.builtin "sorted") (rSortS X.K X.prog X.w) := by
  intro pins s σ H vs us Q I r h
  obtain ⟨a, L, rfl, ha, hk, al, so, q⟩ := h
  rw [Vals.ref1 r]
  have R : Held X.prog X.w s.heap a L := (I.hok a _ ha).1
  obtain ⟨es, ep, t, ⟨o, ho, hex, hd⟩, r2, r3, r4, r5, r6, r7⟩ := R.ex
  obtain ⟨e1, e2⟩ := held_fits (h := s.heap) r2 r3 r6
  refine Calls.call_function_entry kind_sorted plain_sorted entry_sorted (args_sorted1 _) ?_
  unfold Builtin.«sorted»
  refine wpAny_bind (m := checkCount "sorted" 1 1 _) (wpAny_pure ?_)
  refine wpAny_bind (collect_set (A := X.A.in1) (I.ok.hd hc) ⟨o, ho, hex.1, hd⟩ e2 (by unfold scanBound; omega) r3.ris r5 fun s1 vs kp gr g1 o1 pm => ?_)
  have em : es.toList.map (·.2) = L.map fun q => Value.ref q.1 := by
    rw [r2]
    unfold rowsH
    rw [List.map_map]
    rfl
  rw [em] at pm
  obtain ⟨L1, p1, ev⟩ := perm_lift (fun q : Addr × List Key => Value.ref q.1) pm L rfl
  have less : L1.length < 64 := by rw [p1.length_eq]; exact r7
  have vlen : vs.length = L1.length := by rw [ev, List.length_map]
  refine wpAny_bind (wpAny_newList ?_ (by rw [sizeLine_eq]; omega))
  have oL : (s1.heap.push (seqObj "list" vs.toArray 0)).get? s1.heap.objs.size = some (seqObj "list" vs.toArray 0) := Heap.get?_push_size _ rfl
  have each : ∀ (R : Value → Addr × List Key → Prop) (M : List (Addr × List Key)), (∀ q ∈ M, R (.ref q.1) q) → EachIs R (M.map fun q => Value.ref q.1) M := by
    intro R M
    induction M with
    | nil => exact fun _ => .nil
    | cons x M ih => exact fun g => .cons (g x List.mem_cons_self) (ih fun y m => g y (List.mem_cons_of_mem _ m))
  have pmap : (L1.map fun q => tD q.2).Perm (L.map fun q => tD q.2) := p1.map _
  refine wpAny_bind (wpAny_holding (list_sort_data (s := { s1 with heap := s1.heap.push (seqObj "list" vs.toArray 0) }) (R := fun v q => v = Value.ref q.1) (enc := fun q : Addr × List Key => tD q.2) (bs := L1) oL (by rw [ev]; exact each _ L1 fun q _ => rfl)
    (by rw [ev]; exact each _ L1 fun q m => ⟨[], PyProof.Rows.Reads.keeps (fun b u e => Heap.get?_push_of_some _ (kp b u e)) (key_raw I (hk q (p1.mem_iff.mp m))).2, fun z => nomatch z⟩)
    (fun d m d' m' => al d (pmap.mem_iff.mp m) d' (pmap.mem_iff.mp m')) ?_ (by rw [sizeLine_eq]; omega) (fun b _ => by have z := tD_depth b.2; have y : X.A.in1.units ≤ X.A.units + 32 := (by simp only [Around.in1]; omega); omega) fun out lo eo => ?_))
  · rcases so with g | g
    · exact .inl fun d m => g d (pmap.mem_iff.mp m)
    · exact .inr fun d m => g d (pmap.mem_iff.mp m)
  · have eout : ∀ {o : List Value} {M : List (Addr × List Key)}, EachIs (fun v q => v = Value.ref q.1) o M → o = M.map fun q => Value.ref q.1 := by
      intro o M z
      induction z with
      | nil => rfl
      | cons e _ ih => rw [e, ih]; rfl
    have eo' := eout eo
    subst eo'
    obtain ⟨c, hc2⟩ := sortedHeap_at (vs := vs) (out := (List.toArray ((L1.mergeSort (dataLe false fun q => tD q.2)).map fun q => Value.ref q.1))) oL
    have kp2 : ∀ b u, s.heap.get? b = some u → (sortedHeap (s1.heap.push (seqObj "list" vs.toArray 0)) s1.heap.objs.size vs (List.toArray ((L1.mergeSort (dataLe false fun q => tD q.2)).map fun q => Value.ref q.1))).get? b = some u := fun b u e => by
      have z := kp b u e
      have lt := Heap.lt_size z
      rw [sortedHeap_old (Nat.ne_of_lt lt) (by rw [size_push']; exact Nat.lt_succ_of_lt lt)]
      exact Heap.get?_push_of_some _ z
    have ll : ((L1.mergeSort (dataLe false fun q => tD q.2)).map fun q => V.ref q.1).length ≤ sizeLine := by
      rw [List.length_map, List.length_mergeSort, sizeLine_eq]
      omega
    have J : Inv X pins σ (upd H s1.heap.objs.size (.lst ((L1.mergeSort (dataLe false fun q => tD q.2)).map fun q => V.ref q.1))) { s with heap := sortedHeap (s1.heap.push (seqObj "list" vs.toArray 0)) s1.heap.objs.size vs (List.toArray ((L1.mergeSort (dataLe false fun q => tD q.2)).map fun q => Value.ref q.1)), gens := s1.gens, drawn := s1.drawn, toks := s1.toks } :=
      I.call (ch := []) (Un.laid kp2 gr (I.hok.fresh gr)) (I.hok.laid kp2 gr ⟨ll, _, c, refs_vals Prod.fst _, hc2⟩) (by rw [g1]; exact I.bare) (fun _ z => nomatch z)
    have es : ({ s1 with heap := sortedHeap (s1.heap.push (seqObj "list" vs.toArray 0)) s1.heap.objs.size vs (List.toArray ((L1.mergeSort (dataLe false fun q => tD q.2)).map fun q => Value.ref q.1)) } : Shared) = { s with heap := sortedHeap (s1.heap.push (seqObj "list" vs.toArray 0)) s1.heap.objs.size vs (List.toArray ((L1.mergeSort (dataLe false fun q => tD q.2)).map fun q => Value.ref q.1)), gens := s1.gens, drawn := s1.drawn, toks := s1.toks } := by
      rw [← o1]
    refine wpAny_pure ⟨_, rfl, ?_⟩
    rw [es]
    exact ⟨.ref s1.heap.objs.size, _, J, rfl, q L1 _ p1 r7 r4 (I.hok.fresh gr)⟩
end
end Kd

-- ===== KS7 =====
set_option Elab.async false
set_option linter.all false
set_option maxRecDepth 100000
set_option maxHeartbeats 3200000
namespace Kd
open PySem PySem.Spec PyProof.Rows L2

/-! ### {elt for a in A for b in B} -/
section
variable {prog : Program} {w : World} {A : Around} {R : Result → Shared → Prop} {s : Shared} {elt ta ia tb ib : Expr} {scope : Scope} {pos : Pos} {it acc : Value} {env : Env}
/-- the comprehension itself -/
abbrev two (elt ta ia tb ib : Expr) (scope : Scope) (pos : Pos) : Expr := .SetComp elt [⟨ta, ia, [], 0⟩, ⟨tb, ib, [], 0⟩] scope pos
theorem turn_a : compTurn (two elt ta ia tb ib scope pos) 0 it acc env = (do
    standAt ia.pos
    match ← pyNext it with
    | none => pure (.done .next)
    | some v =>
      letOwnedTupleGo ta it v
      assign ta env v
      let x ← eval ib env
      standAt ib.pos
      let x ← foldedSetIterable ib env x
      let _ ← runOwn (.compStart (two elt ta ia tb ib scope pos) 1 (← holding [x] (pyIter x)) acc env) env
      again (.compLoop (two elt ta ia tb ib scope pos) 0 it acc env)) := by rfl
theorem turn_b : compTurn (two elt ta ia tb ib scope pos) 1 it acc env = (do
    standAt ib.pos
    match ← pyNext it with
    | none => pure (.done .next)
    | some v =>
      letOwnedTupleGo tb it v
      assign tb env v
      (do let v ← eval elt env; standAt elt.pos; let _ ← call (.builtin "set.add") [acc, v])
      again (.compLoop (two elt ta ia tb ib scope pos) 1 it acc env)) := by rfl
/-- what fails leaves by the frame's note -/
abbrev fails (prog : Program) (w : World) (A : Around) (env : Env) (R : Result → Shared → Prop) : Value → Shared → Prop := notedBy (model prog w) A env fun e s' => R (.error e) s'
theorem loop_a (pureI : ∀ x, foldedSetIterable ib env x = pure x) (I : Nat → Shared → Prop)
    (turn : ∀ n s, I n s → wpAny (model prog w) A (pyNext it) (fun r s1 => match r with
      | none => R (.ok .next) s1
      | some v => wpAny (model prog w) A (letOwnedTupleGo ta it v) (fun _ s2 => wpAny (model prog w) A (assign ta env v) (fun _ s3 => wpAny (model prog w) A (eval ib env) (fun x s4 => wpAny (model prog w) A (pyIter x) (fun jt s5 =>
          codeAny (model prog w) A (.compStart (two elt ta ia tb ib scope pos) 1 jt acc env) (fun r s' => match r with
            | .ok _ => ∃ m, m < n ∧ I m s'
            | .error _ => False) s5) (fails prog w A env R) s4) (fails prog w A env R) s3) (fails prog w A env R) s2) (fails prog w A env R) s1) (fails prog w A env R) s)
    (n : Nat) (h : I n s) : codeAny (model prog w) A (.compLoop (two elt ta ia tb ib scope pos) 0 it acc env) R s := by
  refine codeAny_loop rfl I (fun n s hI => ?_) n h
  show wpAny _ A ((compTurn (two elt ta ia tb ib scope pos) 0 it acc env).onRaise (fun x => do noteFrame x env; theTreesLotGoes x)) _ _ s
  refine wpAny_noted ?_
  rw [turn_a]
  refine wpAny_bind (wpAny_standAt (wpAny_bind (wpAny_mono (turn n s hI) (fun r s1 g => ?_) fun _ _ x => x)))
  cases r with
  | none => exact wpAny_pure g
  | some v =>
    refine wpAny_bind (wpAny_mono g (fun _ s2 g2 => wpAny_bind (wpAny_mono g2 (fun _ s3 g3 => wpAny_bind (wpAny_mono g3 (fun x s4 g4 => ?_) fun _ _ x => x)) fun _ _ x => x)) fun _ _ x => x)
    refine wpAny_bind (wpAny_standAt (wpAny_bind (wpAny_of_eq (pureI x) (wpAny_bind (wpAny_holding (wpAny_mono g4 (fun jt s5 g5 => ?_) fun _ _ x => x))))))
    refine wpAny_bind (wpAny_runOwn ?_)
    rw [Around.mark_none]
    refine codeAny_mono g5 fun r s' hr => ?_
    cases r with
    | ok f => exact wpAny_pure ⟨rfl, hr⟩
    | error e => exact hr.elim
theorem loop_b (I : Nat → Shared → Prop)
    (turn : ∀ n s, I n s → wpAny (model prog w) A (pyNext it) (fun r s1 => match r with
      | none => R (.ok .next) s1
      | some v => wpAny (model prog w) A (letOwnedTupleGo tb it v) (fun _ s2 => wpAny (model prog w) A (assign tb env v) (fun _ s3 => wpAny (model prog w) A (eval elt env) (fun x s4 =>
          wpAny (model prog w) A (call (.builtin "set.add") [acc, x]) (fun _ s5 => ∃ m, m < n ∧ I m s5) (fails prog w A env R) s4) (fails prog w A env R) s3) (fails prog w A env R) s2) (fails prog w A env R) s1) (fails prog w A env R) s)
    (n : Nat) (h : I n s) : codeAny (model prog w) A (.compLoop (two elt ta ia tb ib scope pos) 1 it acc env) R s := by
  refine codeAny_loop rfl I (fun n s hI => ?_) n h
  show wpAny _ A ((compTurn (two elt ta ia tb ib scope pos) 1 it acc env).onRaise (fun x => do noteFrame x env; theTreesLotGoes x)) _ _ s
  refine wpAny_noted ?_
  rw [turn_b]
  refine wpAny_bind (wpAny_standAt (wpAny_bind (wpAny_mono (turn n s hI) (fun r s1 g => ?_) fun _ _ x => x)))
  cases r with
  | none => exact wpAny_pure g
  | some v =>
    refine wpAny_bind (wpAny_mono g (fun _ s2 g2 => wpAny_bind (wpAny_mono g2 (fun _ s3 g3 => ?_) fun _ _ x => x)) fun _ _ x => x)
    exact wpAny_bind (wpAny_bind (wpAny_mono g3 (fun x s4 g4 => wpAny_bind (wpAny_standAt (wpAny_bind (wpAny_mono g4 (fun _ s5 g5 => wpAny_pure (wpAny_pure ⟨rfl, g5⟩)) fun _ _ x => x)))) fun _ _ x => x))
/-- a clause's start, the first's or the second's -/
theorem start_b (h0 : codeAny (model prog w) A (.compLoop (two elt ta ia tb ib scope pos) 1 it acc env) R s)
    (h : wpAny (model prog w) A (pyIter it) (fun it' s' => codeAny (model prog w) A (.compLoop (two elt ta ia tb ib scope pos) 1 it' acc env) R s') (fails prog w A env R) s) : codeAny (model prog w) A (.compStart (two elt ta ia tb ib scope pos) 1 it acc env) R s := by
  refine codeAny_of_tree ?_
  show wpAny _ _ ((compStart (two elt ta ia tb ib scope pos) 1 it acc env).onRaise (fun x => do noteFrame x env; standAt theWindowsPlace)) _ _ s
  refine wpAny_notedAt ?_
  unfold compStart
  show wpAny _ _ (ask >>= _) _ _ s
  refine wpAny_bind (wpAny_askSetting (wpAny_ite ?_))
  split
  · exact wpAny_pure (And.intro rfl h0)
  · refine wpAny_bind (wpAny_rule ?_)
    show wpAny _ _ (standAt ib.pos >>= _) _ _ s
    exact wpAny_bind (wpAny_standAt (wpAny_bind (wpAny_mono h (fun it' s' g => wpAny_pure (And.intro rfl g)) fun _ _ x => x)))
end

section
variable {X : Cx} {pins : List (Addr × Obj)} {σ : L2.St} {H : Hp} {s : Shared}
/-- a key added to a tracked set -/
theorem add_ok {E : Value → Shared → Prop} {D e : Addr} {k : List Key} {L : List (Addr × List Key)} {Q : Value → Shared → Prop} (I : Inv X pins σ H s) (hD : H D = some (SetO X.prog X.w D L)) (he : SqT X.K H e (k.map kV)) (hL : ∀ q ∈ L, SqT X.K H q.1 (q.2.map kV))
    (room : k ∉ L.map Prod.snd → L.length + 1 < 64) (hu : X.A.units + 2 < cLine) (h : ∀ L' s', (k ∈ L.map Prod.snd → L' = L) → (k ∉ L.map Prod.snd → L'.Perm ((e, k) :: L)) → Inv X pins σ (upd H D (SetO X.prog X.w D L')) s' → Q .none s') :
    wpAny (model X.prog X.w) X.A (call (.builtin "set.add") [.ref D, .ref e]) Q E s := by
  have R : Held X.prog X.w s.heap D L := (I.hok D _ hD).1
  obtain ⟨es, ep, t, Z⟩ := R.set fun q m => (key_raw I (hL q m)).1
  refine call_add mixSet Z (key_raw I he).1 (by show X.A.in1.units < cLine; have z : X.A.in1.units ≤ X.A.units + 2 := (by simp only [Around.in1]; omega); omega) room fun h' tk L' es' ep' t' sb Z' c1 c2 le => ?_
  obtain ⟨o, ho, _⟩ := Z'.ob
  exact h L' _ c1 c2 (I.write (e := D) (t' := tk) (by rw [hD]; trivial) (.inl rfl) (fun b u hb hu => (sb.2 b hb).trans hu) ⟨o, ho⟩ (setO_ok Z'.held))
end
end Kd

-- ===== KS8 =====
set_option Elab.async false
set_option linter.all false
set_option maxRecDepth 100000
set_option maxHeartbeats 3200000
namespace Kd
open PySem PySem.Spec PyProof.Rows L2
section
variable {X : Cx}
/-- the contexts in which a comprehension's parts run -/
abbrev Blks (X : Cx) (scope : Scope) (p : Cx → Prop) : Prop := ∀ (s : Shared) (H : Hp) (C : Addr) (cl : List (PySem.Str × Addr)) (fp : List Addr), p (X.blk s H scope (compEnvC scope cl C X.env) fp)
/-- {elt for ta in ia for tb in ib}, elt a tuple: D the new set. vs: the block's names; us: those of the second target -/
def tSc2 (K : PySem.W.Frag) (P : Program) (w : World) (wa : TI) (ga : TG) (wb : TI) (gb : TG) (te : TE) (vs us : List Nat) : TE := fun σ H Q => wa σ H fun J H1 => ∀ D, H1 D = none → ∃ W : Nat → Nat → Hp → Prop, (∃ m, W 0 m (upd H1 D (SetO P w D []))) ∧ ∀ i m H2, W i m H2 →
  (J.stop i H2 ∧ Q (.ref D) H2) ∨ (J.go i H2 ∧ ∃ Nx : Hp → Prop, (∀ H3, Nx H3 → ∃ m', m' < m ∧ W (i + 1) m' H3) ∧ ∀ x H3, J.yld i H2 x H3 → ga x (wipe σ vs) H3 fun σ4 H4 => wipe σ4 vs = wipe σ vs ∧ wb σ4 H4 fun J1 H5 =>
    ∃ W1 : Nat → Nat → Hp → Prop, (∃ m, W1 0 m H5) ∧ ∀ j k H6, W1 j k H6 → (J1.stop j H6 ∧ Nx H6) ∨ (J1.go j H6 ∧ ∃ Nx1 : Hp → Prop, (∀ H7, Nx1 H7 → ∃ k', k' < k ∧ W1 (j + 1) k' H7) ∧ ∀ x H7, J1.yld j H6 x H7 →
      gb x (wipe σ4 us) H7 fun σ8 H8 => wipe σ8 us = wipe σ4 us ∧ te σ8 H8 fun y H9 => ∃ (e : Addr) (c : List Key) (L : List (Addr × List Key)), y = .ref e ∧ SqT K H9 e (c.map kV) ∧ H9 D = some (SetO P w D L) ∧ (∀ q ∈ L, SqT K H9 q.1 (q.2.map kV)) ∧ (c ∉ L.map Prod.snd → L.length + 1 < 64) ∧
        ∀ L', (c ∈ L.map Prod.snd → L' = L) → (c ∉ L.map Prod.snd → L'.Perm ((e, c) :: L)) → Nx1 (upd H9 D (SetO P w D L'))))

theorem pe_sc2 {elt ta ia tb ib : Expr} {scope : Scope} {own : List (PySem.Str × Nat)} {us : List Nat} {pos : Pos} {wa wb : TI} {ga gb : TG} {te : TE} (hc : X.calm = true) (hN : X.N.Nodup) (hu : X.A.units + 2 < cLine) (hia : PI X ta ia wa) (ok : BlkOk X.N X.env.scope scope own) (hus : ∀ i ∈ us, i ∈ own.map (·.2))
    (hga : Blks X scope fun Y => PG Y ta ga) (hib : Blks X scope fun Y => PI Y tb ib wb) (hgb : Blks X scope fun Y => PG Y tb gb) (hel : Blks X scope fun Y => PE Y elt te)
    (pa : ∀ x, foldedSetIterable ia X.env x = pure x := by intro _; rfl) (pb : ∀ env x, foldedSetIterable ib env x = pure x := by intro _ _; rfl) :
    PE X (two elt ta ia tb ib scope pos) (tSc2 X.K X.prog X.w wa ga wb gb te (own.map (·.2)) us) := by
  refine ⟨fun pins s σ H Q I h => ?_⟩
  rw [PpSet.eval_SetComp]
  have caught : ∀ y ∈ scope.names, y.2 = .free → ∃ c, X.env.cells.lookup y.1 = some c := fun y m e => (ok.free y m e).elim (fun k => I.ok.has _ (.inl k)) (fun k => I.ok.has _ (.inr k))
  refine wpAny_comprehension_free (use := none) rfl pa (closure_ok caught) ok.kind (fun y m e => by rw [ok.uniq y m, e]) (thn (hia.run pins s σ H _ I h) fun xv s1 hx => thn hx fun itv s2 h2 => ?_)
  obtain ⟨it, fp, tn, J, H2, rfl, I2, T, st2, f2, q⟩ := h2
  refine PpSet.newSet_ok (newEnv_comp ?_)
  generalize eD : s2.heap.objs.size = D
  have D0 : H2 D = none := I2.hok.fresh (Nat.le_of_eq eD)
  obtain ⟨W, ⟨m0, w0⟩, turn⟩ := q D D0
  -- the new set stands
  generalize e3 : ({ s2 with heap := s2.heap.push (newO X.w) } : Shared) = s3
  have hp3 : s3.heap = s2.heap.push (newO X.w) := by rw [← e3]
  have I3 : Inv X pins σ (upd H2 D (SetO X.prog X.w D [])) s3 := by
    rw [← e3]
    refine I2.laid (t' := s2.toks) (fun b o e => Heap.get?_push_of_some _ e) (Nat.le_of_eq eD) (setO_ok (SetH.held (ep := 0) (setH_new ?_)))
    rw [← eD]
    exact Heap.get?_push_size _ rfl
  have low : ∀ b ∈ fp, b < s2.heap.objs.size := fun b m => by
    obtain ⟨o, e, _⟩ := T.obj _ _ st2 b m
    exact Heap.lt_size e
  have f3 : ∀ b ∈ fp, FpOk X pins (upd H2 D (SetO X.prog X.w D [])) b ∧ b < s3.heap.objs.size := fun b m => by
    refine ⟨⟨?_, (f2 b m).2⟩, by rw [hp3, Heap.size_push]; exact Nat.lt_succ_of_lt (low b m)⟩
    rw [upd_ne (by rw [← eD]; exact Nat.ne_of_lt (low b m))]
    exact (f2 b m).1
  have st3 : tn 0 s3.heap := T.keep _ _ _ st2 fun b _ o e => by rw [hp3]; exact Heap.get?_push_of_some _ e
  have I4 := block_start I3 ok hN f3
  have ga4 := hga s3 (upd H2 D (SetO X.prog X.w D [])) s3.heap.objs.size (cellsFrom (s3.heap.objs.size + 1) scope.names (cloFrom X.env.cells scope.names [])) fp
  have ib4 := hib s3 (upd H2 D (SetO X.prog X.w D [])) s3.heap.objs.size (cellsFrom (s3.heap.objs.size + 1) scope.names (cloFrom X.env.cells scope.names [])) fp
  have gb4 := hgb s3 (upd H2 D (SetO X.prog X.w D [])) s3.heap.objs.size (cellsFrom (s3.heap.objs.size + 1) scope.names (cloFrom X.env.cells scope.names [])) fp
  have el4 := hel s3 (upd H2 D (SetO X.prog X.w D [])) s3.heap.objs.size (cellsFrom (s3.heap.objs.size + 1) scope.names (cloFrom X.env.cells scope.names [])) fp
  show codeAny _ _ (.compStart (two elt ta ia tb ib scope pos) 0 (.ref it) (.ref D) (compEnvC scope (cellsFrom (s3.heap.objs.size + 1) scope.names (cloFrom X.env.cells scope.names [])) s3.heap.objs.size X.env)) (compPost (model X.prog X.w) X.A X.xe none _ (.ref D) s3.heap.objs.size) { s3 with heap := pushCells (s3.heap.push { cls := .type "dict", data := .dict #[] }) scope.names }
  have fp0 : ∀ b ∈ fp, (upd H2 D (SetO X.prog X.w D [])) b = none := fun b m => (f3 b m).1.1
  generalize ece : compEnvC scope (cellsFrom (s3.heap.objs.size + 1) scope.names (cloFrom X.env.cells scope.names [])) s3.heap.objs.size X.env = ce at I4 ga4 ib4 gb4 el4 ⊢
  have loc : ce.locals = s3.heap.objs.size := by subst ece; rfl
  generalize upd H2 D (SetO X.prog X.w D []) = H3 at I3 I4 ga4 ib4 gb4 el4 w0 fp0 f3
  generalize e4 : ({ s3 with heap := pushCells (s3.heap.push { cls := .type "dict", data := .dict #[] }) scope.names } : Shared) = s4 at I4 ⊢
  have st4 : tn 0 s4.heap := T.keep _ _ _ st3 fun b _ o e => by rw [← e4]; exact pushCells_keeps _ _ _ _ (Heap.get?_push_of_some _ e)
  have still : ∀ {τ : L2.St} {G : Hp} {u : Shared}, Inv (X.blk s3 H3 scope ce fp) [] τ G u → (∀ b ∈ fp, G b = none) → ∀ b ∈ fp, FpOk (X.blk s3 H3 scope ce fp) [] G b := fun {τ G u} Iu no b m =>
    ⟨no b m, (Iu.ok.exf b m).1, Iu.ok.exfs b m, .inl m, fun x c e => (Iu.ok.exf b m).2 x c e, fun p z => absurd (show p ∈ ([] : List (Addr × Obj)) ++ [] from z) (by simp)⟩
  refine PpSet.codeAny_compStart_set ?loop (T.self X.A 0 _ _ _ st4 ?loop)
  refine loop_a (pb ce) (fun n u => ∃ i G, Inv (X.blk s3 H3 scope ce fp) [] (wipe σ (own.map (·.2))) G u ∧ tn i u.heap ∧ (∀ b ∈ fp, G b = none) ∧ W i n G) (fun n s5 hI => ?_) m0 ⟨0, H3, I4, st4, fp0, w0⟩
  obtain ⟨i, H5, I5, st5, no5, w5⟩ := hI
  rcases turn i n H5 w5 with ⟨stop, fin⟩ | ⟨go, Nx, hNx, step⟩
  · -- at the end: back in the def
    refine thnF (T.done (X.blk s3 H3 scope ce fp) rfl rfl rfl hc i [] s5 _ H5 (fun _ _ => False) I5 (still I5 no5) st5 stop) fun r s6 ⟨hr, I6⟩ => ?_
    subst hr
    have I7 : Inv X pins σ H5 s6 := I3.call' (ch := fp) I6.os I6.base I6.hok I6.bare fun b m => ⟨(f3 b m).1.2.2.2.1, (f3 b m).1.2.1, (f3 b m).1.2.2.2.2.1, (f3 b m).1.2.2.2.2.2⟩
    have none5 : H5 s3.heap.objs.size = none := by
      have z : H5 ce.locals = none := I6.free
      rwa [loc] at z
    obtain ⟨m, hn, _⟩ := I6.loc
    have hn : s6.heap.Ns ce.locals m := hn
    rw [loc] at hn
    obtain ⟨g0, g1, g2, g3, g4, g5⟩ := I3.fpOk (Nat.le_refl _) none5
    exact ⟨m, hn, fun h'' sb => ⟨.ref D, H5, I7.turned (t' := s6.toks) (fun b o ne e => (sb.2 b ne).trans e) g0 g1 g3 g4 g5, rfl, fin⟩⟩
  · refine thnF (T.item (X.blk s3 H3 scope ce fp) rfl rfl rfl hc i [] s5 _ H5 (fun _ _ => False) I5 (still I5 no5) st5 go) fun r s6 ⟨u, hr, h6⟩ => ?_
    subst hr
    refine thnF h6 fun _ s7 ⟨x, H7, I7, r7, y7, st7, no7⟩ => ?_
    have I7p := I7.pinned (still I7 no7) (T.obj _ _ st7)
    refine thnF (ga4.run _ s7 _ H7 x u _ I7p r7 (step x H7 y7)) fun _ s8 ⟨σ8, H8, I8, wp8, q8⟩ => ?_
    have len8 : (wipe σ (own.map (·.2))).length = σ8.length := by rw [← wp8, wipe_length]
    -- what the turn comes to
    have next : ∀ {τ : L2.St} {v : Shared} {G : Hp}, Inv (X.blk s3 H3 scope ce fp) ([] ++ pinsAt fp s7.heap) τ G v → (wipe σ (own.map (·.2))).length = τ.length → (∀ (j : Nat) z, (wipe σ (own.map (·.2)))[j]? = some (some z) → τ[j]? = some (some z)) → Nx G →
        ∃ m, m < n ∧ ∃ i G, Inv (X.blk s3 H3 scope ce fp) [] (wipe σ (own.map (·.2))) G v ∧ tn i v.heap ∧ (∀ b ∈ fp, G b = none) ∧ W i m G := fun {τ v G} Iv le ke nx => by
      obtain ⟨m', lt, w'⟩ := hNx G nx
      have pinned : ∀ b ∈ fp, ∀ o, s7.heap.get? b = some o → v.heap.get? b = some o ∧ G b = none := fun b m o e =>
        have z := Iv.pin (b, o) (List.mem_append_right _ (List.mem_append_right _ (mem_pinsAt m e)))
        ⟨z.1, z.2.1⟩
      refine ⟨m', lt, i + 1, G, (Iv.unpinned (pins := [])).weak le ke, T.keep _ _ _ st7 fun b m o e => (pinned b m o e).1, fun b m => ?_, w'⟩
      obtain ⟨o, e, _⟩ := T.obj _ _ st7 b m
      exact (pinned b m o e).2
    refine thnF (ib4.run _ s8 σ8 H8 _ I8 q8) fun xv s9 hx => thnF hx fun jt s10 h10 => ?_
    obtain ⟨jt, gp, un, J1, H10, rfl, I10, U, su10, f10, W1, ⟨m1, v1⟩, turn1⟩ := h10
    have still1 : ∀ {G : Hp}, (∀ b ∈ gp, G b = none) → ∀ b ∈ gp, FpOk (X.blk s3 H3 scope ce fp) ([] ++ pinsAt fp s7.heap) G b := fun no b m => ⟨no b m, (f10 b m).2⟩
    have inner : codeAny (model X.prog X.w) X.A (.compLoop (two elt ta ia tb ib scope pos) 1 (.ref jt) (.ref D) ce) (fun r v => match r with
        | .ok _ => ∃ m, m < n ∧ ∃ i G, Inv (X.blk s3 H3 scope ce fp) [] (wipe σ (own.map (·.2))) G v ∧ tn i v.heap ∧ (∀ b ∈ fp, G b = none) ∧ W i m G
        | .error _ => False) s10 := by
      refine loop_b (fun k v => ∃ j G, Inv (X.blk s3 H3 scope ce fp) ([] ++ pinsAt fp s7.heap) (wipe σ8 us) G v ∧ un j v.heap ∧ (∀ b ∈ gp, G b = none) ∧ W1 j k G) (fun k s12 hI => ?_) m1 ⟨0, H10, I10.weak (wipe_length _ _) (fun j v e => (wipe_some e).1), su10, fun b m => (f10 b m).1, v1⟩
      obtain ⟨j, H12, I12, su12, no12, w12⟩ := hI
      rcases turn1 j k H12 w12 with ⟨stop1, nx⟩ | ⟨go1, Nx1, hNx1, step1⟩
      · refine thnF (U.done (X.blk s3 H3 scope ce fp) rfl rfl rfl hc j _ s12 (wipe σ8 us) H12 (fun _ _ => False) I12 (still1 no12) su12 stop1) fun r s13 ⟨hr, I13⟩ => ?_
        subst hr
        refine next I13 (len8.trans (wipe_length σ8 us).symm) (fun j v e => ?_) nx
        rw [← wp8] at e
        obtain ⟨a1, a2⟩ := wipe_some e
        rw [wipe_out fun z => a2 (hus j z)]
        exact a1
      · refine thnF (U.item (X.blk s3 H3 scope ce fp) rfl rfl rfl hc j _ s12 (wipe σ8 us) H12 (fun _ _ => False) I12 (still1 no12) su12 go1) fun r s13 ⟨u1, hr, h13⟩ => ?_
        subst hr
        refine thnF h13 fun _ s14 ⟨x1, H14, I14, r14, y14, su14, no14⟩ => ?_
        have I14p := I14.pinned (still1 no14) (U.obj _ _ su14)
        refine thnF (gb4.run _ s14 (wipe σ8 us) H14 x1 u1 _ I14p r14 (step1 x1 H14 y14)) fun _ s15 ⟨σ15, H15, I15, wp15, q15⟩ => ?_
        refine thnF (el4.run _ s15 σ15 H15 _ I15 q15) fun z s17 ⟨yv, H17, I17, r17, e, c, L, ey, he, hD, hL, room, nx⟩ => ?_
        subst ey
        cases r17
        refine add_ok (X := X.blk s3 H3 scope ce fp) I17 hD he hL room hu fun L' s18 c1 c2 I18 => ?_
        obtain ⟨m', lt, w'⟩ := hNx1 _ (nx L' c1 c2)
        have pinned : ∀ b ∈ gp, ∀ o, s14.heap.get? b = some o → s18.heap.get? b = some o ∧ (upd H17 D (SetO X.prog X.w D L')) b = none := fun b m o e =>
          have z := I18.pin (b, o) (List.mem_append_right _ (List.mem_append_right _ (mem_pinsAt m e)))
          ⟨z.1, z.2.1⟩
        refine ⟨m', lt, j + 1, _, I18.unpinned.weak (by rw [← wp15, wipe_length]) (fun j v e => by rw [← wp15] at e; exact (wipe_some e).1), U.keep _ _ _ su14 fun b m o e => (pinned b m o e).1, fun b m => ?_, w'⟩
        obtain ⟨o, e, _⟩ := U.obj _ _ su14 b m
        exact (pinned b m o e).2
    exact start_b inner (U.self X.A 0 _ _ _ su10 inner)
end
end Kd

-- ===== KS9 =====
set_option Elab.async false
set_option linter.all false
set_option maxRecDepth 100000
set_option maxHeartbeats 3200000
namespace Kd
open PySem PySem.Spec PyProof.Rows L2
section
variable {X : Cx} {pins : List (Addr × Obj)} {σ : L2.St} {H : Hp} {s : Shared}
/-- an entry with a tuple for its key, by a comprehension -/
theorem put_ok {E : Value → Shared → Prop} {D b : Addr} {kvs : List (List Key × V)} {k : List Key} {v : V} {r : Value} {Q : Unit → Shared → Prop} (hu : X.A.units + 2 < cLine) (I : Inv X pins σ H s) (hD : H D = some (.dT kvs)) (hb : H b = some (.tup (k.map kV))) (room : kvs.length < sizeLine) (rv : RelV v r)
    (h : ∀ s', Inv X pins σ (upd H D (.dT (putK kvs k v))) s' → Q () s') : wpAny (model X.prog X.w) X.A (dictSet D (.ref b) r) Q E s := by
  obtain ⟨z, nsys, xs, rel, dd⟩ := dt_of I.hok hD
  have xz : xs.length ≤ sizeLine := by rw [← Paired.length rel]; exact z
  have pz : (putK kvs k v).length ≤ sizeLine := by have := length_putK kvs k v; omega
  refine wpAny_dictSet_heap (hsz := xz) (show X.A.units < cLine by omega) (key_of I.hok hb) dd fun h' dd' sb => h _ ?_
  obtain ⟨o, es, ep, ho, o2, o3, o4, _, o5⟩ := dd'
  refine d_write I (by rw [hD]; exact True.intro) sb ⟨o, ho⟩ ⟨pz, nsys, _, (rel.put k hb rv).keeps fun c ys e => ?_, o, es, ep, ho, o2, o3, o4, o5⟩
  rw [upd_ne (ne_of e hD (fun z => nomatch z))]
  exact e
end
section
variable {X : Cx}
/-- {key: val for ta in ia}, the key a tuple: D the new dict -/
def tDcT (wa : TI) (ga : TG) (tk tv : TE) (vs : List Nat) : TE := fun σ H Q => wa σ H fun J H1 => ∀ D, H1 D = none → ∃ W : Nat → Nat → Hp → Prop, (∃ m, W 0 m (upd H1 D (.dT []))) ∧ ∀ i m H2, W i m H2 →
  (J.stop i H2 ∧ Q (.ref D) H2) ∨ (J.go i H2 ∧ ∃ Nx : Hp → Prop, (∀ H3, Nx H3 → ∃ m', m' < m ∧ W (i + 1) m' H3) ∧ ∀ x H3, J.yld i H2 x H3 → ga x (wipe σ vs) H3 fun σ4 H4 => wipe σ4 vs = wipe σ vs ∧ tk σ4 H4 fun y H5 => tv σ4 H5 fun z H6 =>
    ∃ (kvs : List (List Key × V)) (k : List Key) (b : Addr), y = .ref b ∧ H6 b = some (.tup (k.map kV)) ∧ H6 D = some (.dT kvs) ∧ kvs.length < sizeLine ∧ Nx (upd H6 D (.dT (putK kvs k z))))
theorem pe_dcT {kx vx ta ia : Expr} {scope : Scope} {own : List (PySem.Str × Nat)} {pos : Pos} {wa : TI} {ga : TG} {tk tv : TE} (hc : X.calm = true) (hN : X.N.Nodup) (hu : X.A.units + 2 < cLine) (hia : PI X ta ia wa) (ok : BlkOk X.N X.env.scope scope own)
    (hga : Blks X scope fun Y => PG Y ta ga) (hk : Blks X scope fun Y => PE Y kx tk) (hv : Blks X scope fun Y => PE Y vx tv) (pa : ∀ x, foldedSetIterable ia X.env x = pure x := by intro _; rfl) :
    PE X (.DictComp kx vx [⟨ta, ia, [], 0⟩] scope pos) (tDcT wa ga tk tv (own.map (·.2))) := by
  refine ⟨fun pins s σ H Q I h => ?_⟩
  rw [arm_eval_DictComp]
  have caught : ∀ y ∈ scope.names, y.2 = .free → ∃ c, X.env.cells.lookup y.1 = some c := fun y m e => (ok.free y m e).elim (fun k => I.ok.has _ (.inl k)) (fun k => I.ok.has _ (.inr k))
  refine wpAny_comprehension_free (use := none) rfl pa (closure_ok caught) ok.kind (fun y m e => by rw [ok.uniq y m, e]) (thn (hia.run pins s σ H _ I h) fun xv s1 hx => thn hx fun itv s2 h2 => ?_)
  obtain ⟨it, fp, tn, J, H2, rfl, I2, T, st2, f2, q⟩ := h2
  refine wpAny_newObj_type (newEnv_comp ?_)
  generalize eD : s2.heap.objs.size = D
  have D0 : H2 D = none := I2.hok.fresh (Nat.le_of_eq eD)
  obtain ⟨W, ⟨m0, w0⟩, turn⟩ := q D D0
  generalize e3 : ({ s2 with heap := s2.heap.push { cls := .type "dict", data := .dict #[] } } : Shared) = s3
  have hp3 : s3.heap = s2.heap.push { cls := .type "dict", data := .dict #[] } := by rw [← e3]
  have I3 : Inv X pins σ (upd H2 D (.dT [])) s3 := by
    rw [← e3]
    refine I2.laid (t' := s2.toks) (fun b o e => Heap.get?_push_of_some _ e) (Nat.le_of_eq eD) ?_
    rw [← eD]
    exact dt_empty s2.heap I2.big
  have low : ∀ b ∈ fp, b < s2.heap.objs.size := fun b m => by
    obtain ⟨o, e, _⟩ := T.obj _ _ st2 b m
    exact Heap.lt_size e
  have f3 : ∀ b ∈ fp, FpOk X pins (upd H2 D (.dT [])) b ∧ b < s3.heap.objs.size := fun b m => by
    refine ⟨⟨?_, (f2 b m).2⟩, by rw [hp3, Heap.size_push]; exact Nat.lt_succ_of_lt (low b m)⟩
    rw [upd_ne (by rw [← eD]; exact Nat.ne_of_lt (low b m))]
    exact (f2 b m).1
  have st3 : tn 0 s3.heap := T.keep _ _ _ st2 fun b _ o e => by rw [hp3]; exact Heap.get?_push_of_some _ e
  have I4 := block_start I3 ok hN f3
  have ga4 := hga s3 (upd H2 D (.dT [])) s3.heap.objs.size (cellsFrom (s3.heap.objs.size + 1) scope.names (cloFrom X.env.cells scope.names [])) fp
  have k4 := hk s3 (upd H2 D (.dT [])) s3.heap.objs.size (cellsFrom (s3.heap.objs.size + 1) scope.names (cloFrom X.env.cells scope.names [])) fp
  have v4 := hv s3 (upd H2 D (.dT [])) s3.heap.objs.size (cellsFrom (s3.heap.objs.size + 1) scope.names (cloFrom X.env.cells scope.names [])) fp
  show codeAny _ _ (.compStart (.DictComp kx vx [⟨ta, ia, [], 0⟩] scope pos) 0 (.ref it) (.ref D) (compEnvC scope (cellsFrom (s3.heap.objs.size + 1) scope.names (cloFrom X.env.cells scope.names [])) s3.heap.objs.size X.env)) (compPost (model X.prog X.w) X.A X.xe none _ (.ref D) s3.heap.objs.size) { s3 with heap := pushCells (s3.heap.push { cls := .type "dict", data := .dict #[] }) scope.names }
  have fp0 : ∀ b ∈ fp, (upd H2 D (.dT [])) b = none := fun b m => (f3 b m).1.1
  generalize ece : compEnvC scope (cellsFrom (s3.heap.objs.size + 1) scope.names (cloFrom X.env.cells scope.names [])) s3.heap.objs.size X.env = ce at I4 ga4 k4 v4 ⊢
  have loc : ce.locals = s3.heap.objs.size := by subst ece; rfl
  generalize upd H2 D (.dT []) = H3 at I3 I4 ga4 k4 v4 w0 fp0 f3
  generalize e4 : ({ s3 with heap := pushCells (s3.heap.push { cls := .type "dict", data := .dict #[] }) scope.names } : Shared) = s4 at I4 ⊢
  have st4 : tn 0 s4.heap := T.keep _ _ _ st3 fun b _ o e => by rw [← e4]; exact pushCells_keeps _ _ _ _ (Heap.get?_push_of_some _ e)
  have still : ∀ {τ : L2.St} {G : Hp} {u : Shared}, Inv (X.blk s3 H3 scope ce fp) [] τ G u → (∀ b ∈ fp, G b = none) → ∀ b ∈ fp, FpOk (X.blk s3 H3 scope ce fp) [] G b := fun {τ G u} Iu no b m =>
    ⟨no b m, (Iu.ok.exf b m).1, Iu.ok.exfs b m, .inl m, fun x c e => (Iu.ok.exf b m).2 x c e, fun p z => absurd (show p ∈ ([] : List (Addr × Obj)) ++ [] from z) (by simp)⟩
  refine codeAny_compStart_dict ?loop (T.self X.A 0 _ _ _ st4 ?loop)
  refine compLoop_anyD (fun n u => ∃ i G, Inv (X.blk s3 H3 scope ce fp) [] (wipe σ (own.map (·.2))) G u ∧ tn i u.heap ∧ (∀ b ∈ fp, G b = none) ∧ W i n G) (fun n s5 hI => ?_) m0 ⟨0, H3, I4, st4, fp0, w0⟩
  obtain ⟨i, H5, I5, st5, no5, w5⟩ := hI
  rcases turn i n H5 w5 with ⟨stop, fin⟩ | ⟨go, Nx, hNx, step⟩
  · refine thnF (T.done (X.blk s3 H3 scope ce fp) rfl rfl rfl hc i [] s5 _ H5 (fun _ _ => False) I5 (still I5 no5) st5 stop) fun r s6 ⟨hr, I6⟩ => ?_
    subst hr
    have I7 : Inv X pins σ H5 s6 := I3.call' (ch := fp) I6.os I6.base I6.hok I6.bare fun b m => ⟨(f3 b m).1.2.2.2.1, (f3 b m).1.2.1, (f3 b m).1.2.2.2.2.1, (f3 b m).1.2.2.2.2.2⟩
    have none5 : H5 s3.heap.objs.size = none := by
      have z : H5 ce.locals = none := I6.free
      rwa [loc] at z
    obtain ⟨m, hn, _⟩ := I6.loc
    have hn : s6.heap.Ns ce.locals m := hn
    rw [loc] at hn
    obtain ⟨g0, g1, g2, g3, g4, g5⟩ := I3.fpOk (Nat.le_refl _) none5
    exact ⟨m, hn, fun h'' sb => ⟨.ref D, H5, I7.turned (t' := s6.toks) (fun b o ne e => (sb.2 b ne).trans e) g0 g1 g3 g4 g5, rfl, fin⟩⟩
  · refine thnF (T.item (X.blk s3 H3 scope ce fp) rfl rfl rfl hc i [] s5 _ H5 (fun _ _ => False) I5 (still I5 no5) st5 go) fun r s6 ⟨u, hr, h6⟩ => ?_
    subst hr
    refine thnF h6 fun _ s7 ⟨x, H7, I7, r7, y7, st7, no7⟩ => ?_
    have I7p := I7.pinned (still I7 no7) (T.obj _ _ st7)
    refine thnF (ga4.run _ s7 _ H7 x u _ I7p r7 (step x H7 y7)) fun _ s8 ⟨σ8, H8, I8, wp8, q8⟩ => ?_
    refine thnF ((pts_nil (X := X.blk s3 H3 scope ce fp)).run _ s8 σ8 H8 (fun b G => b = true ∧ tk σ8 G _) I8 ⟨rfl, q8⟩) fun b s9 ⟨H9, I9, eb, q9⟩ => ?_
    subst eb
    simp only [if_true]
    refine thnF (k4.run _ s9 σ8 H9 _ I9 q9) fun z1 s10 ⟨yk, H10, I10, r10, q10⟩ => ?_
    refine thnF (v4.run _ s10 σ8 H10 _ I10 q10) fun z2 s11 ⟨yv, H11, I11, r11, kvs, k, b, ek, hb, hD, room, nx⟩ => ?_
    subst ek
    cases r10
    refine put_ok (X := X.blk s3 H3 scope ce fp) hu I11 hD hb room r11 fun s12 I12 => ?_
    obtain ⟨m', lt, w'⟩ := hNx _ nx
    have pinned : ∀ b ∈ fp, ∀ o, s7.heap.get? b = some o → s12.heap.get? b = some o ∧ (upd H11 D (.dT (putK kvs k yv))) b = none := fun b m o e =>
      have z := I12.pin (b, o) (List.mem_append_right _ (List.mem_append_right _ (mem_pinsAt m e)))
      ⟨z.1, z.2.1⟩
    refine ⟨m', lt, i + 1, _, (I12.unpinned (pins := [])).weak (by rw [← wp8, wipe_length]) (fun j v e => by rw [← wp8] at e; exact (wipe_some e).1), T.keep _ _ _ st7 fun b m o e => (pinned b m o e).1, fun b m => ?_, w'⟩
    obtain ⟨o, e, _⟩ := T.obj _ _ st7 b m
    exact (pinned b m o e).2
end
end Kd

-- ===== K14B =====
set_option Elab.async false
set_option linter.all false
set_option maxRecDepth 100000
set_option maxHeartbeats 4000000
namespace My
open PySem L2 PyProof.Rows PySem.Spec Kd
abbrev sMoves : Stmt := top 6
abbrev sText : Stmt := top 8
abbrev sLine : Stmt := top 9
abbrev sUntext : Stmt := top 10
abbrev sUnline : Stmt := top 11
abbrev sUnstep : Stmt := top 12
abbrev sWord : Stmt := top 18
abbrev sNumber : Stmt := top 19
abbrev sStates : Stmt := top 20
abbrev sState : Stmt := top 21
abbrev sStep : Stmt := top 22
/-! ### data of tuples, texts and ints -/
mutual
inductive TD (H : Hp) : V → PyData → Prop
  | int (i : Int) : TD H (.int i) (.int i)
  | str (x : Str) : TD H (.str x) (.str x)
  | bl (b : Bool) : TD H (.bl b) (.bool b)
  | tup {a : Addr} {xs : List V} {ds : List PyData} : H a = some (.tup xs) → TDs H xs ds → TD H (.ref a) (.tuple ds)
inductive TDs (H : Hp) : List V → List PyData → Prop
  | nil : TDs H [] []
  | cons {v : V} {vs : List V} {d : PyData} {ds : List PyData} : TD H v d → TDs H vs ds → TDs H (v :: vs) (d :: ds)
end
/-- tuples that stood stand -/
def Tup (H H' : Hp) : Prop := ∀ a xs, H a = some (.tup xs) → H' a = some (.tup xs)
theorem Tup.refl (H : Hp) : Tup H H := fun _ _ e => e
theorem Tup.trans {H H1 H2 : Hp} (a : Tup H H1) (b : Tup H1 H2) : Tup H H2 := fun x xs e => b x xs (a x xs e)
theorem Tup.of {H H' : Hp} (s : Same H H') : Tup H H' := fun a xs e => s a _ e
theorem Tup.new {H : Hp} {p : Addr} {o : HO} (n : H p = none) : Tup H (upd H p o) := fun a xs e => by
  rw [upd_ne (ne_of_none e n)]
  exact e
theorem Tup.at_ {H : Hp} {p : Addr} {o o' : HO} (n : H p = some o') (h : ∀ xs, o' ≠ .tup xs) : Tup H (upd H p o) := fun a xs e => by
  rw [upd_ne (fun z => by rw [z, n] at e; exact h xs (Option.some.inj e))]
  exact e
mutual
theorem TD.to {H H' : Hp} (s : Tup H H') : ∀ {v : V} {d : PyData}, TD H v d → TD H' v d
  | _, _, .int i => .int i
  | _, _, .str x => .str x
  | _, _, .bl b => .bl b
  | _, _, .tup h1 h2 => .tup (s _ _ h1) (TDs.to s h2)
theorem TDs.to {H H' : Hp} (s : Tup H H') : ∀ {vs : List V} {ds : List PyData}, TDs H vs ds → TDs H' vs ds
  | _, _, .nil => .nil
  | _, _, .cons h1 h2 => .cons (TD.to s h1) (TDs.to s h2)
end
mutual
theorem TD.dp {K : PySem.W.Frag} {H : Hp} : ∀ {v : V} {d : PyData}, TD H v d → Dp K H v d
  | _, _, .int i => .int i
  | _, _, .str x => .str x
  | _, _, .bl b => .bl b
  | _, _, .tup h1 h2 => .tup (SqT.of h1) (TDs.dp h2)
theorem TDs.dp {K : PySem.W.Frag} {H : Hp} : ∀ {vs : List V} {ds : List PyData}, TDs H vs ds → DpAll K H vs ds
  | _, _, .nil => .nil
  | _, _, .cons h1 h2 => .cons (TD.dp h1) (TDs.dp h2)
end
mutual
theorem TD.dq {H : Hp} : ∀ {v : V} {d : PyData}, TD H v d → Dq (fun _ => True) H v d
  | _, _, .int i => .int i
  | _, _, .str x => .str x
  | _, _, .bl b => .bl b
  | _, _, .tup h1 h2 => .tup trivial h1 (TDs.dq h2)
theorem TDs.dq {H : Hp} : ∀ {vs : List V} {ds : List PyData}, TDs H vs ds → DqAll (fun _ => True) H vs ds
  | _, _, .nil => .nil
  | _, _, .cons h1 h2 => .cons (TD.dq h1) (TDs.dq h2)
end
theorem TDs.len {H : Hp} : ∀ {vs : List V} {ds : List PyData}, TDs H vs ds → vs.length = ds.length
  | _, _, .nil => rfl
  | _, _, .cons _ h2 => by rw [List.length_cons, List.length_cons, h2.len]
theorem TDs.get {H : Hp} : ∀ {vs : List V} {ds : List PyData}, TDs H vs ds → ∀ {i : Nat} {v : V}, vs[i]? = some v → ∃ d, ds[i]? = some d ∧ TD H v d
  | _, _, .nil, i, v, e => by simp at e
  | _, _, .cons h1 h2, 0, v, e => ⟨_, rfl, by have z := Option.some.inj e; rw [← z]; exact h1⟩
  | _, _, .cons h1 h2, i + 1, v, e => h2.get (i := i) e
theorem TDs.snoc {H : Hp} {v : V} {d : PyData} (h : TD H v d) : ∀ {vs : List V} {ds : List PyData}, TDs H vs ds → TDs H (vs ++ [v]) (ds ++ [d])
  | _, _, .nil => .cons h .nil
  | _, _, .cons h1 h2 => .cons h1 (TDs.snoc h h2)

/-! ### kinds as mathematics -/
abbrev Stp := Str × Str × Int
def stepD (x : Stp) : PyData := .tuple [.str x.1, .str x.2.1, .int x.2.2]
def stateD (st : List Stp) : PyData := .tuple (st.map stepD)
def statesD (ss : List (List Stp)) : PyData := .tuple (ss.map stateD)
abbrev evOf (x : Stp) : Str × Str := (x.1, x.2.1)
def LETS : Str := "abcdefghijklmnopqrstuvwxyz0123456789"
def Wrd (z : Str) : Prop := 1 ≤ z.length ∧ z.length ≤ 12 ∧ ∀ c ∈ z.cps.toList, c ∈ LETS.cps.toList
def evLt (x y : Str × Str) : Prop := x.1.cps.toList < y.1.cps.toList ∨ (x.1 = y.1 ∧ x.2.cps.toList < y.2.cps.toList)
structure StpOk (n : Nat) (x : Stp) : Prop where
  w1 : Wrd x.1
  w2 : Wrd x.2.1
  lo : 0 ≤ x.2.2
  hi : x.2.2 < n
structure StOk (n : Nat) (st : List Stp) : Prop where
  all : ∀ x ∈ st, StpOk n x
  asc : (st.map evOf).Pairwise evLt
  few : st.length ≤ 24
structure KOk (ss : List (List Stp)) : Prop where
  one : 1 ≤ ss.length
  most : ss.length ≤ 40
  all : ∀ st ∈ ss, StOk ss.length st
  evs : ∃ es : List (Str × Str), es.length ≤ 24 ∧ ∀ st ∈ ss, ∀ x ∈ st, evOf x ∈ es

/-- what the module's names hold -/
structure Gs (mg : Str → Option Value) : Prop where
  isi : mg "isinstance" = none
  str : mg "str" = none
  int : mg "int" = none
  bool : mg "bool" = none
  tuple : mg "tuple" = none
  len : mg "len" = none
  all : mg "all" = none
  set : mg "set" = none
  sorted : mg "sorted" = none
  range : mg "range" = none
  repr : mg "repr" = none
  enum : mg "enumerate" = none
  list : mg "list" = none
  c40 : ∃ t, mg "MOST_STATES" = some (.int 40 t)
  c24 : ∃ t, mg "MOST_EVENTS" = some (.int 24 t)
  c12 : ∃ t, mg "MOST_LETTERS" = some (.int 12 t)
  lets : ∃ t, mg "LETTERS" = some (.str LETS t)

theorem same_at {H H2 : Hp} {D : Addr} {o : HO} (s : Same H H2) (n : H D = none) : Same H (upd H2 D o) := fun b u e => by
  rw [upd_ne (ne_of_none e n)]
  exact s b u e
theorem small_len {n m : Nat} (h : n ≤ m) (hm : m ≤ 16777216 := by decide) : n ≤ sizeLine := by rw [sizeLine_eq]; omega
theorem small_lt {n m : Nat} (h : n ≤ m) (hm : m < 16777216 := by decide) : n < sizeLine := by rw [sizeLine_eq]; omega
/-! ### walks of comprehensions -/
/-- what a list comprehension's loop over J asks, the list at D -/
def LcW (J : It) (g : TG) (tt : TT) (te : TE) (vs : List Nat) (σ : L2.St) (H1 : Hp) (D : Addr) (Qd : Hp → Prop) : Prop := ∃ W : Nat → Nat → Hp → Prop, (∃ m, W 0 m (upd H1 D (.lst []))) ∧ ∀ i m H, W i m H →
  (J.stop i H ∧ Qd H) ∨ (J.go i H ∧ ∃ Nx : Hp → Prop, (∀ H', Nx H' → ∃ m', m' < m ∧ W (i + 1) m' H') ∧ ∀ x H', J.yld i H x H' → g x (wipe σ vs) H' fun σ2 H2 => wipe σ2 vs = wipe σ vs ∧ tt σ2 H2 fun b H3 =>
    if b = true then te σ2 H3 fun y H4 => ∃ acc, H4 D = some (.lst acc) ∧ acc.length < sizeLine ∧ Nx (upd H4 D (.lst (acc ++ [y]))) else Nx H3)
theorem lc_text {x : Str} {g : TG} {tt : TT} {te : TE} {vs : List Nat} {σ : L2.St} {H1 : Hp} {D : Addr} {Qd : Hp → Prop} (Pv : Nat → Hp → Prop) (first : Pv 0 (upd H1 D (.lst [])))
    (turn : ∀ i c H, x.cps[i]? = some c → Pv i H → g (.str ⟨#[c]⟩) (wipe σ vs) H fun σ2 H2 => wipe σ2 vs = wipe σ vs ∧ tt σ2 H2 fun b H3 => if b = true then te σ2 H3 fun y H4 => ∃ acc, H4 D = some (.lst acc) ∧ acc.length < sizeLine ∧ Pv (i + 1) (upd H4 D (.lst (acc ++ [y]))) else Pv (i + 1) H3)
    (last : ∀ H, Pv x.cps.size H → Qd H) : LcW (Its x) g tt te vs σ H1 D Qd := by
  refine ⟨fun i m H => m = x.cps.size - i ∧ i ≤ x.cps.size ∧ Pv i H, ⟨_, rfl, Nat.zero_le _, first⟩, fun i m H ⟨em, le, p⟩ => ?_⟩
  subst em
  rcases Nat.lt_or_ge i x.cps.size with lt | ge
  · refine .inr ⟨lt, Pv (i + 1), fun H' p' => ⟨_, by omega, rfl, lt, p'⟩, fun v H' ⟨eH, c, ec, ev⟩ => ?_⟩
    subst eH
    subst ev
    exact turn i c _ ec p
  · have e : i = x.cps.size := by omega
    subst e
    exact .inl ⟨Nat.le_refl _, last H p⟩
/-! ### is_word -/
def spWord : Sp := fun vs H Q _ => ∃ z : Str, vs = [.str z] ∧ Wrd z ∧ ∀ H', Same H H' → Q (.bl true) H'
def spNumber : Sp := fun vs H Q _ => ∃ i : Int, vs = [.int i] ∧ 0 ≤ i ∧ Q (.bl true) H
def spStep : Sp := fun vs H Q _ => ∃ (a : Addr) (x : Stp) (n : Nat), vs = [.ref a, .int n] ∧ TD H (.ref a) (stepD x) ∧ StpOk n x ∧ ∀ H', Same H H' → Q (.bl true) H'
theorem small_str {z : Str} (h : z.length ≤ 12) : z.length ≤ sizeLine := by rw [sizeLine_eq]; omega
section
variable {P : Program} {w : World} {K : PySem.W.Frag} {mg : Str → Option Value} {base : Heap}
theorem scW : FnScope ["thing", "letter"] ["thing"] (defScope sWord) := ⟨rfl, rfl, rfl, by decide +kernel, rfl, by decide +kernel, by decide +kernel⟩
theorem ok_word {f : Addr} {fd : FuncData} (F : Fun K "is_word" "is_word" sWord f fd) (G : Gs mg) : FnOk P w K mg base CX0 1 f fd ["thing"] spWord := by
  obtain ⟨t12, m12⟩ := G.c12
  obtain ⟨tl, mlet⟩ := G.lets
  refine F.ok scW (fun vs H Q E h => ?_) (fun cdv A outer s H vs Q E hr h => ?_)
  · obtain ⟨z, rfl, _⟩ := h
    rfl
  · obtain ⟨z, rfl, wz, k⟩ := h
    refine ⟨_, pss_cons (ps_if (PW.pt (pw_or (pt_not (pt_val (pe_callB call_isi (by rfl) G.isi boot_isinstance (pa_cons (pv 0) (pa_cons (pe_bltn (v := .ty "str") (by rfl) G.str PyProof.Rows.boot_str rfl) pa_nil)))))
          (pw_or1 (pt_not (pt_chain op_le op_le pe_int (pe_callB call_len_str (by rfl) G.len PySem.boot_len (pa_cons (pv 0) pa_nil)) (pe_glob (v := .int 12) (by rfl) m12 ⟨_, rfl⟩)))))) (pss_one (ps_ret pe_bl)) pss_nil)
      (pss_one (ps_ret (pe_callB (cr_all rfl) (by rfl) G.all PyProof.Rows.boot_all (pa_cons (pe_lc (own := [("letter", 1)]) (g := gName 1) (tt := tYes) rfl scW.nd (pi_str (pv 0)) (blkOk_by (N := ["thing", "letter"]) (sc := defScope sWord) (by decide +kernel))
        (fun _ _ _ _ _ => pg_name (i := 1) scW.nd rfl (Or.inl rfl)) (fun _ _ _ _ _ => pts_nil) (fun _ _ _ _ _ => pe_cmpR op_in_sign (pv 1) (pe_glob (v := .str LETS) (by rfl) mlet ⟨_, rfl⟩) (by rfl))) pa_nil)))), ?_⟩
    refine ⟨_, rfl, _, _, _, _, _, rfl, .ty "str", .base (.str z), kit_ty (a := "str") (b := "str") (r := true) (by decide +kernel), _, rfl, iteF ?_⟩
    refine ⟨_, rfl, z, rfl, small_str wz.2.1, _, _, rfl, rfl, _, rfl, ?_⟩
    have l1 := wz.1
    have l2 := wz.2.1
    rw [decide_eq_true (show (1 : Int) ≤ z.length by omega)]
    refine iteT ⟨_, _, rfl, rfl, _, rfl, ?_⟩
    rw [decide_eq_true (show (z.length : Int) ≤ 12 by omega)]
    refine iteF ?_
    refine ⟨_, rfl, z, rfl, fun D hD => lc_text (x := z) (fun i H2 => Same H H2 ∧ H2 D = some (.lst ((List.replicate i true).map V.bl))) ⟨?_, upd_same⟩ (fun i c H2 ec ⟨s2, d2⟩ => ?_) fun H2 ⟨s2, d2⟩ => ?_⟩
    · exact same_at (Same.refl H) hD
    · have lt : i < z.cps.size := (Array.getElem?_eq_some_iff.mp ec).1
      have mem : c ∈ z.cps.toList := List.mem_of_getElem? (by rw [Array.getElem?_toList]; exact ec)
      refine ⟨rfl, _, rfl, c, LETS, rfl, rfl, ?_⟩
      rw [decide_eq_true (wz.2.2 c mem)]
      refine ⟨_, d2, ?_, same_at s2 hD, ?_⟩
      · rw [List.length_map, List.length_replicate]
        exact small_lt (m := 12) (Nat.le_trans (Nat.le_of_lt lt) l2)
      · rw [upd_same, List.replicate_succ', List.map_append]
        rfl
    · refine ⟨D, _, rfl, SqL.of d2, ?_⟩
      have e : ((List.replicate z.cps.size true).all id) = true := by simp
      rw [e]
      exact k _ s2
theorem scNu : FnScope ["thing"] ["thing"] (defScope sNumber) := ⟨rfl, rfl, rfl, by decide +kernel, rfl, by decide +kernel, by decide +kernel⟩
theorem ok_number {f : Addr} {fd : FuncData} (F : Fun K "is_number" "is_number" sNumber f fd) (G : Gs mg) : FnOk P w K mg base CX0 1 f fd ["thing"] spNumber := by
  refine F.ok scNu (fun vs H Q E h => ?_) (fun cdv A outer s H vs Q E hr h => ?_)
  · obtain ⟨i, rfl, _⟩ := h
    rfl
  · obtain ⟨i, rfl, i0, k⟩ := h
    refine ⟨_, pss_one (ps_ret (pe_and (pe_callB call_isi (by rfl) G.isi boot_isinstance (pa_cons (pv 0) (pa_cons (pe_bltn (v := .ty "int") (by rfl) G.int PyProof.Rows.boot_int rfl) pa_nil)))
      (pe_and (pe_not (pe_callB call_isi (by rfl) G.isi boot_isinstance (pa_cons (pv 0) (pa_cons (pe_bltn (v := .ty "bool") (by rfl) G.bool PyProof.Rows.boot_bool rfl) pa_nil)))) (pe_one (pe_cmpR op_ge (pv 0) pe_int (nomark _)))))), ?_⟩
    refine ⟨_, rfl, _, _, _, _, _, rfl, .ty "int", .base (.int i), kit_ty (a := "int") (b := "int") (r := true) (by decide +kernel), _, rfl, ?_⟩
    refine ⟨_, rfl, _, _, _, _, _, rfl, .ty "bool", .base (.int i), kit_ty (a := "int") (b := "bool") (r := false) (by decide +kernel), _, rfl, ?_⟩
    refine ⟨_, rfl, iteT ⟨_, rfl, _, _, rfl, rfl, ?_⟩⟩
    show Q (V.bl (decide (0 ≤ i))) H
    rw [decide_eq_true i0]
    exact k
theorem scSp : FnScope ["thing", "many"] ["thing", "many"] (defScope sStep) := ⟨rfl, rfl, rfl, by decide +kernel, rfl, by decide +kernel, by decide +kernel⟩
theorem TD.tup_of {H : Hp} {a : Addr} {ds : List PyData} (h : TD H (.ref a) (.tuple ds)) : ∃ xs, H a = some (.tup xs) ∧ TDs H xs ds := by
  cases h with
  | tup h1 h2 => exact ⟨_, h1, h2⟩
theorem TD.ref_of {H : Hp} {v : V} {ds : List PyData} (h : TD H v (.tuple ds)) : ∃ a xs, v = .ref a ∧ H a = some (.tup xs) ∧ TDs H xs ds := by
  cases h with
  | tup h1 h2 => exact ⟨_, _, rfl, h1, h2⟩
theorem step_of {H : Hp} {v : V} {x : Stp} (h : TD H v (stepD x)) : ∃ a, v = .ref a ∧ H a = some (.tup [.str x.1, .str x.2.1, .int x.2.2]) := by
  obtain ⟨a, xs, rfl, ha, hx⟩ := h.ref_of
  refine ⟨a, rfl, ?_⟩
  cases hx with
  | cons h1 t1 =>
    cases h1
    cases t1 with
    | cons h2 t2 =>
      cases h2
      cases t2 with
      | cons h3 t3 =>
        cases h3
        cases t3
        exact ha
theorem ok_step {f fW fN : Addr} {fd fdW fdN : FuncData} (F : Fun K "_is_step" "_is_step" sStep f fd) (G : Gs mg)
    (GW : FnOk P w K mg base CX0 1 fW fdW ["thing"] spWord) (mW : mg "is_word" = some (.ref fW)) (kW : PySem.W.keepIn K (.ref fW) = true) (bW : Binds K fdW ["thing"] [])
    (GN : FnOk P w K mg base CX0 1 fN fdN ["thing"] spNumber) (mN : mg "is_number" = some (.ref fN)) (kN : PySem.W.keepIn K (.ref fN) = true) (bN : Binds K fdN ["thing"] []) :
    FnOk P w K mg base CX0 2 f fd ["thing", "many"] spStep := by
  refine F.ok scSp (fun vs H Q E h => ?_) (fun cdv A outer s H vs Q E hr h => ?_)
  · obtain ⟨a, x, n, rfl, _⟩ := h
    rfl
  · obtain ⟨a, x, n, rfl, hx, xo, k⟩ := h
    refine ⟨_, pss_cons (ps_if (PW.pt (pw_or (pt_not (pt_val (pe_callB call_isi (by rfl) G.isi boot_isinstance (pa_cons (pv 0) (pa_cons (pe_bltn (v := .ty "tuple") (by rfl) G.tuple PyProof.Rows.boot_tuple rfl) pa_nil)))))
          (pw_or1 (pt_cmpR op_ne (pe_callB call_len_seq (by rfl) G.len PySem.boot_len (pa_cons (pv 0) pa_nil)) pe_int (nomark _))))) (pss_one (ps_ret pe_bl)) pss_nil)
      (pss_one (ps_ret (pe_and (pe_call GW hr (by rfl) mW kW bW .nil pass0 (pa_cons (pe_ix ix_tup (pv 0) pe_int (fun _ _ => rfl)) pa_nil))
        (pe_and (pe_call GW hr (by rfl) mW kW bW .nil pass0 (pa_cons (pe_ix ix_tup (pv 0) pe_int (fun _ _ => rfl)) pa_nil))
        (pe_and (pe_call GN hr (by rfl) mN kN bN .nil pass0 (pa_cons (pe_ix ix_tup (pv 0) pe_int (fun _ _ => rfl)) pa_nil))
        (pe_one (pe_cmpR op_lt (pe_ix ix_tup (pv 0) pe_int (fun _ _ => rfl)) (pv 1) (nomark _)))))))), ?_⟩
    obtain ⟨a', e, ha⟩ := step_of hx
    cases e
    refine ⟨_, rfl, _, _, _, _, _, rfl, .ty "tuple", .base (.tup ha), kit_ty (a := "tuple") (b := "tuple") (r := true) (by decide +kernel), _, rfl, iteF ?_⟩
    refine ⟨_, rfl, a, _, rfl, .inr (SqT.of ha), ?_⟩
    refine ⟨rfl, _, rfl, iteF ?_⟩
    refine ⟨_, rfl, a, _, _, _, rfl, rfl, SqT.of ha, rfl, x.1, rfl, xo.w1, fun H1 s1 => ⟨_, rfl, iteT ?_⟩⟩
    have h1 := s1 _ _ ha
    refine ⟨_, rfl, a, _, _, _, rfl, rfl, SqT.of h1, rfl, x.2.1, rfl, xo.w2, fun H2 s2 => ⟨_, rfl, iteT ?_⟩⟩
    have h2 := s2 _ _ h1
    refine ⟨_, rfl, a, _, _, _, rfl, rfl, SqT.of h2, rfl, x.2.2, rfl, xo.lo, ⟨_, rfl, iteT ?_⟩⟩
    refine ⟨_, rfl, a, _, _, _, rfl, rfl, SqT.of h2, rfl, _, rfl, _, _, rfl, rfl, ?_⟩
    show Q (V.bl (decide (x.2.2 < (n : Int)))) H2
    rw [decide_eq_true xo.hi]
    exact k _ (s1.trans s2)
end
end My

-- ===== K14M =====
set_option Elab.async false
set_option linter.all false
set_option maxRecDepth 100000
set_option maxHeartbeats 1600000
namespace My
open PySem L2 PyProof.Rows PySem.Spec Kd PySem.W
theorem cps_inj {x y : Str} (h : x.cps.toList = y.cps.toList) : x = y := by
  cases x
  cases y
  simp only [Str.mk.injEq]
  exact Array.toList_inj.mp h
/-- a pair of texts as a key -/
def evK (x : Str × Str) : List Key := [Sum.inr x.1, Sum.inr x.2]
theorem evK_inj {x y : Str × Str} (h : evK x = evK y) : x = y := by
  unfold evK at h
  injection h with h1 h2
  injection h2 with h3 _
  exact Prod.ext (Sum.inr.inj h1) (Sum.inr.inj h3)
theorem evLt_irrefl (x : Str × Str) : ¬ evLt x x := fun h => by
  rcases h with h | ⟨_, h⟩
  · exact List.lt_irrefl _ h
  · exact List.lt_irrefl _ h
theorem evLt_trans {x y z : Str × Str} (h1 : evLt x y) (h2 : evLt y z) : evLt x z := by
  rcases h1 with a | ⟨a, b⟩
  · rcases h2 with c | ⟨c, d⟩
    · exact .inl (List.lt_trans a c)
    · exact .inl (by rw [← c]; exact a)
  · rcases h2 with c | ⟨c, d⟩
    · exact .inl (by rw [a]; exact c)
    · exact .inr ⟨a.trans c, List.lt_trans b d⟩
theorem evLt_tri (x y : Str × Str) (h1 : ¬ evLt x y) (h2 : ¬ evLt y x) : x = y := by
  unfold evLt at h1 h2
  have a : x.1 = y.1 := cps_inj (List.le_antisymm (List.not_lt.mp fun z => h2 (.inl z)) (List.not_lt.mp fun z => h1 (.inl z)))
  have b : x.2 = y.2 := cps_inj (List.le_antisymm (List.not_lt.mp fun z => h2 (.inr ⟨a.symm, z⟩)) (List.not_lt.mp fun z => h1 (.inr ⟨a, z⟩)))
  exact Prod.ext a b
theorem eqv_str (x y : Str) : PyData.eqv (.str x) (.str y) = decide (x = y) := by
  by_cases e : x = y
  · subst e
    simp [PyData.eqv]
  · rw [decide_eq_false e]
    simp [PyData.eqv, e]
/-- the order of sorted on such keys -/
theorem lt_evK (x y : Str × Str) : dataLt (tD (evK x)) (tD (evK y)) = true ↔ evLt x y := by
  unfold tD evK evLt
  simp only [List.map_cons, List.map_nil, kD]
  rw [dataLt_pair rfl rfl, eqv_str, eqv_str]
  by_cases e : x.1 = y.1
  · have e0 : ¬ x.1.cps.toList < y.1.cps.toList := by rw [e]; exact List.lt_irrefl _
    rw [decide_eq_true e, if_pos rfl]
    by_cases e2 : x.2 = y.2
    · have e3 : ¬ x.2.cps.toList < y.2.cps.toList := by rw [e2]; exact List.lt_irrefl _
      rw [decide_eq_true e2, if_pos rfl]
      simp [e0, e3]
    · rw [decide_eq_false e2, if_neg (by decide), dataLt_str, decide_eq_true_eq]
      exact ⟨fun h => .inr ⟨e, h⟩, fun h => h.elim (fun z => absurd z e0) fun z => z.2⟩
  · rw [decide_eq_false e, if_neg (by decide), dataLt_str, decide_eq_true_eq]
    simp [e]
theorem le_evK {q r : Addr × List Key} {x y : Str × Str} (hq : q.2 = evK x) (hr : r.2 = evK y) : dataLe false (fun q : Addr × List Key => tD q.2) q r = true ↔ ¬ evLt y x := by
  rw [dataLe_eq]
  show (!dataLt (tD r.2) (tD q.2)) = true ↔ _
  rw [hq, hr, Bool.not_eq_true', ← Bool.not_eq_true, lt_evK]
theorem asc_nodup {es : List (Str × Str)} (h : es.Pairwise evLt) : es.Nodup := List.Pairwise.imp (fun {x y} lt e => by rw [e] at lt; exact evLt_irrefl _ lt) h
/-- whatever is sorted of what has just these keys -/
theorem sorted_is (L : List (Addr × List Key)) (es : List (Str × Str)) (asc : es.Pairwise evLt) (nd : (L.map Prod.snd).Nodup) (mem : ∀ k, k ∈ L.map Prod.snd ↔ k ∈ es.map evK) :
    (L.mergeSort (dataLe false fun q : Addr × List Key => tD q.2)).map Prod.snd = es.map evK := by
  have tot := sortLe_total (listOrd itemOrd) false fun q : Addr × List Key => keyToks (tD q.2)
  have srt : (L.mergeSort (dataLe false fun q : Addr × List Key => tD q.2)).Pairwise fun q r => dataLe false (fun q : Addr × List Key => tD q.2) q r = true := List.pairwise_mergeSort tot.trans (fun a b => by rw [Bool.or_eq_true]; exact tot.total a b) L
  have pm : (L.mergeSort (dataLe false fun q : Addr × List Key => tD q.2)).Perm L := List.mergeSort_perm _ _
  generalize L.mergeSort (dataLe false fun q : Addr × List Key => tD q.2) = M at srt pm
  have key : ∀ q ∈ M, ∃ x, q.2 = evK x := fun q hq => by
    have z := (mem q.2).mp (List.mem_map.mpr ⟨q, pm.mem_iff.mp hq, rfl⟩)
    obtain ⟨x, _, e⟩ := List.mem_map.mp z
    exact ⟨x, e.symm⟩
  -- as pairs of texts
  have back : ∃ xs : List (Str × Str), M.map Prod.snd = xs.map evK := by
    clear srt pm
    induction M with
    | nil => exact ⟨[], rfl⟩
    | cons q M ih =>
      obtain ⟨x, e⟩ := key q List.mem_cons_self
      obtain ⟨xs, e2⟩ := ih fun r hr => key r (List.mem_cons_of_mem _ hr)
      exact ⟨x :: xs, by rw [List.map_cons, List.map_cons, e, e2]⟩
  obtain ⟨xs, ex⟩ := back
  have px : (xs.map evK).Perm (es.map evK) := by
    rw [← ex]
    refine (pm.map Prod.snd).trans ((List.perm_ext_iff_of_nodup nd ?_).mpr mem)
    exact List.Pairwise.map _ (fun {x y} ne e => ne (evK_inj e)) (asc_nodup asc)
  have sx : xs.Pairwise fun x y => ¬ evLt y x := by
    have z : (M.map Prod.snd).Pairwise fun k l => ∀ x y, k = evK x → l = evK y → ¬ evLt y x := List.pairwise_map.mpr (List.Pairwise.imp (fun {q r} h x y e1 e2 => (le_evK e1 e2).mp h) srt)
    rw [ex] at z
    exact List.Pairwise.imp (fun {x y} h => h x y rfl rfl) (List.pairwise_map.mp z)
  have inj : Function.Injective evK := fun _ _ e => evK_inj e
  have p2 : xs.Perm es := by
    obtain ⟨ys, p1, e1⟩ := Kd.perm_lift evK px es rfl
    have e2 : xs = ys := by
      have : ∀ (l m : List (Str × Str)), l.map evK = m.map evK → l = m := by
        intro l
        induction l with
        | nil => intro m e; cases m with | nil => rfl | cons _ _ => cases e
        | cons x l ih =>
          intro m e
          cases m with
          | nil => cases e
          | cons y m =>
            injection e with a b
            rw [evK_inj a, ih m b]
      exact this _ _ e1
    rw [e2]
    exact p1
  have fin : xs = es := List.Perm.eq_of_pairwise (le := fun x y => ¬ evLt y x) (fun a b _ _ h1 h2 => evLt_tri a b h2 h1) sx (List.Pairwise.imp (fun {x y} lt gt => evLt_irrefl _ (evLt_trans lt gt)) asc) p2
  rw [ex, fin]
end My

-- ===== K14C =====
set_option Elab.async false
set_option linter.all false
set_option maxRecDepth 100000
set_option maxHeartbeats 4000000
namespace My
open PySem L2 PyProof.Rows PySem.Spec Kd
def spState : Sp := fun vs H Q _ => ∃ (a : Addr) (st : List Stp) (n : Nat), vs = [.ref a, .int n] ∧ TD H (.ref a) (stateD st) ∧ StOk n st ∧ ∀ H', Same H H' → Q (.bl true) H'
theorem same_new {H : Hp} {p : Addr} {o : HO} (n : H p = none) : Same H (upd H p o) := same_at (Same.refl H) n
theorem dp_keys {K : PySem.W.Frag} {H : Hp} : ∀ k : List Key, DpAll K H (k.map kV) (k.map kD)
  | [] => .nil
  | .inl i :: k => .cons (.int i) (dp_keys k)
  | .inr x :: k => .cons (.str x) (dp_keys k)
theorem dp_rows {K : PySem.W.Frag} {H : Hp} : ∀ M : List (Addr × List Key), (∀ q ∈ M, H q.1 = some (.tup (q.2.map kV))) → DpAll K H (M.map fun q => V.ref q.1) ((M.map Prod.snd).map tD)
  | [], _ => .nil
  | q :: M, h => .cons (.tup (SqT.of (h q List.mem_cons_self)) (dp_keys q.2)) (dp_rows M fun r m => h r (List.mem_cons_of_mem _ m))
theorem lets_low : ∀ c ∈ LETS.cps.toList, c < 1114112 := by decide +kernel
theorem wrd_ok {z : Str} (h : Wrd z) : PyData.strOk z = true := by
  unfold PyData.strOk
  rw [Array.all_eq_true']
  intro c hc
  have := lets_low c (h.2.2 c (Array.mem_toList_iff.mpr hc))
  simpa using this
theorem lay_rows : ∀ es : List (Str × Str), (∀ e ∈ es, Wrd e.1 ∧ Wrd e.2) → PyData.canLayAll0 ((es.map evK).map tD) = true
  | [], _ => by simp only [List.map_nil, PyData.canLayAll0]
  | e :: es, h => by
    have h1 := wrd_ok (h e List.mem_cons_self).1
    have h2 := wrd_ok (h e List.mem_cons_self).2
    simp only [List.map_cons, List.map_nil, tD, evK, kD, PyData.canLayAll0, PyData.canLay0, h1, h2, lay_rows es fun x m => h x (List.mem_cons_of_mem _ m), Bool.and_self]
theorem deep_rows : ∀ ks : List (List Key), PyData.depthAll (ks.map tD) ≤ 1
  | [] => by simp only [List.map_nil, PyData.depthAll]; omega
  | k :: ks => by
    have h1 := tD_depth k
    have h2 := deep_rows ks
    simp only [List.map_cons, PyData.depthAll]
    omega
theorem shaped_rows (es : List (Str × Str)) (w : ∀ e ∈ es, Wrd e.1 ∧ Wrd e.2) : SeqAt.shaped (.list ((es.map evK).map tD)) = true := by
  have h := deep_rows (es.map evK)
  unfold SeqAt.shaped
  rw [Bool.and_eq_true]
  refine ⟨by simp only [PyData.canLay0, lay_rows es w], decide_eq_true ?_⟩
  simp only [PyData.depth]
  omega
section
variable {P : Program} {w : World} {K : PySem.W.Frag} {mg : Str → Option Value} {base : Heap}
abbrev nSt : List Str := ["thing", "many", "events", "step"]
theorem scSt : FnScope nSt ["thing", "many"] (defScope sState) := ⟨rfl, rfl, rfl, by decide +kernel, rfl, by decide +kernel, by decide +kernel⟩
theorem ok_state {f fS : Addr} {fd fdS : FuncData} (F : Fun K "_is_state" "_is_state" sState f fd) (G : Gs mg)
    (GS : FnOk P w K mg base CX0 2 fS fdS ["thing", "many"] spStep) (mS : mg "_is_step" = some (.ref fS)) (kS : PySem.W.keepIn K (.ref fS) = true) (bS : Binds K fdS ["thing", "many"] []) :
    FnOk P w K mg base CX0 3 f fd ["thing", "many"] spState := by
  refine F.ok scSt (fun vs H Q E h => ?_) (fun cdv A outer s H vs Q E hr h => ?_)
  · obtain ⟨a, st, n, rfl, _⟩ := h
    rfl
  · obtain ⟨a, st, n, rfl, hx, so, k⟩ := h
    have hu := hr.units
    refine ⟨_, pss_cons (ps_if (PW.pt (pw_or (pt_not (pt_val (pe_callB call_isi (by rfl) G.isi boot_isinstance (pa_cons (pv 0) (pa_cons (pe_bltn (v := .ty "tuple") (by rfl) G.tuple PyProof.Rows.boot_tuple rfl) pa_nil)))))
          (pw_or1 (pt_not (pt_val (pe_callB (cr_all rfl) (by rfl) G.all PyProof.Rows.boot_all (pa_cons (pe_lc (own := [("step", 3)]) (g := gName 3) (tt := tYes) rfl scSt.nd (pi_tup (pv 0)) (blkOk_by (N := nSt) (sc := defScope sState) (by decide +kernel))
            (fun _ _ _ _ _ => pg_name (i := 3) scSt.nd rfl (Or.inl rfl)) (fun _ _ _ _ _ => pts_nil) (fun _ _ _ _ _ => pe_call GS hr (by rfl) mS kS bS .nil pass0 (pa_cons (pv 3) (pa_cons (pv 1) pa_nil)))) pa_nil))))))) (pss_one (ps_ret pe_bl)) pss_nil)
      (pss_cons (ps_setLc (i := 2) (own := [("step", 3)]) (g := gName 3) (tt := tYes) rfl scSt.nd rfl rfl (sw_true rfl rfl rfl (by decide +kernel)) (pi_tup (pv 0)) (blkOk_by (N := nSt) (sc := defScope sState) (by decide +kernel))
            (fun _ _ _ _ _ => pg_name (i := 3) scSt.nd rfl (Or.inl rfl)) (fun _ _ _ _ _ => pts_nil) (fun _ _ _ _ _ => pe_slice (r := rSlT K) sl_tup (pv 3) po_none (po_some pe_int)))
      (pss_one (ps_ret (pe_cmpR (op_eqD hu) (pv 2) (pe_callB (cr_sortS rfl hu) (by rfl) G.sorted PyProof.Rows.boot_sorted (pa_cons (pe_callTy (cr_setOf rfl hu) (by rfl) G.set PyProof.Rows.boot_set (pa_cons (pv 2) pa_nil)) pa_nil)) (nomark _))))), ?_⟩
    obtain ⟨xs, ha, hxs⟩ := hx.tup_of
    have sx : ∀ {i : Nat} {x : V}, xs[i]? = some x → ∃ y a', st[i]? = some y ∧ x = .ref a' ∧ TD H (.ref a') (stepD y) := fun {i x} e => by
      obtain ⟨d, ed, td⟩ := hxs.get e
      rw [List.getElem?_map] at ed
      obtain ⟨y, ey, rfl⟩ := Option.map_eq_some_iff.mp ed
      obtain ⟨a', rfl, _⟩ := step_of td
      exact ⟨y, a', ey, rfl, td⟩
    have len : xs.length = st.length := by
      have z := hxs.len
      rwa [List.length_map] at z
    have few := so.few
    refine ⟨_, rfl, _, _, _, _, _, rfl, .ty "tuple", .base (.tup ha), kit_ty (a := "tuple") (b := "tuple") (r := true) (by decide +kernel), _, rfl, iteF ?_⟩
    refine ⟨_, rfl, a, rfl, ⟨_, SqT.of ha⟩, fun D hD => lc_tup (K := K) (a := a) (xs := xs) (fun i H2 => Same H H2 ∧ H2 D = some (.lst ((List.replicate i true).map V.bl))) ⟨same_at (Same.refl H) hD, upd_same⟩ (fun i H2 _ ⟨s2, _⟩ => SqT.of (s2 _ _ ha)) (fun i x H2 ex ⟨s2, d2⟩ => ?_) fun H2 ⟨s2, d2⟩ => ?_⟩
    · obtain ⟨y, a', ey, rfl, td⟩ := sx ex
      have lt : i < st.length := (List.getElem?_eq_some_iff.mp ey).1
      refine ⟨rfl, _, rfl, _, rfl, a', y, n, rfl, td.to (Tup.of s2), so.all y (List.mem_of_getElem? ey), fun H3 s3 => ⟨_, s3 _ _ d2, ?_, same_at (s2.trans s3) hD, ?_⟩⟩
      · rw [List.length_map, List.length_replicate]
        exact small_lt (m := 24) (by omega)
      · rw [upd_same, List.replicate_succ', List.map_append]
        rfl
    · refine ⟨D, _, rfl, SqL.of d2, _, rfl, ?_⟩
      have e : ((List.replicate xs.length true).all id) = true := by simp
      rw [e]
      refine iteF ?_
      -- events
      have ha2 := s2 _ _ ha
      refine ⟨_, rfl, a, rfl, ⟨_, SqT.of ha2⟩, fun D2 hD2 => lc_tup (K := K) (a := a) (xs := xs) (fun i H3 => Same H2 H3 ∧ ∃ ks : List (Addr × List Key), ks.map Prod.snd = ((st.take i).map evOf).map evK ∧ H3 D2 = some (.lst (ks.map fun q => V.ref q.1)) ∧ ∀ q ∈ ks, H3 q.1 = some (.tup (q.2.map kV)))
        ⟨same_at (Same.refl H2) hD2, [], by simp, upd_same, fun q m => nomatch m⟩ (fun i H3 _ ⟨s3, _⟩ => SqT.of (s3 _ _ ha2)) (fun i x H3 ex ⟨s3, ks, k1, k2, k3⟩ => ?_) fun H3 ⟨s3, ks, k1, k2, k3⟩ => ?_⟩
      · obtain ⟨y, a', ey, rfl, td⟩ := sx ex
        obtain ⟨a'', e', hy⟩ := step_of (td.to (Tup.of (s2.trans s3)))
        cases e'
        have lt : i < st.length := (List.getElem?_eq_some_iff.mp ey).1
        have kl : ks.length ≤ 24 := by
          have z := congrArg List.length k1
          rw [List.length_map, List.length_map, List.length_map, List.length_take] at z
          omega
        refine ⟨rfl, _, rfl, 2, rfl, a', _, rfl, SqT.of hy, (fun z => absurd (show HT.sIx 3 3 (some 2) = 3 from z.2) (by decide)), fun p hp => ⟨ks.map fun q => V.ref q.1, ?_, ?_, ?_, ks ++ [(p, evK (evOf y))], ?_, ?_, ?_⟩⟩
        · rw [upd_ne (ne_of_none k2 hp)]
          exact k2
        · rw [List.length_map]
          exact small_lt (m := 24) kl
        · exact same_at (s3.trans (same_new hp)) hD2
        · rw [List.map_append, k1, List.take_succ, ey]
          simp
        · rw [upd_same, List.map_append]
          rfl
        · intro q hq
          have nD : ∀ (b : Addr) (xs : List V), (upd H3 p (.tup (cutV [V.str y.1, V.str y.2.1, V.int y.2.2] none (some 2)))) b = some (.tup xs) → b ≠ D2 := fun b xs e z => by
            rw [z, upd_ne (ne_of_none k2 hp), k2] at e
            cases e
          have at_ : (upd H3 p (.tup (cutV [V.str y.1, V.str y.2.1, V.int y.2.2] none (some 2)))) q.1 = some (.tup (q.2.map kV)) := by
            rcases List.mem_append.mp hq with m | m
            · rw [upd_ne (ne_of_none (k3 q m) hp)]
              exact k3 q m
            · rw [List.mem_singleton.mp m, upd_same]
              rfl
          rw [upd_ne (nD _ _ at_)]
          exact at_
      · -- events == sorted(set(events))
        rw [len, List.take_length] at k1
        have kl : ks.length ≤ 24 := by
          have z := congrArg List.length k1
          rw [List.length_map, List.length_map, List.length_map] at z
          omega
        have evs : ∀ q ∈ ks, ∃ e, q.2 = evK e := fun q m => by
          have z : q.2 ∈ (st.map evOf).map evK := by
            rw [← k1]
            exact List.mem_map.mpr ⟨q, m, rfl⟩
          obtain ⟨e, _, h⟩ := List.mem_map.mp z
          exact ⟨e, h.symm⟩
        refine ⟨_, rfl, _, rfl, D2, ks, rfl, SqL.of k2, fun q m => SqT.of (k3 q m), by omega, fun a2 L ha2 sub all nd => ?_⟩
        have keep : ∀ q ∈ ks, (upd H3 a2 (SetO P w a2 L)) q.1 = some (.tup (q.2.map kV)) := fun q m => by
          rw [upd_ne (ne_of_none (k3 q m) ha2)]
          exact k3 q m
        refine ⟨a2, L, rfl, upd_same, fun q m => SqT.of (keep q (sub q m)), ?_, ?_, fun L1 p pm less nd1 hp => ?_⟩
        · intro d hd d' hd'
          obtain ⟨q, m, rfl⟩ := List.mem_map.mp hd
          obtain ⟨r, m', rfl⟩ := List.mem_map.mp hd'
          obtain ⟨x, ex⟩ := evs q (sub q m)
          obtain ⟨y, ey⟩ := evs r (sub r m')
          rw [ex, ey]
          rfl
        · refine .inl fun d hd => ?_
          obtain ⟨q, m, rfl⟩ := List.mem_map.mp hd
          obtain ⟨x, ex⟩ := evs q (sub q m)
          rw [ex]
          exact ⟨_, _, rfl⟩
        have srt := sorted_is L1 (st.map evOf) so.asc ((pm.map Prod.snd).nodup_iff.mpr nd) fun k => by
          rw [(pm.map Prod.snd).mem_iff, ← k1]
          refine ⟨fun z => ?_, fun z => ?_⟩
          · obtain ⟨q, m, rfl⟩ := List.mem_map.mp z
            exact List.mem_map.mpr ⟨q, sub q m, rfl⟩
          · obtain ⟨q, m, rfl⟩ := List.mem_map.mp z
            exact all q m
        have mem1 : ∀ q ∈ L1.mergeSort (PySem.W.dataLe false fun q : Addr × List Key => tD q.2), q ∈ ks := fun q m => sub q (pm.mem_iff.mp ((List.mergeSort_perm _ _).mem_iff.mp m))
        generalize L1.mergeSort (PySem.W.dataLe false fun q : Addr × List Key => tD q.2) = M at srt mem1 ⊢
        have keep2 : ∀ q ∈ ks, (upd (upd H3 a2 (SetO P w a2 L)) p (.lst (M.map fun q => V.ref q.1))) q.1 = some (.tup (q.2.map kV)) := fun q m => by
          rw [upd_ne (ne_of_none (keep q m) hp)]
          exact keep q m
        have words : ∀ e ∈ st.map evOf, Wrd e.1 ∧ Wrd e.2 := fun e m => by
          obtain ⟨x, hx, rfl⟩ := List.mem_map.mp m
          exact ⟨(so.all x hx).w1, (so.all x hx).w2⟩
        have sh := shaped_rows (st.map evOf) words
        have hev : (upd (upd H3 a2 (SetO P w a2 L)) p (.lst (M.map fun q => V.ref q.1))) D2 = some (.lst (ks.map fun q => V.ref q.1)) := by
          have z : (upd H3 a2 (SetO P w a2 L)) D2 = some (.lst (ks.map fun q => V.ref q.1)) := by
            rw [upd_ne (ne_of_none k2 ha2)]
            exact k2
          rw [upd_ne (ne_of_none z hp)]
          exact z
        have d1 := dp_rows (K := K) ks keep2
        have d2' := dp_rows (K := K) M fun q m => keep2 q (mem1 q m)
        rw [k1] at d1
        rw [srt] at d2'
        refine ⟨_, _, .lst (SqL.of hev) d1, .lst (SqL.of upd_same) d2', sh, sh, ?_⟩
        rw [SeqAt.eqv_refl _ (by simp only [PyData.canLay0]; exact lay_rows _ words)]
        refine k _ ((s2.trans s3).trans ((same_new ha2).trans (same_new hp)))
end
end My

-- ===== K14E =====
set_option Elab.async false
set_option linter.all false
set_option maxRecDepth 100000
set_option maxHeartbeats 4000000
namespace My
open PySem L2 PyProof.Rows PySem.Spec Kd
theorem nodup_most {α : Type} [DecidableEq α] : ∀ (l D : List α), l.Nodup → (∀ x ∈ l, x ∈ D) → l.length ≤ D.length
  | [], _, _, _ => Nat.zero_le _
  | x :: l, D, nd, sub => by
    obtain ⟨n1, n2⟩ := List.nodup_cons.mp nd
    have mx := sub x List.mem_cons_self
    have ih := nodup_most l (D.erase x) n2 fun y my => (List.mem_erase_of_ne fun (e : y = x) => n1 (by rw [← e]; exact my)).2 (sub y (List.mem_cons_of_mem _ my))
    rw [List.length_erase_of_mem mx] at ih
    have pos := List.length_pos_of_mem mx
    rw [List.length_cons]
    omega
/-- what a set comprehension over J asks -/
def Sc2W (K : PySem.W.Frag) (P : Program) (w : World) (ga : TG) (wb : TI) (gb : TG) (te : TE) (vs us : List Nat) (σ : L2.St) (Q : VK) (J : It) (H1 : Hp) : Prop := ∀ D, H1 D = none → ∃ W : Nat → Nat → Hp → Prop, (∃ m, W 0 m (upd H1 D (SetO P w D []))) ∧ ∀ i m H2, W i m H2 →
  (J.stop i H2 ∧ Q (.ref D) H2) ∨ (J.go i H2 ∧ ∃ Nx : Hp → Prop, (∀ H3, Nx H3 → ∃ m', m' < m ∧ W (i + 1) m' H3) ∧ ∀ x H3, J.yld i H2 x H3 → ga x (wipe σ vs) H3 fun σ4 H4 => wipe σ4 vs = wipe σ vs ∧ wb σ4 H4 fun J1 H5 =>
    ∃ W1 : Nat → Nat → Hp → Prop, (∃ m, W1 0 m H5) ∧ ∀ j k H6, W1 j k H6 → (J1.stop j H6 ∧ Nx H6) ∨ (J1.go j H6 ∧ ∃ Nx1 : Hp → Prop, (∀ H7, Nx1 H7 → ∃ k', k' < k ∧ W1 (j + 1) k' H7) ∧ ∀ x H7, J1.yld j H6 x H7 →
      gb x (wipe σ4 us) H7 fun σ8 H8 => wipe σ8 us = wipe σ4 us ∧ te σ8 H8 fun y H9 => ∃ (e : Addr) (c : List Key) (L : List (Addr × List Key)), y = .ref e ∧ SqT K H9 e (c.map kV) ∧ H9 D = some (SetO P w D L) ∧ (∀ q ∈ L, SqT K H9 q.1 (q.2.map kV)) ∧ (c ∉ L.map Prod.snd → L.length + 1 < 64) ∧
        ∀ L', (c ∈ L.map Prod.snd → L' = L) → (c ∉ L.map Prod.snd → L'.Perm ((e, c) :: L)) → Nx1 (upd H9 D (SetO P w D L'))))
def stOf {H : Hp} {v : V} {st : List Stp} (h : TD H v (stateD st)) := h
/-- the set at D has the events that p tells -/
structure Evs (P : Program) (w : World) (H H' : Hp) (D : Addr) (p : List Key → Prop) : Prop where
  same : Same H H'
  ex : ∃ L : List (Addr × List Key), H' D = some (SetO P w D L) ∧ (∀ q ∈ L, H' q.1 = some (.tup (q.2.map kV))) ∧ (L.map Prod.snd).Nodup ∧ ∀ k, k ∈ L.map Prod.snd ↔ p k
theorem Evs.like {P : Program} {w : World} {H H' : Hp} {D : Addr} {p q : List Key → Prop} (h : Evs P w H H' D p) (e : ∀ k, p k ↔ q k) : Evs P w H H' D q := by
  obtain ⟨s, L, h1, h2, h3, h4⟩ := h
  exact ⟨s, L, h1, h2, h3, fun k => (h4 k).trans (e k)⟩
theorem ev_set {K : PySem.W.Frag} {P : Program} {w : World} {o : Option V} {a : Addr} {xs : List V} {ss : List (List Stp)} {es : List (Str × Str)} {H : Hp} (ha : H a = some (.tup xs)) (hx : TDs H xs (ss.map stateD)) (les : es.length ≤ 24) (hes : ∀ st ∈ ss, ∀ x ∈ st, evOf x ∈ es) {Q : VK}
    (q : ∀ D H' (L : List (Addr × List Key)), Same H H' → H' D = some (SetO P w D L) → (∀ q ∈ L, H' q.1 = some (.tup (q.2.map kV))) → (L.map Prod.snd).Nodup → (∀ k, k ∈ L.map Prod.snd ↔ ∃ st ∈ ss, ∃ x ∈ st, k = evK (evOf x)) → L.length ≤ 24 → Q (.ref D) H') :
    Sc2W K P w (gName 1) (iTup K (tVar 1)) (gName 2) (tSl (rSlT K) (tVar 2) tNoPart (tPart (tC (V.int 2)))) [1, 2] [2] [o, none, none] Q (Itt K a) H := by
  intro D hD
  have len : xs.length = ss.length := by
    have z := hx.len
    rwa [List.length_map] at z
  have few : ∀ {L : List (Addr × List Key)} {p : List Key → Prop}, (L.map Prod.snd).Nodup → (∀ k, k ∈ L.map Prod.snd ↔ p k) → (∀ k, p k → ∃ st ∈ ss, ∃ x ∈ st, k = evK (evOf x)) → L.length ≤ 24 := fun {L p} nd me im => by
    have z := nodup_most (L.map Prod.snd) (es.map evK) nd fun k hk => by
      obtain ⟨st, m1, x, m2, rfl⟩ := im k ((me k).mp hk)
      exact List.mem_map.mpr ⟨_, hes st m1 x m2, rfl⟩
    rw [List.length_map, List.length_map] at z
    omega
  refine ⟨fun i m H2 => m = xs.length - i ∧ i ≤ xs.length ∧ Evs P w H H2 D fun k => ∃ st ∈ ss.take i, ∃ x ∈ st, k = evK (evOf x), ⟨_, rfl, Nat.zero_le _, same_new hD, [], upd_same, (fun q m => nomatch m), List.nodup_nil, fun k => by simp⟩, fun i m H2 ⟨em, le, ev⟩ => ?_⟩
  subst em
  have ha2 := ev.same _ _ ha
  rcases Nat.lt_or_ge i xs.length with lt | ge
  · obtain ⟨x, ex⟩ : ∃ x, xs[i]? = some x := ⟨_, List.getElem?_eq_getElem lt⟩
    obtain ⟨d, ed, td⟩ := hx.get ex
    rw [List.getElem?_map] at ed
    obtain ⟨st, est, rfl⟩ := Option.map_eq_some_iff.mp ed
    obtain ⟨b, ys, rfl, hb, hy⟩ := td.ref_of
    have stm : st ∈ ss := List.mem_of_getElem? est
    have leny : ys.length = st.length := by
      have z := hy.len
      rwa [List.length_map] at z
    refine .inr ⟨⟨xs, _, SqT.of ha2, ex⟩, fun H3 => Evs P w H H3 D fun k => ∃ st ∈ ss.take (i + 1), ∃ x ∈ st, k = evK (evOf x), fun H3 e3 => ⟨_, by omega, rfl, lt, e3⟩, fun v H3 yl => ?_⟩
    obtain ⟨eH, yv⟩ := yl
    subst eH
    have e0 : xs[i]? = some v := yv _ (SqT.of ha2)
    rw [ex] at e0
    cases e0
    have hb2 := ev.same _ _ hb
    refine ⟨rfl, _, rfl, b, rfl, ⟨_, SqT.of hb2⟩, fun j m H4 => m = ys.length - j ∧ j ≤ ys.length ∧ Evs P w H H4 D fun k => (∃ st ∈ ss.take i, ∃ x ∈ st, k = evK (evOf x)) ∨ ∃ x ∈ st.take j, k = evK (evOf x), ⟨_, rfl, Nat.zero_le _, ev.like fun k => by simp⟩, fun j k H4 ⟨ek, lej, ev4⟩ => ?_⟩
    subst ek
    have hb4 := ev4.same _ _ hb
    rcases Nat.lt_or_ge j ys.length with ltj | gej
    · obtain ⟨y, ey⟩ : ∃ y, ys[j]? = some y := ⟨_, List.getElem?_eq_getElem ltj⟩
      obtain ⟨d, ed, td4⟩ := hy.get ey
      rw [List.getElem?_map] at ed
      obtain ⟨sx, esx, rfl⟩ := Option.map_eq_some_iff.mp ed
      obtain ⟨c, rfl, hc⟩ := step_of td4
      refine .inr ⟨⟨ys, _, SqT.of hb4, ey⟩, fun H5 => Evs P w H H5 D fun k => (∃ st ∈ ss.take i, ∃ x ∈ st, k = evK (evOf x)) ∨ ∃ x ∈ st.take (j + 1), k = evK (evOf x), fun H5 e5 => ⟨_, by omega, rfl, ltj, e5⟩, fun v H5 yl => ?_⟩
      obtain ⟨eH, yv⟩ := yl
      subst eH
      have e0 : ys[j]? = some v := yv _ (SqT.of hb4)
      rw [ey] at e0
      cases e0
      obtain ⟨s4, L, l1, l2, l3, l4⟩ := ev4
      have hc4 := s4 _ _ hc
      refine ⟨rfl, _, rfl, 2, rfl, c, _, rfl, SqT.of hc4, (fun z => absurd (show HT.sIx 3 3 (some 2) = 3 from z.2) (by decide)), fun p hp => ?_⟩
      have at_ : ∀ q ∈ L, (upd H5 p (.tup (cutV [V.str sx.1, V.str sx.2.1, V.int sx.2.2] none (some 2)))) q.1 = some (.tup (q.2.map kV)) := fun q m => by
        rw [upd_ne (ne_of_none (l2 q m) hp)]
        exact l2 q m
      have atD : (upd H5 p (.tup (cutV [V.str sx.1, V.str sx.2.1, V.int sx.2.2] none (some 2)))) D = some (SetO P w D L) := by
        rw [upd_ne (ne_of_none l1 hp)]
        exact l1
      have llen : L.length ≤ 24 := few l3 l4 fun k h => by
        rcases h with ⟨st', m1, x, m2, e⟩ | ⟨x, m2, e⟩
        · exact ⟨st', List.mem_of_mem_take m1, x, m2, e⟩
        · exact ⟨st, stm, x, List.mem_of_mem_take m2, e⟩
      refine ⟨p, evK (evOf sx), L, rfl, SqT.of upd_same, atD, fun q m => SqT.of (at_ q m), fun _ => by omega, fun L' c1 c2 => ?_⟩
      have tk : st.take (j + 1) = st.take j ++ [sx] := by rw [List.take_succ, esx]; rfl
      have tup2 : ∀ {b : Addr} {zs : List V}, (upd H5 p (.tup (cutV [V.str sx.1, V.str sx.2.1, V.int sx.2.2] none (some 2)))) b = some (.tup zs) → (upd (upd H5 p (.tup (cutV [V.str sx.1, V.str sx.2.1, V.int sx.2.2] none (some 2)))) D (SetO P w D L')) b = some (.tup zs) := fun {b zs} e => by
        rw [upd_ne fun z => by rw [z, atD] at e; cases e]
        exact e
      refine ⟨same_at (s4.trans (same_new hp)) hD, L', upd_same, fun q m => ?_, ?_, fun k => ?_⟩
      · by_cases h : evK (evOf sx) ∈ L.map Prod.snd
        · rw [c1 h] at m
          exact tup2 (at_ q m)
        · rcases List.mem_cons.mp ((c2 h).mem_iff.mp m) with e | m
          · rw [e]
            exact tup2 upd_same
          · exact tup2 (at_ q m)
      · by_cases h : evK (evOf sx) ∈ L.map Prod.snd
        · rw [c1 h]
          exact l3
        · exact ((c2 h).map Prod.snd).nodup_iff.mpr (List.nodup_cons.mpr ⟨h, l3⟩)
      · have step : k ∈ L'.map Prod.snd ↔ k = evK (evOf sx) ∨ k ∈ L.map Prod.snd := by
          by_cases h : evK (evOf sx) ∈ L.map Prod.snd
          · rw [c1 h]
            exact ⟨.inr, fun z => z.elim (fun e => by rw [e]; exact h) id⟩
          · rw [((c2 h).map Prod.snd).mem_iff, List.map_cons, List.mem_cons]
        rw [step, l4 k, tk]
        simp only [List.mem_append, List.mem_singleton]
        constructor
        · rintro (e | e | ⟨x, m, e⟩)
          · exact .inr ⟨sx, .inr rfl, e⟩
          · exact .inl e
          · exact .inr ⟨x, .inl m, e⟩
        · rintro (e | ⟨x, m | m, e⟩)
          · exact .inr (.inl e)
          · exact .inr (.inr ⟨x, m, e⟩)
          · rw [m] at e
            exact .inl e
    · have e : j = ys.length := by omega
      subst e
      refine .inl ⟨⟨ys, SqT.of hb4, Nat.le_refl _⟩, ev4.like fun k => ?_⟩
      have tk : ss.take (i + 1) = ss.take i ++ [st] := by rw [List.take_succ, est]; rfl
      rw [leny, List.take_length, tk]
      simp only [List.mem_append, List.mem_singleton]
      constructor
      · rintro (⟨s, m, z⟩ | z)
        · exact ⟨s, .inl m, z⟩
        · exact ⟨st, .inr rfl, z⟩
      · rintro ⟨s, m | m, z⟩
        · exact .inl ⟨s, m, z⟩
        · rw [m] at z
          exact .inr z
  · have e : i = xs.length := by omega
    subst e
    obtain ⟨s2, L, l1, l2, l3, l4⟩ := ev
    rw [len, List.take_length] at l4
    exact .inl ⟨⟨xs, SqT.of ha2, Nat.le_refl _⟩, q D H2 L s2 l1 l2 l3 l4 (few l3 l4 fun k h => h)⟩
def rLenQ (K : PySem.W.Frag) : List V → Hp → VK → Prop := fun xs H Q => ∃ p ys, xs = [.ref p] ∧ (SqL K H p ys ∨ SqT K H p ys) ∧ Q (.int ys.length) H
def spStates : Sp := fun vs H Q _ => ∃ (a : Addr) (ss : List (List Stp)), vs = [.ref a] ∧ TD H (.ref a) (statesD ss) ∧ KOk ss ∧ ∀ H', Same H H' → Q (.bl true) H'
section
variable {P : Program} {w : World} {K : PySem.W.Frag} {mg : Str → Option Value} {base : Heap}
abbrev nSs : List Str := ["thing", "state", "step"]
theorem scSs : FnScope nSs ["thing"] (defScope sStates) := ⟨rfl, rfl, rfl, by decide +kernel, rfl, by decide +kernel, by decide +kernel⟩
theorem ok_states {f fS : Addr} {fd fdS : FuncData} (F : Fun K "is_states" "is_states" sStates f fd) (G : Gs mg)
    (GS : FnOk P w K mg base CX0 3 fS fdS ["thing", "many"] spState) (mS : mg "_is_state" = some (.ref fS)) (kS : PySem.W.keepIn K (.ref fS) = true) (bS : Binds K fdS ["thing", "many"] []) :
    FnOk P w K mg base CX0 4 f fd ["thing"] spStates := by
  obtain ⟨t40, m40⟩ := G.c40
  obtain ⟨t24, m24⟩ := G.c24
  refine F.ok scSs (fun vs H Q E h => ?_) (fun cdv A outer s H vs Q E hr h => ?_)
  · obtain ⟨a, ss, rfl, _⟩ := h
    rfl
  · obtain ⟨a, ss, rfl, hx, so, k⟩ := h
    have hu := hr.units
    have hu2 : (A.deeper (envOfC "is_states" (defScope sStates) s.heap.objs.size f cdv)).units + 2 < cLine := by omega
    refine ⟨_, pss_cons (ps_if (PW.pt (pw_or (pt_not (pt_val (pe_callB call_isi (by rfl) G.isi boot_isinstance (pa_cons (pv 0) (pa_cons (pe_bltn (v := .ty "tuple") (by rfl) G.tuple PyProof.Rows.boot_tuple rfl) pa_nil)))))
          (pw_or1 (pt_not (pt_chain op_le op_le pe_int (pe_callB call_len_seq (by rfl) G.len PySem.boot_len (pa_cons (pv 0) pa_nil)) (pe_glob (v := .int 40) (by rfl) m40 ⟨_, rfl⟩)))))) (pss_one (ps_ret pe_bl)) pss_nil)
      (pss_cons (ps_if (pt_not (pt_val (pe_callB (cr_all rfl) (by rfl) G.all PyProof.Rows.boot_all (pa_cons (pe_lc (own := [("state", 1)]) (g := gName 1) (tt := tYes) rfl scSs.nd (pi_tup (pv 0)) (blkOk_by (N := nSs) (sc := defScope sStates) (by decide +kernel))
            (fun _ _ _ _ _ => pg_name (i := 1) scSs.nd rfl (Or.inl rfl)) (fun _ _ _ _ _ => pts_nil) (fun _ _ _ _ _ => pe_call GS hr (by rfl) mS kS bS .nil pass0 (pa_cons (pv 1) (pa_cons (pe_callB (r := rLenQ K) call_len_seq (by rfl) G.len PySem.boot_len (pa_cons (pv 0) pa_nil)) pa_nil)))) pa_nil)))) (pss_one (ps_ret pe_bl)) pss_nil)
      (pss_one (ps_ret (pe_cmpR op_le (pe_callB cr_lenS (by rfl) G.len PySem.boot_len (pa_cons (pe_sc2 (own := [("state", 1), ("step", 2)]) (us := [2]) (wa := iTup K (tVar 0)) (wb := iTup K (tVar 1)) (te := tSl (rSlT K) (tVar 2) tNoPart (tPart (tC (V.int 2)))) rfl scSs.nd hu2 (pi_tup (pv 0)) (blkOk_by (N := nSs) (sc := defScope sStates) (by decide +kernel)) (by decide)
            (fun _ _ _ _ _ => pg_name (i := 1) scSs.nd rfl (Or.inl rfl)) (fun _ _ _ _ _ => pi_tup (pv 1)) (fun _ _ _ _ _ => pg_name (i := 2) scSs.nd rfl (Or.inl rfl)) (fun _ _ _ _ _ => pe_slice (r := rSlT K) sl_tup (pv 2) po_none (po_some pe_int))) pa_nil)) (pe_glob (v := .int 24) (by rfl) m24 ⟨_, rfl⟩) (nomark _))))), ?_⟩
    obtain ⟨xs, ha, hxs⟩ := hx.tup_of
    have len : xs.length = ss.length := by
      have z := hxs.len
      rwa [List.length_map] at z
    have l1 := so.one
    have l2 := so.most
    refine ⟨_, rfl, _, _, _, _, _, rfl, .ty "tuple", .base (.tup ha), kit_ty (a := "tuple") (b := "tuple") (r := true) (by decide +kernel), _, rfl, iteF ?_⟩
    refine ⟨_, rfl, a, _, rfl, .inr (SqT.of ha), _, _, rfl, rfl, _, rfl, ?_⟩
    rw [decide_eq_true (show (1 : Int) ≤ xs.length by omega)]
    refine iteT ⟨_, _, rfl, rfl, _, rfl, ?_⟩
    rw [decide_eq_true (show (xs.length : Int) ≤ 40 by omega)]
    refine iteF ?_
    refine ⟨_, rfl, a, rfl, ⟨_, SqT.of ha⟩, fun D hD => lc_tup (K := K) (a := a) (xs := xs) (fun i H2 => Same H H2 ∧ H2 D = some (.lst ((List.replicate i true).map V.bl))) ⟨same_new hD, upd_same⟩ (fun i H2 _ ⟨s2, _⟩ => SqT.of (s2 _ _ ha)) (fun i x H2 ex ⟨s2, d2⟩ => ?_) fun H2 ⟨s2, d2⟩ => ?_⟩
    · obtain ⟨d, ed, td⟩ := hxs.get ex
      rw [List.getElem?_map] at ed
      obtain ⟨st, ey, rfl⟩ := Option.map_eq_some_iff.mp ed
      obtain ⟨b, ys, rfl, _⟩ := td.ref_of
      have lt : i < ss.length := (List.getElem?_eq_some_iff.mp ey).1
      refine ⟨rfl, _, rfl, _, rfl, a, _, rfl, .inr (SqT.of (s2 _ _ ha)), b, st, ss.length, by rw [len]; rfl, td.to (Tup.of s2), so.all st (List.mem_of_getElem? ey), fun H3 s3 => ⟨_, s3 _ _ d2, ?_, same_at (s2.trans s3) hD, ?_⟩⟩
      · rw [List.length_map, List.length_replicate]
        exact small_lt (m := 40) (by omega)
      · rw [upd_same, List.replicate_succ', List.map_append]
        rfl
    · refine ⟨D, _, rfl, SqL.of d2, _, rfl, ?_⟩
      have e : ((List.replicate xs.length true).all id) = true := by simp
      rw [e]
      refine iteF ?_
      obtain ⟨es, e1, e2⟩ := so.evs
      refine ⟨_, rfl, a, rfl, ⟨_, SqT.of (s2 _ _ ha)⟩, ev_set (K := K) (P := P) (w := w) (o := some (V.ref a)) (Q := fun x H1 => rLenS P w [x] H1 fun y H2 => rI0 (fun i j => V.bl (decide (i ≤ j))) y (.int 24) H2 Q) (s2 _ _ ha) (hxs.to (Tup.of s2)) e1 e2 fun D2 H3 L s3 h1 h2 h3 h4 h5 => ⟨D2, L, rfl, h1, _, _, rfl, rfl, ?_⟩⟩
      show Q (V.bl (decide ((L.length : Int) ≤ 24))) H3
      rw [decide_eq_true (show (L.length : Int) ≤ 24 by omega)]
      exact k _ (s2.trans s3)
end
end My

-- ===== K14F =====
set_option Elab.async false
set_option linter.all false
set_option maxRecDepth 100000
set_option maxHeartbeats 4000000
namespace My
open PySem L2 PyProof.Rows PySem.Spec Kd
def DcW (ga : TG) (tk tv : TE) (vs : List Nat) (σ : L2.St) (Q : VK) (J : It) (H1 : Hp) : Prop := ∀ D, H1 D = none → ∃ W : Nat → Nat → Hp → Prop, (∃ m, W 0 m (upd H1 D (.dT []))) ∧ ∀ i m H2, W i m H2 →
  (J.stop i H2 ∧ Q (.ref D) H2) ∨ (J.go i H2 ∧ ∃ Nx : Hp → Prop, (∀ H3, Nx H3 → ∃ m', m' < m ∧ W (i + 1) m' H3) ∧ ∀ x H3, J.yld i H2 x H3 → ga x (wipe σ vs) H3 fun σ4 H4 => wipe σ4 vs = wipe σ vs ∧ tk σ4 H4 fun y H5 => tv σ4 H5 fun z H6 =>
    ∃ (kvs : List (List Key × V)) (k : List Key) (b : Addr), y = .ref b ∧ H6 b = some (.tup (k.map kV)) ∧ H6 D = some (.dT kvs) ∧ kvs.length < sizeLine ∧ Nx (upd H6 D (.dT (putK kvs k z))))
def mvOf (x : Stp) : List Key × V := (evK (evOf x), .int x.2.2)
theorem putK_new {kvs : List (List Key × V)} {k : List Key} {v : V} (h : ∀ p ∈ kvs, p.1 ≠ k) : putK kvs k v = kvs ++ [(k, v)] := by
  unfold putK
  rw [if_neg]
  intro z
  obtain ⟨p, m, e⟩ := List.any_eq_true.mp z
  exact h p m (of_decide_eq_true e)
theorem mv_dict {K : PySem.W.Frag} {o0 o1 : Option V} {b : Addr} {ys : List V} {st : List Stp} {H : Hp} (hb : H b = some (.tup ys)) (hy : TDs H ys (st.map stepD)) (asc : (st.map evOf).Pairwise evLt) (few : st.length ≤ 24) {Q : VK}
    (q : ∀ D H', Same H H' → H' D = some (.dT (st.map mvOf)) → Q (.ref D) H') :
    DcW (gTup K 3 (gCons (gName 2) (gCons (gName 3) (gCons (gName 4) gNil)))) (tTup (tCons (tVar 2) (tCons (tVar 3) tNil))) (tVar 4) [2, 3, 4] [o0, o1, none, none, none] Q (Itt K b) H := by
  intro D hD
  have len : ys.length = st.length := by
    have z := hy.len
    rwa [List.length_map] at z
  refine ⟨fun i m H2 => m = ys.length - i ∧ i ≤ ys.length ∧ Same H H2 ∧ H2 D = some (.dT ((st.take i).map mvOf)), ⟨_, rfl, Nat.zero_le _, same_new hD, by simp [upd_same]⟩, fun i m H2 ⟨em, le, s2, d2⟩ => ?_⟩
  subst em
  have hb2 := s2 _ _ hb
  rcases Nat.lt_or_ge i ys.length with lt | ge
  · obtain ⟨y, ey⟩ : ∃ y, ys[i]? = some y := ⟨_, List.getElem?_eq_getElem lt⟩
    obtain ⟨d, ed, td⟩ := hy.get ey
    rw [List.getElem?_map] at ed
    obtain ⟨x, ex, rfl⟩ := Option.map_eq_some_iff.mp ed
    obtain ⟨c, rfl, hc⟩ := step_of td
    refine .inr ⟨⟨ys, _, SqT.of hb2, ey⟩, fun H3 => Same H H3 ∧ H3 D = some (.dT ((st.take (i + 1)).map mvOf)), fun H3 ⟨s3, d3⟩ => ⟨_, by omega, rfl, lt, s3, d3⟩, fun v H3 yl => ?_⟩
    obtain ⟨eH, yv⟩ := yl
    have e0 : ys[i]? = some v := yv _ (SqT.of hb2)
    rw [ey] at e0
    cases e0
    subst eH
    have hc3 := s2 _ _ hc
    refine ⟨c, _, rfl, SqT.of hc3, rfl, _, _, rfl, _, _, rfl, _, _, rfl, rfl, rfl, ?_⟩
    refine ⟨_, rfl, _, rfl, by show 2 ≤ sizeLine; decide, fun p hp => ⟨_, rfl, (st.take i).map mvOf, evK (evOf x), p, rfl, upd_same, ?_, ?_, ?_, ?_⟩⟩
    · rw [upd_ne (ne_of_none d2 hp)]
      exact d2
    · rw [List.length_map, List.length_take]
      exact small_lt (m := 24) (by omega)
    · exact same_at (s2.trans (same_new hp)) hD
    · have tk : st.take (i + 1) = st.take i ++ [x] := by rw [List.take_succ, ex]; rfl
      rw [upd_same, tk, List.map_append, putK_new]
      · rfl
      · intro p hp e
        obtain ⟨z, hz, rfl⟩ := List.mem_map.mp hp
        have e2 : evOf z = evOf x := evK_inj e
        have nd := asc_nodup asc
        have sub : (st.take (i + 1)).map evOf = (st.map evOf).take (i + 1) := List.map_take
        have nd2 : ((st.take (i + 1)).map evOf).Nodup := by
          rw [sub]
          exact List.Pairwise.sublist (List.take_sublist _ _) nd
        rw [tk, List.map_append] at nd2
        exact (List.nodup_append.mp nd2).2.2 (evOf z) (List.mem_map.mpr ⟨z, hz, rfl⟩) (evOf x) (by simp) e2
  · have e : i = ys.length := by omega
    subst e
    rw [len, List.take_length] at d2
    exact .inl ⟨⟨ys, SqT.of hb2, Nat.le_refl _⟩, q D H2 s2 d2⟩
/-- the moves of a kind stand at m -/
def MovesAt (H : Hp) (m : Addr) (ss : List (List Stp)) : Prop := ∃ bs : List Addr, H m = some (.lst (bs.map V.ref)) ∧ bs.length = ss.length ∧ ∀ (i : Nat) (b : Addr) (st : List Stp), bs[i]? = some b → ss[i]? = some st → H b = some (.dT (st.map mvOf))
def spMoves : Sp := fun vs H Q _ => ∃ (a : Addr) (ss : List (List Stp)), vs = [.ref a] ∧ TD H (.ref a) (statesD ss) ∧ KOk ss ∧ ∀ m H', Same H H' → H m = none → MovesAt H' m ss → Q (.ref m) H'
def lcScope : Stmt → Scope
  | .FunctionDef _ _ [.Return (some (.ListComp _ _ sc _)) _] .. => sc
  | _ => { kind := .function, names := [], isGenerator := false, isCoroutine := false }
section
variable {P : Program} {w : World} {K : PySem.W.Frag} {mg : Str → Option Value} {base : Heap}
abbrev nMv : List Str := ["states", "state", "operation", "answer", "goal"]
theorem scMv : FnScope nMv ["states"] (defScope sMoves) := ⟨rfl, rfl, rfl, by decide +kernel, rfl, by decide +kernel, by decide +kernel⟩
theorem ok_moves {f : Addr} {fd : FuncData} (F : Fun K "moves_of" "moves_of" sMoves f fd) : FnOk P w K mg base CX0 1 f fd ["states"] spMoves := by
  refine F.ok scMv (fun vs H Q E h => ?_) (fun cdv A outer s H vs Q E hr h => ?_)
  · obtain ⟨a, ss, rfl, _⟩ := h
    rfl
  · obtain ⟨a, ss, rfl, hx, so, k⟩ := h
    have hu := hu_of hr
    have hu2 : (A.deeper (envOfC "moves_of" (defScope sMoves) s.heap.objs.size f cdv)).units + 2 < cLine := by have := hr.units; omega
    refine ⟨_, pss_one (ps_ret (pe_lc (own := [("state", 1)]) (g := gName 1) (tt := tYes) (te := tDcT (iTup K (tVar 1)) (gTup K 3 (gCons (gName 2) (gCons (gName 3) (gCons (gName 4) gNil)))) (tTup (tCons (tVar 2) (tCons (tVar 3) tNil))) (tVar 4) [2, 3, 4]) rfl scMv.nd (pi_tup (pv 0)) (blkOk_by (N := nMv) (sc := defScope sMoves) (by decide +kernel))
            (fun _ _ _ _ _ => pg_name (i := 1) scMv.nd rfl (Or.inl rfl)) (fun _ _ _ _ _ => pts_nil)
            (fun _ _ _ _ _ => pe_dcT (own := [("operation", 2), ("answer", 3), ("goal", 4)]) rfl scMv.nd hu2 (pi_tup (pv 1)) (blkOk_by (N := nMv) (sc := relS (lcScope sMoves) (defScope sMoves)) (by decide +kernel))
              (fun _ _ _ _ _ => pg_tup (by rfl) (pgs_cons (pg_name (i := 2) scMv.nd rfl (Or.inl rfl)) (pgs_cons (pg_name (i := 3) scMv.nd rfl (Or.inl rfl)) (pgs_cons (pg_name (i := 4) scMv.nd rfl (Or.inl rfl)) pgs_nil))))
              (fun _ _ _ _ _ => pe_tup (pa_cons (pv 2) (pa_cons (pv 3) pa_nil))) (fun _ _ _ _ _ => pv 4)))), ?_⟩
    obtain ⟨xs, ha, hxs⟩ := hx.tup_of
    have len : xs.length = ss.length := by
      have z := hxs.len
      rwa [List.length_map] at z
    have l2 := so.most
    refine ⟨_, rfl, a, rfl, ⟨_, SqT.of ha⟩, fun D hD => lc_tup (K := K) (a := a) (xs := xs) (fun i H2 => Same H H2 ∧ ∃ bs : List Addr, H2 D = some (.lst (bs.map V.ref)) ∧ bs.length = i ∧ ∀ (j : Nat) (b : Addr) (st : List Stp), bs[j]? = some b → ss[j]? = some st → H2 b = some (.dT (st.map mvOf)))
      ⟨same_new hD, [], upd_same, rfl, fun j b st e => by simp at e⟩ (fun i H2 _ ⟨s2, _⟩ => SqT.of (s2 _ _ ha)) (fun i x H2 ex ⟨s2, bs, d2, bl, hbs⟩ => ?_) fun H2 ⟨s2, bs, d2, bl, hbs⟩ => ?_⟩
    · obtain ⟨d, ed, td⟩ := hxs.get ex
      rw [List.getElem?_map] at ed
      obtain ⟨st, ey, rfl⟩ := Option.map_eq_some_iff.mp ed
      obtain ⟨b, ys, rfl, hb, hy⟩ := td.ref_of
      have lt : i < ss.length := (List.getElem?_eq_some_iff.mp ey).1
      have sto := so.all st (List.mem_of_getElem? ey)
      refine ⟨rfl, _, rfl, b, rfl, ⟨_, SqT.of (s2 _ _ hb)⟩, mv_dict (K := K) (o0 := some (V.ref a)) (o1 := some (V.ref b)) (Q := fun y H4 => ∃ acc, H4 D = some (.lst acc) ∧ acc.length < sizeLine ∧ Same H (upd H4 D (.lst (acc ++ [y]))) ∧ ∃ bs : List Addr, (upd H4 D (.lst (acc ++ [y]))) D = some (.lst (bs.map V.ref)) ∧ bs.length = i + 1 ∧ ∀ (j : Nat) (b : Addr) (st : List Stp), bs[j]? = some b → ss[j]? = some st → (upd H4 D (.lst (acc ++ [y]))) b = some (.dT (st.map mvOf)))
        (s2 _ _ hb) (hy.to (Tup.of s2)) sto.asc sto.few fun D2 H3 s3 d3 => ⟨_, s3 _ _ d2, ?_, same_at (s2.trans s3) hD, bs ++ [D2], ?_, ?_, fun j c sj ec es => ?_⟩⟩
      · rw [List.length_map]
        exact small_lt (m := 40) (by omega)
      · rw [upd_same, List.map_append]
        rfl
      · rw [List.length_append, bl]
        rfl
      · have at_ : H3 c = some (.dT (sj.map mvOf)) := by
          rcases Nat.lt_or_ge j bs.length with l | g
          · rw [List.getElem?_append_left l] at ec
            exact s3 _ _ (hbs j c sj ec es)
          · rw [List.getElem?_append_right g] at ec
            have ej : j - bs.length = 0 := by
              have z := (List.getElem?_eq_some_iff.mp ec).1
              simp at z
              omega
            have ej2 : j = i := by omega
            rw [ej] at ec
            have e2 : D2 = c := Option.some.inj ec
            rw [ej2, ey] at es
            rw [← Option.some.inj es, ← e2]
            exact d3
        rw [upd_ne fun z => by rw [z, s3 _ _ d2] at at_; cases at_]
        exact at_
    · exact k D H2 s2 hD ⟨bs, d2, by rw [bl, len], hbs⟩
end
end My

-- ===== K14G =====
set_option Elab.async false
set_option linter.all false
set_option maxRecDepth 100000
set_option maxHeartbeats 4000000
namespace My
open PySem L2 PyProof.Rows PySem.Spec Kd StX ClX
abbrev sKind : Stmt := top 23
abbrev sInit : Stmt := inClass sKind 0
abbrev sOf : Stmt := inClass sKind 1
abbrev sRead : Stmt := inClass sKind 2
abbrev sEq : Stmt := inClass sKind 3
abbrev sKtext : Stmt := inClass sKind 8
/-! ### C(*xs), C in a local name -/
section
variable {X : Cx} {CX : CXT} {k i : Nat} {f C : Addr} {sp : Sp} {E : XK} {x : PySem.Str} {e : Expr} {te : TE} {p sp_ pos : Pos}
theorem pe_makeL (M : Mk X.K C f) (F : FnR X.prog X.w X.K X.mg X.base CX k f sp) (hr : Room (k + 1) X.A) (hN : X.N[i]? = some x) (hv : Vis X.env.scope x) (hx : Passes CX X E) (he : PE X e te) (hdb : (x == ("__debug__" : PySem.Str)) = false := by decide) (hcd : (x == ("__classdict__" : PySem.Str)) = false := by decide)
    (hst : starEach [.Starred e sp_] X.env = [(true, eval e X.env)] := by rfl) :
    PE X (.Call (.Name x p) [.Starred e sp_] [] pos) (fun σ H Q => σ[i]? = some (some (.ref C)) ∧ te σ H fun y H1 => ∃ a xs, y = V.ref a ∧ (SqT X.K H1 a xs ∨ SqL X.K H1 a xs) ∧ ∀ o dx, H1 o = none → H1 dx = none → dx ≠ o →
      sp (V.ref o :: xs) (upd (upd H1 dx (.own o)) o (.ins C dx [])) (fun v H2 => v = .non ∧ Q (.ref o) H2) E) := by
  refine ⟨fun pins s σ H Q I h => ?_⟩
  obtain ⟨hs, ht⟩ := h
  refine wpAny_Call_Name_kw (thn ((pe_var (pos := p) hN hv hdb hcd).run pins s σ H (fun v H1 => v = .ref C ∧ H1 = H) I ⟨.ref C, hs, rfl, rfl⟩) fun u s1 ⟨v, H1, I1, r1, q1⟩ => ?_)
  obtain ⟨rfl, rfl⟩ := q1
  cases r1
  refine PySem.W.callWith_S (h₀ := X.base) I.ok.mod.kin M.kp (thn (he.run pins s1 σ _ _ I1 ht) fun w s2 ⟨y, H2, I2, ry, a, xs, ey, hxs, q⟩ => ?_) hst
  subst ey
  obtain rfl : w = Value.ref a := ry
  exact star_any I2 hxs fun us s3 I3 rv => ⟨I3.kIn, run_makeR M F hr hx I3 rv q⟩
end
/-! ### the class -/
def KindAt (C : Addr) (H : Hp) (v : V) (ss : List (List Stp)) : Prop := ∃ o dx a m, v = .ref o ∧ H o = some (.ins C dx [("states", .ref a), ("moves", .ref m)]) ∧ TD H (.ref a) (statesD ss) ∧ MovesAt H m ss
theorem MovesAt.same {H H' : Hp} {m : Addr} {ss : List (List Stp)} (s : Same H H') (h : MovesAt H m ss) : MovesAt H' m ss := by
  obtain ⟨bs, h1, h2, h3⟩ := h
  exact ⟨bs, s _ _ h1, h2, fun i b st e1 e2 => s _ _ (h3 i b st e1 e2)⟩
theorem KindAt.same {C : Addr} {H H' : Hp} {v : V} {ss : List (List Stp)} (s : Same H H') (h : KindAt C H v ss) : KindAt C H' v ss := by
  obtain ⟨o, dx, a, m, e, h1, h2, h3⟩ := h
  exact ⟨o, dx, a, m, e, s _ _ h1, h2.to (Tup.of s), h3.same s⟩
/-- as it was but for one address -/
def But (o : Addr) (H H' : Hp) : Prop := ∀ b u, H b = some u → b ≠ o → H' b = some u
def spInit (C : Addr) : Sp := fun vs H Q _ => ∃ (o t dx : Addr) (ss : List (List Stp)), vs = [.ref o, .ref t] ∧ H o = some (.ins C dx []) ∧ TD H (.ref t) (statesD ss) ∧ KOk ss ∧
  ∀ H' m, But o H H' → H' o = some (.ins C dx [("states", .ref t), ("moves", .ref m)]) → MovesAt H' m ss → Q .non H'
def spInitR (C : Addr) : Sp := fun vs H Q E => ∃ ws rest, vs = ws ++ rest ∧ ws.length = ["self"].length ∧ rest.length ≤ sizeLine ∧ ∀ p, H p = Option.none → spInit C (ws ++ [V.ref p]) (upd H p (.tup rest)) Q E
def spOf (C : Addr) : Sp := fun vs H Q _ => ∃ (a : Addr) (ss : List (List Stp)), vs = [.ref C, .ref a] ∧ TD H (.ref a) (statesD ss) ∧ KOk ss ∧ ∀ v H', Same H H' → KindAt C H' v ss → Q v H'
section
variable {P : Program} {w : World} {K : PySem.W.Frag} {mg : Str → Option Value} {base : Heap}
theorem scIn : FnScope ["self", "states"] ["self", "states"] (defScope sInit) := ⟨rfl, rfl, rfl, by decide +kernel, rfl, by decide +kernel, by decide +kernel⟩
theorem ok_init {f C fS fM : Addr} {fd fdS fdM : FuncData} (F : Fun K "__init__" "Kind.__init__" sInit f fd) (cl : Cls K C) (n1 : NoAttr K C "states") (n2 : NoAttr K C "moves")
    (GS : FnOk P w K mg base CX0 4 fS fdS ["thing"] spStates) (mS : mg "is_states" = some (.ref fS)) (kS : PySem.W.keepIn K (.ref fS) = true) (bS : Binds K fdS ["thing"] [])
    (GM : FnOk P w K mg base CX0 1 fM fdM ["states"] spMoves) (mM : mg "moves_of" = some (.ref fM)) (kM : PySem.W.keepIn K (.ref fM) = true) (bM : Binds K fdM ["states"] []) :
    FnR P w K mg base CX0 5 f (spInitR C) := by
  obtain ⟨oc, od, kV, doc, pm, an, cdv, ct, osl, rfl, lk, hcd⟩ := F.ex
  refine fn_star (ps := ["self"]) (pv := "states") (sp := spInit C) lk hcd scIn cxUp_none (bind_star1 (B := fun l => bindArgs (PySem.W.fnOf "__init__" "Kind.__init__" (defArgs sInit) (defBody sInit) (defScope sInit) .none kV doc pm an cdv ct) ⟨l, []⟩) (p1 := "self") (pv := "states") (fun a => rfl) (fun a r rs => rfl)) fun A outer s H vs Q E hr h => ?_
  obtain ⟨o, t, dx, ss, rfl, ho, hx, so, k⟩ := h
  refine ⟨_, PSs.nox (pss_cons (ps_if (pt_not (pt_val (pe_call GS hr (by rfl) mS kS bS .nil pass0 (pa_cons (pv 1) pa_nil)))) (pss_one ps_never) pss_nil)
      (pss_cons (ps_fld (pv 0) (pv 1) rfl) (pss_one (ps_fld (pv 0) (pe_call GM (hr.mono (by decide)) (by rfl) mM kM bM .nil pass0 (pa_cons (pv 1) pa_nil)) rfl)))), ?_⟩
  refine ⟨_, rfl, t, ss, rfl, hx, so, fun H1 s1 => ⟨true, rfl, iteF ?_⟩⟩
  refine ⟨_, rfl, _, rfl, o, C, dx, [], rfl, s1 _ _ ho, cl, n1, by decide, ?_⟩
  have tp : Tup H1 (upd H1 o (.ins C dx [("states", .ref t)])) := Tup.at_ (s1 _ _ ho) fun xs z => nomatch z
  refine ⟨_, rfl, t, ss, rfl, (hx.to (Tup.of s1)).to tp, so, fun m H3 s3 nm mv => ?_⟩
  have ho3 : H3 o = some (.ins C dx [("states", .ref t)]) := s3 _ _ upd_same
  refine ⟨_, rfl, o, C, dx, _, rfl, ho3, cl, n2, (by show (1 : Nat) < 1000; decide), ?_⟩
  refine k _ m (fun b u e ne => ?_) upd_same ?_
  · rw [upd_ne ne]
    exact s3 _ _ (by rw [upd_ne ne]; exact s1 _ _ e)
  · obtain ⟨bs, h1, h2, h3⟩ := mv
    have ne : ∀ {b : Addr} {u : HO}, H3 b = some u → (∀ C dx fs, u ≠ .ins C dx fs) → (upd H3 o (.ins C dx (putF "moves" (V.ref m) [("states", .ref t)]))) b = some u := fun {b u} e n => by
      rw [upd_ne fun z => by rw [z, ho3] at e; exact n _ _ _ (Option.some.inj e).symm]
      exact e
    exact ⟨bs, ne h1 (fun _ _ _ z => nomatch z), h2, fun i b st e1 e2 => ne (h3 i b st e1 e2) (fun _ _ _ z => nomatch z)⟩
theorem scOf : FnScope ["cls", "states"] ["cls", "states"] (defScope sOf) := ⟨rfl, rfl, rfl, by decide +kernel, rfl, by decide +kernel, by decide +kernel⟩
theorem ok_of {f C fI : Addr} {fd : FuncData} (F : Fun K "of" "Kind.of" sOf f fd) (G : Gs mg) (M : Mk K C fI) (FI : FnR P w K mg base CX0 5 fI (spInitR C)) : FnOk P w K mg base CX0 7 f fd ["cls", "states"] (spOf C) := by
  refine F.ok scOf (fun vs H Q E h => ?_) (fun cdv A outer s H vs Q E hr h => ?_)
  · obtain ⟨a, ss, rfl, _⟩ := h
    rfl
  · obtain ⟨a, ss, rfl, hx, so, k⟩ := h
    refine ⟨_, pss_cons (ps_if (pt_not (pt_val (pe_callB call_isi (by rfl) G.isi boot_isinstance (pa_cons (pv 1) (pa_cons (pe_bltn (v := .ty "tuple") (by rfl) G.tuple PyProof.Rows.boot_tuple rfl) pa_nil))))) (pss_one ps_never) pss_nil)
      (pss_one (ps_ret (pe_makeL (i := 0) M FI hr rfl (.inl rfl) pass0 (pv 1)))), ?_⟩
    obtain ⟨xs, ha, hxs⟩ := hx.tup_of
    have l2 := so.most
    have len : xs.length = ss.length := by
      have z := hxs.len
      rwa [List.length_map] at z
    refine ⟨_, rfl, _, _, _, _, _, rfl, .ty "tuple", .base (.tup ha), kit_ty (a := "tuple") (b := "tuple") (r := true) (by decide +kernel), _, rfl, iteF ?_⟩
    refine ⟨rfl, _, rfl, a, xs, rfl, .inl (SqT.of ha), fun o dx no nd ne => ?_⟩
    refine ⟨[.ref o], xs, rfl, rfl, small_len (m := 40) (by omega), fun p hp => ?_⟩
    have hp1 : p ≠ o := fun z => by
      rw [z, upd_same] at hp
      cases hp
    have hp2 : (upd H dx (.own o)) p = none := by
      rw [upd_ne hp1] at hp
      exact hp
    have hp3 : p ≠ dx := fun z => by
      rw [z, upd_same] at hp2
      cases hp2
    have hp0 : H p = none := by
      rw [upd_ne hp3] at hp2
      exact hp2
    have no1 : (upd H dx (.own o)) o = none := by
      rw [upd_ne (Ne.symm ne)]
      exact no
    have s0 : Same H (upd (upd (upd H dx (.own o)) o (.ins C dx [])) p (.tup xs)) := ((same_new nd).trans (same_new no1)).trans (same_new hp)
    refine ⟨o, p, dx, ss, rfl, by rw [upd_ne (Ne.symm hp1)]; exact upd_same, .tup upd_same (hxs.to (Tup.of s0)), so, fun H' m but ho mv => ⟨rfl, ?_⟩⟩
    have s1 : Same H H' := fun b u e => but b u (s0 b u e) (ne_of_none e no)
    refine k _ _ s1 ⟨o, dx, p, m, rfl, ho, .tup (but p _ upd_same hp1) ?_, mv⟩
    exact hxs.to (Tup.of s1)
end
end My

-- ===== KN1 =====
set_option Elab.async false
set_option linter.all false
set_option maxRecDepth 100000
set_option maxHeartbeats 4000000
namespace Kd
open PySem L2 PyProof.Rows PySem.Spec PySem.W
theorem paired_snocV {α β : Type} {R : α → β → Prop} {l : List α} {m : List β} {a : α} {b : β} (r : Paired R l m) (h : R a b) : Paired R (l ++ [a]) (m ++ [b]) := by
  induction r with
  | nil => exact .cons h .nil
  | cons x _ ih => exact .cons x ih
/-! ### dicts whose keys are nested tuples (of numbers, truth values, texts), their values anything -/
mutual
/-- v is the key k -/
inductive NqV (H : Hp) : V → NestedKey → Prop
  | num (i : Int) : NqV H (.int i) (.num i)
  | bool (b : Bool) : NqV H (.bl b) (.num (if b = true then 1 else 0))
  | text (x : Str) : NqV H (.str x) (.text x)
  | tup {a : Addr} {vs : List V} {ks : List NestedKey} : H a = some (.tup vs) → NqVs H vs ks → NqV H (.ref a) (.tup ks)
inductive NqVs (H : Hp) : List V → List NestedKey → Prop
  | nil : NqVs H [] []
  | cons {v : V} {vs : List V} {k : NestedKey} {ks : List NestedKey} : NqV H v k → NqVs H vs ks → NqVs H (v :: vs) (k :: ks)
end
mutual
theorem NqV.to {H H' : Hp} (s : ∀ a xs, H a = some (.tup xs) → H' a = some (.tup xs)) : ∀ {v : V} {k : NestedKey}, NqV H v k → NqV H' v k
  | _, _, .num i => .num i
  | _, _, .bool b => .bool b
  | _, _, .text x => .text x
  | _, _, .tup h1 h2 => .tup (s _ _ h1) (NqVs.to s h2)
theorem NqVs.to {H H' : Hp} (s : ∀ a xs, H a = some (.tup xs) → H' a = some (.tup xs)) : ∀ {vs : List V} {ks : List NestedKey}, NqVs H vs ks → NqVs H' vs ks
  | _, _, .nil => .nil
  | _, _, .cons h1 h2 => .cons (NqV.to s h1) (NqVs.to s h2)
end
section
variable {X : Cx} {pins : List (Addr × Obj)} {σ : L2.St} {H : Hp} {s : Shared}
mutual
theorem nq_is (I : Inv X pins σ H s) : ∀ (k : NestedKey) {v : V} {u : Value}, NqV H v k → RelV v u → NestedIs s.heap k u
  | .none, _, _, h, _ => by cases h
  | .num i, _, _, h, r => by
    cases h with
    | num i =>
      obtain ⟨t, rfl⟩ := r
      exact .int i t
    | bool b =>
      have e : _ = Value.bool b := r
      subst e
      exact .bool rfl
  | .text x, _, _, h, r => by
    cases h
    obtain ⟨t, rfl⟩ := r
    exact .text x t
  | .tup ks, _, _, h, r => by
    cases h with
    | tup h1 h2 =>
      cases r
      obtain ⟨_, its, rv, o, ho, hc, n, hd⟩ := (show ObjOk X.prog X.w H s.heap _ (.tup _) from I.hok _ _ h1)
      exact .tup ho hc hd (by simpa using nqs_are I ks h2 rv)
theorem nqs_are (I : Inv X pins σ H s) : ∀ (ks : List NestedKey) {vs : List V} {us : List Value}, NqVs H vs ks → Vals vs us → NestedAll s.heap ks us
  | [], _, _, h, r => by
    cases h
    cases r
    exact .nil
  | k :: ks, _, _, h, r => by
    cases h with
    | cons h1 h2 =>
      cases r with
      | cons r1 r2 => exact .cons (nq_is I k h1 r1) (nqs_are I ks h2 r2)
end
end
/-- a key, where its tuple stands, its value -/
abbrev VRow := NestedKey × Addr × V
def VRows (L : List VRow) (xs : List (NestedKey × Addr × Value)) : Prop := Paired (fun (p : VRow) x => p.1 = x.1 ∧ p.2.1 = x.2.1 ∧ RelV p.2.2 x.2.2) L xs
def VHeld (P : Program) (w : World) (a : Addr) (L : List VRow) (h : Heap) : Prop := ∃ (xs : List (NestedKey × Addr × Value)) (o : Obj) (es : Array DictEntry) (ep : Nat), h.get? a = some o ∧ o.ExactDict ∧ o.data = .dict es ep ∧ es.toList = xs.map (entryOfKey (nestedKind P w)) ∧ (xs.map (·.1)).Nodup ∧ VRows L xs ∧ (a == sysModules) = false ∧ L.length ≤ 1000
def VDict (P : Program) (w : World) (a : Addr) (L : List VRow) : HO := .ext (VHeld P w a L)
theorem vdict_ok {P : Program} {w : World} {H : Hp} {h : Heap} {a : Addr} {L : List VRow} (x : VHeld P w a L h) : ObjOk P w H h a (VDict P w a L) := by
  refine ⟨x, ?_, fun h1 h2 y k => ?_⟩
  · obtain ⟨_, o, _, _, ho, _⟩ := x
    exact ⟨o, ho⟩
  · obtain ⟨xs, o, es, ep, ho, r⟩ := y
    exact ⟨xs, o, es, ep, k o ho, r⟩
/-- the keys' tuples stand -/
def VKeys (H : Hp) (L : List VRow) : Prop := ∀ p ∈ L, NqV H (.ref p.2.1) p.1 ∧ p.1.depth ≤ 8
theorem VKeys.to {H H' : Hp} {L : List VRow} (s : ∀ a xs, H a = some (.tup xs) → H' a = some (.tup xs)) (k : VKeys H L) : VKeys H' L := fun p m => ⟨(k p m).1.to s, (k p m).2⟩
theorem VKeys.snoc {H : Hp} {L : List VRow} {k : NestedKey} {b : Addr} {v : V} (h : VKeys H L) (hk : NqV H (.ref b) k) (hd : k.depth ≤ 8) : VKeys H (L ++ [(k, b, v)]) := fun p m => by
  rcases List.mem_append.mp m with m | m
  · exact h p m
  · rw [List.mem_singleton.mp m]
    exact ⟨hk, hd⟩
def valW (L : List VRow) (k : NestedKey) : Option V := (L.find? fun p => decide (p.1 = k)).map (·.2.2)
theorem valW_none {L : List VRow} {k : NestedKey} : valW L k = none ↔ k ∉ L.map (·.1) := by
  unfold valW
  rw [Option.map_eq_none_iff, List.find?_eq_none]
  constructor
  · intro h m
    obtain ⟨p, hp, e⟩ := List.mem_map.mp m
    exact h p hp (decide_eq_true e)
  · intro h p hp e
    exact h (List.mem_map.mpr ⟨p, hp, of_decide_eq_true e⟩)
theorem valW_some {L : List VRow} {k : NestedKey} {v : V} (h : valW L k = some v) : ∃ b, (k, b, v) ∈ L := by
  unfold valW at h
  obtain ⟨p, hp, e⟩ := Option.map_eq_some_iff.mp h
  have h1 := List.mem_of_find?_eq_some hp
  have h2 : p.1 = k := of_decide_eq_true (by simpa using List.find?_some hp)
  exact ⟨p.2.1, by rw [← h2, ← e]; exact h1⟩
theorem valW_mem {L : List VRow} (nd : (L.map (·.1)).Nodup) {k : NestedKey} {b : Addr} {v : V} (h : (k, b, v) ∈ L) : valW L k = some v := by
  induction L with
  | nil => cases h
  | cons p L ih =>
    rw [List.map_cons, List.nodup_cons] at nd
    unfold valW
    rw [List.find?_cons]
    by_cases e : p.1 = k
    · rw [decide_eq_true e]
      rcases List.mem_cons.mp h with rfl | m
      · rfl
      · exact absurd (List.mem_map.mpr ⟨_, m, rfl⟩) (by rw [e] at nd; exact nd.1)
    · rw [decide_eq_false e]
      rcases List.mem_cons.mp h with rfl | m
      · exact absurd rfl e
      · exact ih nd.2 m
theorem valW_is {L : List VRow} {k : NestedKey} : (valW L k).isSome = decide (k ∈ L.map (·.1)) := by
  cases e : valW L k with
  | none => exact (decide_eq_false (valW_none.mp e)).symm
  | some v =>
    obtain ⟨b, m⟩ := valW_some e
    exact (decide_eq_true (List.mem_map.mpr ⟨_, m, rfl⟩)).symm
theorem rows_atV {L : List VRow} {xs : List (NestedKey × Addr × Value)} (r : VRows L xs) (k : NestedKey) : (∀ v, valW L k = some v → ∃ b u, atKey xs k = some (b, u) ∧ RelV v u) ∧ (valW L k = none → atKey xs k = none) := by
  unfold VRows at r
  induction r with
  | nil => exact ⟨fun i e => (nomatch (show (none : Option V) = some i from e)), fun _ => rfl⟩
  | @cons p x ps xs h t ih =>
    obtain ⟨h1, h2, h3⟩ := h
    unfold valW atKey at ih ⊢
    rw [List.find?_cons, List.find?_cons, ← h1]
    by_cases e : p.1 = k
    · rw [decide_eq_true e]
      refine ⟨fun i q => ?_, fun q => by cases q⟩
      have q2 : p.2.2 = i := Option.some.inj q
      exact ⟨x.2.1, x.2.2, rfl, by rw [← q2]; exact h3⟩
    · rw [decide_eq_false e]
      exact ih
section
variable {X : Cx} {pins : List (Addr × Obj)} {σ : L2.St} {H : Hp} {s : Shared}
theorem vheld_rd {a : Addr} {L : List VRow} (I : Inv X pins σ H s) (h : VHeld X.prog X.w a L s.heap) (ks : VKeys H L) : ∃ xs, s.heap.DictOfH (nestedKind X.prog X.w) a xs ∧ VRows L xs ∧ (a == sysModules) = false ∧ L.length ≤ 1000 := by
  obtain ⟨xs, o, es, ep, ho, hx, hd, he, hn, r, lo, few⟩ := h
  refine ⟨xs, ⟨o, es, ep, ho, hx, hd, he, fun x hx => ?_, hn⟩, r, lo, few⟩
  have all : ∀ {L : List VRow} {xs : List (NestedKey × Addr × Value)}, VRows L xs → VKeys H L → ∀ x ∈ xs, NestedIs s.heap x.1 (.ref x.2.1) ∧ x.1.depth ≤ 8 := by
    intro L xs r
    unfold VRows at r
    induction r with
    | nil => exact fun _ x m => nomatch m
    | @cons p y ps ys h t ih =>
      intro k x m
      rcases List.mem_cons.mp m with rfl | m
      · obtain ⟨h1, h2, _⟩ := h
        rw [← h1, ← h2]
        have q := k p List.mem_cons_self
        exact ⟨nq_is I _ q.1 rfl, q.2⟩
      · exact ih (fun q mq => k q (List.mem_cons_of_mem _ mq)) x m
  exact all r ks x hx
theorem vdict_rd {a : Addr} {L : List VRow} (I : Inv X pins σ H s) (ha : H a = some (VDict X.prog X.w a L)) (ks : VKeys H L) : ∃ xs, s.heap.DictOfH (nestedKind X.prog X.w) a xs ∧ VRows L xs ∧ (a == sysModules) = false ∧ L.length ≤ 1000 :=
  vheld_rd I (show VHeld X.prog X.w a L s.heap from (I.hok a _ ha).1) ks
theorem vheld_new {P : Program} {w : World} (h : Heap) (big : sysModules < h.objs.size) : VHeld P w h.objs.size [] (h.push { cls := .type "dict", data := .dict #[] }) :=
  ⟨[], _, #[], 0, Heap.get?_push_size _ rfl, ⟨rfl, rfl, rfl⟩, rfl, rfl, List.nodup_nil, .nil, beq_eq_false_iff_ne.mpr (Ne.symm (Nat.ne_of_lt big)), Nat.zero_le _⟩
theorem vheld_put {a b : Addr} {L : List VRow} {k : NestedKey} {v : V} {u : Value} {xs : List (NestedKey × Addr × Value)} {h' : Heap} {P : Program} {w : World} (rr : VRows L xs) (rv : RelV v u) (lo : (a == sysModules) = false) (hn : valW L k = none) (few : L.length < 1000)
    (D2 : h'.DictOfH (nestedKind P w) a (storedH xs k b u)) : VHeld P w a (L ++ [(k, b, v)]) h' := by
  rw [storedH_new ((rows_atV rr k).2 hn)] at D2
  obtain ⟨o2, es, ep, g1, g2, g3, g4, _, g5⟩ := D2
  refine ⟨xs ++ [(k, b, u)], o2, es, ep, g1, g2, g3, g4, g5, ?_, lo, by rw [List.length_append]; exact few⟩
  exact paired_snocV rr ⟨rfl, rfl, rv⟩
end
/-- {}, to be such a dict -/
def tDNewV (P : Program) (w : World) : TE := fun _ H Q => ∀ p, H p = none → Q (.ref p) (upd H p (VDict P w p []))
/-- k in d -/
def rInV (P : Program) (w : World) : R2 := fun x y H Q => ∃ b a k L, x = .ref b ∧ y = .ref a ∧ NqV H (.ref b) k ∧ k.depth ≤ 8 ∧ H a = some (VDict P w a L) ∧ VKeys H L ∧ Q (.bl (valW L k).isSome) H
/-- d[k] -/
def tGetV (P : Program) (w : World) (td ty : TE) : TE := fun σ H Q => td σ H fun x H1 => ty σ H1 fun y H2 => ∃ a b k L v, x = .ref a ∧ y = .ref b ∧ NqV H2 (.ref b) k ∧ k.depth ≤ 8 ∧ H2 a = some (VDict P w a L) ∧ VKeys H2 L ∧ valW L k = some v ∧ Q v H2
/-- d[k] = v, the key being new there -/
def sPutV (P : Program) (w : World) (td ty tv : TE) : TS := fun D σ H => tv σ H fun v H1 => td σ H1 fun x H2 => ty σ H2 fun y H3 => ∃ a b k L, x = .ref a ∧ y = .ref b ∧ NqV H3 (.ref b) k ∧ k.depth ≤ 8 ∧ H3 a = some (VDict P w a L) ∧ VKeys H3 L ∧ valW L k = none ∧ L.length < 1000 ∧
  D.nx σ (upd H3 a (VDict P w a (L ++ [(k, b, v)])))
/-- d.setdefault(k, x) -/
def tSetdV (P : Program) (w : World) (td ty tx : TE) : TE := fun σ H Q => td σ H fun x H1 => ∃ a L0, x = .ref a ∧ H1 a = some (VDict P w a L0) ∧ ty σ H1 fun y H2 => tx σ H2 fun z H3 => ∃ b k L, y = .ref b ∧ NqV H3 (.ref b) k ∧ k.depth ≤ 8 ∧ H3 a = some (VDict P w a L) ∧ VKeys H3 L ∧ L.length < 1000 ∧
  (∀ v, valW L k = some v → Q v H3) ∧ (valW L k = none → Q z (upd H3 a (VDict P w a (L ++ [(k, b, z)]))))
section
variable {X : Cx} {o i e f value : Expr} {pos pos' apos cpos : Pos} {td ty tv tx : TE}
theorem pe_dnewV : PE X (.Dict [] [] pos) (tDNewV X.prog X.w) := ⟨fun pins s σ H Q I h =>
  wpAny_Dict_empty ⟨.ref s.heap.objs.size, _, I.laid (a := s.heap.objs.size) (t' := s.toks) (fun _ _ q => Heap.get?_push_of_some _ q) (Nat.le_refl _)
    (vdict_ok (vheld_new s.heap I.big)), rfl, h _ (I.hok.fresh (Nat.le_refl _))⟩⟩
theorem roomV {X : Cx} (hu : X.A.units + 64 < cLine) : (nestedKind X.prog X.w).room X.A.in1 := (show X.A.in1.units + 8 < cLine by simp only [Around.in1]; omega)
theorem op_inV (hu : X.A.units + 64 < cLine) : OpR X (compareOp .In) (rInV X.prog X.w) := by
  intro pins s σ H x y v u Q I rx ry h
  obtain ⟨b, a, k, L, rfl, rfl, hk, hd, ha, ks, q⟩ := h
  cases (show v = Value.ref b from rx)
  cases (show u = Value.ref a from ry)
  obtain ⟨xs, D, r, lo, few⟩ := vdict_rd I ha ks
  refine wpAny_in_heap (roomV hu) ⟨nq_is I k hk rfl, hd⟩ lo D ⟨.bl (valW L k).isSome, H, I.tok _, ?_, q⟩
  have z := rows_atV r k
  cases e : valW L k with
  | none => rw [z.2 e]; rfl
  | some i =>
    obtain ⟨c, t, q, _⟩ := z.1 i e
    rw [q]
    rfl
theorem pe_getV (hu : X.A.units + 64 < cLine) (ho : PE X o td) (hi : PE X i ty) (hs : NoSl i) : PE X (.Subscript o i pos) (tGetV X.prog X.w td ty) := by
  refine ⟨fun pins s σ H Q I h => ?_⟩
  refine subD_of PySem.F.slot_dict_getitem.lookup hs (thn (ho.run pins s σ H _ I h) fun u s1 ⟨x, H1, I1, rx, q1⟩ => thn (hi.run pins s1 σ H1 _ I1 q1) fun iv s2 ⟨y, H2, I2, ry, a, b, k, L, j, ex, ey, hk, hd, ha, ks, hv, q2⟩ => ?_)
  subst ex ey
  obtain rfl : u = Value.ref a := rx
  obtain rfl : iv = Value.ref b := ry
  obtain ⟨xs, D, r, lo, few⟩ := vdict_rd I2 ha ks
  obtain ⟨c, t, q, rv⟩ := (rows_atV r k).1 j hv
  exact ⟨D.typeIs, wpAny_getItem_heap (roomV hu) ⟨nq_is I2 k hk rfl, hd⟩ D q ⟨j, H2, I2.tok _, rv, q2⟩⟩
theorem ps_putV (hu : X.A.units + 64 < cLine) (ho : PE X o td) (hi : PE X i ty) (hv : PE X value tv) (hs : swapsWith value (some (.Subscript o i pos')) pos.line X.env = pure false) :
    PS X (.Assign [.Subscript o i pos'] value pos) (sPutV X.prog X.w td ty tv) := by
  refine ⟨fun pins s σ H D I h => ?_⟩
  refine wpAny_Assign_Subscript (thn (hv.run pins s σ H _ I h) fun r s1 ⟨v, H1, I1, rv, q1⟩ => thn (ho.run pins s1 σ H1 _ I1 q1) fun u s2 ⟨x, H2, I2, rx, q2⟩ => thn (hi.run pins s2 σ H2 _ I2 q2) fun iv s3 ⟨y, H3, I3, ry, a, b, k, L, ex, ey, hk, hd, ha, ks, hn, few, q3⟩ => ?_) hs
  subst ex ey
  obtain rfl : u = Value.ref a := rx
  obtain rfl : iv = Value.ref b := ry
  obtain ⟨xs, Dd, rr, lo, _⟩ := vdict_rd I3 ha ks
  have lx : L.length = xs.length := Paired.length rr
  have big := sizeLine_eq
  refine wpAny_setItem_heap (hsz := by omega) (roomV hu) ⟨nq_is I3 k hk rfl, hd⟩ Dd fun h' D2 sb => ?_
  have VH := vheld_put rr rv lo hn few D2
  obtain ⟨_, o2, _, _, g1, _⟩ := id VH
  exact ⟨σ, _, d_write I3 (by rw [ha]; exact True.intro) sb ⟨o2, g1⟩ (vdict_ok VH), q3⟩
theorem pe_setdV (hu : X.A.units + 64 < cLine) (ho : PE X o td) (he : PE X e ty) (hf : PE X f tx) (m : M2 X o "setdefault" apos e f cpos) : PE X (.Call (.Attribute o "setdefault" apos) [e, f] [] cpos) (tSetdV X.prog X.w td ty tx) := by
  refine ⟨fun pins s σ H Q I h => ?_⟩
  refine wpAny_Call_method m.base m.few m.line PySem.F.plainAttrs_dict PySem.F.slot_dict_setdefault PySem.F.type_dict_setdefault (thn (ho.run pins s σ H _ I h) fun u s1 ⟨x, H1, I1, rx, a, L0, ex, d, q1⟩ => ?_)
  subst ex
  obtain rfl : u = Value.ref a := rx
  obtain ⟨_, o1, _, _, ho1, hx1, _⟩ := (show VHeld X.prog X.w a L0 s1.heap from (I1.hok a _ d).1)
  refine ⟨⟨o1, ho1, hx1.1⟩, (fun b z => by cases z; exact ⟨o1, ho1, hx1.2.1⟩), ?_⟩
  rw [m.trees]
  refine Calls.callWith_builtin rfl (Calls.evalArgs_plain (Calls.spliced_cons (thn (he.run pins s1 σ H1 _ I1 q1) fun iv s2 ⟨y, H2, I2, ry, q2⟩ =>
    Calls.spliced_cons (thn (hf.run pins s2 σ H2 _ I2 q2) fun fv s3 ⟨z, H3, I3, rz, b, k, L, ey, hk, hd, ha, ks, few, q3, q4⟩ => Calls.spliced_nil ?_))))
  subst ey
  obtain rfl : iv = Value.ref b := ry
  obtain ⟨xs, Dd, rr, lo, _⟩ := vdict_rd I3 ha ks
  have lx : L.length = xs.length := Paired.length rr
  have big := sizeLine_eq
  refine call_setdefault_heap (hsz := by omega) (roomV hu) ⟨nq_is I3 k hk rfl, hd⟩ lo Dd (fun p hp => ?_) fun hn h' D2 sb => ?_
  · cases ev : valW L k with
    | none => rw [(rows_atV rr k).2 ev] at hp; cases hp
    | some v =>
      obtain ⟨c, t, q, rv⟩ := (rows_atV rr k).1 v ev
      rw [q] at hp
      cases hp
      exact ⟨v, H3, I3.tok _, rv, q3 v ev⟩
  · have ev : valW L k = none := by
      cases ev : valW L k with
      | none => rfl
      | some v =>
        obtain ⟨c, t, q, rv⟩ := (rows_atV rr k).1 v ev
        rw [q] at hn
        cases hn
    have VH := vheld_put rr rz lo ev few D2
    obtain ⟨_, o2, _, _, g1, _⟩ := id VH
    exact ⟨z, _, d_write I3 (by rw [ha]; exact True.intro) sb ⟨o2, g1⟩ (vdict_ok VH), rz, q4 ev⟩
end
/-! ### its values, walked -/
section
variable {X : Cx} {pins : List (Addr × Obj)} {σ : L2.St} {H : Hp} {s : Shared} {d : Addr} {o : Obj}
theorem frz_valsV {P : Program} {w : World} {kvs : List VRow} (I : Inv X pins σ H s) (h : H d = some (.frz o (VDict P w d kvs))) :
    s.heap.get? d = some o ∧ o.ExactDict ∧ (d == sysModules) = false ∧ ∃ (es : Array DictEntry) (ep : Nat), o.data = .dict es ep ∧ es.size = kvs.length ∧ ∀ (i : Nat) (p : VRow), kvs[i]? = some p → ∃ en : DictEntry, es[i]? = some en ∧ RelV p.2.2 en.val := by
  obtain ⟨hd, hv, _⟩ := I.hok d _ h
  obtain ⟨xs, o', es, ep, ho, hx, hdt, he, _, pr, lo, _⟩ := (show VHeld P w d kvs s.heap from hv)
  rw [hd] at ho
  cases ho
  refine ⟨hd, hx, lo, es, ep, hdt, ?_, fun i p e => ?_⟩
  · have l1 : es.size = xs.length := size_of_entries he
    have l2 : kvs.length = xs.length := Paired.length pr
    omega
  · obtain ⟨b, hb, _, _, e3⟩ := paired_get pr e
    have q := entry_at he i
    rw [hb] at q
    exact ⟨_, q, e3⟩
end
/-- the values, in their order -/
def ItdV (P : Program) (w : World) (d : Addr) (o : Obj) (kvs : List VRow) : It :=
  ⟨fun i H => H d = some (.frz o (VDict P w d kvs)) ∧ i < kvs.length, fun i H x H' => H' = H ∧ ∃ p, kvs[i]? = some p ∧ x = p.2.2, fun i H => H d = some (.frz o (VDict P w d kvs)) ∧ kvs.length = i⟩
theorem turn_valsV {P : Program} {w : World} {K : Frag} {tg : Expr} {d : Addr} {o : Obj} {es : Array DictEntry} {ep : Nat} {kvs : List VRow} (it : Addr) (ni : d ≠ it) (hod : o.data = .dict es ep) (hz : es.size = kvs.length) :
    Turn P w K tg (ItdV P w d o kvs) [it] it (fun i h => h.IsValIter it d i es.size ep) where
  mem := by simp
  obj := fun i h st b hb => by
    have e : b = it := by simpa using hb
    subst e
    obtain ⟨oi, e, _, dd⟩ := st
    exact ⟨oi, e, fun v z => by rw [dd] at z; cases z⟩
  keep := fun i h h' st k => st.at fun oi e => k it (by simp) oi e
  item := by
    intro X hP hw hK hc i pins s σ H E I hf st hg
    subst hP hw hK
    obtain ⟨hd, hi⟩ := hg
    obtain ⟨f0, f1, f2, f3, f4, f5⟩ := hf it (by simp)
    obtain ⟨hgd, hx, lo, es', ep', hdt, hsz, ent⟩ := frz_valsV I hd
    obtain ⟨rfl, rfl⟩ := dict_ep hod hdt
    obtain ⟨p, hkv⟩ : ∃ p, kvs[i]? = some p := ⟨kvs[i], List.getElem?_eq_getElem hi⟩
    obtain ⟨en, hen, rv⟩ := ent i p hkv
    have W := Walks.rawValues (prog := X.prog) (w := X.w) (I.ok.hd hc) it d ni es' ep'
    refine W.item i s _ _ (by omega) ⟨st, o, hgd, hx, hdt⟩ fun u h' tk hu st' kk => ?_
    obtain ⟨lt, rfl⟩ := hu
    have eu : en = es'[i] := by
      rw [Array.getElem?_eq_getElem lt] at hen
      exact (Option.some.inj hen).symm
    subst eu
    have I1 : Inv X pins σ H { s with heap := h', toks := tk } := I.turned (fun b o hb e => kk b o (by simpa using hb) e) f0 f1 f3 f4 f5
    obtain ⟨oi, e, c, dd⟩ := id st'.1
    exact ⟨_, rfl, go_of (s := { s with heap := h', toks := tk }) e c dd (by decide) ⟨p.2.2, H, I1, rv, ⟨rfl, p, hkv, rfl⟩, st'.1, fun b hb => (hf b hb).1⟩⟩
  done := by
    intro X hP hw hK hc i pins s σ H E I hf st hg
    subst hP hw hK
    obtain ⟨hd, hi⟩ := hg
    obtain ⟨f0, f1, f2, f3, f4, f5⟩ := hf it (by simp)
    obtain ⟨hgd, hx, lo, es', ep', hdt, hsz, ent⟩ := frz_valsV I hd
    obtain ⟨rfl, rfl⟩ := dict_ep hod hdt
    have W := Walks.rawValues (prog := X.prog) (w := X.w) (I.ok.hd hc) it d ni es' ep'
    have e : i = es'.size := by omega
    subst e
    exact W.done s _ _ ⟨st, o, hgd, hx, hdt⟩ fun h' tk eb => ⟨rfl, I.turned (fun b o hb q => eb b o (by simpa using hb) q) f0 f1 f3 f4 f5⟩
  self := fun A i s Q E st h => wpAny_pyIter_valiter st h
/-- the dict is locked (tLock, or by the caller) -/
def iValsV (P : Program) (w : World) (td : TE) : TI := fun σ H R => td σ H fun x H1 => ∃ d o kvs, x = .ref d ∧ H1 d = some (.frz o (VDict P w d kvs)) ∧ R (ItdV P w d o kvs) H1
theorem walk_valsV {P : Program} {w : World} {d : Addr} {o : Obj} {kvs : List VRow} : Walk (ItdV P w d o kvs) kvs.length (fun H => H d = some (.frz o (VDict P w d kvs))) (fun i H x H' => H' = H ∧ ∃ p, kvs[i]? = some p ∧ x = p.2.2) :=
  ⟨fun _ _ hi q => ⟨q, hi⟩, fun _ q => ⟨q, rfl⟩, fun _ _ _ _ _ _ y => y⟩
section
variable {X : Cx} {tg e : Expr} {td : TE} {apos cpos : Pos}
theorem pi_valuesV (he : PE X e td) (hbase : attributeBase e "values" X.env (eval e X.env) = eval e X.env := by rfl) (hline : (apos.endLine == cpos.line) = true := by rfl) : PI X tg (.Call (.Attribute e "values" apos) [] [] cpos) (iValsV X.prog X.w td) := by
  refine ⟨fun pins s σ H R I h => ?_⟩
  refine wpAny_Call_method (T := "dict") (id := "dict.values") hbase rfl hline F.plainAttrs_dict F.slot_dict_values F.type_dict_values (thn (he.run pins s σ H _ I h) fun u s1 ⟨x, H1, I1, rx, d, o, kvs, ex, hd, q⟩ => ?_)
  subst ex
  obtain rfl : u = Value.ref d := rx
  obtain ⟨hgd, hx, lo, es, ep, hdt, hsz, ent⟩ := frz_valsV I1 hd
  have raw : s1.heap.DictRaw d es ep := ⟨o, hgd, hx, hdt⟩
  have ty : s1.TypeIs (.ref d) "dict" := ⟨o, hgd, hx.1⟩
  refine ⟨ty, (fun b z => by cases z; exact ⟨o, hgd, hx.2.1⟩), ?_⟩
  have I2 : Inv X pins σ H1 { s1 with heap := s1.heap.push { cls := .type "dict_values", data := .fields #[.ref d] } } := I1.kept (t' := s1.toks) fun b ob z => Heap.get?_push_of_some _ z
  have lt : d < s1.heap.objs.size := Heap.lt_size hgd
  have fin : wpAny (model X.prog X.w) X.A (pyIter (.ref s1.heap.objs.size)) (PIE X pins σ tg R) X.xe { s1 with heap := s1.heap.push { cls := .type "dict_values", data := .fields #[.ref d] } } := by
    refine wpAny_pyIter_values_raw (d := d) ⟨_, Heap.get?_push_size _ rfl, rfl, rfl⟩ (raw.push _) (pi_one (tk := s1.toks) I2 _ (turn_valsV _ (Nat.ne_of_lt (by show d < (s1.heap.push _).objs.size; rw [Heap.size_push]; exact Nat.lt_succ_of_lt lt)) hdt hsz) ⟨_, Heap.get?_push_size _ rfl, rfl, rfl⟩ q)
  show wpAny _ _ (callWith cpos (.builtin "dict.values") [.ref d] [] []) _ X.xe s1
  exact method_meetsIn F.slot_dict_values F.entry_dict_values rfl (PySem.evalArgs_none ⟨rfl, ty, F.args_dict_values_1 _, _, meets_dict_values_raw d lo, ⟨es, ep, raw⟩, fin⟩)
end
end Kd

-- ===== KN2 =====
set_option Elab.async false
set_option linter.all false
set_option maxRecDepth 100000
set_option maxHeartbeats 4000000
namespace Kd
open PySem L2 PyProof.Rows PySem.Spec PySem.W
section
variable {X : Cx} {CX : CXT} {k : Nat} {f : Addr} {fd : FuncData} {ps ks : List Str} {sp : Sp} {x : Str} {p pos : Pos} {tk : TA} {E : XK} {kws : List Keyword} {g : List Value → List Value → List Value} {gV : List V → List V → List V}
/-- f(k = v, ..), nothing by position -/
theorem pe_callK0 (F : FnOk X.prog X.w X.K X.mg X.base CX k f fd ps sp) (hr : Room k X.A) (hg : Gl X x) (hm : X.mg x = some (.ref f)) (hk : PySem.W.keepIn X.K (.ref f) = true) (hb : KBinds X.K fd ps ks g gV) (hx : Passes CX X E)
    (hkw : PK X kws tk) (hall : (backToKw pos (keywordEach kws X.env)).all (·.1.isSome) = true := by rfl) (hks : (backToKw pos (keywordEach kws X.env)).filterMap (·.1) = ks := by rfl)
    (hdb : (x == ("__debug__" : Str)) = false := by decide)
    (hpl : ((backTo pos (starEach [] X.env)).any (·.1) || (backToKw pos (keywordEach kws X.env)).any (·.1.isNone)) = false := by rfl) :
    PE X (.Call (.Name x p) [] kws pos) (tCallK sp gV E tNil tk) := by
  refine ⟨fun pins s σ H Q I h => ?_⟩
  refine wpAny_Call_Name_kw (ld_glob I hg hm ?_ hdb)
  refine PySem.W.callWith_KW0 (h₀ := X.base) I.ok.mod.kin hk hall (thn (hkw.run pos pins s σ H _ I h) fun ws s2 ⟨zs, H2, I2, rz, q2⟩ => ⟨I2.kIn, ?_⟩) hpl
  rw [hks]
  exact run_fnk F hr hb hx I2 (us := []) (vs := []) .nil rz q2
end
section
variable {X : Cx}
/-- x in t, t a tuple of data -/
def rInDT (K : PySem.W.Frag) : R2 := fun x y H Q => ∃ d ds, Dp K H x d ∧ Dp K H y (.tuple ds) ∧ SeqAt.shaped d = true ∧ SeqAt.shaped (.tuple ds) = true ∧ Q (.bl (ds.any fun z => PyData.eqv z d)) H
theorem op_inDT (hu : X.A.units + 65 < cLine) : OpR X (compareOp .In) (rInDT X.K) := by
  intro pins s σ H x y v u Q I rx ry h
  obtain ⟨d, ds, hd, he, sd, se, q⟩ := h
  obtain ⟨as, r1⟩ := Dp.reads I d x v hd rx
  obtain ⟨bs, r2⟩ := Dp.reads I (.tuple ds) y u he ry
  exact SeqAt.in_tuple_reads r2 r1 (SeqAt.canLay_of_shaped se) (SeqAt.canLay_of_shaped sd) (room_in_shaped sd hu) ⟨.bl _, H, I, rfl, q⟩
/-- a list times an int; the new list is none of the model's own -/
def rRepL : R2 := fun x y H Q => ∃ l k xs, x = .ref l ∧ y = .int k ∧ H l = some (.lst xs) ∧ -(2 ^ 63) ≤ k ∧ k < 2 ^ 63 ∧ xs.length * k.toNat ≤ sizeLine ∧
  ∀ p, H p = none → sysModules < p → Q (.ref p) (upd H p (.lst (List.replicate k.toNat xs).flatten))
theorem op_repL : OpR X (binaryOp .Mult) rRepL := by
  intro pins s σ H x y v u Q I rx ry h
  obtain ⟨l, k, xs, rfl, rfl, hH, h1, h2, hz, q⟩ := h
  cases rx
  obtain ⟨t, rfl⟩ := ry
  obtain ⟨z, its, n, r, hl, e⟩ := I.lstM hH
  have hlen : its.toArray.size * k.toNat ≤ sizeLine := by rw [List.size_toArray, ← hl]; exact hz
  have hcap : ¬ its.toArray.size * k.toNat > (2 ^ 63 - 1) / 8 := by
    have : (sizeLine : Nat) ≤ (2 ^ 63 - 1) / 8 := by decide
    omega
  have hfit : ¬ (!Builtin.List.listFitsIndex k) = true := by
    rw [fitsIndex_both h1 h2]
    exact Bool.false_ne_true
  have hlong : ¬ Builtin.List.listTooLong (its.toArray.size * k.toNat) = true := by
    rw [notLongL hlen]
    exact Bool.false_ne_true
  have hnew : List.foldl (fun x1 x2 => x1 ++ x2) #[] (List.replicate (if its.toArray.isEmpty = true then 0 else k.toNat) its.toArray) = (List.replicate k.toNat its).flatten.toArray := by
    have f0 : ∀ m : Nat, List.foldl (fun x1 x2 => x1 ++ x2) #[] (List.replicate m its.toArray) = (List.replicate m its).flatten.toArray := fun m => by
      have := foldl_rep its m []
      rw [List.nil_append] at this
      exact this
    rw [f0]
    cases its with
    | nil => simp
    | cons a r' => rw [if_neg (by simp)]
  refine wpAny_binaryOp_repeat_ref (T := "list") (U := "int") (by decide) ⟨_, e, rfl⟩ (fun s' => typeIs_int s' k t) noFill_list_mul F.fills_int_mul F.slot_int_rmul repeat_list F.slot_int_index.lookup
    (call_meets F.slot_int_rmul (typeIs_int s k t) F.entry_int_rmul (F.args_int_rmul_2 _ _) (int___rmul___int_list k t l its.toArray n)
      ⟨e, rfl, ⟨_, e, rfl⟩, call_meets F.slot_list_mul ⟨_, e, rfl⟩ F.entry_list_mul (F.args_list_mul_2 _ _) (AutoListH.list___mul___list_int_3 l its.toArray n k t hfit hcap hlong) ⟨e, ?_⟩⟩)
  rw [hnew]
  exact ⟨.ref _, _, I.lnew (t' := s.toks) (r.rep k.toNat) (by rw [PyProof.Rows.lm_len_rep_flat, Nat.mul_comm]; exact hz), rfl, q _ I.fresh I.big⟩
end
/-- what is read off stands -/
theorem reads_in {h : Heap} {v : Value} {d : PyData} {as : List Addr} (r : Reads h v d as) : ∀ a ∈ as, ∃ o, h.get? a = some o :=
  Reads.rec (motive_1 := fun _ _ as _ => ∀ a ∈ as, ∃ o, h.get? a = some o) (motive_2 := fun _ _ as _ => ∀ a ∈ as, ∃ o, h.get? a = some o)
    (fun a m => nomatch m) (fun _ a m => nomatch m) (fun _ _ a m => nomatch m) (fun _ _ a m => nomatch m)
    (fun ho _ _ _ ih a m => by
      rcases List.mem_cons.mp m with e | m
      · exact ⟨_, by rw [e]; exact ho⟩
      · exact ih a m)
    (fun _ _ _ _ ih a m => ih a m)
    (fun ho _ _ _ _ ih1 ih2 a m => by
      rcases List.mem_append.mp m with m | m
      · rcases List.mem_cons.mp m with e | m
        · exact ⟨_, by rw [e]; exact ho⟩
        · exact ih1 a m
      · exact ih2 a m)
    (fun a m => nomatch m)
    (fun _ _ ih1 ih2 a m => by
      rcases List.mem_append.mp m with m | m
      · exact ih1 a m
      · exact ih2 a m) r
/-! ### sorted(xs), xs a list or a tuple of data -/
/-- items told with the data that they are -/
def DpRows {β : Type} (enc : β → PyData) (K : PySem.W.Frag) (H : Hp) (L : List (Addr × β)) : Prop := ∀ q ∈ L, Dp K H (.ref q.1) (enc q.2)
def rSortX {β : Type} (enc : β → PyData) (K : PySem.W.Frag) : List V → Hp → VK → Prop := fun vs H Q => ∃ (a : Addr) (L : List (Addr × β)), vs = [V.ref a] ∧ (SqL K H a (L.map fun q => V.ref q.1) ∨ SqT K H a (L.map fun q => V.ref q.1)) ∧ DpRows enc K H L ∧ AllAlike (L.map fun q => enc q.2) ∧ Sortable (L.map fun q => enc q.2) ∧ (∀ q ∈ L, (enc q.2).depth ≤ 60) ∧ L.length ≤ 100000 ∧
  ∀ p, H p = none → Q (.ref p) (upd H p (.lst ((L.mergeSort (dataLe false fun q => enc q.2)).map fun q => V.ref q.1)))
section
variable {X : Cx} {β : Type} {enc : β → PyData}
theorem refs_of : ∀ {L : List (Addr × β)} {us : List Value}, Vals (L.map fun q => V.ref q.1) us → us = L.map fun q => Value.ref q.1
  | [], _, .nil => rfl
  | q :: ks, _, .cons r t => by
    cases r
    rw [refs_of t]
    rfl
theorem refs_are : ∀ (L : List (Addr × β)), Vals (L.map fun q => V.ref q.1) (L.map fun q => Value.ref q.1)
  | [] => .nil
  | q :: ks => .cons rfl (refs_are ks)
theorem cr_sortX (hu : X.A.units + 80 < cLine) : CallR X (.builtin "sorted") (rSortX enc X.K) := by
  intro pins s σ H vs us Q I r h
  obtain ⟨a, L, rfl, hl, hk, al, so, dp, sz, q⟩ := h
  rw [Vals.ref1 r]
  have big := sizeLine_eq
  have each : ∀ (R : Value → Addr × β → Prop) (M : List (Addr × β)), (∀ q ∈ M, R (.ref q.1) q) → EachIs R (M.map fun q => Value.ref q.1) M := by
    intro R M
    induction M with
    | nil => exact fun _ => .nil
    | cons x M ih => exact fun g => .cons (g x List.mem_cons_self) (ih fun y m => g y (List.mem_cons_of_mem _ m))
  have eout : ∀ {o : List Value} {M : List (Addr × β)}, EachIs (fun v q => v = Value.ref q.1) o M → o = M.map fun q => Value.ref q.1 := by
    intro o M z
    induction z with
    | nil => rfl
    | cons e _ ih => rw [e, ih]; rfl
  have rd : ∀ q ∈ L, ∃ as, Reads s.heap (.ref q.1) (enc q.2) as := fun q m => Dp.reads I (enc q.2) (.ref q.1) (.ref q.1) (hk q m) rfl
  have lz : ((L.mergeSort (dataLe false fun q => enc q.2)).map fun q => V.ref q.1).length ≤ sizeLine := by
    rw [List.length_map, List.length_mergeSort]
    omega
  rcases hl with hl | hl
  · obtain ⟨its, rv, il, _⟩ := I.list hl
    have ei := refs_of rv
    subst ei
    refine sorted_data (R := fun v q => v = Value.ref q.1) (enc := fun q : Addr × β => enc q.2) (bs := L) il.isList (each _ L fun q _ => rfl) (each _ L rd) al so (by omega) (fun b m => by have z := dp b m; omega) fun out lo eo => ?_
    have eo' := eout eo
    subst eo'
    obtain ⟨ep, he⟩ := PyProof.Rows.sortedAll_at s.heap (L.map fun q => Value.ref q.1) (((L.mergeSort (dataLe false fun q => enc q.2)).map fun q => Value.ref q.1).toArray)
    exact ⟨.ref _, upd H (s.heap.objs.size + 1) (.lst ((L.mergeSort (dataLe false fun q => enc q.2)).map fun q => V.ref q.1)), I.laid (t' := s.toks) (fun _ _ => PyProof.Rows.sortedAll_old) (Nat.le_succ _) ⟨lz, _, ep, refs_are _, he⟩, rfl, q _ (I.hok.fresh (Nat.le_succ _))⟩
  · obtain ⟨its, rv, ⟨o, ho, hc, n, hd⟩, _⟩ := I.tuple hl
    have ei := refs_of rv
    subst ei
    refine Calls.call_function_entry kind_sorted plain_sorted entry_sorted (args_sorted1 _) ?_
    unfold Builtin.«sorted»
    refine wpAny_bind (m := checkCount "sorted" 1 1 _) (wpAny_pure ?_)
    refine wpAny_bind (wpAny_collect_seq (A := X.A.in1) a (.inr rfl) ho hc hd (hsz := by rw [List.size_toArray, List.length_map]; omega) fun h' hk' => ?_)
    have I1 : Inv X pins σ H { s with heap := h' } := I.kept (t' := s.toks) hk'
    rw [show (L.map fun q => Value.ref q.1).toArray.toList = L.map fun q => Value.ref q.1 by simp]
    refine wpAny_bind (wpAny_newList ?_ (by rw [List.length_map]; omega))
    have oL : (h'.push (seqObj "list" (L.map fun q => Value.ref q.1).toArray 0)).get? h'.objs.size = some (seqObj "list" (L.map fun q => Value.ref q.1).toArray 0) := Heap.get?_push_size _ rfl
    have al' : ∀ q ∈ L, ∃ as, Reads (h'.push (seqObj "list" (L.map fun q => Value.ref q.1).toArray 0)) (.ref q.1) (enc q.2) as ∧ h'.objs.size ∉ as := fun q m => by
      obtain ⟨as, r1⟩ := Dp.reads I1 (enc q.2) (.ref q.1) (.ref q.1) (hk q m) rfl
      refine ⟨as, PyProof.Rows.Reads.keeps (fun b u e => Heap.get?_push_of_some _ e) r1, fun z => ?_⟩
      obtain ⟨o2, e2⟩ := reads_in r1 _ z
      exact absurd (Heap.lt_size e2) (Nat.lt_irrefl _)
    refine wpAny_bind (wpAny_holding (list_sort_data (s := { s with heap := h'.push (seqObj "list" (L.map fun q => Value.ref q.1).toArray 0) }) (R := fun v q => v = Value.ref q.1) (enc := fun q : Addr × β => enc q.2) (bs := L) oL (each _ L fun q _ => rfl)
      (each _ L al') al so (by omega) (fun b m => by have z := dp b m; have y : X.A.in1.units ≤ X.A.units + 1 := (by simp only [Around.in1]; omega); omega) fun out lo eo => ?_))
    have eo' := eout eo
    subst eo'
    obtain ⟨c, hc2⟩ := sortedHeap_at (vs := L.map fun q => Value.ref q.1) (out := (List.toArray ((L.mergeSort (dataLe false fun q => enc q.2)).map fun q => Value.ref q.1))) oL
    have kp2 : ∀ b u, h'.get? b = some u → (sortedHeap (h'.push (seqObj "list" (L.map fun q => Value.ref q.1).toArray 0)) h'.objs.size (L.map fun q => Value.ref q.1) (List.toArray ((L.mergeSort (dataLe false fun q => enc q.2)).map fun q => Value.ref q.1))).get? b = some u := fun b u z => by
      have lt := Heap.lt_size z
      rw [sortedHeap_old (Nat.ne_of_lt lt) (by rw [size_push']; exact Nat.lt_succ_of_lt lt)]
      exact Heap.get?_push_of_some _ z
    refine wpAny_pure ⟨_, rfl, ?_⟩
    exact ⟨.ref h'.objs.size, upd H h'.objs.size (.lst ((L.mergeSort (dataLe false fun q => enc q.2)).map fun q => V.ref q.1)), I1.laid (t' := s.toks) kp2 (Nat.le_refl _) ⟨lz, _, c, refs_are _, hc2⟩, rfl, q _ (I1.hok.fresh (Nat.le_refl _))⟩
/-- what is sorted, without the places -/
theorem sort_snd (L : List (Addr × β)) : (L.mergeSort (dataLe false fun q => enc q.2)).map Prod.snd = (L.map Prod.snd).mergeSort (dataLe false enc) := List.map_mergeSort fun _ _ _ _ => rfl
end
/-! ### {k: v for ..}, the keys nested tuples, each new -/
/-- in each block of a comprehension -/
abbrev BlksV (X : Cx) (scope : Scope) (p : Cx → Prop) : Prop := ∀ (s : Shared) (H : Hp) (C : Addr) (cl : List (PySem.Str × Addr)) (fp : List Addr), p (X.blk s H scope (compEnvC scope cl C X.env) fp)
section
variable {X : Cx} {pins : List (Addr × Obj)} {σ : L2.St} {H : Hp} {s : Shared}
theorem put_okV {E : Value → Shared → Prop} {D b : Addr} {L : List VRow} {k : NestedKey} {v : V} {r : Value} {Q : Unit → Shared → Prop} (hu : X.A.units + 64 < cLine) (I : Inv X pins σ H s) (hD : H D = some (VDict X.prog X.w D L)) (ks : VKeys H L) (hb : NqV H (.ref b) k) (hd : k.depth ≤ 8) (hn : valW L k = none) (few : L.length < 1000) (rv : RelV v r)
    (h : ∀ s', Inv X pins σ (upd H D (VDict X.prog X.w D (L ++ [(k, b, v)]))) s' → Q () s') : wpAny (model X.prog X.w) X.A (dictSet D (.ref b) r) Q E s := by
  obtain ⟨xs, Dd, rr, lo, _⟩ := vdict_rd I hD ks
  have lx : L.length = xs.length := Paired.length rr
  have big := sizeLine_eq
  refine wpAny_dictSet_heap (knd := nestedKind X.prog X.w) (hsz := by omega) (show X.A.units + 8 < cLine by omega) ⟨nq_is I k hb rfl, hd⟩ Dd fun h' D2 sb => h _ ?_
  have VH := vheld_put rr rv lo hn few D2
  obtain ⟨_, o2, _, _, g1, _⟩ := id VH
  exact d_write I (by rw [hD]; exact True.intro) sb ⟨o2, g1⟩ (vdict_ok VH)
end
section
variable {X : Cx}
/-- {key: val for ta in ia}, the key a nested tuple: D the new dict -/
def tDcV (P : Program) (w : World) (wa : TI) (ga : TG) (tk tv : TE) (vs : List Nat) : TE := fun σ H Q => wa σ H fun J H1 => ∀ D, H1 D = none → ∃ W : Nat → Nat → Hp → Prop, (∃ m, W 0 m (upd H1 D (VDict P w D []))) ∧ ∀ i m H2, W i m H2 →
  (J.stop i H2 ∧ Q (.ref D) H2) ∨ (J.go i H2 ∧ ∃ Nx : Hp → Prop, (∀ H3, Nx H3 → ∃ m', m' < m ∧ W (i + 1) m' H3) ∧ ∀ x H3, J.yld i H2 x H3 → ga x (wipe σ vs) H3 fun σ4 H4 => wipe σ4 vs = wipe σ vs ∧ tk σ4 H4 fun y H5 => tv σ4 H5 fun z H6 =>
    ∃ (L : List VRow) (k : NestedKey) (b : Addr), y = .ref b ∧ NqV H6 (.ref b) k ∧ k.depth ≤ 8 ∧ H6 D = some (VDict P w D L) ∧ VKeys H6 L ∧ valW L k = none ∧ L.length < 1000 ∧ Nx (upd H6 D (VDict P w D (L ++ [(k, b, z)]))))
theorem pe_dcV {kx vx ta ia : Expr} {scope : Scope} {own : List (PySem.Str × Nat)} {pos : Pos} {wa : TI} {ga : TG} {tk tv : TE} (hc : X.calm = true) (hN : X.N.Nodup) (hu : X.A.units + 64 < cLine) (hia : PI X ta ia wa) (ok : BlkOk X.N X.env.scope scope own)
    (hga : BlksV X scope fun Y => PG Y ta ga) (hk : BlksV X scope fun Y => PE Y kx tk) (hv : BlksV X scope fun Y => PE Y vx tv) (pa : ∀ x, foldedSetIterable ia X.env x = pure x := by intro _; rfl) :
    PE X (.DictComp kx vx [⟨ta, ia, [], 0⟩] scope pos) (tDcV X.prog X.w wa ga tk tv (own.map (·.2))) := by
  refine ⟨fun pins s σ H Q I h => ?_⟩
  rw [arm_eval_DictComp]
  have caught : ∀ y ∈ scope.names, y.2 = .free → ∃ c, X.env.cells.lookup y.1 = some c := fun y m e => (ok.free y m e).elim (fun k => I.ok.has _ (.inl k)) (fun k => I.ok.has _ (.inr k))
  refine wpAny_comprehension_free (use := none) rfl pa (closure_ok caught) ok.kind (fun y m e => by rw [ok.uniq y m, e]) (thn (hia.run pins s σ H _ I h) fun xv s1 hx => thn hx fun itv s2 h2 => ?_)
  obtain ⟨it, fp, tn, J, H2, rfl, I2, T, st2, f2, q⟩ := h2
  refine wpAny_newObj_type (newEnv_comp ?_)
  generalize eD : s2.heap.objs.size = D
  have D0 : H2 D = none := I2.hok.fresh (Nat.le_of_eq eD)
  obtain ⟨W, ⟨m0, w0⟩, turn⟩ := q D D0
  generalize e3 : ({ s2 with heap := s2.heap.push { cls := .type "dict", data := .dict #[] } } : Shared) = s3
  have hp3 : s3.heap = s2.heap.push { cls := .type "dict", data := .dict #[] } := by rw [← e3]
  have I3 : Inv X pins σ (upd H2 D (VDict X.prog X.w D [])) s3 := by
    rw [← e3]
    refine I2.laid (t' := s2.toks) (fun b o e => Heap.get?_push_of_some _ e) (Nat.le_of_eq eD) ?_
    rw [← eD]
    exact vdict_ok (vheld_new s2.heap I2.big)
  have low : ∀ b ∈ fp, b < s2.heap.objs.size := fun b m => by
    obtain ⟨o, e, _⟩ := T.obj _ _ st2 b m
    exact Heap.lt_size e
  have f3 : ∀ b ∈ fp, FpOk X pins (upd H2 D (VDict X.prog X.w D [])) b ∧ b < s3.heap.objs.size := fun b m => by
    refine ⟨⟨?_, (f2 b m).2⟩, by rw [hp3, Heap.size_push]; exact Nat.lt_succ_of_lt (low b m)⟩
    rw [upd_ne (by rw [← eD]; exact Nat.ne_of_lt (low b m))]
    exact (f2 b m).1
  have st3 : tn 0 s3.heap := T.keep _ _ _ st2 fun b _ o e => by rw [hp3]; exact Heap.get?_push_of_some _ e
  have I4 := block_start I3 ok hN f3
  have ga4 := hga s3 (upd H2 D (VDict X.prog X.w D [])) s3.heap.objs.size (cellsFrom (s3.heap.objs.size + 1) scope.names (cloFrom X.env.cells scope.names [])) fp
  have k4 := hk s3 (upd H2 D (VDict X.prog X.w D [])) s3.heap.objs.size (cellsFrom (s3.heap.objs.size + 1) scope.names (cloFrom X.env.cells scope.names [])) fp
  have v4 := hv s3 (upd H2 D (VDict X.prog X.w D [])) s3.heap.objs.size (cellsFrom (s3.heap.objs.size + 1) scope.names (cloFrom X.env.cells scope.names [])) fp
  show codeAny _ _ (.compStart (.DictComp kx vx [⟨ta, ia, [], 0⟩] scope pos) 0 (.ref it) (.ref D) (compEnvC scope (cellsFrom (s3.heap.objs.size + 1) scope.names (cloFrom X.env.cells scope.names [])) s3.heap.objs.size X.env)) (compPost (model X.prog X.w) X.A X.xe none _ (.ref D) s3.heap.objs.size) { s3 with heap := pushCells (s3.heap.push { cls := .type "dict", data := .dict #[] }) scope.names }
  have fp0 : ∀ b ∈ fp, (upd H2 D (VDict X.prog X.w D [])) b = none := fun b m => (f3 b m).1.1
  generalize ece : compEnvC scope (cellsFrom (s3.heap.objs.size + 1) scope.names (cloFrom X.env.cells scope.names [])) s3.heap.objs.size X.env = ce at I4 ga4 k4 v4 ⊢
  have loc : ce.locals = s3.heap.objs.size := by subst ece; rfl
  generalize upd H2 D (VDict X.prog X.w D []) = H3 at I3 I4 ga4 k4 v4 w0 fp0 f3
  generalize e4 : ({ s3 with heap := pushCells (s3.heap.push { cls := .type "dict", data := .dict #[] }) scope.names } : Shared) = s4 at I4 ⊢
  have st4 : tn 0 s4.heap := T.keep _ _ _ st3 fun b _ o e => by rw [← e4]; exact pushCells_keeps _ _ _ _ (Heap.get?_push_of_some _ e)
  have still : ∀ {τ : L2.St} {G : Hp} {u : Shared}, Inv (X.blk s3 H3 scope ce fp) [] τ G u → (∀ b ∈ fp, G b = none) → ∀ b ∈ fp, FpOk (X.blk s3 H3 scope ce fp) [] G b := fun {τ G u} Iu no b m =>
    ⟨no b m, (Iu.ok.exf b m).1, Iu.ok.exfs b m, .inl m, fun x c e => (Iu.ok.exf b m).2 x c e, fun p z => absurd (show p ∈ ([] : List (Addr × Obj)) ++ [] from z) (by simp)⟩
  refine codeAny_compStart_dict ?loop (T.self X.A 0 _ _ _ st4 ?loop)
  refine compLoop_anyD (fun n u => ∃ i G, Inv (X.blk s3 H3 scope ce fp) [] (wipe σ (own.map (·.2))) G u ∧ tn i u.heap ∧ (∀ b ∈ fp, G b = none) ∧ W i n G) (fun n s5 hI => ?_) m0 ⟨0, H3, I4, st4, fp0, w0⟩
  obtain ⟨i, H5, I5, st5, no5, w5⟩ := hI
  rcases turn i n H5 w5 with ⟨stop, fin⟩ | ⟨go, Nx, hNx, step⟩
  · refine thnF (T.done (X.blk s3 H3 scope ce fp) rfl rfl rfl hc i [] s5 _ H5 (fun _ _ => False) I5 (still I5 no5) st5 stop) fun r s6 ⟨hr, I6⟩ => ?_
    subst hr
    have I7 : Inv X pins σ H5 s6 := I3.call' (ch := fp) I6.os I6.base I6.hok I6.bare fun b m => ⟨(f3 b m).1.2.2.2.1, (f3 b m).1.2.1, (f3 b m).1.2.2.2.2.1, (f3 b m).1.2.2.2.2.2⟩
    have none5 : H5 s3.heap.objs.size = none := by
      have z : H5 ce.locals = none := I6.free
      rwa [loc] at z
    obtain ⟨m, hn, _⟩ := I6.loc
    have hn : s6.heap.Ns ce.locals m := hn
    rw [loc] at hn
    obtain ⟨g0, g1, g2, g3, g4, g5⟩ := I3.fpOk (Nat.le_refl _) none5
    exact ⟨m, hn, fun h'' sb => ⟨.ref D, H5, I7.turned (t' := s6.toks) (fun b o ne e => (sb.2 b ne).trans e) g0 g1 g3 g4 g5, rfl, fin⟩⟩
  · refine thnF (T.item (X.blk s3 H3 scope ce fp) rfl rfl rfl hc i [] s5 _ H5 (fun _ _ => False) I5 (still I5 no5) st5 go) fun r s6 ⟨u, hr, h6⟩ => ?_
    subst hr
    refine thnF h6 fun _ s7 ⟨x, H7, I7, r7, y7, st7, no7⟩ => ?_
    have I7p := I7.pinned (still I7 no7) (T.obj _ _ st7)
    refine thnF (ga4.run _ s7 _ H7 x u _ I7p r7 (step x H7 y7)) fun _ s8 ⟨σ8, H8, I8, wp8, q8⟩ => ?_
    refine thnF ((pts_nil (X := X.blk s3 H3 scope ce fp)).run _ s8 σ8 H8 (fun b G => b = true ∧ tk σ8 G _) I8 ⟨rfl, q8⟩) fun b s9 ⟨H9, I9, eb, q9⟩ => ?_
    subst eb
    simp only [if_true]
    refine thnF (k4.run _ s9 σ8 H9 _ I9 q9) fun z1 s10 ⟨yk, H10, I10, r10, q10⟩ => ?_
    refine thnF (v4.run _ s10 σ8 H10 _ I10 q10) fun z2 s11 ⟨yv, H11, I11, r11, L, k, b, ek, hb, hdp, hD, hks, hnew, room, nx⟩ => ?_
    subst ek
    cases r10
    refine put_okV (X := X.blk s3 H3 scope ce fp) hu I11 hD hks hb hdp hnew room r11 fun s12 I12 => ?_
    obtain ⟨m', lt, w'⟩ := hNx _ nx
    have pinned : ∀ c ∈ fp, ∀ o, s7.heap.get? c = some o → s12.heap.get? c = some o ∧ (upd H11 D (VDict X.prog X.w D (L ++ [(k, b, yv)]))) c = none := fun c m o e =>
      have z := I12.pin (c, o) (List.mem_append_right _ (List.mem_append_right _ (mem_pinsAt m e)))
      ⟨z.1, z.2.1⟩
    refine ⟨m', lt, i + 1, _, (I12.unpinned (pins := [])).weak (by rw [← wp8, wipe_length]) (fun j v e => by rw [← wp8] at e; exact (wipe_some e).1), T.keep _ _ _ st7 fun b m o e => (pinned b m o e).1, fun b m => ?_, w'⟩
    obtain ⟨o, e, _⟩ := T.obj _ _ st7 b m
    exact (pinned b m o e).2
theorem pe_dcVP {P : Program} {w : World} {kx vx ta ia : Expr} {scope : Scope} {own : List (PySem.Str × Nat)} {pos : Pos} {wa : TI} {ga : TG} {tk tv : TE} (hc : X.calm = true) (hN : X.N.Nodup) (hu : X.A.units + 64 < cLine) (hia : PI X ta ia wa) (ok : BlkOk X.N X.env.scope scope own)
    (hga : BlksV X scope fun Y => PG Y ta ga) (hk : BlksV X scope fun Y => PE Y kx tk) (hv : BlksV X scope fun Y => PE Y vx tv) (hP : X.prog = P := by rfl) (hw : X.w = w := by rfl) (pa : ∀ x, foldedSetIterable ia X.env x = pure x := by intro _; rfl) :
    PE X (.DictComp kx vx [⟨ta, ia, [], 0⟩] scope pos) (tDcV P w wa ga tk tv (own.map (·.2))) := by
  subst hP hw
  exact pe_dcV hc hN hu hia ok hga hk hv pa
end
/-! ### the same, the program and the world by their own letters -/
section
variable {X : Cx} {P : Program} {w : World} {o i e f value tg : Expr} {pos pos' apos cpos : Pos} {td ty tv tx : TE}
theorem pe_dnewVP (hP : X.prog = P := by rfl) (hw : X.w = w := by rfl) : PE X (.Dict [] [] pos) (tDNewV P w) := by
  subst hP hw
  exact pe_dnewV
theorem op_inVP (hu : X.A.units + 64 < cLine) (hP : X.prog = P := by rfl) (hw : X.w = w := by rfl) : OpR X (compareOp .In) (rInV P w) := by
  subst hP hw
  exact op_inV hu
theorem pe_getVP (hu : X.A.units + 64 < cLine) (ho : PE X o td) (hi : PE X i ty) (hs : NoSl i) (hP : X.prog = P := by rfl) (hw : X.w = w := by rfl) : PE X (.Subscript o i pos) (tGetV P w td ty) := by
  subst hP hw
  exact pe_getV hu ho hi hs
theorem ps_putVP (hu : X.A.units + 64 < cLine) (ho : PE X o td) (hi : PE X i ty) (hv : PE X value tv) (hs : swapsWith value (some (.Subscript o i pos')) pos.line X.env = pure false) (hP : X.prog = P := by rfl) (hw : X.w = w := by rfl) :
    PS X (.Assign [.Subscript o i pos'] value pos) (sPutV P w td ty tv) := by
  subst hP hw
  exact ps_putV hu ho hi hv hs
theorem pe_setdVP (hu : X.A.units + 64 < cLine) (ho : PE X o td) (he : PE X e ty) (hf : PE X f tx) (m : M2 X o "setdefault" apos e f cpos) (hP : X.prog = P := by rfl) (hw : X.w = w := by rfl) : PE X (.Call (.Attribute o "setdefault" apos) [e, f] [] cpos) (tSetdV P w td ty tx) := by
  subst hP hw
  exact pe_setdV hu ho he hf m
theorem pi_valuesVP (he : PE X e td) (hP : X.prog = P := by rfl) (hw : X.w = w := by rfl) (hbase : attributeBase e "values" X.env (eval e X.env) = eval e X.env := by rfl) (hline : (apos.endLine == cpos.line) = true := by rfl) : PI X tg (.Call (.Attribute e "values" apos) [] [] cpos) (iValsV P w td) := by
  subst hP hw
  exact pi_valuesV he hbase hline
end
end Kd

-- ===== K14L =====
set_option Elab.async false
set_option linter.all false
set_option maxRecDepth 100000
set_option maxHeartbeats 4000000
namespace My
open PySem L2 PyProof.Rows PySem.Spec Kd
abbrev sPick : Stmt := top 39
abbrev sLStates : Stmt := top 40
abbrev sSystem : Stmt := top 41
abbrev sLEvents : Stmt := top 42
abbrev sDid : Stmt := top 43
abbrev sHist : Stmt := top 44
abbrev sDue : Stmt := top 45
abbrev sLaw : Stmt := top 46
/-! ### a def's promise under a condition on what is around -/
structure FnG (c : Bool) (G : Around → Prop) (P : Program) (w : World) (K : PySem.W.Frag) (mg : Str → Option Value) (base : Heap) (CX : CXT) (k : Nat) (f : Addr) (fd : FuncData) (ps : List Str) (sp : Sp) : Prop where
  len : ∀ vs H Q E, sp vs H Q E → vs.length = ps.length
  run : ∀ (A : Around) (outer : List Env) (s : Shared) (H : Hp) (args : Args) (us : List Value) (vs : List V) (Q : VK) (E : XK), (c = true → A.handled = none) → G A → L2H.RoomH k A →
    Env0 P w K mg base A outer s H → BindsTo s fd args (ps.zip us) → Vals vs us → sp vs H Q E → codeAny (model P w) A (.call (.ref f) args) (CR CX outer P w H s Q E) s
def cxG (c : Bool) (CX : CXT) (P : Program) (w : World) (K : PySem.W.Frag) (mg : Str → Option Value) (base : Heap) (N : List Str) (qual : Str) (scope : Scope) (f : Addr) (cd : Value) (A : Around) (outer : List Env) (s : Shared) (H : Hp) (E : XK) : Cx :=
  { cxOf CX P w K mg base N qual scope f cd A outer s H E with calm := c }
section
variable {c : Bool} {G : Around → Prop} {CX : CXT} {P : Program} {w : World} {K : PySem.W.Frag} {mg : Str → Option Value} {base : Heap} {N ps : List Str} {qual : Str} {scope : Scope} {f : Addr} {cd : Value} {A : Around} {outer : List Env} {s s1 : Shared} {H : Hp} {E : XK}
theorem inv_startG {us : List Value} {vs : List V} (S : FnScope N ps scope) (hd : c = true → A.handled = none) (e0 : Env0 P w K mg base A outer s H) (hl : vs.length = ps.length) (r : Vals vs us)
    (x : InCallC s s.heap.objs.size (bindL (envOfC qual scope s.heap.objs.size f cd).kindOf (ps.zip us) fun _ => none) (cellsFrom (s.heap.objs.size + 1) scope.names []) (bindC (envOfC qual scope s.heap.objs.size f cd).kindOf (ps.zip us) fun _ => none) s1) :
    Inv (cxG c CX P w K mg base N qual scope f cd A outer s H E) [] (start N vs) H s1 := by
  have J : Inv (cxOf CX P w K mg base N qual scope f cd { A with handled := none } outer s H E) [] (start N vs) H s1 := inv_start S rfl ⟨e0.frames, e0.mod, e0.bs, e0.bsz, e0.funs, e0.frf, e0.hok, e0.bare⟩ hl r x
  have o := J.ok
  exact ⟨⟨o.mod, o.kind, o.glob, o.blt, o.above, o.inj, o.has, o.cab, hd, Around.frames_deeper e0.frames, o.stk, o.exf, o.bs, o.bsz, o.noex, o.exfs, o.funs, o.frf⟩, J.os, J.bare, J.base, J.loc, J.cell, J.free, J.freeC, J.pin, J.hok, J.len⟩
theorem fn_ofG {k : Nat} {name : Str} {params : Arguments} {body : List Stmt} {dV kV doc pm cdv ct oc : Value} {an od : Option Addr} {osl : Array (Option Value)} {sp : Sp}
    (lk : K.lookup f = some ⟨oc, od, .func (PySem.W.fnOf name qual params body scope dV kV doc pm an cdv ct), osl⟩) (hcd : PySem.W.codeIn K cdv qual = true) (S : FnScope N ps scope) (len : ∀ vs H Q E, sp vs H Q E → vs.length = ps.length)
    (hbody : ∀ (A : Around) (outer : List Env) (s : Shared) (H : Hp) (vs : List V) (Q : VK) (E : XK), (c = true → A.handled = none) → G A → L2H.RoomH k (A.deeper (envOfC qual scope s.heap.objs.size f cdv)) → sp vs H Q E →
      ∃ t, PSs (cxG c CX P w K mg base N qual scope f cdv A outer s H E) body t ∧ t { nx := fun _ H' => Q .non H', rt := Q } (start N vs) H) :
    FnG c G P w K mg base CX (k + 1) f (PySem.W.fnOf name qual params body scope dV kV doc pm an cdv ct) ps sp := by
  refine ⟨len, fun A outer s H args us vs Q E hh hG hr e0 hb r hsp => ?_⟩
  have hl := len _ _ _ _ hsp
  have KX : K.In s.heap := e0.mod.kin.keeps fun b o e => (e0.bs b o e).1
  have lim : s.heap.NoLimit := e0.mod.nolimit.keeps fun b o e => (e0.bs b o e).1
  refine codeAny_call_function hr.depth (KX _ _ lk) rfl S.co S.gen rfl (PySem.W.codeRec_of KX hcd) (hb _ _ _ _ ?_)
  refine wpAny_newFunctionEnv_cells S.kind (fun ⟨n, v⟩ hy => ?_) fun env he s1 x => ?_
  · rcases S.par n (List.of_mem_zip hy).1 with q | q
    · exact .inl q
    · exact .inr ⟨q, PySem.W.cellsFrom_some _ _ _ (.inl q)⟩
  subst he
  refine ⟨lim.keeps x.toInCall.keep, codeAny_func ?_⟩
  obtain ⟨t, ht, hq⟩ := hbody A outer s H vs Q E hh hG (hr.deeper _) hsp
  refine wpAny_mono (ht.run [] s1 (start N vs) H _ (inv_startG S hh e0 hl r x) hq) (fun fl s' hs => ?_) fun e s' hs => hs
  cases fl with
  | ret u =>
    obtain ⟨v, σ', H', J, rv, q⟩ := hs
    exact ⟨v, H', J.os, J.bare, J.base, J.hok, rv, q⟩
  | next =>
    obtain ⟨σ', H', J, q⟩ := hs
    exact ⟨V.non, H', J.os, J.bare, J.base, J.hok, rfl, q⟩
  | brk =>
    obtain ⟨_, _, _, q⟩ := hs
    exact False.elim q
  | cont =>
    obtain ⟨_, _, _, q⟩ := hs
    exact False.elim q
/-- by its body, nothing is raised -/
theorem okG {x : Str} {st : Stmt} {fd : FuncData} {k : Nat} {sp : Sp} (F : Fun K x qual st f fd) (S : FnScope N ps (defScope st)) (len : ∀ vs H Q E, sp vs H Q E → vs.length = ps.length)
    (hbody : ∀ (cdv : Value) (A : Around) (outer : List Env) (s : Shared) (H : Hp) (vs : List V) (Q : VK) (E : XK), (c = true → A.handled = none) → G A → L2H.RoomH k (A.deeper (envOfC qual (defScope st) s.heap.objs.size f cdv)) → sp vs H Q E →
      ∃ t, PSs (cxG c CX P w K mg base N qual (defScope st) f cdv A outer s H E) (defBody st) t ∧ t { nx := fun _ H' => Q .non H', rt := Q } (start N vs) H) : FnG c G P w K mg base CX (k + 1) f fd ps sp := by
  obtain ⟨oc, od, kV, doc, pm, an, cdv, ct, osl, rfl, lk, hcd⟩ := F.ex
  exact fn_ofG lk hcd S len fun A outer s H vs Q E hh hG hr hsp => hbody cdv A outer s H vs Q E hh hG hr hsp
end
section
variable {c : Bool} {G : Around → Prop} {X : Cx} {CX : CXT} {k : Nat} {f : Addr} {fd : FuncData} {ps : List Str} {sp : Sp} {x : Str} {p pos : Pos} {e : Expr} {es : List Expr} {t : TA} {E : XK}
theorem pe_callG (F : FnG c G X.prog X.w X.K X.mg X.base CX k f fd ps sp) (hh : c = true → X.A.handled = none) (hG : G X.A) (hr : L2H.RoomH k X.A) (hg : Gl X x) (hm : X.mg x = some (.ref f)) (hk : PySem.W.keepIn X.K (.ref f) = true) (hb : Binds X.K fd ps []) (hx : Passes CX X E)
    (ha : PA X (e :: es) t) (hdb : (x == ("__debug__" : Str)) = false := by decide) (he : starEach (e :: es) X.env = (false, eval e X.env) :: starEach es X.env := by rfl) (hpl : (backTo pos (starEach es X.env)).any (·.1) = false := by rfl) :
    PE X (.Call (.Name x p) (e :: es) [] pos) (tCall sp [] E t) := by
  refine ⟨fun pins s σ H Q I h => ?_⟩
  refine wpAny_Call_Name_kw (ld_glob I hg hm ?_ hdb)
  refine PySem.W.callWith_K (h₀ := X.base) I.ok.mod.kin hk (thn (ha.run pos pins s σ H _ I h) fun us s1 ⟨vs, H1, I1, r, q⟩ => ⟨I1.kIn, ?_⟩) he hpl
  have r2 : Vals (vs ++ []) (us ++ []) := by rw [List.append_nil, List.append_nil]; exact r
  have hl : (us ++ []).length = ps.length := by rw [← r2.length]; exact F.len _ _ _ _ q
  refine wpAny_call (codeAny_mono (F.run X.A X.stack s1 H1 ⟨us, []⟩ (us ++ []) (vs ++ []) Q E hh hG hr I1.env0 (hb s1 us I1.kIn hl) r2 q) fun r s' hq => ?_)
  cases r with
  | error e => exact hx pins σ H1 s1 e s' I1 hq
  | ok fl =>
    cases fl with
    | ret u => exact I1.after hq
    | next => exact False.elim hq
    | brk => exact False.elim hq
    | cont => exact False.elim hq
end
theorem law_callG {P : Program} {w : World} {K : PySem.W.Frag} {mg mb : Str → Option Value} {CX : CXT} {k : Nat} {fa a : Addr} {fd : FuncData} {x : Str} {sp : Sp} {s₁ : Shared} {vs : List Value} {ns : List Int}
    (KX : K.In s₁.heap) (hns : s₁.heap.Ns mainGlobals mg) (hb : s₁.heap.Ns builtinsNs mb) (hbb : ∀ x : Str, x ≠ "__name__" → mb x = bootBuiltins x) (hlim : s₁.heap.NoLimit) (hg : s₁.gens = #[])
    (ha : s₁.heap.get? a = some { cls := .type "list", data := .seq vs.toArray }) (hi : IntsAre vs ns) (hl : ns.length ≤ sizeLine) (hr : Room k callerA)
    (F : ∀ base : Heap, K.In base → base.Ns mainGlobals mg → FnG true (fun A => A.guards = some []) P w K mg base CX k fa fd [x] sp) (hbind : ∀ (s : Shared) (u : Value), BindsTo s fd ⟨[u], []⟩ [(x, u)])
    (hsp : ∀ H : Hp, Only H → SqL K H a (ns.map V.int) → sp [.ref a] H (fun v _ => v = .bl true) fun _ _ _ => False)
    (hCX : ∀ H e s', CX [] H s₁ (fun _ _ _ => False) e s' → False) :
    codeAny (model P w) callerA (.call (.ref fa) ⟨[.ref a], []⟩) (fun r s' => r = .ok (.ret (.bool true)) ∧ OldK s₁.heap s'.heap ∧ s'.os = s₁.os ∧ AllBare s'.gens) s₁ := by
  have rv := vals_ints hi
  have lenV := hi.length
  -- from an abstract heap in which nothing but the script may be tracked
  have core : ∀ H : Hp, Only H → SqL K H a (ns.map V.int) → HOk P w H s₁.heap → (∀ b, H b ≠ none → b = a) → (H a ≠ none → K.lookup a = none) →
      codeAny (model P w) callerA (.call (.ref fa) ⟨[.ref a], []⟩) (fun r s' => r = .ok (.ret (.bool true)) ∧ OldK s₁.heap s'.heap ∧ s'.os = s₁.os ∧ AllBare s'.gens) s₁ := by
    intro H hO hS hok hA hK
    have base_of : ∀ {b : Addr} {o : Obj}, s₁.heap.get? b = some o → H b = none → (hidT s₁.heap H).get? b = some o := fun e n => hidT_get e n
    have noA : ∀ {b : Addr} {o : Obj} {es : Array DictEntry} {ep : Nat}, s₁.heap.get? b = some o → o.data = .dict es ep → H b = none := fun {b o es ep} e d => by
      cases q : H b with
      | none => rfl
      | some u =>
        have e' : b = a := hA b (by rw [q]; simp)
        subst e'
        rw [ha] at e; cases e
        have d' : Data.seq vs.toArray _ = Data.dict es ep := d
        cases d'
    have nsK : ∀ {b : Addr} {m : Str → Option Value}, s₁.heap.Ns b m → (hidT s₁.heap H).Ns b m := fun {b m} ⟨o, es, ep, e, d, r⟩ => ⟨o, es, ep, base_of e (noA e d), d, r⟩
    have hKb : K.In (hidT s₁.heap H) := fun b o e => base_of (KX b o e) (by
      cases q : H b with
      | none => rfl
      | some u =>
        have e' : b = a := hA b (by rw [q]; simp)
        subst e'
        rw [hK (by rw [q]; simp)] at e; cases e)
    have hM : Mod K mg (hidT s₁.heap H) := ⟨hKb, nsK hns, ⟨mb, nsK hb, hbb⟩, let ⟨mc, h1, h2⟩ := hlim; ⟨mc, nsK h1, h2⟩⟩
    have e0 : Env0 P w K mg (hidT s₁.heap H) callerA [] s₁ H := ⟨rfl, hM, fun b o e => of_hidT e, Nat.le_of_eq (hidT_size _ _), trivial, fun b hb => absurd (show b ∈ ([] : List Addr) from hb) (by simp), hok, .of_eq hg⟩
    refine codeAny_mono ((F _ hKb (nsK hns)).run callerA [] s₁ H ⟨[.ref a], []⟩ [.ref a] [.ref a] _ _ (fun _ => rfl) rfl (L2H.roomH_of hr) e0 (hbind s₁ (.ref a)) (.cons rfl .nil) (hsp H hO hS)) fun r s' h => ?_
    cases r with
    | error e => exact (hCX H e s' h).elim
    | ok fl =>
      cases fl with
      | next => exact False.elim h
      | brk => exact False.elim h
      | cont => exact False.elim h
      | ret u =>
        obtain ⟨v, H', os, bare, un, hok', r', q⟩ := h
        have q' : v = .bl true := q
        subst q'
        obtain rfl : u = Value.bool true := r'
        refine ⟨rfl, OldK.of_keep fun b o e => ?_, os, bare⟩
        cases q : H b with
        | none => exact un.keep b o e q (by intro z; exact absurd (show b ∈ ([] : List Addr) from z) (by simp)) (by simp)
        | some u =>
          rcases hO b with z | ⟨ob, xs, z⟩
          · rw [q] at z; cases z
          · have z2 := un.frzs b ob _ z
            obtain ⟨e1, _⟩ := hok b _ z
            obtain ⟨e2, _⟩ := hok' b _ z2
            rw [e] at e1; cases e1
            exact e2
  cases hk : K.lookup a with
  | some o =>
    -- the script is one of the module's own objects
    have e := KX a o hk
    rw [ha] at e
    cases e
    refine core (fun _ => none) (fun _ => .inl rfl) (.inr ⟨_, vs.toArray, _, hk, rfl, rfl, rfl, by rw [List.size_toArray, lenV]; exact hl, by simpa using rv⟩) (fun b u z => by have z' : (none : Option HO) = some u := z; cases z') (fun b z => absurd rfl z) fun z => absurd rfl z
  | none =>
    refine core (fun b => if b = a then some (.frz { cls := .type "list", data := .seq vs.toArray } (.lst (ns.map V.int))) else none) (fun b => ?_) (.inl (.inr ⟨{ cls := .type "list", data := .seq vs.toArray }, if_pos rfl⟩)) (fun b u z => ?_) (fun b z => ?_) fun _ => hk
    · by_cases hb : b = a
      · exact .inr ⟨_, _, if_pos hb⟩
      · exact .inl (if_neg hb)
    · by_cases hb : b = a
      · have z' := (if_pos hb).symm.trans z
        cases z'
        subst hb
        exact ⟨ha, by rw [List.length_map]; exact hl, vs, _, rv, ha⟩
      · have z' := (if_neg hb).symm.trans z
        cases z'
    · by_cases hb : b = a
      · exact hb
      · exact absurd (if_neg hb) z

theorem walk_ofG {l : PySem.W.OpenLaw} {n k : Nat} {q : Program} {loose : List Str} {XP : (Str → Option Value) → Heap → Prop} {YP : World → Heap → Prop} {d : DefRec} {K : Params → PySem.W.Frag} {sp : PySem.W.Frag → Sp} {x : Str}
    (hn : l.most = some n) (hn2 : n ≤ sizeLine) (hdf : d.params.defaults = []) (hr : Room k callerA) (hY : ∀ (w : World) (h : Heap), YP w h → (K w.params).In h)
    (F : ∀ (w : World) (mg : Str → Option Value) (fa : Addr) (h : Heap), (K w.params).In h → h.Ns mainGlobals mg → mg d.name = some (.ref fa) →
      ∃ fd : FuncData, (∀ (s : Shared) (u : Value), BindsTo s fd ⟨[u], []⟩ [(x, u)]) ∧ ∀ base : Heap, (K w.params).In base → base.Ns mainGlobals mg → FnG true (fun A => A.guards = some []) l.prog w (K w.params) mg base CX0 k fa fd [x] (sp (K w.params)))
    (hsp : ∀ (K : PySem.W.Frag) (H : Hp) (a : Addr) (ns : List Int), ns.length ≤ n → (∀ z ∈ ns, Builtin.Int.intBits z ≤ 1048576) → Only H → SqL K H a (ns.map V.int) → sp K [.ref a] H (fun v _ => v = .bl true) fun _ _ _ => False) :
    PySem.W.WalkO q loose XP YP l.row.toRowW d [] (fun f vs => PySem.call f vs) := by
  refine Att.attach_callB hn hdf fun w s₀ s₁ mg mb fa o pm cd doc a vs ns G Y ho hd hcd hmg hobj hints hlen hbits hg => ?_
  have KX := hY w _ Y
  obtain ⟨fd, hb, hF⟩ := F w mg fa _ KX G.T.g hmg
  exact law_callG KX G.T.g G.T.b G.T.builtins G.T.nolimit hg hobj hints (Nat.le_trans hlen hn2) hr hF hb (fun H hO hS => hsp _ H a ns hlen hbits hO hS) fun _ _ _ z => z
/-! ### displays, told that the new object is none of the model's own -/
def tLstL (t : TA) : TE := fun σ H Q => t σ H fun xs H1 => xs.length ≤ sizeLine ∧ ∀ q, H1 q = none → sysModules < q → Q (.ref q) (upd H1 q (.lst xs))
theorem pe_lstL {X : Cx} {es : List Expr} {t : TA} {pos : Pos} (h : PA X es t) : PE X (.List es pos) (tLstL t) := by
  refine ⟨fun pins s σ H Q I hq => ?_⟩
  refine wpAny_List_spliced (thn (h.run pos pins s σ H _ I hq) fun us s1 hh => ?_)
  obtain ⟨xs, H1, I1, r, z, q⟩ := hh
  have big := I1.big
  exact ⟨by rw [← r.length]; exact z, .ref s1.heap.objs.size, _, I1.laid (t' := s1.toks) (o := .lst xs) (fun b u e => Heap.get?_push_of_some _ e) (Nat.le_refl _) ⟨z, us, 0, r, Heap.get?_push_size _ rfl⟩, rfl, q _ (I1.hok.fresh (Nat.le_refl _)) big⟩

/-- data that is shown within k signs -/
structure Sh (k : Nat) (d : PyData) : Prop where
  sh : d.showable = true
  sz : d.shown.length ≤ k
theorem sh_all {k : Nat} : ∀ {ds : List PyData}, (∀ d ∈ ds, Sh k d) → PyData.showableAll ds = true ∧ ((PyData.shownAll ds).map (·.length)).sum ≤ ds.length * k ∧ (PyData.shownAll ds).length = ds.length
  | [], _ => ⟨by simp only [PyData.showableAll], by simp [PyData.shownAll], by simp [PyData.shownAll]⟩
  | d :: r, h => by
    have g := h d List.mem_cons_self
    obtain ⟨h1, h3, h4⟩ := sh_all (ds := r) fun x hx => h x (List.mem_cons_of_mem _ hx)
    have := g.sz
    refine ⟨by simp only [PyData.showableAll, g.sh, h1, Bool.and_true], ?_, by simp only [PyData.shownAll, List.length_cons, h4]⟩
    simp only [PyData.shownAll, List.map_cons, List.sum_cons, List.length_cons]
    rw [Nat.succ_mul]
    omega
theorem sh_tuple {k m : Nat} {ds : List PyData} (h : ∀ d ∈ ds, Sh k d) (hl : ds.length ≤ m) : Sh (m * k + 2 * m + 3) (.tuple ds) := by
  obtain ⟨h1, h3, h4⟩ := sh_all h
  refine ⟨by simp only [PyData.showable, h1], ?_⟩
  have h5 := tupleText_len_le (PyData.shownAll ds)
  simp only [PyData.shown]
  rw [h4] at h5
  have h6 : ds.length * k ≤ m * k := Nat.mul_le_mul_right _ hl
  omega
theorem sh_mono {k m : Nat} {d : PyData} (h : Sh k d) (l : k ≤ m) : Sh m d := ⟨h.sh, Nat.le_trans h.sz l⟩
theorem at_nat {α : Type} {xs : List α} {i : Int} (h0 : 0 ≤ i) (h1 : i < xs.length) : ∃ x, x ∈ xs ∧ atI xs i = some x := by
  have lt : i.toNat < xs.length := by omega
  have z := atI_nat (List.getElem?_eq_getElem lt)
  rw [Int.toNat_of_nonneg h0] at z
  exact ⟨xs[i.toNat], List.getElem_mem lt, z⟩
theorem FeedAt.same {H H' : Hp} {p c : Addr} {ks : List Int} {w n : Int} (s : Same H H') (F : FeedAt H p c ks w n) : FeedAt H' p c ks w n := ⟨s _ _ F.ob, s _ _ F.cs, F.bits, F.len, F.w0, F.w1, F.n0⟩
theorem Save.tup {H H' : Hp} {p c : Addr} {ks : List Int} {w n : Int} (F : FeedAt H p c ks w n) (s : Save p c H H') : Tup H H' := fun a xs e =>
  s a _ e (fun z => by rw [z, F.ob] at e; cases e) (fun z => by rw [z, F.cs] at e; cases e)
theorem Save.wr {H H2 : Hp} {p c D : Addr} {o : HO} (s : Save p c H H2) (n : H D = none) : Save p c H (upd H2 D o) := fun b u e h1 h2 => by
  rw [upd_ne (ne_of_none e n)]
  exact s b u e h1 h2
theorem FeedAt.wr {H : Hp} {p c D : Addr} {o : HO} {ks : List Int} {w n : Int} (F : FeedAt H p c ks w n) (h1 : D ≠ p) (h2 : D ≠ c) : FeedAt (upd H D o) p c ks w n :=
  ⟨by rw [upd_ne (Ne.symm h1)]; exact F.ob, by rw [upd_ne (Ne.symm h2)]; exact F.cs, F.bits, F.len, F.w0, F.w1, F.n0⟩
theorem Save.free {H H' : Hp} {p c x : Addr} (s : Save p c H H') (h : H' x = none) (hp : x ≠ p) (hc : x ≠ c) : H x = none := by
  cases e : H x with
  | none => rfl
  | some o => rw [s x o e hp hc] at h; cases h
theorem TDs.app {H : Hp} : ∀ {vs : List V} {ds : List PyData} {us : List V} {es : List PyData}, TDs H vs ds → TDs H us es → TDs H (vs ++ us) (ds ++ es)
  | _, _, _, _, .nil, t => t
  | _, _, _, _, .cons h r, t => .cons h (TDs.app r t)
def spPick : Sp := fun vs H Q _ => ∃ (p c a : Addr) (xs : List V) (ks : List Int) (w n : Int), vs = [.ref p, .ref a] ∧ FeedAt H p c ks w n ∧ n < 999999 ∧ H a = some (.lst xs) ∧ a ≠ p ∧ a ≠ c ∧ 1 ≤ xs.length ∧ xs.length ≤ 100 ∧
  ∀ (x : V) (ks' : List Int) (H' : Hp), x ∈ xs → FeedAt H' p c ks' w (n + 1) → Save p c H H' → Q x H'
section
variable {P : Program} {w : World} {K : PySem.W.Frag} {mg : Str → Option Value} {base : Heap}
theorem scPi : FnScope ["_law_deck_here", "_law_some"] ["_law_deck_here", "_law_some"] (defScope sPick) := ⟨rfl, rfl, rfl, by decide +kernel, rfl, by decide +kernel, by decide +kernel⟩
theorem ok_pick {f fD : Addr} {fd fdD : FuncData} (F : Fun K "_law_pick" "_law_pick" sPick f fd) (mlen : mg "len" = none)
    (GD : FnOk P w K mg base CX0 1 fD fdD ["_law_deck_here", "_law_count"] spDigit) (mD : mg "_law_draw" = some (.ref fD)) (kD : PySem.W.keepIn K (.ref fD) = true) (bD : Binds K fdD ["_law_deck_here", "_law_count"] []) :
    FnOk P w K mg base CX0 2 f fd ["_law_deck_here", "_law_some"] spPick := by
  refine F.ok scPi (fun vs H Q E h => ?_) (fun cdv A outer s H vs Q E hr h => ?_)
  · obtain ⟨p, c, a, xs, ks, y, n, rfl, _⟩ := h
    rfl
  · obtain ⟨p, c, a, xs, ks, y, n, rfl, FA, hn, ha, np, nc, l0, l1, k⟩ := h
    refine ⟨_, pss_one (ps_ret (pe_ix ix_list (pv 1) (pe_call GD hr (by rfl) mD kD bD .nil pass0 (pa_cons (pv 0) (pa_cons (pe_callB (r := rLenQ K) call_len_seq (by rfl) mlen PySem.boot_len (pa_cons (pv 1) pa_nil)) pa_nil))) (fun _ _ => rfl))), ?_⟩
    refine ⟨_, rfl, _, rfl, _, rfl, a, _, rfl, .inl (SqL.of ha), p, c, ks, y, n, _, rfl, FA, by omega, by omega, by omega, fun i ks' H' i0 i1 FA' sv => ?_⟩
    obtain ⟨x, hx, e⟩ := at_nat (xs := xs) i0 i1
    exact ⟨a, _, i, x, rfl, rfl, SqL.of (sv a _ ha np nc), e, k x ks' H' hx FA' sv⟩
end
end My

-- ===== K14N =====
set_option Elab.async false
set_option linter.all false
set_option maxRecDepth 100000
set_option maxHeartbeats 4000000
namespace Kd
open PySem L2 PyProof.Rows PySem.Spec PySem.W PySem.P
/-! ### t + u, whatever they hold -/
def rCatA : R2 := fun x y H Q => ∃ a b xs ys, x = .ref a ∧ y = .ref b ∧ H a = some (.tup xs) ∧ H b = some (.tup ys) ∧ xs.length + ys.length ≤ sizeLine ∧ ∀ r H', Same H H' → H' r = some (.tup (xs ++ ys)) → Q (.ref r) H'
theorem op_catA {X : Cx} : OpR X (binaryOp .Add) rCatA := by
  intro pins s σ H x y v u Q I rx ry h
  obtain ⟨a, b, xs, ys, rfl, rfl, ha, hb, hz, q⟩ := h
  cases rx
  cases ry
  obtain ⟨its, r1, p1, _⟩ := I.tuple (SqT.of ha)
  obtain ⟨its2, r2, p2, _⟩ := I.tuple (SqT.of hb)
  by_cases hx : xs = []
  · subst hx
    cases r1
    obtain ⟨⟨cls, dd, data, sl⟩, ho, hc, n, hd⟩ := id p1
    obtain ⟨⟨cls2, dd2, data2, sl2⟩, ho2, hc2, n2, hd2⟩ := id p2
    simp only at hc hd hc2 hd2
    subst hc hd hc2 hd2
    exact concat_meets ⟨_, ho, rfl⟩ ⟨_, ho2, rfl⟩ noFill_tuple_add seq_tuple_add PySem.F.slot_tuple_add PySem.F.entry_tuple_add (PySem.F.args_tuple_add_2 _ _)
      (tuple_addW0 a b _ its2.toArray n n2 dd dd2 sl sl2 (by simp)) ⟨ho, ho2, ⟨.ref b, H, I, rfl, q b H (Same.refl H) hb⟩⟩
  · refine HT.cat_tup p1 p2 (fun z => hx (r1.nil_iff.mp z)) (fun z => ⟨.ref a, H, I, rfl, q a H (Same.refl H) (by rw [r2.nil_iff.mp z, List.append_nil]; exact ha)⟩) (fun z => ?_) (by rw [← r1.length, ← r2.length]; exact hz)
    refine ⟨.ref s.heap.objs.size, _, I.laid (t' := s.toks) (o := .tup (xs ++ ys)) (fun b ob q => Heap.get?_push_of_some _ q) (Nat.le_refl _) ?_, rfl, q _ _ (fun c o e => ?_) upd_same⟩
    · exact ⟨by rw [List.length_append]; exact hz, _, r1.append r2, IsTup.new _ _⟩
    · rw [upd_ne (ne_of_none e (I.hok.fresh (Nat.le_refl _)))]
      exact e
end Kd
namespace My
open PySem L2 PyProof.Rows PySem.Spec Kd
abbrev sFirst : Stmt := top 25
abbrev sComs : Stmt := top 26
abbrev sBegin : Stmt := top 27
abbrev sEvent : Stmt := top 28
abbrev sLonger : Stmt := top 29
abbrev sCommit : Stmt := top 30
abbrev sCommitted : Stmt := top 31
abbrev sAbort : Stmt := top 32
abbrev sThing : Stmt := top 33
abbrev sLogOf : Stmt := top 35
/-! ### logs as mathematics -/
abbrev Act := Int × Str × Str
structure Ent where
  num : Int
  com : Bool
  bef : List Int
  row : List Act
def actD (a : Act) : PyData := .tuple [.int a.1, .str a.2.1, .str a.2.2]
def entD (e : Ent) : PyData := .tuple [.int e.num, .bool e.com, .tuple (e.bef.map .int), .tuple (e.row.map actD)]
def logD (z : Nat) (es : List Ent) : PyData := .tuple [.tuple [.tuple (List.replicate z (.int 0))], .tuple (es.map entD)]
inductive Th where
  | beg
  | did (n : Int) (a : Act)
  | com (n : Int)
  | abo (n : Int)
def thD : Th → PyData
  | .beg => .tuple [.str "begin"]
  | .did n a => .tuple [.str "did", .int n, .int a.1, .str a.2.1, .str a.2.2]
  | .com n => .tuple [.str "commit", .int n]
  | .abo n => .tuple [.str "abort", .int n]
def comsOf (es : List Ent) : List Int := (es.filter (·.com)).map (·.num)
def longer (n : Int) (a : Act) (e : Ent) : Ent := if e.num = n then { e with row := e.row ++ [a] } else e
def committed (n : Int) (e : Ent) : Ent := if e.num = n then { e with com := true } else e
def stepP (k : Int) (es : List Ent) : Th → List Ent
  | .beg => es ++ [⟨k, false, comsOf es, []⟩]
  | .did n a => es.map (longer n a)
  | .com n => es.map (committed n)
  | .abo n => es.filter fun e => decide (e.num ≠ n)
def begs : List Th → Nat
  | [] => 0
  | .beg :: t => begs t + 1
  | _ :: t => begs t
def runP (k : Int) (es : List Ent) : List Th → List Ent
  | [] => es
  | .beg :: t => runP (k + 1) (stepP k es .beg) t
  | x :: t => runP k (stepP k es x) t
theorem act_of {H : Hp} {v : V} {a : Act} (h : TD H v (actD a)) : ∃ t, v = .ref t ∧ H t = some (.tup [.int a.1, .str a.2.1, .str a.2.2]) := by
  obtain ⟨t, xs, rfl, ht, hx⟩ := TD.ref_of h
  refine ⟨t, rfl, ?_⟩
  cases hx with
  | cons h1 t1 =>
    cases h1
    cases t1 with
    | cons h2 t2 =>
      cases h2
      cases t2 with
      | cons h3 t3 =>
        cases h3
        cases t3
        exact ht
theorem act_new {H : Hp} {t : Addr} {a : Act} (h : H t = some (.tup [.int a.1, .str a.2.1, .str a.2.2])) : TD H (.ref t) (actD a) := .tup h (.cons (.int _) (.cons (.str _) (.cons (.str _) .nil)))
theorem ent_of {H : Hp} {v : V} {e : Ent} (h : TD H v (entD e)) : ∃ a x y bv rv, v = .ref a ∧ H a = some (.tup [.int e.num, .bl e.com, .ref x, .ref y]) ∧ H x = some (.tup bv) ∧ TDs H bv (e.bef.map .int) ∧ H y = some (.tup rv) ∧ TDs H rv (e.row.map actD) := by
  obtain ⟨a, xs, rfl, ha, hx⟩ := TD.ref_of h
  cases hx with
  | cons h1 t1 =>
    cases h1
    cases t1 with
    | cons h2 t2 =>
      cases h2
      cases t2 with
      | cons h3 t3 =>
        obtain ⟨x, bv, rfl, hxv, hb⟩ := TD.ref_of h3
        cases t3 with
        | cons h4 t4 =>
          obtain ⟨y, rv, rfl, hyv, hr⟩ := TD.ref_of h4
          cases t4
          exact ⟨a, x, y, bv, rv, rfl, ha, hxv, hb, hyv, hr⟩
theorem ent_new {H : Hp} {a x y : Addr} {bv rv : List V} {e : Ent} (ha : H a = some (.tup [.int e.num, .bl e.com, .ref x, .ref y])) (hx : H x = some (.tup bv)) (hb : TDs H bv (e.bef.map .int)) (hy : H y = some (.tup rv)) (hr : TDs H rv (e.row.map actD)) : TD H (.ref a) (entD e) :=
  .tup ha (.cons (.int _) (.cons (.bl _) (.cons (.tup hx hb) (.cons (.tup hy hr) .nil))))
theorem log_at {H : Hp} {v : V} {z : Nat} {es : List Ent} (h : TD H v (logD z es)) : ∃ a x y ev, v = .ref a ∧ H a = some (.tup [.ref x, .ref y]) ∧ TD H (.ref x) (.tuple [.tuple (List.replicate z (.int 0))]) ∧ H y = some (.tup ev) ∧ TDs H ev (es.map entD) := by
  obtain ⟨a, xs, rfl, ha, hx⟩ := TD.ref_of h
  cases hx with
  | cons h1 t1 =>
    obtain ⟨x, _, rfl, _, _⟩ := TD.ref_of h1
    cases t1 with
    | cons h2 t2 =>
      obtain ⟨y, ev, rfl, hy, he⟩ := TD.ref_of h2
      cases t2
      exact ⟨a, x, y, ev, rfl, ha, h1, hy, he⟩
theorem log_new {H : Hp} {a x y : Addr} {ev : List V} {z : Nat} {es : List Ent} (ha : H a = some (.tup [.ref x, .ref y])) (hx : TD H (.ref x) (.tuple [.tuple (List.replicate z (.int 0))])) (hy : H y = some (.tup ev)) (he : TDs H ev (es.map entD)) : TD H (.ref a) (logD z es) :=
  .tup ha (.cons hx (.cons (.tup hy he) .nil))
theorem ent_get {H : Hp} {vs : List V} {es : List Ent} (h : TDs H vs (es.map entD)) {i : Nat} {v : V} (e : vs[i]? = some v) : ∃ x, es[i]? = some x ∧ TD H v (entD x) := by
  obtain ⟨d, ed, td⟩ := h.get e
  rw [List.getElem?_map] at ed
  obtain ⟨x, ex, rfl⟩ := Option.map_eq_some_iff.mp ed
  exact ⟨x, ex, td⟩
def Small (es : List Ent) : Prop := es.length ≤ 1000 ∧ ∀ e ∈ es, e.row.length ≤ 1000
def spFirst : Sp := fun vs H Q _ => ∃ (a : Addr) (xs : List V), vs = [.ref a] ∧ H a = some (.tup xs) ∧ xs.length ≤ 1000 ∧ ∀ R H', Same H H' → TD H' (.ref R) (logD xs.length []) → Q (.ref R) H'
def spComs : Sp := fun vs H Q _ => ∃ (v : V) (z : Nat) (es : List Ent), vs = [v] ∧ TD H v (logD z es) ∧ Small es ∧ ∀ R H', Same H H' → TD H' (.ref R) (.tuple ((comsOf es).map .int)) → Q (.ref R) H'
def spBegin : Sp := fun vs H Q _ => ∃ (v : V) (z : Nat) (k : Int) (es : List Ent), vs = [v, .int k] ∧ TD H v (logD z es) ∧ Small es ∧ ∀ R H', Same H H' → TD H' (.ref R) (logD z (stepP k es .beg)) → Q (.ref R) H'
def spLonger : Sp := fun vs H Q _ => ∃ (v u : V) (e : Ent) (a : Act), vs = [v, u] ∧ TD H v (entD e) ∧ TD H u (actD a) ∧ e.row.length ≤ 1000 ∧ ∀ R H', Same H H' → TD H' (.ref R) (entD { e with row := e.row ++ [a] }) → Q (.ref R) H'
def spEvent : Sp := fun vs H Q _ => ∃ (v u : V) (z : Nat) (n : Int) (a : Act) (es : List Ent), vs = [v, .int n, u] ∧ TD H v (logD z es) ∧ TD H u (actD a) ∧ Small es ∧ ∀ R H', Same H H' → TD H' (.ref R) (logD z (es.map (longer n a))) → Q (.ref R) H'
def spCommitted : Sp := fun vs H Q _ => ∃ (v : V) (e : Ent), vs = [v] ∧ TD H v (entD e) ∧ ∀ R H', Same H H' → TD H' (.ref R) (entD { e with com := true }) → Q (.ref R) H'
def spCommit : Sp := fun vs H Q _ => ∃ (v : V) (z : Nat) (n : Int) (es : List Ent), vs = [v, .int n] ∧ TD H v (logD z es) ∧ Small es ∧ ∀ R H', Same H H' → TD H' (.ref R) (logD z (es.map (committed n))) → Q (.ref R) H'
def spAbort : Sp := fun vs H Q _ => ∃ (v : V) (z : Nat) (n : Int) (es : List Ent), vs = [v, .int n] ∧ TD H v (logD z es) ∧ Small es ∧ ∀ R H', Same H H' → TD H' (.ref R) (logD z (es.filter fun e => decide (e.num ≠ n))) → Q (.ref R) H'
def spThing : Sp := fun vs H Q _ => ∃ (v u : V) (z : Nat) (k : Int) (es : List Ent) (th : Th), vs = [v, u, .int k] ∧ TD H v (logD z es) ∧ TD H u (thD th) ∧ Small es ∧ ∀ R H', Same H H' → TD H' (.ref R) (logD z (stepP k es th)) → Q (.ref R) H'
section
variable {P : Program} {w : World} {K : PySem.W.Frag} {mg : Str → Option Value} {base : Heap}
abbrev nFi : List Str := ["system", "_"]
theorem scFi : FnScope nFi ["system"] (defScope sFirst) := ⟨rfl, rfl, rfl, by decide +kernel, rfl, by decide +kernel, by decide +kernel⟩
theorem ok_first {f : Addr} {fd : FuncData} (F : Fun K "first_log" "first_log" sFirst f fd) (mtup : mg "tuple" = none) : FnOk P w K mg base CX0 1 f fd ["system"] spFirst := by
  refine F.ok scFi (fun vs H Q E h => ?_) (fun cdv A outer s H vs Q E hr h => ?_)
  · obtain ⟨a, xs, rfl, _⟩ := h
    rfl
  · obtain ⟨a, xs, rfl, ha, few, k⟩ := h
    refine ⟨_, pss_one (ps_ret (pe_tup (pa_cons (pe_tup (pa_cons (pe_callTy call_tuple_of (by rfl) mtup (by decide +kernel) (pa_cons (pe_lc (own := [("_", 1)]) (g := gName 1) (tt := tYes) rfl scFi.nd (pi_tup (pv 0)) (blkOk_by (N := nFi) (sc := defScope sFirst) (by decide +kernel))
        (fun _ _ _ _ _ => pg_name (i := 1) scFi.nd rfl (Or.inl rfl)) (fun _ _ _ _ _ => pts_nil) (fun _ _ _ _ _ => pe_int)) pa_nil)) pa_nil)) (pa_cons (pe_tup pa_nil) pa_nil)))), ?_⟩
    refine ⟨_, rfl, a, rfl, ⟨_, SqT.of ha⟩, fun D hD => lc_tup (K := K) (a := a) (xs := xs) (fun i H2 => Same H H2 ∧ ∃ vs, H2 D = some (.lst vs) ∧ TDs H2 vs (List.replicate i (.int 0))) ⟨same_new hD, [], upd_same, .nil⟩ (fun i H2 _ ⟨s2, _⟩ => SqT.of (s2 _ _ ha)) (fun i v H2 ex ⟨s2, vs, d2, t2⟩ => ?_) fun H2 ⟨s2, vs, d2, t2⟩ => ?_⟩
    · have lt : i < xs.length := (List.getElem?_eq_some_iff.mp ex).1
      have l2 := t2.len
      rw [List.length_replicate] at l2
      have tp : Tup H2 (upd H2 D (.lst (vs ++ [.int 0]))) := Tup.at_ d2 fun xs z => nomatch z
      refine ⟨rfl, vs, d2, small_lt (m := 1000) (by omega), same_at s2 hD, _, upd_same, ?_⟩
      rw [List.replicate_succ']
      exact TDs.snoc (.int 0) (t2.to tp)
    · refine ⟨D, vs, rfl, .inl ⟨SqL.of d2, fun t1 h1 => ⟨by show 1 ≤ sizeLine; decide, fun t2' h2 => ⟨by show 0 ≤ sizeLine; decide, fun t3 h3 => ⟨by show 2 ≤ sizeLine; decide, fun t4 h4 => ?_⟩⟩⟩⟩⟩
      have s3 := same_new (o := .tup vs) h1
      have s4 := same_new (o := .tup [V.ref t1]) h2
      have s5 := same_new (o := .tup []) h3
      have s6 := same_new (o := .tup [V.ref t2', .ref t3]) h4
      refine k t4 _ (s2.trans (s3.trans (s4.trans (s5.trans s6)))) (log_new upd_same ?_ (s6 _ _ upd_same) .nil)
      exact .tup (s6 _ _ (s5 _ _ upd_same)) (.cons (.tup (s6 _ _ (s5 _ _ (s4 _ _ upd_same))) (t2.to (Tup.of (s3.trans (s4.trans (s5.trans s6)))))) .nil)
abbrev nCo : List Str := ["log", "entry"]
theorem scCo : FnScope nCo ["log"] (defScope sComs) := ⟨rfl, rfl, rfl, by decide +kernel, rfl, by decide +kernel, by decide +kernel⟩
theorem ok_coms {f : Addr} {fd : FuncData} (F : Fun K "committed_of" "committed_of" sComs f fd) (mtup : mg "tuple" = none) : FnOk P w K mg base CX0 1 f fd ["log"] spComs := by
  refine F.ok scCo (fun vs H Q E h => ?_) (fun cdv A outer s H vs Q E hr h => ?_)
  · obtain ⟨v, z, es, rfl, _⟩ := h
    rfl
  · obtain ⟨v, z, es, rfl, tl, sm, k⟩ := h
    obtain ⟨a, x, y, ev, rfl, ha, tx, hy, te⟩ := log_at tl
    have len : ev.length = es.length := by have q := te.len; rwa [List.length_map] at q
    refine ⟨_, pss_one (ps_ret (pe_callTy call_tuple_of (by rfl) mtup (by decide +kernel) (pa_cons (pe_lc (own := [("entry", 1)]) (g := gName 1) rfl scCo.nd (pi_tup (pe_ix (r := rIxT K) ix_tup (pv 0) pe_int (fun _ _ => rfl))) (blkOk_by (N := nCo) (sc := defScope sComs) (by decide +kernel))
        (fun _ _ _ _ _ => pg_name (i := 1) scCo.nd rfl (Or.inl rfl)) (fun _ _ _ _ _ => pts_one (pt_val (pe_ix (r := rIxT K) ix_tup (pv 1) pe_int (fun _ _ => rfl)))) (fun _ _ _ _ _ => pe_ix (r := rIxT K) ix_tup (pv 1) pe_int (fun _ _ => rfl))) pa_nil))), ?_⟩
    refine ⟨_, rfl, a, _, 1, .ref y, rfl, rfl, SqT.of ha, rfl, y, rfl, ⟨_, SqT.of hy⟩, fun D hD => lc_tup (K := K) (a := y) (xs := ev) (fun i H2 => Same H H2 ∧ ∃ vs, H2 D = some (.lst vs) ∧ TDs H2 vs ((comsOf (es.take i)).map .int) ∧ vs.length ≤ i) ⟨same_new hD, [], upd_same, by simpa [comsOf] using TDs.nil, Nat.le_refl _⟩ (fun i H2 _ ⟨s2, _⟩ => SqT.of (s2 _ _ hy)) (fun i v H2 ex ⟨s2, vs, d2, t2, l2⟩ => ?_) fun H2 ⟨s2, vs, d2, t2, _⟩ => ?_⟩
    · obtain ⟨e, ee, td⟩ := ent_get te ex
      have lt : i < es.length := (List.getElem?_eq_some_iff.mp ee).1
      have := sm.1
      obtain ⟨c, x1, y1, bv, rv, rfl, hc, _⟩ := ent_of td
      have hc2 := s2 _ _ hc
      refine ⟨rfl, _, rfl, c, _, 1, .bl e.com, rfl, rfl, SqT.of hc2, rfl, e.com, rfl, ?_⟩
      have tk : es.take (i + 1) = es.take i ++ [e] := by rw [List.take_succ, ee]; rfl
      cases eb : e.com with
      | false =>
        refine iteF ⟨s2, vs, d2, ?_, by omega⟩
        have e2 : comsOf (es.take (i + 1)) = comsOf (es.take i) := by
          rw [tk]
          unfold comsOf
          rw [List.filter_append, List.filter_cons, eb]
          simp
        rw [e2]
        exact t2
      | true =>
        have tp : Tup H2 (upd H2 D (.lst (vs ++ [.int e.num]))) := Tup.at_ d2 fun xs z => nomatch z
        refine iteT ⟨_, rfl, c, _, 0, .int e.num, rfl, rfl, SqT.of hc2, rfl, vs, d2, small_lt (m := 1000) (by omega), same_at s2 hD, _, upd_same, ?_, by rw [List.length_append]; exact Nat.succ_le_succ l2⟩
        have e2 : comsOf (es.take (i + 1)) = comsOf (es.take i) ++ [e.num] := by
          rw [tk]
          unfold comsOf
          rw [List.filter_append, List.filter_cons, eb]
          simp
        rw [e2, List.map_append]
        exact TDs.snoc (.int _) (t2.to tp)
    · rw [len, List.take_length] at t2
      exact ⟨D, vs, rfl, .inl ⟨SqL.of d2, fun q hq => k q _ (s2.trans (same_new hq)) (.tup upd_same (t2.to (Tup.new hq)))⟩⟩
theorem scBe : FnScope ["log", "number"] ["log", "number"] (defScope sBegin) := ⟨rfl, rfl, rfl, by decide +kernel, rfl, by decide +kernel, by decide +kernel⟩
theorem ok_begin {f fC : Addr} {fd fdC : FuncData} (F : Fun K "with_begin" "with_begin" sBegin f fd)
    (GC : FnOk P w K mg base CX0 1 fC fdC ["log"] spComs) (mC : mg "committed_of" = some (.ref fC)) (kC : PySem.W.keepIn K (.ref fC) = true) (bC : Binds K fdC ["log"] []) : FnOk P w K mg base CX0 2 f fd ["log", "number"] spBegin := by
  refine F.ok scBe (fun vs H Q E h => ?_) (fun cdv A outer s H vs Q E hr h => ?_)
  · obtain ⟨v, z, n, es, rfl, _⟩ := h
    rfl
  · obtain ⟨v, z, n, es, rfl, tl, sm, k⟩ := h
    obtain ⟨a, x, y, ev, rfl, ha, tx, hy, te⟩ := log_at tl
    have len : ev.length = es.length := by have q := te.len; rwa [List.length_map] at q
    have s1 := sm.1
    refine ⟨_, pss_one (ps_ret (pe_tup (pa_cons (pe_ix ix_tup (pv 0) pe_int (fun _ _ => rfl)) (pa_cons (pe_op op_catA (pe_ix ix_tup (pv 0) pe_int (fun _ _ => rfl)) (pe_tup (pa_cons (pe_tup (pa_cons (pv 1) (pa_cons pe_bl (pa_cons (pe_call GC hr (by rfl) mC kC bC .nil pass0 (pa_cons (pv 0) pa_nil)) (pa_cons (pe_tup pa_nil) pa_nil))))) pa_nil))) pa_nil)))), ?_⟩
    refine ⟨_, rfl, a, _, 0, .ref x, rfl, rfl, SqT.of ha, rfl, _, rfl, a, _, 1, .ref y, rfl, rfl, SqT.of ha, rfl, _, rfl, _, rfl, .ref a, z, es, rfl, tl, sm, fun R1 H1 sh1 t1 => ⟨by show 0 ≤ sizeLine; decide, fun t2' h2 => ⟨by show 4 ≤ sizeLine; decide, fun t3 h3 => ⟨by show 1 ≤ sizeLine; decide, fun t4 h4 => ?_⟩⟩⟩⟩
    have s2 := same_new (o := .tup []) h2
    have s3 := same_new (o := .tup [V.int n, .bl false, .ref R1, .ref t2']) h3
    have s4 := same_new (o := .tup [V.ref t3]) h4
    have sall := sh1.trans (s2.trans (s3.trans s4))
    refine ⟨y, t4, ev, [.ref t3], rfl, rfl, sall _ _ hy, upd_same, small_len (m := 1001) (by rw [List.length_singleton]; omega), fun r H5 s5 hr5 => ⟨by show 2 ≤ sizeLine; decide, fun t6 h6 => ?_⟩⟩
    have s6 := same_new (o := .tup [V.ref x, .ref r]) h6
    obtain ⟨bv, hb, tb⟩ := t1.tup_of
    have s56 := s5.trans s6
    have sfin := sall.trans s56
    refine k t6 _ sfin (log_new upd_same (tx.to (Tup.of sfin)) (s6 _ _ hr5) ?_)
    show TDs _ _ ((es ++ [(⟨n, false, comsOf es, []⟩ : Ent)]).map entD)
    rw [List.map_append]
    have s14 := s2.trans (s3.trans s4)
    exact TDs.snoc (ent_new (s56 _ _ (s4 _ _ upd_same)) (s56 _ _ (s14 _ _ hb)) ((tb.to (Tup.of s14)).to (Tup.of s56)) (s56 _ _ (s4 _ _ (s3 _ _ upd_same))) .nil) (te.to (Tup.of sfin))
abbrev nLo : List Str := ["entry", "event", "number", "committed", "earlier", "row"]
theorem scLo : FnScope nLo ["entry", "event"] (defScope sLonger) := ⟨rfl, rfl, rfl, by decide +kernel, rfl, by decide +kernel, by decide +kernel⟩
theorem ok_longer {f : Addr} {fd : FuncData} (F : Fun K "_longer" "_longer" sLonger f fd) : FnOk P w K mg base CX0 1 f fd ["entry", "event"] spLonger := by
  refine F.ok scLo (fun vs H Q E h => ?_) (fun cdv A outer s H vs Q E hr h => ?_)
  · obtain ⟨v, u, e, a, rfl, _⟩ := h
    rfl
  · obtain ⟨v, u, e, a, rfl, te, ta, few, k⟩ := h
    obtain ⟨c, x, y, bv, rv, rfl, hc, hx, tb, hy, tr⟩ := ent_of te
    obtain ⟨t, rfl, ht⟩ := act_of ta
    have len : rv.length = e.row.length := by have q := tr.len; rwa [List.length_map] at q
    refine ⟨_, pss_cons (ps_asg (pv 0) (pg_tup (by rfl) (pgs_cons (pg_name (i := 2) scLo.nd rfl (Or.inl rfl)) (pgs_cons (pg_name (i := 3) scLo.nd rfl (Or.inl rfl)) (pgs_cons (pg_name (i := 4) scLo.nd rfl (Or.inl rfl)) (pgs_cons (pg_name (i := 5) scLo.nd rfl (Or.inl rfl)) pgs_nil))))))
      (pss_one (ps_ret (pe_tup (pa_cons (pv 2) (pa_cons (pv 3) (pa_cons (pv 4) (pa_cons (pe_op op_catA (pv 5) (pe_tup (pa_cons (pv 1) pa_nil))) pa_nil))))))), ?_⟩
    refine ⟨_, rfl, c, _, rfl, SqT.of hc, rfl, _, _, rfl, _, _, rfl, _, _, rfl, _, _, rfl, rfl, ?_⟩
    refine ⟨_, rfl, _, rfl, _, rfl, _, rfl, _, rfl, by show 1 ≤ sizeLine; decide, fun t1 h1 => ?_⟩
    have s1 := same_new (o := .tup [V.ref t]) h1
    refine ⟨y, t1, rv, [.ref t], rfl, rfl, s1 _ _ hy, upd_same, small_len (m := 1001) (by rw [List.length_singleton]; omega), fun r H2 s2 hr2 => ⟨by show 4 ≤ sizeLine; decide, fun t3 h3 => ?_⟩⟩
    have s3 := same_new (o := .tup [V.int e.num, .bl e.com, .ref x, .ref r]) h3
    have sall := s1.trans (s2.trans s3)
    refine k t3 _ sall (ent_new upd_same (sall _ _ hx) (tb.to (Tup.of sall)) (s3 _ _ hr2) ?_)
    rw [List.map_append]
    exact TDs.snoc (act_new (sall _ _ ht)) (tr.to (Tup.of sall))
theorem scCm : FnScope ["entry"] ["entry"] (defScope sCommitted) := ⟨rfl, rfl, rfl, by decide +kernel, rfl, by decide +kernel, by decide +kernel⟩
theorem ok_committed {f : Addr} {fd : FuncData} (F : Fun K "_committed" "_committed" sCommitted f fd) : FnOk P w K mg base CX0 1 f fd ["entry"] spCommitted := by
  refine F.ok scCm (fun vs H Q E h => ?_) (fun cdv A outer s H vs Q E hr h => ?_)
  · obtain ⟨v, e, rfl, _⟩ := h
    rfl
  · obtain ⟨v, e, rfl, te, k⟩ := h
    obtain ⟨c, x, y, bv, rv, rfl, hc, hx, tb, hy, tr⟩ := ent_of te
    refine ⟨_, pss_one (ps_ret (pe_tup (pa_cons (pe_ix ix_tup (pv 0) pe_int (fun _ _ => rfl)) (pa_cons pe_bl (pa_cons (pe_ix ix_tup (pv 0) pe_int (fun _ _ => rfl)) (pa_cons (pe_ix ix_tup (pv 0) pe_int (fun _ _ => rfl)) pa_nil)))))), ?_⟩
    refine ⟨_, rfl, c, _, 0, _, rfl, rfl, SqT.of hc, rfl, _, rfl, c, _, 2, _, rfl, rfl, SqT.of hc, rfl, _, rfl, c, _, 3, _, rfl, rfl, SqT.of hc, rfl, by show 4 ≤ sizeLine; decide, fun t3 h3 => ?_⟩
    have s3 := same_new (o := .tup [V.int e.num, .bl true, .ref x, .ref y]) h3
    exact k t3 _ s3 (ent_new upd_same (s3 _ _ hx) (tb.to (Tup.of s3)) (s3 _ _ hy) (tr.to (Tup.of s3)))
end
end My

-- ===== K14S0 =====
set_option Elab.async false
set_option linter.all false
set_option maxRecDepth 100000
set_option maxHeartbeats 4000000
namespace My
open PySem L2 PyProof.Rows PySem.Spec Kd
/-! ### written data -/
def tDat (d : PyData) : TE := fun _ H Q => ∀ r H', Same H H' → TD H' r d → Q r H'
def tDats (ds : List PyData) : TA := fun _ H Q => ∀ rs H', Same H H' → TDs H' rs ds → Q rs H'
section
variable {X : Cx} {e : Expr} {es : List Expr} {d : PyData} {ds : List PyData} {pos : Pos}
theorem ped_int {i : Int} {j : Nat} : PE X (.Constant (.int i) j pos) (tDat (.int i)) := ⟨fun pins s σ H Q I h => (pe_int (X := X)).run pins s σ H Q I (h _ H (Same.refl H) (.int i))⟩
theorem ped_str {x : Str} {j : Nat} : PE X (.Constant (.str x) j pos) (tDat (.str x)) := ⟨fun pins s σ H Q I h => (pe_str (X := X)).run pins s σ H Q I (h _ H (Same.refl H) (.str x))⟩
theorem pad_nil : PA X [] (tDats []) := ⟨fun pos pins s σ H Q I h => (pa_nil (X := X)).run pos pins s σ H Q I (h _ H (Same.refl H) .nil)⟩
theorem pad_cons (he : PE X e (tDat d)) (hr : PA X es (tDats ds)) (hs : starEach (e :: es) X.env = (false, eval e X.env) :: starEach es X.env := by rfl) : PA X (e :: es) (tDats (d :: ds)) :=
  ⟨fun pos pins s σ H Q I h => (pa_cons he hr hs).run pos pins s σ H Q I fun x H1 s1 t1 xs H2 s2 t2 => h _ H2 (s1.trans s2) (.cons (t1.to (Tup.of s2)) t2)⟩
theorem ped_tup {x1} (h : PA X es (tDats ds)) (hl : ds.length ≤ 1000 := by decide) : PE X (.Tuple es x1 pos) (tDat (.tuple ds)) :=
  ⟨fun pins s σ H Q I q => (pe_tup h).run pins s σ H Q I fun xs H1 s1 t1 => ⟨small_len (m := 1000) (by rw [t1.len]; exact hl), fun p hp => q _ _ (s1.trans (same_new hp)) (.tup upd_same (t1.to (Tup.new hp)))⟩⟩
end
/-! ### the known kinds -/
instance (x y : Str × Str) : Decidable (evLt x y) := by unfold evLt; infer_instance
instance (z : Str) : Decidable (Wrd z) := by unfold Wrd; infer_instance
theorem kok_of (ss : List (List Stp)) (es : List (Str × Str)) (h : 1 ≤ ss.length ∧ ss.length ≤ 40 ∧ es.length ≤ 24 ∧ ∀ st ∈ ss, (∀ x ∈ st, Wrd x.1 ∧ Wrd x.2.1 ∧ 0 ≤ x.2.2 ∧ x.2.2 < (ss.length : Int) ∧ evOf x ∈ es) ∧ (st.map evOf).Pairwise evLt ∧ st.length ≤ 24) : KOk ss :=
  ⟨h.1, h.2.1, fun st m => let ⟨a, b, c⟩ := h.2.2.2 st m; ⟨fun x mx => let ⟨w1, w2, l, h', _⟩ := a x mx; ⟨w1, w2, l, h'⟩, b, c⟩, es, h.2.2.1, fun st m x mx => ((h.2.2.2 st m).1 x mx).2.2.2.2⟩
def kLet1 : List (List Stp) := [[("read", "a", 0), ("seta", "ok", 0), ("setb", "ok", 1)]]
def kLet2 : List (List Stp) := [[("read", "b", 1), ("seta", "ok", 0), ("setb", "ok", 1)]]
def kPur : List (List Stp) := [[("put", "ok", 1), ("take", "no", 0)], [("put", "ok", 2), ("take", "ok", 0)], [("take", "ok", 1)]]
def kLin1 : List (List Stp) := [[("puta", "ok", 1), ("putb", "ok", 2)], [("puta", "ok", 3), ("putb", "ok", 4), ("take", "a", 0)]]
def kLin2 : List (List Stp) := [[("puta", "ok", 5), ("putb", "ok", 6), ("take", "b", 0)], [("take", "a", 1)], [("take", "a", 2)]]
def kLin3 : List (List Stp) := [[("take", "b", 1)], [("take", "b", 2)]]
def kSt (i : Nat) : List Stp := (if i < 39 then [((("add" : Str), ("ok" : Str), (i : Int) + 1) : Stp)] else []) ++ (if 0 < i then [((("sub" : Str), ("ok" : Str), (i : Int) - 1) : Stp)] else [])
def kSteps : List (List Stp) := (List.range 40).map kSt
theorem kok_let : KOk (kLet1 ++ kLet2) := kok_of _ [("read", "a"), ("read", "b"), ("seta", "ok"), ("setb", "ok")] (by decide +kernel)
theorem kok_pur : KOk kPur := kok_of _ [("put", "ok"), ("take", "no"), ("take", "ok")] (by decide +kernel)
theorem kok_lin : KOk ((kLin1 ++ kLin2) ++ kLin3) := kok_of _ [("puta", "ok"), ("putb", "ok"), ("take", "a"), ("take", "b")] (by decide +kernel)
theorem kok_steps : KOk kSteps := kok_of _ [("add", "ok"), ("sub", "ok")] (by decide +kernel)
/-! ### menus -/
abbrev Ev := Str × Str
def evD (e : Ev) : PyData := .tuple [.str e.1, .str e.2]
def MN1 : List Ev := [("begin", "0"), ("commit", "a"), ("did", "ok"), ("x", "y")]
def MN2 : List Ev := [("get", "a"), ("get", "b"), ("see", "a")]
structure MOk (es : List Ev) : Prop where
  asc : es.Pairwise evLt
  wr : ∀ e ∈ es, Wrd e.1 ∧ Wrd e.2
  few : es.length ≤ 4
theorem mok1 : MOk MN1 := ⟨by decide +kernel, by decide +kernel, by decide +kernel⟩
theorem mok2 : MOk MN2 := ⟨by decide +kernel, by decide +kernel, by decide +kernel⟩
theorem ev_of {H : Hp} {v : V} {e : Ev} (h : TD H v (evD e)) : ∃ t, v = .ref t ∧ H t = some (.tup [.str e.1, .str e.2]) := by
  obtain ⟨t, xs, rfl, ht, hx⟩ := TD.ref_of h
  refine ⟨t, rfl, ?_⟩
  cases hx with
  | cons h1 t1 =>
    cases h1
    cases t1 with
    | cons h2 t2 =>
      cases h2
      cases t2
      exact ht
theorem ev_new {H : Hp} {t : Addr} {e : Ev} (h : H t = some (.tup [.str e.1, .str e.2])) : TD H (.ref t) (evD e) := .tup h (.cons (.str _) (.cons (.str _) .nil))
theorem TDs.at_ {H : Hp} {α : Type} {f : α → PyData} {vs : List V} {es : List α} (h : TDs H vs (es.map f)) {i : Nat} {v : V} (e : vs[i]? = some v) : ∃ x, es[i]? = some x ∧ TD H v (f x) := by
  obtain ⟨d, ed, td⟩ := h.get e
  rw [List.getElem?_map] at ed
  obtain ⟨x, ex, rfl⟩ := Option.map_eq_some_iff.mp ed
  exact ⟨x, ex, td⟩
theorem TDs.lenm {H : Hp} {α : Type} {f : α → PyData} {vs : List V} {es : List α} (h : TDs H vs (es.map f)) : vs.length = es.length := by
  have := h.len
  rwa [List.length_map] at this
end My

-- ===== K14S =====
set_option Elab.async false
set_option linter.all false
set_option maxRecDepth 100000
set_option maxHeartbeats 4000000
namespace My
open PySem L2 PyProof.Rows PySem.Spec Kd
theorem rep01 {b : Bool} {l : Addr} {xs : List V} {H : Hp} {Q : VK} (hl : H l = some (.lst xs)) (hx : xs.length ≤ 1000) (q : ∀ p, H p = none → Q (.ref p) (upd H p (.lst (if b = true then xs else [])))) : rRep (.ref l) (.int (if b = true then 1 else 0)) H Q := by
  cases b with
  | true => exact ⟨l, 1, xs, rfl, rfl, hl, by decide, by decide, small_len (m := 1000) (by show xs.length * 1 ≤ _; omega), fun p hp => by
      have e : (List.replicate (1 : Int).toNat xs).flatten = xs := by simp
      rw [e]
      exact q p hp⟩
  | false => exact ⟨l, 0, xs, rfl, rfl, hl, by decide, by decide, small_len (m := 1000) (by show xs.length * 0 ≤ _; omega), fun p hp => q p hp⟩
theorem kst_new {H : Hp} {e1 e2 r : Addr} {i : Nat} (hi : i < 40) (c1 : H e1 = some (.tup [.str "add", .str "ok", .int (0 + (i : Int) + 1)])) (c2 : H e2 = some (.tup [.str "sub", .str "ok", .int (0 + (i : Int) - 1)]))
    (hr : H r = some (.tup ((if decide (0 + (i : Int) < 39) = true then [V.ref e1] else []) ++ (if decide (0 + (i : Int) > 0) = true then [V.ref e2] else [])))) : TD H (.ref r) (stateD (kSt i)) := by
  rw [Int.zero_add] at c1 c2 hr
  have g1 : decide ((i : Int) < 39) = decide (i < 39) := decide_eq_decide.mpr (by omega)
  have g2 : decide ((i : Int) > 0) = decide (0 < i) := decide_eq_decide.mpr (by omega)
  rw [g1, g2] at hr
  refine .tup hr ?_
  have u1 := TD.tup c1 (.cons (.str _) (.cons (.str _) (.cons (.int _) .nil)))
  have u2 := TD.tup c2 (.cons (.str _) (.cons (.str _) (.cons (.int _) .nil)))
  unfold kSt
  by_cases h1 : i < 39 <;> by_cases h2 : 0 < i
  · rw [decide_eq_true h1, decide_eq_true h2, if_pos h1, if_pos h2]
    exact .cons u1 (.cons u2 .nil)
  · rw [decide_eq_true h1, decide_eq_false h2, if_pos h1, if_neg h2]
    exact .cons u1 .nil
  · rw [decide_eq_false h1, decide_eq_true h2, if_neg h1, if_pos h2]
    exact .cons u2 .nil
  · omega
abbrev rTupO (K : PySem.W.Frag) : List V → Hp → VK → Prop := fun xs H Q => ∃ p ys, xs = [.ref p] ∧ ((SqL K H p ys ∧ ∀ l : Addr, H l = none → Q (.ref l) (upd H l (.tup ys))) ∨ SqT K H p ys ∧ Q (.ref p) H)
def spStates' : Sp := fun vs H Q _ => ∃ (p c : Addr) (ks : List Int) (w n : Int), vs = [.ref p] ∧ FeedAt H p c ks w n ∧ n < 900000 ∧
  ∀ (a : Addr) (ss : List (List Stp)) (ks' : List Int) (n' : Int) (H' : Hp), TD H' (.ref a) (statesD ss) → KOk ss → FeedAt H' p c ks' w n' → n' ≤ n + 100 → Save p c H H' → Q (.ref a) H'
section
variable {P : Program} {w : World} {K : PySem.W.Frag} {mg : Str → Option Value} {base : Heap}
abbrev nSt' : List Str := ["_law_deck_here", "_law_letter", "_law_purse", "_law_line", "_law_steps", "_law_known", "_law_way", "_law_menus", "_law_some", "_law_many", "_law_found", "_law_state", "_law_k", "_law_event"]
theorem scSt' : FnScope nSt' ["_law_deck_here"] (defScope sLStates) := ⟨rfl, rfl, rfl, by decide +kernel, rfl, by decide +kernel, by decide +kernel⟩
theorem ok_lstates {f fP fD : Addr} {fd fdP fdD : FuncData} (F : Fun K "_law_states" "_law_states" sLStates f fd) (mtup : mg "tuple" = none) (mint : mg "int" = none) (mrange : mg "range" = none)
    (GP : FnOk P w K mg base CX0 2 fP fdP ["_law_deck_here", "_law_some"] spPick) (mP : mg "_law_pick" = some (.ref fP)) (kP : PySem.W.keepIn K (.ref fP) = true) (bP : Binds K fdP ["_law_deck_here", "_law_some"] [])
    (GD : FnOk P w K mg base CX0 1 fD fdD ["_law_deck_here", "_law_count"] spDigit) (mD : mg "_law_draw" = some (.ref fD)) (kD : PySem.W.keepIn K (.ref fD) = true) (bD : Binds K fdD ["_law_deck_here", "_law_count"] []) :
    FnOk P w K mg base CX0 3 f fd ["_law_deck_here"] spStates' := by
  refine F.ok scSt' (fun vs H Q E h => ?_) (fun cdv A outer s H vs Q E hr h => ?_)
  · obtain ⟨p, c, ks, y, n, rfl, _⟩ := h
    rfl
  · obtain ⟨p, c, ks, y, n, rfl, FA, hn, k⟩ := h
    have hu := hr.units
    have hr1 := hr.mono (show 1 ≤ 2 by omega)
    refine ⟨_, pss_cons (ps_set (i := 1) scSt'.nd rfl (Or.inl rfl) (ped_tup (pad_cons (ped_tup (pad_cons (ped_tup (pad_cons ped_str (pad_cons ped_str (pad_cons ped_int pad_nil)))) (pad_cons (ped_tup (pad_cons ped_str (pad_cons ped_str (pad_cons ped_int pad_nil)))) (pad_cons (ped_tup (pad_cons ped_str (pad_cons ped_str (pad_cons ped_int pad_nil)))) pad_nil)))) pad_nil)))
      (pss_cons (ps_set (i := 1) scSt'.nd rfl (Or.inl rfl) (pe_op op_catA (pv 1) (ped_tup (pad_cons (ped_tup (pad_cons (ped_tup (pad_cons ped_str (pad_cons ped_str (pad_cons ped_int pad_nil)))) (pad_cons (ped_tup (pad_cons ped_str (pad_cons ped_str (pad_cons ped_int pad_nil)))) (pad_cons (ped_tup (pad_cons ped_str (pad_cons ped_str (pad_cons ped_int pad_nil)))) pad_nil)))) pad_nil))))
      (pss_cons (ps_set (i := 2) scSt'.nd rfl (Or.inl rfl) (ped_tup (pad_cons (ped_tup (pad_cons (ped_tup (pad_cons ped_str (pad_cons ped_str (pad_cons ped_int pad_nil)))) (pad_cons (ped_tup (pad_cons ped_str (pad_cons ped_str (pad_cons ped_int pad_nil)))) pad_nil))) (pad_cons (ped_tup (pad_cons (ped_tup (pad_cons ped_str (pad_cons ped_str (pad_cons ped_int pad_nil)))) (pad_cons (ped_tup (pad_cons ped_str (pad_cons ped_str (pad_cons ped_int pad_nil)))) pad_nil))) (pad_cons (ped_tup (pad_cons (ped_tup (pad_cons ped_str (pad_cons ped_str (pad_cons ped_int pad_nil)))) pad_nil)) pad_nil)))))
      (pss_cons (ps_set (i := 3) scSt'.nd rfl (Or.inl rfl) (ped_tup (pad_cons (ped_tup (pad_cons (ped_tup (pad_cons ped_str (pad_cons ped_str (pad_cons ped_int pad_nil)))) (pad_cons (ped_tup (pad_cons ped_str (pad_cons ped_str (pad_cons ped_int pad_nil)))) pad_nil))) (pad_cons (ped_tup (pad_cons (ped_tup (pad_cons ped_str (pad_cons ped_str (pad_cons ped_int pad_nil)))) (pad_cons (ped_tup (pad_cons ped_str (pad_cons ped_str (pad_cons ped_int pad_nil)))) (pad_cons (ped_tup (pad_cons ped_str (pad_cons ped_str (pad_cons ped_int pad_nil)))) pad_nil)))) pad_nil))))
      (pss_cons (ps_set (i := 3) scSt'.nd rfl (Or.inl rfl) (pe_op op_catA (pv 3) (ped_tup (pad_cons (ped_tup (pad_cons (ped_tup (pad_cons ped_str (pad_cons ped_str (pad_cons ped_int pad_nil)))) (pad_cons (ped_tup (pad_cons ped_str (pad_cons ped_str (pad_cons ped_int pad_nil)))) (pad_cons (ped_tup (pad_cons ped_str (pad_cons ped_str (pad_cons ped_int pad_nil)))) pad_nil)))) (pad_cons (ped_tup (pad_cons (ped_tup (pad_cons ped_str (pad_cons ped_str (pad_cons ped_int pad_nil)))) pad_nil)) (pad_cons (ped_tup (pad_cons (ped_tup (pad_cons ped_str (pad_cons ped_str (pad_cons ped_int pad_nil)))) pad_nil)) pad_nil))))))
      (pss_cons (ps_set (i := 3) scSt'.nd rfl (Or.inl rfl) (pe_op op_catA (pv 3) (ped_tup (pad_cons (ped_tup (pad_cons (ped_tup (pad_cons ped_str (pad_cons ped_str (pad_cons ped_int pad_nil)))) pad_nil)) (pad_cons (ped_tup (pad_cons (ped_tup (pad_cons ped_str (pad_cons ped_str (pad_cons ped_int pad_nil)))) pad_nil)) pad_nil)))))
      (pss_cons (ps_setLc (i := 4) (own := [("_law_k", 12)]) (g := gName 12) (tt := tYes) rfl scSt'.nd rfl rfl (sw_true rfl rfl rfl (by decide +kernel)) (pi_range1 (by rfl) mrange (pa_cons pe_int pa_nil)) (blkOk_by (N := nSt') (sc := defScope sLStates) (by decide +kernel))
          (fun _ _ _ _ _ => pg_name (i := 12) scSt'.nd rfl (Or.inl rfl)) (fun _ _ _ _ _ => pts_nil) (fun _ _ _ _ _ => pe_callTy (T := "tuple") (r := rTupO K) call_tuple_of (by rfl) mtup (by decide +kernel) (pa_cons (pe_op op_cat
            (pe_op op_rep (pe_lst (pa_cons (pe_tup (pa_cons pe_str (pa_cons pe_str (pa_cons (pe_op op_add (pv 12) pe_int) pa_nil)))) pa_nil)) (pe_callTy (T := "int") call_int1 (by rfl) mint (by decide +kernel) (pa_cons (pe_cmpR op_lt (pv 12) pe_int (nomark _)) pa_nil)))
            (pe_op op_rep (pe_lst (pa_cons (pe_tup (pa_cons pe_str (pa_cons pe_str (pa_cons (pe_op op_sub (pv 12) pe_int) pa_nil)))) pa_nil)) (pe_callTy (T := "int") call_int1 (by rfl) mint (by decide +kernel) (pa_cons (pe_cmpR op_gt (pv 12) pe_int (nomark _)) pa_nil)))) pa_nil)))
      (pss_cons (ps_set (i := 5) scSt'.nd rfl (Or.inl rfl) (pe_lst (pa_cons (pv 1) (pa_cons (pv 2) (pa_cons (pv 3) (pa_cons (pe_callTy call_tuple_of (by rfl) mtup (by decide +kernel) (pa_cons (pv 4) pa_nil)) pa_nil))))))
      (pss_cons (ps_set (i := 6) scSt'.nd rfl (Or.inl rfl) (pe_call GD hr1 (by rfl) mD kD bD .nil pass0 (pa_cons (pv 0) (pa_cons pe_int pa_nil))))
      (pss_cons (ps_if (pt_cmpR op_lt (pv 6) pe_int (nomark _)) (pss_one (ps_ret (pe_ix (r := rIxL K) ix_list (pv 5) (pv 6) (fun _ _ => rfl)))) pss_nil)
      (pss_cons (ps_set (i := 7) scSt'.nd rfl (Or.inl rfl) (pe_lst (pa_cons (pe_lst (pad_cons (ped_tup (pad_cons ped_str (pad_cons ped_str pad_nil))) (pad_cons (ped_tup (pad_cons ped_str (pad_cons ped_str pad_nil))) (pad_cons (ped_tup (pad_cons ped_str (pad_cons ped_str pad_nil))) (pad_cons (ped_tup (pad_cons ped_str (pad_cons ped_str pad_nil))) pad_nil))))) (pa_cons (pe_lst (pad_cons (ped_tup (pad_cons ped_str (pad_cons ped_str pad_nil))) (pad_cons (ped_tup (pad_cons ped_str (pad_cons ped_str pad_nil))) (pad_cons (ped_tup (pad_cons ped_str (pad_cons ped_str pad_nil))) pad_nil)))) pa_nil))))
      (pss_cons (ps_asg (pe_tup (pa_cons (pe_call GP hr (by rfl) mP kP bP .nil pass0 (pa_cons (pv 0) (pa_cons (pv 7) pa_nil))) (pa_cons (pe_op op_add pe_int (pe_call GD hr1 (by rfl) mD kD bD .nil pass0 (pa_cons (pv 0) (pa_cons pe_int pa_nil)))) pa_nil)))
          (pg_tup (by rfl) (pgs_cons (pg_name (i := 8) scSt'.nd rfl (Or.inl rfl)) (pgs_cons (pg_name (i := 9) scSt'.nd rfl (Or.inr rfl)) pgs_nil))))
      (pss_cons (ps_set (i := 10) scSt'.nd rfl (Or.inl rfl) (pe_lst pa_nil))
      (pss_cons (ps_for PassesOwn.never rfl (pi_range1 (by rfl) mrange (pa_cons (pv 9) pa_nil)) (pg_name (i := 11) scSt'.nd rfl (Or.inl rfl))
        (pss_one (ps_expr (pe_bm PySem.F.plainAttrs_list PySem.F.slot_list_append PySem.F.type_list_append mt_append (pv 10) (pa_cons (pe_callTy call_tuple_of (by rfl) mtup (by decide +kernel) (pa_cons
          (pe_lc (own := [("_law_event", 13)]) (g := gName 13) rfl scSt'.nd (pi_list (pv 8)) (blkOk_by (N := nSt') (sc := defScope sLStates) (by decide +kernel))
            (fun _ _ _ _ _ => pg_name (i := 13) scSt'.nd rfl (Or.inl rfl)) (fun _ _ _ _ _ => pts_one (pt_cmpR op_gt (pe_call GD hr1 (by rfl) mD kD bD .nil pass0 (pa_cons (pv 0) (pa_cons pe_int pa_nil))) pe_int (nomark _)))
            (fun _ _ _ _ _ => pe_op op_catA (pv 13) (pe_tup (pa_cons (pe_call GD hr1 (by rfl) mD kD bD .nil pass0 (pa_cons (pv 0) (pa_cons (pv 9) pa_nil))) pa_nil)))) pa_nil)) pa_nil)))))
      (pss_one (ps_ret (pe_callTy call_tuple_of (by rfl) mtup (by decide +kernel) (pa_cons (pv 10) pa_nil))))))))))))))))), ?_⟩
    have n0 := FA.n0
    -- the cell
    refine fun v1 H1 s1 t1 => ?_
    obtain ⟨a1, x1, rfl, ha1, tx1⟩ := t1.ref_of
    refine ⟨_, rfl, fun v2 H2 s2 t2 => ?_⟩
    obtain ⟨b1, y1, rfl, hb1, ty1⟩ := t2.ref_of
    refine ⟨a1, b1, x1, y1, rfl, rfl, s2 _ _ ha1, hb1, small_len (m := 10) (by rw [tx1.len, ty1.len]; decide), fun A1 H3 s3 hA1 => ?_⟩
    have tA : TD H3 (.ref A1) (statesD (kLet1 ++ kLet2)) := .tup hA1 (TDs.app (tx1.to (Tup.of (s2.trans s3))) (ty1.to (Tup.of s3)))
    have q3 : Same H H3 := s1.trans (s2.trans s3)
    clear tx1 ty1 hA1 ha1 hb1 t1 t2 s1 s2 s3
    -- the purse
    refine fun v4 H4 s4 t4 => ?_
    obtain ⟨A2, x4, rfl, ha4, tx4⟩ := t4.ref_of
    have tB : TD H4 (.ref A2) (statesD kPur) := t4
    clear tx4 ha4 t4
    -- the row
    refine fun v5 H5 s5 t5 => ?_
    obtain ⟨a5, x5, rfl, ha5, tx5⟩ := t5.ref_of
    refine ⟨_, rfl, fun v6 H6 s6 t6 => ?_⟩
    obtain ⟨b6, y6, rfl, hb6, ty6⟩ := t6.ref_of
    refine ⟨a5, b6, x5, y6, rfl, rfl, s6 _ _ ha5, hb6, small_len (m := 10) (by rw [tx5.len, ty6.len]; decide), fun A7 H7 s7 hA7 => ?_⟩
    have tx7 := TDs.app (tx5.to (Tup.of (s6.trans s7))) (ty6.to (Tup.of s7))
    clear tx5 ty6 ha5 hb6 t5 t6
    refine ⟨_, rfl, fun v8 H8 s8 t8 => ?_⟩
    obtain ⟨b8, y8, rfl, hb8, ty8⟩ := t8.ref_of
    refine ⟨A7, b8, _, y8, rfl, rfl, s8 _ _ hA7, hb8, small_len (m := 10) (by rw [tx7.len, ty8.len]; decide), fun A3 H9 s9 hA3 => ?_⟩
    have tC_ : TD H9 (.ref A3) (statesD ((kLin1 ++ kLin2) ++ kLin3)) := .tup hA3 (TDs.app (tx7.to (Tup.of (s8.trans s9))) (ty8.to (Tup.of s9)))
    have q39 : Same H3 H9 := s4.trans (s5.trans (s6.trans (s7.trans (s8.trans s9))))
    have tA := tA.to (Tup.of q39)
    have tB := tB.to (Tup.of (s5.trans (s6.trans (s7.trans (s8.trans s9)))))
    have q9 := q3.trans q39
    clear tx7 ty8 hA7 hA3 hb8 t8 s4 s5 s6 s7 s8 s9 q39 q3
    -- the counter
    refine ⟨40, rfl, by decide, by decide, fun D hD => lc_range (lo := 0) (n := 40) (fun i H' => ∃ vs, H' D = some (.lst vs) ∧ TDs H' vs (((List.range i).map kSt).map stateD) ∧ Same H9 H') ⟨[], upd_same, .nil, same_new hD⟩ (fun i Ha hi ⟨vs, dA, tv, sA⟩ => ?_) fun Ha ⟨vs, dA, tv, sA⟩ => ?_⟩
    · have lv := tv.lenm
      rw [List.length_map, List.length_range] at lv
      refine ⟨rfl, _, rfl, _, _, rfl, rfl, by show 3 ≤ sizeLine; decide, fun e1 he1 => ⟨by show 1 ≤ sizeLine; decide, fun l1 hl1 => ?_⟩⟩
      have sB := (same_new (o := .tup [V.str "add", .str "ok", .int (0 + (i : Int) + 1)]) he1).trans (same_new (o := .lst [V.ref e1]) hl1)
      have at1 : (upd (upd Ha e1 (.tup [V.str "add", .str "ok", .int (0 + (i : Int) + 1)])) l1 (.lst [V.ref e1])) e1 = some (.tup [V.str "add", .str "ok", .int (0 + (i : Int) + 1)]) := same_new hl1 _ _ upd_same
      have al1 : (upd (upd Ha e1 (.tup [V.str "add", .str "ok", .int (0 + (i : Int) + 1)])) l1 (.lst [V.ref e1])) l1 = some (.lst [V.ref e1]) := upd_same
      generalize upd (upd Ha e1 (.tup [V.str "add", .str "ok", .int (0 + (i : Int) + 1)])) l1 (.lst [V.ref e1]) = Hb at sB at1 al1 ⊢
      refine ⟨_, rfl, _, _, rfl, rfl, .inr ⟨_, rfl, rep01 al1 (by simp) fun p1 hp1 => ?_⟩⟩
      have sC := same_new (o := .lst (if decide (0 + (i : Int) < 39) = true then [V.ref e1] else [])) hp1
      have ap1 : (upd Hb p1 (.lst (if decide (0 + (i : Int) < 39) = true then [V.ref e1] else []))) p1 = some (.lst (if decide (0 + (i : Int) < 39) = true then [V.ref e1] else [])) := upd_same
      generalize upd Hb p1 (.lst (if decide (0 + (i : Int) < 39) = true then [V.ref e1] else [])) = Hc at sC ap1 ⊢
      refine ⟨_, rfl, _, _, rfl, rfl, by show 3 ≤ sizeLine; decide, fun e2 he2 => ⟨by show 1 ≤ sizeLine; decide, fun l2 hl2 => ?_⟩⟩
      have sD := (same_new (o := .tup [V.str "sub", .str "ok", .int (0 + (i : Int) - 1)]) he2).trans (same_new (o := .lst [V.ref e2]) hl2)
      have at2 : (upd (upd Hc e2 (.tup [V.str "sub", .str "ok", .int (0 + (i : Int) - 1)])) l2 (.lst [V.ref e2])) e2 = some (.tup [V.str "sub", .str "ok", .int (0 + (i : Int) - 1)]) := same_new hl2 _ _ upd_same
      have al2 : (upd (upd Hc e2 (.tup [V.str "sub", .str "ok", .int (0 + (i : Int) - 1)])) l2 (.lst [V.ref e2])) l2 = some (.lst [V.ref e2]) := upd_same
      generalize upd (upd Hc e2 (.tup [V.str "sub", .str "ok", .int (0 + (i : Int) - 1)])) l2 (.lst [V.ref e2]) = Hd at sD at2 al2 ⊢
      refine ⟨_, rfl, _, _, rfl, rfl, .inr ⟨_, rfl, rep01 al2 (by simp) fun p2 hp2 => ?_⟩⟩
      have sE := same_new (o := .lst (if decide (0 + (i : Int) > 0) = true then [V.ref e2] else [])) hp2
      have l12 : ∀ (b1 b2 : Bool), (if b1 = true then [V.ref e1] else []).length + (if b2 = true then [V.ref e2] else []).length ≤ sizeLine := fun b1 b2 => small_len (m := 2) (by cases b1 <;> cases b2 <;> simp)
      refine ⟨p1, p2, _, _, rfl, rfl, sE _ _ (sD _ _ ap1), upd_same, l12 _ _, fun q hq => ?_⟩
      have sF := same_new (o := .lst ((if decide (0 + (i : Int) < 39) = true then [V.ref e1] else []) ++ (if decide (0 + (i : Int) > 0) = true then [V.ref e2] else []))) hq
      refine ⟨q, _, rfl, .inl ⟨SqL.of upd_same, fun r hr3 => ?_⟩⟩
      have sG := same_new (o := .tup ((if decide (0 + (i : Int) < 39) = true then [V.ref e1] else []) ++ (if decide (0 + (i : Int) > 0) = true then [V.ref e2] else []))) hr3
      have sBG := (((sB.trans sC).trans (sD.trans sE)).trans sF).trans sG
      have dG := sBG _ _ dA
      have aG := upd_same (H := upd (upd Hd p2 (.lst (if decide (0 + (i : Int) > 0) = true then [V.ref e2] else []))) q (.lst ((if decide (0 + (i : Int) < 39) = true then [V.ref e1] else []) ++ (if decide (0 + (i : Int) > 0) = true then [V.ref e2] else [])))) (a := r) (o := .tup ((if decide (0 + (i : Int) < 39) = true then [V.ref e1] else []) ++ (if decide (0 + (i : Int) > 0) = true then [V.ref e2] else [])))
      have a1G := (((sC.trans sD).trans sE).trans (sF.trans sG)) _ _ at1
      have a2G := (sE.trans (sF.trans sG)) _ _ at2
      refine ⟨vs, dG, small_lt (m := 40) (by omega), vs ++ [.ref r], upd_same, ?_, same_at (sA.trans sBG) hD⟩
      have tp := Tup.at_ (o' := .lst vs) (o := .lst (vs ++ [V.ref r])) dG fun xs z => nomatch z
      rw [List.range_succ, List.map_append, List.map_append]
      exact TDs.snoc (kst_new hi (tp _ _ a1G) (tp _ _ a2G) (tp _ _ aG)) ((tv.to (Tup.of sBG)).to tp)
    · have tAa := tA.to (Tup.of sA)
      have tBa := tB.to (Tup.of sA)
      have tCa := tC_.to (Tup.of sA)
      refine ⟨_, rfl, _, rfl, _, rfl, _, rfl, D, vs, rfl, .inl ⟨SqL.of dA, fun A4 hA4 => ⟨by show 4 ≤ sizeLine; decide, fun Kn hKn => ?_⟩⟩⟩
      have sB := (same_new (o := .tup vs) hA4).trans (same_new (o := .lst [V.ref A1, .ref A2, .ref A3, .ref A4]) hKn)
      have aK : (upd (upd Ha A4 (.tup vs)) Kn (.lst [V.ref A1, .ref A2, .ref A3, .ref A4])) Kn = some (.lst [V.ref A1, .ref A2, .ref A3, .ref A4]) := upd_same
      have tD : TD (upd (upd Ha A4 (.tup vs)) Kn (.lst [V.ref A1, .ref A2, .ref A3, .ref A4])) (.ref A4) (statesD kSteps) := .tup (same_new hKn _ _ upd_same) (tv.to (Tup.of sB))
      generalize upd (upd Ha A4 (.tup vs)) Kn (.lst [V.ref A1, .ref A2, .ref A3, .ref A4]) = Hb at sB aK tD ⊢
      have tA := tAa.to (Tup.of sB)
      have tB := tBa.to (Tup.of sB)
      have tC := tCa.to (Tup.of sB)
      have q := q9.trans (sA.trans sB)
      have FB := FA.same q
      clear tAa tBa tCa sA sB dA tv FA q9
      have Knp : Kn ≠ p := fun z => by
        rw [z, FB.ob] at aK
        cases aK
      have Knc : Kn ≠ c ∨ True := .inr trivial
      -- way
      refine ⟨_, rfl, p, c, ks, y, n, 7, rfl, FB, by omega, by decide, by decide, fun wy ks1 H10 w0 w7 FC sv10 => ?_⟩
      have tA := tA.to (Save.tup FB sv10)
      have tB := tB.to (Save.tup FB sv10)
      have tC := tC.to (Save.tup FB sv10)
      have tD := tD.to (Save.tup FB sv10)
      have svC := (Save.of (p := p) (c := c) q).trans sv10
      refine ⟨_, rfl, _, _, rfl, rfl, _, rfl, ?_⟩
      by_cases w4 : wy < 4
      · rw [decide_eq_true w4]
        have kl : Kn ≠ c := fun z => by
          rw [z, FB.cs] at aK
          cases ks with
          | nil => cases aK
          | cons k r => injection aK with e; injection e with e; cases e
        have aK := sv10 _ _ aK Knp kl
        refine iteT ⟨_, rfl, _, rfl, Kn, [V.ref A1, .ref A2, .ref A3, .ref A4], wy, ?_⟩
        obtain rfl | rfl | rfl | rfl : wy = 0 ∨ wy = 1 ∨ wy = 2 ∨ wy = 3 := by omega
        · exact ⟨_, rfl, rfl, SqL.of aK, rfl, k _ _ _ _ _ tA kok_let FC (by omega) svC⟩
        · exact ⟨_, rfl, rfl, SqL.of aK, rfl, k _ _ _ _ _ tB kok_pur FC (by omega) svC⟩
        · exact ⟨_, rfl, rfl, SqL.of aK, rfl, k _ _ _ _ _ tC kok_lin FC (by omega) svC⟩
        · exact ⟨_, rfl, rfl, SqL.of aK, rfl, k _ _ _ _ _ tD kok_steps FC (by omega) svC⟩
      · rw [decide_eq_false w4]
        refine iteF ?_
        clear tA tB tC tD
        -- the menus
        refine fun r1 Hc sc tc => ⟨small_len (m := 10) (by rw [tc.len]; decide), fun m1 hm1 => ?_⟩
        have tm1 : TDs (upd Hc m1 (.lst r1)) r1 (MN1.map evD) := tc.to (Tup.new hm1)
        have sm1 := sc.trans (same_new (o := .lst r1) hm1)
        have am1 : (upd Hc m1 (.lst r1)) m1 = some (.lst r1) := upd_same
        have fm1 : H10 m1 = none := sc.free hm1
        generalize upd Hc m1 (.lst r1) = Hd at tm1 sm1 am1 ⊢
        refine fun r2 He se te => ⟨small_len (m := 10) (by rw [te.len]; decide), fun m2 hm2 => ?_⟩
        have tm2 : TDs (upd He m2 (.lst r2)) r2 (MN2.map evD) := te.to (Tup.new hm2)
        have sm2 := se.trans (same_new (o := .lst r2) hm2)
        have am2 : (upd He m2 (.lst r2)) m2 = some (.lst r2) := upd_same
        have fm2 : H10 m2 = none := (sm1.trans se).free hm2
        generalize upd He m2 (.lst r2) = Hf at tm2 sm2 am2 ⊢
        refine ⟨by show 2 ≤ sizeLine; decide, fun Mn hMn => ?_⟩
        have sm3 := same_new (o := .lst [V.ref m1, .ref m2]) hMn
        have aM : (upd Hf Mn (.lst [V.ref m1, .ref m2])) Mn = some (.lst [V.ref m1, .ref m2]) := upd_same
        have fM : H10 Mn = none := (sm1.trans sm2).free hMn
        have tm1 := tm1.to (Tup.of (sm2.trans sm3))
        have tm2 := tm2.to (Tup.of sm3)
        have am1 := (sm2.trans sm3) _ _ am1
        have am2 := sm3 _ _ am2
        have sM := sm1.trans (sm2.trans sm3)
        generalize upd Hf Mn (.lst [V.ref m1, .ref m2]) = Hg at tm1 tm2 am1 am2 aM sM ⊢
        have FG := FC.same sM
        have nope : ∀ x : Addr, H10 x = none → x ≠ p ∧ x ≠ c := fun x z => ⟨fun q => by (rw [q, FC.ob] at z; cases z), fun q => by (rw [q, FC.cs] at z; cases z)⟩
        refine ⟨_, rfl, _, rfl, p, c, Mn, _, ks1, y, n + 1, rfl, FG, by omega, aM, (nope _ fM).1, (nope _ fM).2, by show 1 ≤ 2; decide, by show 2 ≤ 100; decide, fun x ks2 H11 mx FH sv11 => ?_⟩
        obtain ⟨L, es, mv, rfl, hL, tL, mo, Lp, Lc⟩ : ∃ (L : Addr) (es : List Ev) (mv : List V), x = .ref L ∧ H11 L = some (.lst mv) ∧ TDs H11 mv (es.map evD) ∧ MOk es ∧ L ≠ p ∧ L ≠ c := by
          rcases List.mem_cons.mp mx with rfl | mx
          · exact ⟨m1, MN1, r1, rfl, sv11 _ _ am1 (nope _ fm1).1 (nope _ fm1).2, tm1.to (Save.tup FG sv11), mok1, (nope _ fm1).1, (nope _ fm1).2⟩
          · rw [List.mem_singleton.mp mx]
            exact ⟨m2, MN2, r2, rfl, sv11 _ _ am2 (nope _ fm2).1 (nope _ fm2).2, tm2.to (Save.tup FG sv11), mok2, (nope _ fm2).1, (nope _ fm2).2⟩
        have svH := (svC.trans (Save.of sM)).trans sv11
        clear tm1 tm2 am1 am2 sm1 sm2 sm3 tc te sc se mx aM
        refine ⟨_, rfl, p, c, ks2, y, n + 1 + 1, 4, rfl, FH, by omega, by decide, by decide, fun d ks3 H12 d0 d4 FI sv12 => ⟨1, d, rfl, rfl, by show 2 ≤ sizeLine; decide, fun t ht => ?_⟩⟩
        refine ⟨t, _, rfl, SqT.of upd_same, rfl, _, _, rfl, _, _, rfl, rfl, ?_⟩
        have sB := same_new (o := .tup [V.ref L, .int (1 + d)]) ht
        have hL := sB _ _ (sv12 _ _ hL Lp Lc)
        have tL := (tL.to (Save.tup FH sv12)).to (Tup.of sB)
        have FI := FI.same sB
        have svI := (svH.trans sv12).trans (Save.of sB)
        generalize upd H12 t (.tup [V.ref L, .int (1 + d)]) = H13 at hL tL FI svI ⊢
        clear svH sB svC sv11 sv12 FH FG FC FB
        refine ⟨by show 0 ≤ sizeLine; decide, fun fo hfo => ?_⟩
        have fop : fo ≠ p := Ne.symm (ne_of_none FI.ob hfo)
        have foc : fo ≠ c := Ne.symm (ne_of_none FI.cs hfo)
        have fo0 : H fo = none := svI.free hfo fop foc
        have FJ := FI.wr (o := .lst []) fop foc
        have svJ := svI.wr (o := .lst []) fo0
        have hLJ := same_new (o := .lst []) hfo _ _ hL
        have tLJ := tL.to (Tup.new (o := .lst []) hfo)
        have afo : (upd H13 fo (.lst [])) fo = some (.lst []) := upd_same
        have Lfo : L ≠ fo := ne_of_none hL hfo
        generalize upd H13 fo (.lst []) = H14 at FJ svJ hLJ tLJ afo ⊢
        have lm := tLJ.lenm
        have few := mo.few
        refine ⟨_, rfl, 1 + d, rfl, by omega, by omega, for_range (lo := 0) (n := (1 + d).toNat) (fun j σ H2 => ∃ (o11 : Option V) (ks' : List Int) (n' : Int) (vs : List V) (ss : List (List Stp)), σ = [some (.ref p), some (.ref A1), some (.ref A2), some (.ref A3), some (.ref D), some (.ref Kn), some (.int wy), some (.ref Mn), some (.ref L), some (.int (1 + d)), some (.ref fo), o11, none, none] ∧
            FeedAt H2 p c ks' y n' ∧ n' ≤ n + 3 + 8 * (j : Int) ∧ Save p c H H2 ∧ H2 L = some (.lst mv) ∧ TDs H2 mv (es.map evD) ∧ H2 fo = some (.lst vs) ∧ TDs H2 vs (ss.map stateD) ∧ ss.length = j ∧ ∀ st ∈ ss, StOk (1 + d).toNat st ∧ ∀ x ∈ st, evOf x ∈ es)
          ⟨none, ks3, n + 1 + 1 + 1, [], [], rfl, FJ, by omega, svJ, hLJ, tLJ, afo, .nil, rfl, fun st m => nomatch m⟩ ?_ ?_⟩
        · rintro j σ H2 hj ⟨o11, ks4, n4, vs, ss, rfl, F2, le2, sv2, hL2, tL2, fo2, tv2, sl, so⟩
          refine ⟨_, rfl, .inl ⟨rfl, _, SqL.of fo2⟩, _, rfl, L, rfl, ⟨_, SqL.of hL2⟩, fun D2 hD2 => lc_list (K := K) (a := L) (xs := mv) (fun i H3 => ∃ (ks5 : List Int) (n5 : Int) (us : List V) (st : List Stp), FeedAt H3 p c ks5 y n5 ∧ n5 ≤ n4 + 2 * (i : Int) ∧ Save p c H2 H3 ∧ H3 D2 = some (.lst us) ∧ TDs H3 us (st.map stepD) ∧ (st.map evOf).Sublist (es.take i) ∧ ∀ x ∈ st, StpOk (1 + d).toNat x) ?_ (fun i H3 _ ⟨_, _, _, _, _, _, s3, _⟩ => SqL.of (s3 _ _ hL2 Lp Lc)) (fun i x H3 ex ⟨ks5, n5, us, st, F3, le3, sv3, d3, tu3, sub3, ok3⟩ => ?_) fun H3 ⟨ks5, n5, us, st, F3, le3, sv3, d3, tu3, sub3, ok3⟩ => ?_⟩
          · have dp : D2 ≠ p := Ne.symm (ne_of_none F2.ob hD2)
            have dc : D2 ≠ c := Ne.symm (ne_of_none F2.cs hD2)
            exact ⟨ks4, n4, [], [], F2.wr dp dc, by omega, (Save.refl p c H2).wr hD2, upd_same, .nil, by simp, (fun x m => nomatch m)⟩
          · have dp : D2 ≠ p := Ne.symm (ne_of_none F2.ob hD2)
            have dc : D2 ≠ c := Ne.symm (ne_of_none F2.cs hD2)
            obtain ⟨e, ee, te⟩ := tL2.at_ ex
            have lt : i < es.length := (List.getElem?_eq_some_iff.mp ee).1
            obtain ⟨b, rfl, hb⟩ := ev_of te
            have hb3 := Save.tup F2 sv3 _ _ hb
            have vl := tu3.lenm
            have sl3 := sub3.length_le
            rw [List.length_map, List.length_take] at sl3
            refine ⟨rfl, _, rfl, p, c, ks5, y, n5, 4, rfl, F3, by omega, by omega, by omega, fun d' ks8 H8 d0' d3' FA8 sv8 => ⟨d', 0, rfl, rfl, _, rfl, ?_⟩⟩
            by_cases pos : 0 < d'
            · rw [decide_eq_true pos]
              refine iteT ?_
              refine ⟨_, rfl, _, rfl, _, rfl, p, c, ks8, y, n5 + 1, 1 + d, rfl, FA8, by omega, by omega, by omega, fun d2 ks9 H9 d20 d21 FA9 sv9 => ⟨by show 1 ≤ sizeLine; decide, fun t1 ht1 => ?_⟩⟩
              have hb10 := same_new (o := .tup [V.int d2]) ht1 _ _ ((Save.tup FA8 sv9) _ _ ((Save.tup F3 sv8) _ _ hb3))
              refine ⟨b, t1, [.str e.1, .str e.2], [.int d2], rfl, rfl, hb10, upd_same, by show 3 ≤ sizeLine; decide, fun b2 H11 s11 at2 => ?_⟩
              have sn := (same_new (o := .tup [V.int d2]) ht1).trans s11
              have d11 := sn _ _ (sv9 _ _ (sv8 _ _ d3 dp dc) dp dc)
              have tp : Tup H11 (upd H11 D2 (.lst (us ++ [.ref b2]))) := Tup.at_ d11 fun xs z => nomatch z
              have tall : Tup H3 H11 := ((Save.tup F3 sv8).trans (Save.tup FA8 sv9)).trans (Tup.of sn)
              have em : e ∈ es := List.mem_of_getElem? ee
              refine ⟨us, d11, small_lt (m := 24) (by omega), ks9, n5 + 2, us ++ [.ref b2], st ++ [(e.1, e.2, d2)], ?_, by omega, (((sv3.trans sv8).trans sv9).trans (Save.of sn)).wr hD2, upd_same, ?_, ?_, fun x mx => ?_⟩
              · have z := (FA9.same sn).wr (o := .lst (us ++ [.ref b2])) dp dc
                rwa [show n5 + 1 + 1 = n5 + 2 by omega] at z
              · rw [List.map_append]
                exact TDs.snoc (.tup (tp _ _ at2) (.cons (.str _) (.cons (.str _) (.cons (.int _) .nil)))) ((tu3.to tall).to tp)
              · rw [List.map_append, List.take_succ, ee, Option.toList_some]
                exact sub3.append (List.Sublist.refl [e])
              · rcases List.mem_append.mp mx with q | q
                · exact ok3 x q
                · rw [List.mem_singleton.mp q]
                  refine ⟨(mo.wr e em).1, (mo.wr e em).2, d20, ?_⟩
                  rw [Int.toNat_of_nonneg (by omega)]
                  exact d21
            · rw [decide_eq_false pos]
              refine iteF ⟨ks8, n5 + 1, us, st, FA8, by omega, sv3.trans sv8, sv8 _ _ d3 dp dc, tu3.to (Save.tup F3 sv8), ?_, ok3⟩
              rw [List.take_succ]
              exact sub3.trans (List.sublist_append_left _ _)
          · have sub8 := sub3.trans (List.take_sublist _ _)
            have sl7 := sub8.length_le
            rw [List.length_map] at sl7
            have f7 := sv3 _ _ fo2 fop foc
            have vl6 := tv2.lenm
            refine ⟨D2, us, rfl, .inl ⟨SqL.of d3, fun b hb => ?_⟩⟩
            have f8 := same_new (o := .tup us) hb _ _ f7
            have tp : Tup (upd H3 b (.tup us)) (upd (upd H3 b (.tup us)) fo (.lst (vs ++ [.ref b]))) := Tup.at_ f8 fun xs z => nomatch z
            have tn : Tup H3 (upd H3 b (.tup us)) := Tup.of (same_new hb)
            have t67 := Save.tup F2 sv3
            refine ⟨fo, vs, _, rfl, rfl, f8, small_lt (m := 40) (by omega), ⟨_, ks5, n5, vs ++ [.ref b], ss ++ [st], rfl, (F3.same (same_new hb)).wr fop foc, by omega, ((sv2.trans sv3).trans (Save.of (same_new hb))).wr fo0, ?_, ?_, upd_same, ?_, ?_, ?_⟩⟩
            · rw [upd_ne Lfo]
              exact same_new hb _ _ (sv3 _ _ hL2 Lp Lc)
            · exact ((tL2.to t67).to tn).to tp
            · rw [List.map_append]
              exact TDs.snoc (.tup (tp _ _ upd_same) ((tu3.to tn).to tp)) (((tv2.to t67).to tn).to tp)
            · rw [List.length_append, sl]
              rfl
            · intro st' ms
              rcases List.mem_append.mp ms with q | q
              · exact so st' q
              · rw [List.mem_singleton.mp q]
                exact ⟨⟨ok3, List.Pairwise.sublist sub8 mo.asc, by omega⟩, fun x mx => sub8.subset (List.mem_map.mpr ⟨x, mx, rfl⟩)⟩
        · rintro σ H2 ⟨o11, ks4, n4, vs, ss, rfl, F2, le2, sv2, hL2, tL2, fo2, tv2, sl, so⟩
          refine ⟨_, rfl, fo, vs, rfl, .inl ⟨SqL.of fo2, fun b hb => k b ss ks4 n4 _ (.tup upd_same (tv2.to (Tup.new hb))) ⟨by omega, by omega, fun st ms => ?_, es, by omega, fun st ms x mx => (so st ms).2 x mx⟩ (F2.same (same_new hb)) (by omega) (sv2.trans (Save.of (same_new hb)))⟩⟩
          rw [sl]
          exact (so st ms).1
end
end My

-- ===== K14T =====
set_option Elab.async false
set_option linter.all false
set_option maxRecDepth 100000
set_option maxHeartbeats 4000000
namespace My
open PySem L2 PyProof.Rows PySem.Spec Kd
def spSystem : Sp := fun vs H Q _ => ∃ (p c : Addr) (ks : List Int) (w n : Int), vs = [.ref p] ∧ FeedAt H p c ks w n ∧ n < 890000 ∧
  ∀ (O : Addr) (ov : List V) (sss : List (List (List Stp))) (ks' : List Int) (n' : Int) (H' : Hp), H O = none → H' O = some (.lst ov) → TDs H' ov (sss.map statesD) → 1 ≤ sss.length → sss.length ≤ 4 → (∀ ss ∈ sss, KOk ss) → FeedAt H' p c ks' w n' → n' ≤ n + 500 → Save p c H H' → Q (.ref O) H'
def spEvents : Sp := fun vs H Q _ => ∃ (a : Addr) (ss : List (List Stp)), vs = [.ref a] ∧ TD H (.ref a) (statesD ss) ∧ KOk ss ∧
  ∀ (R : Addr) (rv : List V) (es : List Ev) (H' : Hp), Same H H' → H R = none → H' R = some (.lst rv) → TDs H' rv (es.map evD) → es.length ≤ 64 → (∀ e ∈ es, Wrd e.1 ∧ Wrd e.2) → Q (.ref R) H'
def spDid : Sp := fun vs H Q _ => ∃ (p c O : Addr) (ks : List Int) (w n : Int) (ov : List V) (sss : List (List (List Stp))), vs = [.ref p, .ref O] ∧ FeedAt H p c ks w n ∧ n < 900000 ∧ H O = some (.lst ov) ∧ TDs H ov (sss.map statesD) ∧ 1 ≤ sss.length ∧ sss.length ≤ 4 ∧ (∀ ss ∈ sss, KOk ss) ∧ O ≠ p ∧ O ≠ c ∧
  (∀ (ks' : List Int) (n' : Int) (H' : Hp), FeedAt H' p c ks' w n' → n' ≤ n + 2 → Save p c H H' → Q .non H') ∧
  ∀ (t : Addr) (i : Int) (x y : Str) (ks' : List Int) (n' : Int) (H' : Hp), H' t = some (.tup [.int i, .str x, .str y]) → 0 ≤ i → i < 4 → Wrd x → Wrd y → FeedAt H' p c ks' w n' → n' ≤ n + 2 → Save p c H H' → Q (.ref t) H'
theorem rows_evs {H : Hp} : ∀ M : List (Addr × List Key), (∀ q ∈ M, H q.1 = some (.tup (q.2.map kV)) ∧ ∃ e : Ev, q.2 = evK e ∧ Wrd e.1 ∧ Wrd e.2) → ∃ es : List Ev, TDs H (M.map fun q => V.ref q.1) (es.map evD) ∧ es.length = M.length ∧ ∀ e ∈ es, Wrd e.1 ∧ Wrd e.2
  | [], _ => ⟨[], .nil, rfl, fun e m => nomatch m⟩
  | q :: M, h => by
    obtain ⟨es, h1, h2, h3⟩ := rows_evs M fun r m => h r (List.mem_cons_of_mem _ m)
    obtain ⟨a, e, ee, w1, w2⟩ := h q List.mem_cons_self
    rw [ee] at a
    refine ⟨e :: es, .cons (ev_new a) h1, by rw [List.length_cons, List.length_cons, h2], fun x m => ?_⟩
    rcases List.mem_cons.mp m with rfl | m
    · exact ⟨w1, w2⟩
    · exact h3 x m
theorem evs_list (es : List Ev) : (es.map evK).map tD = es.map evD := by
  rw [List.map_map]
  rfl
theorem eqv_evs (es : List Ev) : PyData.eqv (.list (es.map evD)) (.list []) = es.isEmpty := by
  cases es with
  | nil => simp [PyData.eqv, PyData.eqvAll]
  | cons e es => simp [PyData.eqv, PyData.eqvAll]
section
variable {P : Program} {w : World} {K : PySem.W.Frag} {mg : Str → Option Value} {base : Heap}
abbrev nSy : List Str := ["_law_deck_here", "_law_k"]
theorem scSy : FnScope nSy ["_law_deck_here"] (defScope sSystem) := ⟨rfl, rfl, rfl, by decide +kernel, rfl, by decide +kernel, by decide +kernel⟩
theorem ok_system {f fS fD : Addr} {fd fdS fdD : FuncData} (F : Fun K "_law_system" "_law_system" sSystem f fd) (mrange : mg "range" = none)
    (GS : FnOk P w K mg base CX0 3 fS fdS ["_law_deck_here"] spStates') (mS : mg "_law_states" = some (.ref fS)) (kS : PySem.W.keepIn K (.ref fS) = true) (bS : Binds K fdS ["_law_deck_here"] [])
    (GD : FnOk P w K mg base CX0 1 fD fdD ["_law_deck_here", "_law_count"] spDigit) (mD : mg "_law_draw" = some (.ref fD)) (kD : PySem.W.keepIn K (.ref fD) = true) (bD : Binds K fdD ["_law_deck_here", "_law_count"] []) :
    FnOk P w K mg base CX0 4 f fd ["_law_deck_here"] spSystem := by
  refine F.ok scSy (fun vs H Q E h => ?_) (fun cdv A outer s H vs Q E hr h => ?_)
  · obtain ⟨p, c, ks, y, n, rfl, _⟩ := h
    rfl
  · obtain ⟨p, c, ks, y, n, rfl, FA, hn, k⟩ := h
    have hr1 := hr.mono (show 1 ≤ 3 by omega)
    refine ⟨_, pss_one (ps_ret (pe_lc (own := [("_law_k", 1)]) (g := gName 1) (tt := tYes) rfl scSy.nd (pi_range1 (by rfl) mrange (pa_cons (pe_op op_add pe_int (pe_call GD hr1 (by rfl) mD kD bD .nil pass0 (pa_cons (pv 0) (pa_cons pe_int pa_nil)))) pa_nil)) (blkOk_by (N := nSy) (sc := defScope sSystem) (by decide +kernel))
        (fun _ _ _ _ _ => pg_name (i := 1) scSy.nd rfl (Or.inl rfl)) (fun _ _ _ _ _ => pts_nil) (fun _ _ _ _ _ => pe_call GS hr (by rfl) mS kS bS .nil pass0 (pa_cons (pv 0) pa_nil)))), ?_⟩
    have n0 := FA.n0
    refine ⟨_, rfl, p, c, ks, y, n, 4, rfl, FA, by omega, by decide, by decide, fun d ks1 H1 d0 d4 FA1 sv1 => ⟨1, d, rfl, rfl, ?_⟩⟩
    refine ⟨1 + d, rfl, by omega, by omega, fun D hD => lc_range (lo := 0) (n := (1 + d).toNat) (fun i H2 => ∃ (vs : List V) (sss : List (List (List Stp))) (ks2 : List Int) (n2 : Int), H2 D = some (.lst vs) ∧ TDs H2 vs (sss.map statesD) ∧ sss.length = i ∧ (∀ ss ∈ sss, KOk ss) ∧ FeedAt H2 p c ks2 y n2 ∧ n2 ≤ n + 1 + 100 * (i : Int) ∧ Save p c H H2) ?_ (fun i H2 hi ⟨vs, sss, ks2, n2, d2, t2, l2, k2, FA2, le2, sv2⟩ => ?_) fun H2 ⟨vs, sss, ks2, n2, d2, t2, l2, k2, FA2, le2, sv2⟩ => ?_⟩
    · have dp : D ≠ p := Ne.symm (ne_of_none FA1.ob hD)
      have dc : D ≠ c := Ne.symm (ne_of_none FA1.cs hD)
      exact ⟨[], [], ks1, n + 1, upd_same, .nil, rfl, (fun ss m => nomatch m), FA1.wr dp dc, by omega, sv1.wr (sv1.free hD dp dc)⟩
    · have dp : D ≠ p := Ne.symm (ne_of_none FA1.ob hD)
      have dc : D ≠ c := Ne.symm (ne_of_none FA1.cs hD)
      have D0 := sv1.free hD dp dc
      have vl := t2.lenm
      refine ⟨rfl, _, rfl, p, c, ks2, y, n2, rfl, FA2, by omega, fun a ss ks3 n3 H3 t3 k3 FA3 le3 sv3 => ?_⟩
      have d3 := sv3 _ _ d2 dp dc
      have tp : Tup H3 (upd H3 D (.lst (vs ++ [.ref a]))) := Tup.at_ d3 fun xs z => nomatch z
      refine ⟨vs, d3, small_lt (m := 4) (by omega), vs ++ [.ref a], sss ++ [ss], ks3, n3, upd_same, ?_, by rw [List.length_append, l2]; rfl, fun x m => ?_, FA3.wr dp dc, by omega, (sv2.trans sv3).wr D0⟩
      · rw [List.map_append]
        exact TDs.snoc (t3.to tp) ((t2.to (Save.tup FA2 sv3)).to tp)
      · rcases List.mem_append.mp m with m | m
        · exact k2 x m
        · rw [List.mem_singleton.mp m]
          exact k3
    · have dp : D ≠ p := Ne.symm (ne_of_none FA1.ob hD)
      have dc : D ≠ c := Ne.symm (ne_of_none FA1.cs hD)
      exact k D vs sss ks2 n2 H2 (sv1.free hD dp dc) d2 t2 (by omega) (by omega) k2 FA2 (by omega) sv2
abbrev nEv : List Str := ["_law_states_here", "_law_found", "_law_state", "_law_part"]
theorem scEv : FnScope nEv ["_law_states_here"] (defScope sLEvents) := ⟨rfl, rfl, rfl, by decide +kernel, rfl, by decide +kernel, by decide +kernel⟩
theorem ok_levents {f : Addr} {fd : FuncData} (F : Fun K "_law_events" "_law_events" sLEvents f fd) (mset : mg "set" = none) (msorted : mg "sorted" = none) :
    FnOk P w K mg base CX0 1 f fd ["_law_states_here"] spEvents := by
  refine F.ok scEv (fun vs H Q E h => ?_) (fun cdv A outer s H vs Q E hr h => ?_)
  · obtain ⟨a, ss, rfl, _⟩ := h
    rfl
  · obtain ⟨a, ss, rfl, ts, ko, k⟩ := h
    have hu := hr.units
    obtain ⟨sv, hs, tv⟩ := ts.tup_of
    have lsv := tv.lenm
    refine ⟨_, pss_cons (ps_set (i := 1) scEv.nd rfl (Or.inl rfl) (pe_lst pa_nil))
      (pss_cons (ps_for PassesOwn.never rfl (pi_tup (pv 0)) (pg_name (i := 2) scEv.nd rfl (Or.inl rfl))
        (pss_one (ps_set (i := 1) scEv.nd rfl (Or.inl rfl) (pe_op op_cat (pv 1) (pe_lc (own := [("_law_part", 3)]) (g := gName 3) (tt := tYes) rfl scEv.nd (pi_tup (pv 2)) (blkOk_by (N := nEv) (sc := defScope sLEvents) (by decide +kernel))
            (fun _ _ _ _ _ => pg_name (i := 3) scEv.nd rfl (Or.inl rfl)) (fun _ _ _ _ _ => pts_nil) (fun _ _ _ _ _ => pe_slice (r := rSlT K) sl_tup (pv 3) po_none (po_some pe_int)))))))
      (pss_one (ps_ret (pe_callB (cr_sortS rfl hu) (by rfl) msorted PyProof.Rows.boot_sorted (pa_cons (pe_callTy (cr_setOfD rfl hu) (by rfl) mset PyProof.Rows.boot_set (pa_cons (pv 1) pa_nil)) pa_nil))))), ?_⟩
    refine ⟨by show 0 ≤ sizeLine; decide, fun fo hfo => ?_⟩
    have s0 := same_new (o := .lst []) hfo
    have one := ko.one
    have most := ko.most
    obtain ⟨E0, few0, mem0⟩ := ko.evs
    refine ⟨_, rfl, a, rfl, ⟨_, SqT.of (s0 _ _ hs)⟩, for_tup (K := K) (a := a) (xs := sv) (fun i σ H2 => ∃ (o2 : Option V) (fo2 : Addr) (ks : List (Addr × List Key)), σ = [some (.ref a), some (.ref fo2), o2, none] ∧ Same H H2 ∧ H fo2 = none ∧ H2 fo2 = some (.lst (ks.map fun q => V.ref q.1)) ∧ ks.length ≤ 24 * i ∧
        ∀ q ∈ ks, H2 q.1 = some (.tup (q.2.map kV)) ∧ ∃ e : Ev, q.2 = evK e ∧ Wrd e.1 ∧ Wrd e.2 ∧ e ∈ E0)
      ⟨none, fo, [], rfl, s0, hfo, upd_same, Nat.zero_le _, fun q m => nomatch m⟩ (fun i σ H2 _ ⟨_, _, _, _, s2, _⟩ => SqT.of (s2 _ _ hs)) ?_ ?_⟩
    · rintro i x σ H2 ex ⟨o2, fo2, ks, rfl, s2, f2, hf2, kl, kq⟩
      obtain ⟨st, es, td⟩ := tv.at_ ex
      have mst := List.mem_of_getElem? es
      have lt : i < ss.length := (List.getElem?_eq_some_iff.mp es).1
      have so := ko.all st mst
      obtain ⟨b, xs, rfl, hb, tx⟩ := TD.ref_of td
      have lx := tx.lenm
      have few := so.few
      have hb2 := s2 _ _ hb
      refine ⟨_, rfl, _, rfl, b, rfl, ⟨_, SqT.of hb2⟩, fun D2 hD2 => lc_tup (K := K) (a := b) (xs := xs) (fun j H3 => Same H2 H3 ∧ ∃ ls : List (Addr × List Key), H3 D2 = some (.lst (ls.map fun q => V.ref q.1)) ∧ ls.length = j ∧ ∀ q ∈ ls, H3 q.1 = some (.tup (q.2.map kV)) ∧ ∃ e : Ev, q.2 = evK e ∧ Wrd e.1 ∧ Wrd e.2 ∧ e ∈ E0)
        ⟨same_new hD2, [], upd_same, rfl, fun q m => nomatch m⟩ (fun j H3 _ ⟨s3, _⟩ => SqT.of (s3 _ _ hb2)) (fun j x H3 ex3 ⟨s3, ls, d3, l3, q3⟩ => ?_) fun H3 ⟨s3, ls, d3, l3, q3⟩ => ?_⟩
      · obtain ⟨z, ez, tz⟩ := tx.at_ ex3
        have mz := List.mem_of_getElem? ez
        obtain ⟨b3, rfl, hz⟩ := step_of tz
        have hz3 := s3 _ _ (s2 _ _ hz)
        have lt3 : j < st.length := (List.getElem?_eq_some_iff.mp ez).1
        refine ⟨rfl, _, rfl, 2, rfl, b3, _, rfl, SqT.of hz3, (fun z => absurd (show HT.sIx 3 3 (some 2) = 3 from z.2) (by decide)), fun p hp => ⟨ls.map fun q => V.ref q.1, same_new hp _ _ d3, ?_, ?_, ls ++ [(p, evK (evOf z))], ?_, ?_, ?_⟩⟩
        · rw [List.length_map]
          exact small_lt (m := 24) (by omega)
        · exact same_at (s3.trans (same_new hp)) hD2
        · rw [upd_same, List.map_append]
          rfl
        · rw [List.length_append, l3]
          rfl
        · intro q hq
          have d4 := same_new (o := .tup (cutV [V.str z.1, V.str z.2.1, V.int z.2.2] none (some 2))) hp _ _ d3
          have tp : Tup (upd H3 p (.tup (cutV [V.str z.1, V.str z.2.1, V.int z.2.2] none (some 2)))) (upd (upd H3 p (.tup (cutV [V.str z.1, V.str z.2.1, V.int z.2.2] none (some 2)))) D2 (.lst ((ls.map fun q => V.ref q.1) ++ [.ref p]))) := Tup.at_ d4 fun xs z => nomatch z
          rcases List.mem_append.mp hq with m | m
          · exact ⟨tp _ _ (same_new hp _ _ (q3 q m).1), (q3 q m).2⟩
          · rw [List.mem_singleton.mp m]
            exact ⟨tp _ _ upd_same, evOf z, rfl, (so.all z mz).w1, (so.all z mz).w2, mem0 st mst z mz⟩
      · refine ⟨fo2, D2, _, _, rfl, rfl, s3 _ _ hf2, d3, ?_, fun q hq => ?_⟩
        · rw [List.length_map, List.length_map]
          exact small_len (m := 1000) (by omega)
        have sq := same_new (o := .lst ((ks.map fun q => V.ref q.1) ++ ls.map fun q => V.ref q.1)) hq
        refine ⟨_, q, ks ++ ls, rfl, s2.trans (s3.trans sq), (s2.trans s3).free hq, ?_, by rw [List.length_append]; omega, fun r m => ?_⟩
        · rw [upd_same, List.map_append]
        · rcases List.mem_append.mp m with m | m
          · exact ⟨sq _ _ (s3 _ _ (kq r m).1), (kq r m).2⟩
          · exact ⟨sq _ _ (q3 r m).1, (q3 r m).2⟩
    · rintro σ H2 ⟨o2, fo2, ks, rfl, s2, f2, hf2, kl, kq⟩
      refine ⟨_, rfl, fo2, ks, rfl, SqL.of hf2, fun q m => SqT.of (kq q m).1, ⟨E0.map evK, fun q m => ?_, by rw [List.length_map]; omega⟩, fun a2 L ha2 sub all nd => ?_⟩
      · obtain ⟨_, e, e1, _, _, e2⟩ := kq q m
        rw [e1]
        exact List.mem_map.mpr ⟨e, e2, rfl⟩
      have keep : ∀ q ∈ ks, (upd H2 a2 (SetO P w a2 L)) q.1 = some (.tup (q.2.map kV)) := fun q m => same_new ha2 _ _ (kq q m).1
      refine ⟨a2, L, rfl, upd_same, fun q m => SqT.of (keep q (sub q m)), ?_, ?_, fun L1 p pm less nd1 hp => ?_⟩
      · intro d hd d' hd'
        obtain ⟨q, m, rfl⟩ := List.mem_map.mp hd
        obtain ⟨r, m', rfl⟩ := List.mem_map.mp hd'
        obtain ⟨_, x, ex, _⟩ := kq q (sub q m)
        obtain ⟨_, y, ey, _⟩ := kq r (sub r m')
        rw [ex, ey]
        rfl
      · refine .inl fun d hd => ?_
        obtain ⟨q, m, rfl⟩ := List.mem_map.mp hd
        obtain ⟨_, x, ex, _⟩ := kq q (sub q m)
        rw [ex]
        exact ⟨_, _, rfl⟩
      have mem1 : ∀ q ∈ L1.mergeSort (PySem.W.dataLe false fun q : Addr × List Key => tD q.2), q ∈ ks := fun q m => sub q (pm.mem_iff.mp ((List.mergeSort_perm _ _).mem_iff.mp m))
      have lenM : (L1.mergeSort (PySem.W.dataLe false fun q : Addr × List Key => tD q.2)).length < 64 := by rw [List.length_mergeSort, pm.length_eq]; exact less
      generalize L1.mergeSort (PySem.W.dataLe false fun q : Addr × List Key => tD q.2) = M at mem1 lenM ⊢
      obtain ⟨es, t1, l1, w1⟩ := rows_evs (H := upd (upd H2 a2 (SetO P w a2 L)) p (.lst (M.map fun q => V.ref q.1))) M fun q m => ⟨same_new hp _ _ (keep q (mem1 q m)), let ⟨_, e, e1, e2, e3, _⟩ := kq q (mem1 q m); ⟨e, e1, e2, e3⟩⟩
      have sA := same_new (o := SetO P w a2 L) ha2
      exact k p _ es _ (s2.trans (sA.trans (same_new hp))) ((s2.trans sA).free hp) upd_same t1 (by omega) w1
abbrev nDi : List Str := ["_law_deck_here", "_law_machines", "_law_at", "_law_some"]
theorem scDi : FnScope nDi ["_law_deck_here", "_law_machines"] (defScope sDid) := ⟨rfl, rfl, rfl, by decide +kernel, rfl, by decide +kernel, by decide +kernel⟩
theorem ok_did {f fE fP fD : Addr} {fd fdE fdP fdD : FuncData} (F : Fun K "_law_did" "_law_did" sDid f fd) (mlen : mg "len" = none)
    (GE : FnOk P w K mg base CX0 1 fE fdE ["_law_states_here"] spEvents) (mE : mg "_law_events" = some (.ref fE)) (kE : PySem.W.keepIn K (.ref fE) = true) (bE : Binds K fdE ["_law_states_here"] [])
    (GP : FnOk P w K mg base CX0 2 fP fdP ["_law_deck_here", "_law_some"] spPick) (mP : mg "_law_pick" = some (.ref fP)) (kP : PySem.W.keepIn K (.ref fP) = true) (bP : Binds K fdP ["_law_deck_here", "_law_some"] [])
    (GD : FnOk P w K mg base CX0 1 fD fdD ["_law_deck_here", "_law_count"] spDigit) (mD : mg "_law_draw" = some (.ref fD)) (kD : PySem.W.keepIn K (.ref fD) = true) (bD : Binds K fdD ["_law_deck_here", "_law_count"] []) :
    FnOk P w K mg base CX0 3 f fd ["_law_deck_here", "_law_machines"] spDid := by
  refine F.ok scDi (fun vs H Q E h => ?_) (fun cdv A outer s H vs Q E hr h => ?_)
  · obtain ⟨p, c, O, ks, y, n, ov, sss, rfl, _⟩ := h
    rfl
  · obtain ⟨p, c, O, ks, y, n, ov, sss, rfl, FA, hn, hO, tO, o1, o4, ko, Op, Oc, k1, k2⟩ := h
    have hu := hr.units
    have hr1 := hr.mono (show 1 ≤ 2 by omega)
    refine ⟨_, pss_cons (ps_set (i := 2) scDi.nd rfl (Or.inl rfl) (pe_call GD hr1 (by rfl) mD kD bD .nil pass0 (pa_cons (pv 0) (pa_cons (pe_callB (r := rLenQ K) call_len_seq (by rfl) mlen PySem.boot_len (pa_cons (pv 1) pa_nil)) pa_nil))))
      (pss_cons (ps_set (i := 3) scDi.nd rfl (Or.inl rfl) (pe_call GE hr1 (by rfl) mE kE bE .nil pass0 (pa_cons (pe_ix (r := rIxL K) ix_list (pv 1) (pv 2) (fun _ _ => rfl)) pa_nil)))
      (pss_one (ps_ret (pe_ifExp (pt_cmpR (op_eqD hu) (pv 3) (pe_lst pa_nil) (nomark _)) pe_non (pe_op op_catA (pe_tup (pa_cons (pv 2) pa_nil)) (pe_call GP hr (by rfl) mP kP bP .nil pass0 (pa_cons (pv 0) (pa_cons (pv 3) pa_nil)))))))), ?_⟩
    have n0 := FA.n0
    have lov := tO.lenm
    refine ⟨_, rfl, _, rfl, O, ov, rfl, .inl (SqL.of hO), p, c, ks, y, n, _, rfl, FA, by omega, by omega, by omega, fun i ks1 H1 i0 i1 FA1 sv1 => ?_⟩
    obtain ⟨v, hv, ev⟩ := at_nat (xs := ov) i0 i1
    have hO1 := sv1 _ _ hO Op Oc
    have tO1 := tO.to (Save.tup FA sv1)
    obtain ⟨j, ej⟩ := List.getElem?_of_mem hv
    obtain ⟨ss, es_, ts⟩ := tO1.at_ ej
    have ks_ := ko ss (List.mem_of_getElem? es_)
    obtain ⟨a, xs, rfl, ha, hx⟩ := TD.ref_of (ds := ss.map stateD) ts
    refine ⟨_, rfl, _, rfl, O, ov, i, _, rfl, rfl, SqL.of hO1, ev, a, ss, rfl, ts, ks_, fun R rv es H2 s2 fR hR tR lR wR => ?_⟩
    refine ⟨_, rfl, by show 0 ≤ sizeLine; decide, fun e he => ?_⟩
    have s3 := same_new (o := .lst []) he
    have hR3 := s3 _ _ hR
    have tR3 := tR.to (Tup.of s3)
    have hE3 : (upd H2 e (.lst [])) e = some (.lst []) := upd_same
    generalize upd H2 e (.lst []) = H3 at s3 hR3 tR3 hE3 ⊢
    have sh := shaped_rows es wR
    rw [evs_list] at sh
    have s13 := s2.trans s3
    have FA3 := FA1.same s13
    have sv3 := sv1.trans (Save.of s13)
    refine ⟨_, _, .lst (SqL.of hR3) (TDs.dp tR3), .lst (SqL.of hE3) .nil, sh, by decide, _, rfl, ?_⟩
    rw [eqv_evs]
    have Rp : R ≠ p := fun z => by rw [z, FA1.ob] at fR; cases fR
    have Rc : R ≠ c := fun z => by rw [z, FA1.cs] at fR; cases fR
    cases es with
    | nil => exact iteT (k1 ks1 (n + 1) _ FA3 (by omega) sv3)
    | cons e0 es =>
      have lrv := tR3.lenm
      rw [List.length_cons] at lrv lR
      refine iteF ⟨_, rfl, by show 1 ≤ sizeLine; decide, fun q hq => ?_⟩
      have s4 := same_new (o := .tup [V.int i]) hq
      have FA4 := FA3.same s4
      refine ⟨_, rfl, _, rfl, p, c, R, rv, ks1, y, n + 1, rfl, FA4, by omega, s4 _ _ hR3, Rp, Rc, by omega, by omega, fun x ks2 H5 mx FA5 sv5 => ?_⟩
      obtain ⟨j, ej⟩ := List.getElem?_of_mem mx
      obtain ⟨e1, ee1, te1⟩ := tR3.at_ ej
      obtain ⟨t1, rfl, ht1⟩ := ev_of ((te1.to (Tup.of s4)).to (Save.tup FA4 sv5))
      have hq5 := Save.tup FA4 sv5 _ _ (upd_same (H := H3) (a := q) (o := .tup [V.int i]))
      have we := wR e1 (List.mem_of_getElem? ee1)
      refine ⟨q, t1, _, _, rfl, rfl, hq5, ht1, by show 3 ≤ sizeLine; decide, fun T H6 s6 hT => ?_⟩
      exact k2 T i e1.1 e1.2 ks2 (n + 1 + 1) H6 hT i0 (by omega) we.1 we.2 (FA5.same s6) (by omega) (((sv3.trans (Save.of s4)).trans sv5).trans (Save.of s6))
end
end My

-- ===== K14O =====
set_option Elab.async false
set_option linter.all false
set_option maxRecDepth 100000
set_option maxHeartbeats 4000000
namespace My
open PySem L2 PyProof.Rows PySem.Spec Kd
section
variable {P : Program} {w : World} {K : PySem.W.Frag} {mg : Str → Option Value} {base : Heap}
abbrev nWe : List Str := ["log", "number", "event", "entry"]
theorem scWe : FnScope nWe ["log", "number", "event"] (defScope sEvent) := ⟨rfl, rfl, rfl, by decide +kernel, rfl, by decide +kernel, by decide +kernel⟩
theorem ok_event {f fL : Addr} {fd fdL : FuncData} (F : Fun K "with_event" "with_event" sEvent f fd) (mtup : mg "tuple" = none)
    (GL : FnOk P w K mg base CX0 1 fL fdL ["entry", "event"] spLonger) (mL : mg "_longer" = some (.ref fL)) (kL : PySem.W.keepIn K (.ref fL) = true) (bL : Binds K fdL ["entry", "event"] []) : FnOk P w K mg base CX0 2 f fd ["log", "number", "event"] spEvent := by
  refine F.ok scWe (fun vs H Q E h => ?_) (fun cdv A outer s H vs Q E hr h => ?_)
  · obtain ⟨v, u, z, n, a, es, rfl, _⟩ := h
    rfl
  · obtain ⟨v, u, z, n, act, es, rfl, tl, tu, sm, k⟩ := h
    obtain ⟨a, x, y, ev, rfl, ha, tx, hy, te⟩ := log_at tl
    obtain ⟨ut, rfl, hut⟩ := act_of tu
    have len : ev.length = es.length := by have q := te.len; rwa [List.length_map] at q
    have s1 := sm.1
    refine ⟨_, pss_one (ps_ret (pe_tup (pa_cons (pe_ix ix_tup (pv 0) pe_int (fun _ _ => rfl)) (pa_cons (pe_callTy call_tuple_of (by rfl) mtup (by decide +kernel) (pa_cons (pe_lc (own := [("entry", 3)]) (g := gName 3) (tt := tYes) rfl scWe.nd (pi_tup (pe_ix (r := rIxT K) ix_tup (pv 0) pe_int (fun _ _ => rfl))) (blkOk_by (N := nWe) (sc := defScope sEvent) (by decide +kernel))
        (fun _ _ _ _ _ => pg_name (i := 3) scWe.nd rfl (Or.inl rfl)) (fun _ _ _ _ _ => pts_nil)
        (fun _ _ _ _ _ => pe_ifExp (pt_cmpR op_eq (pe_ix (r := rIxT K) ix_tup (pv 3) pe_int (fun _ _ => rfl)) (pv 1) (nomark _)) (pe_call GL hr (by rfl) mL kL bL .nil pass0 (pa_cons (pv 3) (pa_cons (pv 2) pa_nil))) (pv 3))) pa_nil)) pa_nil)))), ?_⟩
    refine ⟨_, rfl, a, _, 0, .ref x, rfl, rfl, SqT.of ha, rfl, _, rfl, a, _, 1, .ref y, rfl, rfl, SqT.of ha, rfl, y, rfl, ⟨_, SqT.of hy⟩, fun D hD => lc_tup (K := K) (a := y) (xs := ev) (fun i H2 => Same H H2 ∧ ∃ vs, H2 D = some (.lst vs) ∧ TDs H2 vs (((es.take i).map (longer n act)).map entD)) ⟨same_new hD, [], upd_same, by simpa using TDs.nil⟩ (fun i H2 _ ⟨s2, _⟩ => SqT.of (s2 _ _ hy)) (fun i v H2 ex ⟨s2, vs, d2, t2⟩ => ?_) fun H2 ⟨s2, vs, d2, t2⟩ => ?_⟩
    · obtain ⟨e, ee, td⟩ := ent_get te ex
      have lt : i < es.length := (List.getElem?_eq_some_iff.mp ee).1
      have tde := td
      obtain ⟨c, x1, y1, bv, rv, rfl, hc, _⟩ := ent_of td
      have hc2 := s2 _ _ hc
      have tk : es.take (i + 1) = es.take i ++ [e] := by rw [List.take_succ, ee]; rfl
      have lv := t2.len
      rw [List.length_map, List.length_map, List.length_take] at lv
      refine ⟨rfl, _, rfl, c, _, 0, .int e.num, rfl, rfl, SqT.of hc2, rfl, _, rfl, rfl, _, rfl, ?_⟩
      have fin : ∀ H3 R, Same H2 H3 → TD H3 (.ref R) (entD (longer n act e)) → ∃ acc, H3 D = some (.lst acc) ∧ acc.length < sizeLine ∧ (Same H (upd H3 D (.lst (acc ++ [.ref R]))) ∧ ∃ vs, (upd H3 D (.lst (acc ++ [.ref R]))) D = some (.lst vs) ∧ TDs (upd H3 D (.lst (acc ++ [.ref R]))) vs (((es.take (i + 1)).map (longer n act)).map entD)) := fun H3 R s3 t3 => by
        have d3 := s3 _ _ d2
        have tp : Tup H3 (upd H3 D (.lst (vs ++ [.ref R]))) := Tup.at_ d3 fun xs z => nomatch z
        refine ⟨vs, d3, small_lt (m := 1000) (by omega), same_at (s2.trans s3) hD, _, upd_same, ?_⟩
        rw [tk, List.map_append, List.map_append]
        exact TDs.snoc (t3.to tp) ((t2.to (Tup.of s3)).to tp)
      by_cases q : e.num = n
      · rw [q, decide_eq_true rfl]
        refine iteT ⟨_, rfl, _, rfl, .ref c, .ref ut, e, act, rfl, tde.to (Tup.of s2), tu.to (Tup.of s2), sm.2 e (List.mem_of_getElem? ee), fun R H3 s3 t3 => fin H3 R s3 ?_⟩
        unfold longer
        rw [if_pos q]
        exact t3
      · rw [decide_eq_false (fun z => q (V.int.inj z))]
        refine iteF ⟨_, rfl, fin H2 c (Same.refl H2) ?_⟩
        unfold longer
        rw [if_neg q]
        exact tde.to (Tup.of s2)
    · rw [len, List.take_length] at t2
      refine ⟨D, vs, rfl, .inl ⟨SqL.of d2, fun q hq => ⟨by show 2 ≤ sizeLine; decide, fun t3 h3 => ?_⟩⟩⟩
      have s3 := same_new (o := .tup vs) hq
      have s4 := same_new (o := .tup [V.ref x, .ref q]) h3
      have sall := s2.trans (s3.trans s4)
      exact k t3 _ sall (log_new upd_same (tx.to (Tup.of sall)) (s4 _ _ upd_same) (t2.to (Tup.of (s3.trans s4))))
abbrev nWc : List Str := ["log", "number", "entry"]
theorem scWc : FnScope nWc ["log", "number"] (defScope sCommit) := ⟨rfl, rfl, rfl, by decide +kernel, rfl, by decide +kernel, by decide +kernel⟩
theorem ok_commit {f fL : Addr} {fd fdL : FuncData} (F : Fun K "with_commit" "with_commit" sCommit f fd) (mtup : mg "tuple" = none)
    (GL : FnOk P w K mg base CX0 1 fL fdL ["entry"] spCommitted) (mL : mg "_committed" = some (.ref fL)) (kL : PySem.W.keepIn K (.ref fL) = true) (bL : Binds K fdL ["entry"] []) : FnOk P w K mg base CX0 2 f fd ["log", "number"] spCommit := by
  refine F.ok scWc (fun vs H Q E h => ?_) (fun cdv A outer s H vs Q E hr h => ?_)
  · obtain ⟨v, z, n, es, rfl, _⟩ := h
    rfl
  · obtain ⟨v, z, n, es, rfl, tl, sm, k⟩ := h
    obtain ⟨a, x, y, ev, rfl, ha, tx, hy, te⟩ := log_at tl
    have len : ev.length = es.length := by have q := te.len; rwa [List.length_map] at q
    have s1 := sm.1
    refine ⟨_, pss_one (ps_ret (pe_tup (pa_cons (pe_ix ix_tup (pv 0) pe_int (fun _ _ => rfl)) (pa_cons (pe_callTy call_tuple_of (by rfl) mtup (by decide +kernel) (pa_cons (pe_lc (own := [("entry", 2)]) (g := gName 2) (tt := tYes) rfl scWc.nd (pi_tup (pe_ix (r := rIxT K) ix_tup (pv 0) pe_int (fun _ _ => rfl))) (blkOk_by (N := nWc) (sc := defScope sCommit) (by decide +kernel))
        (fun _ _ _ _ _ => pg_name (i := 2) scWc.nd rfl (Or.inl rfl)) (fun _ _ _ _ _ => pts_nil)
        (fun _ _ _ _ _ => pe_ifExp (pt_cmpR op_eq (pe_ix (r := rIxT K) ix_tup (pv 2) pe_int (fun _ _ => rfl)) (pv 1) (nomark _)) (pe_call GL hr (by rfl) mL kL bL .nil pass0 (pa_cons (pv 2) pa_nil)) (pv 2))) pa_nil)) pa_nil)))), ?_⟩
    refine ⟨_, rfl, a, _, 0, .ref x, rfl, rfl, SqT.of ha, rfl, _, rfl, a, _, 1, .ref y, rfl, rfl, SqT.of ha, rfl, y, rfl, ⟨_, SqT.of hy⟩, fun D hD => lc_tup (K := K) (a := y) (xs := ev) (fun i H2 => Same H H2 ∧ ∃ vs, H2 D = some (.lst vs) ∧ TDs H2 vs (((es.take i).map (committed n)).map entD)) ⟨same_new hD, [], upd_same, by simpa using TDs.nil⟩ (fun i H2 _ ⟨s2, _⟩ => SqT.of (s2 _ _ hy)) (fun i v H2 ex ⟨s2, vs, d2, t2⟩ => ?_) fun H2 ⟨s2, vs, d2, t2⟩ => ?_⟩
    · obtain ⟨e, ee, td⟩ := ent_get te ex
      have lt : i < es.length := (List.getElem?_eq_some_iff.mp ee).1
      have tde := td
      obtain ⟨c, x1, y1, bv, rv, rfl, hc, _⟩ := ent_of td
      have hc2 := s2 _ _ hc
      have tk : es.take (i + 1) = es.take i ++ [e] := by rw [List.take_succ, ee]; rfl
      have lv := t2.len
      rw [List.length_map, List.length_map, List.length_take] at lv
      refine ⟨rfl, _, rfl, c, _, 0, .int e.num, rfl, rfl, SqT.of hc2, rfl, _, rfl, rfl, _, rfl, ?_⟩
      have fin : ∀ H3 R, Same H2 H3 → TD H3 (.ref R) (entD (committed n e)) → ∃ acc, H3 D = some (.lst acc) ∧ acc.length < sizeLine ∧ (Same H (upd H3 D (.lst (acc ++ [.ref R]))) ∧ ∃ vs, (upd H3 D (.lst (acc ++ [.ref R]))) D = some (.lst vs) ∧ TDs (upd H3 D (.lst (acc ++ [.ref R]))) vs (((es.take (i + 1)).map (committed n)).map entD)) := fun H3 R s3 t3 => by
        have d3 := s3 _ _ d2
        have tp : Tup H3 (upd H3 D (.lst (vs ++ [.ref R]))) := Tup.at_ d3 fun xs z => nomatch z
        refine ⟨vs, d3, small_lt (m := 1000) (by omega), same_at (s2.trans s3) hD, _, upd_same, ?_⟩
        rw [tk, List.map_append, List.map_append]
        exact TDs.snoc (t3.to tp) ((t2.to (Tup.of s3)).to tp)
      by_cases q : e.num = n
      · rw [q, decide_eq_true rfl]
        refine iteT ⟨_, rfl, .ref c, e, rfl, tde.to (Tup.of s2), fun R H3 s3 t3 => fin H3 R s3 ?_⟩
        unfold committed
        rw [if_pos q]
        exact t3
      · rw [decide_eq_false (fun z => q (V.int.inj z))]
        refine iteF ⟨_, rfl, fin H2 c (Same.refl H2) ?_⟩
        unfold committed
        rw [if_neg q]
        exact tde.to (Tup.of s2)
    · rw [len, List.take_length] at t2
      refine ⟨D, vs, rfl, .inl ⟨SqL.of d2, fun q hq => ⟨by show 2 ≤ sizeLine; decide, fun t3 h3 => ?_⟩⟩⟩
      have s3 := same_new (o := .tup vs) hq
      have s4 := same_new (o := .tup [V.ref x, .ref q]) h3
      have sall := s2.trans (s3.trans s4)
      exact k t3 _ sall (log_new upd_same (tx.to (Tup.of sall)) (s4 _ _ upd_same) (t2.to (Tup.of (s3.trans s4))))
theorem scWa : FnScope nWc ["log", "number"] (defScope sAbort) := ⟨rfl, rfl, rfl, by decide +kernel, rfl, by decide +kernel, by decide +kernel⟩
theorem ok_abort {f : Addr} {fd : FuncData} (F : Fun K "with_abort" "with_abort" sAbort f fd) (mtup : mg "tuple" = none) : FnOk P w K mg base CX0 1 f fd ["log", "number"] spAbort := by
  refine F.ok scWa (fun vs H Q E h => ?_) (fun cdv A outer s H vs Q E hr h => ?_)
  · obtain ⟨v, z, n, es, rfl, _⟩ := h
    rfl
  · obtain ⟨v, z, n, es, rfl, tl, sm, k⟩ := h
    obtain ⟨a, x, y, ev, rfl, ha, tx, hy, te⟩ := log_at tl
    have len : ev.length = es.length := by have q := te.len; rwa [List.length_map] at q
    have s1 := sm.1
    refine ⟨_, pss_one (ps_ret (pe_tup (pa_cons (pe_ix ix_tup (pv 0) pe_int (fun _ _ => rfl)) (pa_cons (pe_callTy call_tuple_of (by rfl) mtup (by decide +kernel) (pa_cons (pe_lc (own := [("entry", 2)]) (g := gName 2) rfl scWa.nd (pi_tup (pe_ix (r := rIxT K) ix_tup (pv 0) pe_int (fun _ _ => rfl))) (blkOk_by (N := nWc) (sc := defScope sAbort) (by decide +kernel))
        (fun _ _ _ _ _ => pg_name (i := 2) scWa.nd rfl (Or.inl rfl)) (fun _ _ _ _ _ => pts_one (pt_cmpR op_ne (pe_ix (r := rIxT K) ix_tup (pv 2) pe_int (fun _ _ => rfl)) (pv 1) (nomark _)))
        (fun _ _ _ _ _ => pv 2)) pa_nil)) pa_nil)))), ?_⟩
    refine ⟨_, rfl, a, _, 0, .ref x, rfl, rfl, SqT.of ha, rfl, _, rfl, a, _, 1, .ref y, rfl, rfl, SqT.of ha, rfl, y, rfl, ⟨_, SqT.of hy⟩, fun D hD => lc_tup (K := K) (a := y) (xs := ev) (fun i H2 => Same H H2 ∧ ∃ vs, H2 D = some (.lst vs) ∧ TDs H2 vs (((es.take i).filter fun e => decide (e.num ≠ n)).map entD) ∧ vs.length ≤ i) ⟨same_new hD, [], upd_same, by simpa using TDs.nil, Nat.le_refl _⟩ (fun i H2 _ ⟨s2, _⟩ => SqT.of (s2 _ _ hy)) (fun i v H2 ex ⟨s2, vs, d2, t2, lv⟩ => ?_) fun H2 ⟨s2, vs, d2, t2, _⟩ => ?_⟩
    · obtain ⟨e, ee, td⟩ := ent_get te ex
      have lt : i < es.length := (List.getElem?_eq_some_iff.mp ee).1
      have tde := td
      obtain ⟨c, x1, y1, bv, rv, rfl, hc, _⟩ := ent_of td
      have hc2 := s2 _ _ hc
      have tk : es.take (i + 1) = es.take i ++ [e] := by rw [List.take_succ, ee]; rfl
      refine ⟨rfl, _, rfl, c, _, 0, .int e.num, rfl, rfl, SqT.of hc2, rfl, _, rfl, rfl, _, rfl, ?_⟩
      by_cases q : e.num = n
      · rw [q, decide_eq_true rfl]
        refine iteF ⟨s2, vs, d2, ?_, by omega⟩
        have e2 : (es.take (i + 1)).filter (fun e => decide (e.num ≠ n)) = (es.take i).filter (fun e => decide (e.num ≠ n)) := by
          rw [tk, List.filter_append, List.filter_cons, decide_eq_false (fun z => z q)]
          exact List.append_nil _
        rw [e2]
        exact t2
      · rw [decide_eq_false (fun z => q (V.int.inj z))]
        have tp : Tup H2 (upd H2 D (.lst (vs ++ [.ref c]))) := Tup.at_ d2 fun xs z => nomatch z
        refine iteT ⟨_, rfl, vs, d2, small_lt (m := 1000) (by omega), same_at s2 hD, _, upd_same, ?_, by rw [List.length_append]; exact Nat.succ_le_succ lv⟩
        have e2 : (es.take (i + 1)).filter (fun e => decide (e.num ≠ n)) = (es.take i).filter (fun e => decide (e.num ≠ n)) ++ [e] := by
          rw [tk, List.filter_append]
          congr 1
          rw [List.filter_cons, decide_eq_true q]
          rfl
        rw [e2, List.map_append]
        exact TDs.snoc ((tde.to (Tup.of s2)).to tp) (t2.to tp)
    · rw [len, List.take_length] at t2
      refine ⟨D, vs, rfl, .inl ⟨SqL.of d2, fun q hq => ⟨by show 2 ≤ sizeLine; decide, fun t3 h3 => ?_⟩⟩⟩
      have s3 := same_new (o := .tup vs) hq
      have s4 := same_new (o := .tup [V.ref x, .ref q]) h3
      have sall := s2.trans (s3.trans s4)
      exact k t3 _ sall (log_new upd_same (tx.to (Tup.of sall)) (s4 _ _ upd_same) (t2.to (Tup.of (s3.trans s4))))
end
end My

-- ===== K14P =====
set_option Elab.async false
set_option linter.all false
set_option maxRecDepth 100000
set_option maxHeartbeats 4000000
namespace My
open PySem L2 PyProof.Rows PySem.Spec Kd
theorem th_tag {H : Hp} {v : V} {th : Th} (h : TD H v (thD th)) : ∃ t xs, v = .ref t ∧ H t = some (.tup xs) ∧ xs[0]? = some (.str (match th with | .beg => "begin" | .did _ _ => "did" | .com _ => "commit" | .abo _ => "abort")) ∧
    (match th with | .beg => xs = [.str "begin"] | .did n a => xs = [.str "did", .int n, .int a.1, .str a.2.1, .str a.2.2] | .com n => xs = [.str "commit", .int n] | .abo n => xs = [.str "abort", .int n]) := by
  have one : ∀ {s : Str} {v : V}, TD H v (.str s) → v = .str s := fun h => by cases h; rfl
  have two : ∀ {i : Int} {v : V}, TD H v (.int i) → v = .int i := fun h => by cases h; rfl
  cases th with
  | beg =>
    obtain ⟨t, xs, rfl, ht, hx⟩ := TD.ref_of h
    cases hx with
    | cons h1 t1 =>
      cases t1
      cases one h1
      exact ⟨t, _, rfl, ht, rfl, rfl⟩
  | did n a =>
    obtain ⟨t, xs, rfl, ht, hx⟩ := TD.ref_of h
    cases hx with
    | cons h1 t1 =>
      cases t1 with
      | cons h2 t2 =>
        cases t2 with
        | cons h3 t3 =>
          cases t3 with
          | cons h4 t4 =>
            cases t4 with
            | cons h5 t5 =>
              cases t5
              cases one h1
              cases two h2
              cases two h3
              cases one h4
              cases one h5
              exact ⟨t, _, rfl, ht, rfl, rfl⟩
  | com n =>
    obtain ⟨t, xs, rfl, ht, hx⟩ := TD.ref_of h
    cases hx with
    | cons h1 t1 =>
      cases t1 with
      | cons h2 t2 =>
        cases t2
        cases one h1
        cases two h2
        exact ⟨t, _, rfl, ht, rfl, rfl⟩
  | abo n =>
    obtain ⟨t, xs, rfl, ht, hx⟩ := TD.ref_of h
    cases hx with
    | cons h1 t1 =>
      cases t1 with
      | cons h2 t2 =>
        cases t2
        cases one h1
        cases two h2
        exact ⟨t, _, rfl, ht, rfl, rfl⟩
theorem ne_cd : ¬ (V.str "commit" = V.str "did") := by decide
section
variable {P : Program} {w : World} {K : PySem.W.Frag} {mg : Str → Option Value} {base : Heap}
theorem scTh : FnScope ["log", "thing", "begun"] ["log", "thing", "begun"] (defScope sThing) := ⟨rfl, rfl, rfl, by decide +kernel, rfl, by decide +kernel, by decide +kernel⟩
theorem ok_thing {f fB fE fC fA : Addr} {fd fdB fdE fdC fdA : FuncData} (F : Fun K "with_thing" "with_thing" sThing f fd)
    (GB : FnOk P w K mg base CX0 2 fB fdB ["log", "number"] spBegin) (mB : mg "with_begin" = some (.ref fB)) (kB : PySem.W.keepIn K (.ref fB) = true) (bB : Binds K fdB ["log", "number"] [])
    (GE : FnOk P w K mg base CX0 2 fE fdE ["log", "number", "event"] spEvent) (mE : mg "with_event" = some (.ref fE)) (kE : PySem.W.keepIn K (.ref fE) = true) (bE : Binds K fdE ["log", "number", "event"] [])
    (GC : FnOk P w K mg base CX0 2 fC fdC ["log", "number"] spCommit) (mC : mg "with_commit" = some (.ref fC)) (kC : PySem.W.keepIn K (.ref fC) = true) (bC : Binds K fdC ["log", "number"] [])
    (GA : FnOk P w K mg base CX0 1 fA fdA ["log", "number"] spAbort) (mA : mg "with_abort" = some (.ref fA)) (kA : PySem.W.keepIn K (.ref fA) = true) (bA : Binds K fdA ["log", "number"] []) :
    FnOk P w K mg base CX0 3 f fd ["log", "thing", "begun"] spThing := by
  refine F.ok scTh (fun vs H Q E h => ?_) (fun cdv A outer s H vs Q E hr h => ?_)
  · obtain ⟨v, u, z, n, es, th, rfl, _⟩ := h
    rfl
  · obtain ⟨v, u, z, n, es, th, rfl, tl, tu, sm, k⟩ := h
    have hr1 := hr.mono (show 1 ≤ 2 by omega)
    refine ⟨_, pss_cons (ps_if (pt_cmpR op_eq (pe_ix ix_tup (pv 1) pe_int (fun _ _ => rfl)) pe_str (nomark _)) (pss_one (ps_ret (pe_call GB hr (by rfl) mB kB bB .nil pass0 (pa_cons (pv 0) (pa_cons (pv 2) pa_nil))))) pss_nil)
      (pss_cons (ps_if (pt_cmpR op_eq (pe_ix ix_tup (pv 1) pe_int (fun _ _ => rfl)) pe_str (nomark _)) (pss_one (ps_ret (pe_call GE hr (by rfl) mE kE bE .nil pass0 (pa_cons (pv 0) (pa_cons (pe_ix ix_tup (pv 1) pe_int (fun _ _ => rfl)) (pa_cons (pe_slice (r := rSlT K) sl_tup (pv 1) (po_some pe_int) po_none) pa_nil)))))) pss_nil)
      (pss_cons (ps_if (pt_cmpR op_eq (pe_ix ix_tup (pv 1) pe_int (fun _ _ => rfl)) pe_str (nomark _)) (pss_one (ps_ret (pe_call GC hr (by rfl) mC kC bC .nil pass0 (pa_cons (pv 0) (pa_cons (pe_ix ix_tup (pv 1) pe_int (fun _ _ => rfl)) pa_nil))))) pss_nil)
      (pss_one (ps_ret (pe_call GA hr1 (by rfl) mA kA bA .nil pass0 (pa_cons (pv 0) (pa_cons (pe_ix ix_tup (pv 1) pe_int (fun _ _ => rfl)) pa_nil))))))), ?_⟩
    obtain ⟨t, xs, rfl, ht, hx0, hxs⟩ := th_tag tu
    cases th with
    | beg =>
      have hxs : xs = [.str "begin"] := hxs
      subst hxs
      refine ⟨_, rfl, t, _, 0, .str "begin", rfl, rfl, SqT.of ht, rfl, rfl, _, rfl, ?_⟩
      rw [decide_eq_true rfl]
      exact iteT ⟨_, rfl, _, rfl, v, z, n, es, rfl, tl, sm, k⟩
    | did m a =>
      have hxs : xs = [.str "did", .int m, .int a.1, .str a.2.1, .str a.2.2] := hxs
      subst hxs
      refine ⟨_, rfl, t, _, 0, .str "did", rfl, rfl, SqT.of ht, rfl, rfl, _, rfl, ?_⟩
      rw [decide_eq_false (by decide)]
      refine iteF ?_
      refine ⟨_, rfl, t, _, 0, .str "did", rfl, rfl, SqT.of ht, rfl, rfl, _, rfl, ?_⟩
      rw [decide_eq_true rfl]
      refine iteT ⟨_, rfl, _, rfl, t, _, 1, _, rfl, rfl, SqT.of ht, rfl, _, rfl, 2, rfl, t, _, rfl, SqT.of ht, (by show ¬ (HT.sIx 5 0 (some 2) = 0 ∧ HT.sIx 5 5 none = 5); decide), fun q hq => ?_⟩
      have sq := same_new (o := .tup (cutV [V.str "did", .int m, .int a.1, .str a.2.1, .str a.2.2] (some 2) none)) hq
      exact ⟨v, .ref q, z, m, a, es, rfl, tl.to (Tup.of sq), act_new upd_same, sm, fun R H' s' t' => k R H' (sq.trans s') t'⟩
    | com m =>
      have hxs : xs = [.str "commit", .int m] := hxs
      subst hxs
      refine ⟨_, rfl, t, _, 0, .str "commit", rfl, rfl, SqT.of ht, rfl, rfl, _, rfl, ?_⟩
      rw [decide_eq_false (by decide)]
      refine iteF ?_
      refine ⟨_, rfl, t, _, 0, .str "commit", rfl, rfl, SqT.of ht, rfl, rfl, _, rfl, ?_⟩
      rw [decide_eq_false (by decide)]
      refine iteF ?_
      refine ⟨_, rfl, t, _, 0, .str "commit", rfl, rfl, SqT.of ht, rfl, rfl, _, rfl, ?_⟩
      rw [decide_eq_true rfl]
      exact iteT ⟨_, rfl, _, rfl, t, _, 1, _, rfl, rfl, SqT.of ht, rfl, v, z, m, es, rfl, tl, sm, k⟩
    | abo m =>
      have hxs : xs = [.str "abort", .int m] := hxs
      subst hxs
      refine ⟨_, rfl, t, _, 0, .str "abort", rfl, rfl, SqT.of ht, rfl, rfl, _, rfl, ?_⟩
      rw [decide_eq_false (by decide)]
      refine iteF ?_
      refine ⟨_, rfl, t, _, 0, .str "abort", rfl, rfl, SqT.of ht, rfl, rfl, _, rfl, ?_⟩
      rw [decide_eq_false (by decide)]
      refine iteF ?_
      refine ⟨_, rfl, t, _, 0, .str "abort", rfl, rfl, SqT.of ht, rfl, rfl, _, rfl, ?_⟩
      rw [decide_eq_false (by decide)]
      exact iteF ⟨_, rfl, _, rfl, t, _, 1, _, rfl, rfl, SqT.of ht, rfl, v, z, m, es, rfl, tl, sm, k⟩
/-! ### log_of -/
end
def stepK (k : Int) : Th → Int
  | .beg => k + 1
  | _ => k
def stepS (s : Int × List Ent) (th : Th) : Int × List Ent := (stepK s.1 th, stepP s.1 s.2 th)
def runS (ths : List Th) : Int × List Ent := ths.foldl stepS (0, [])
theorem run_next {ths : List Th} {i : Nat} {th : Th} (h : ths[i]? = some th) : runS (ths.take (i + 1)) = stepS (runS (ths.take i)) th := by
  unfold runS
  rw [List.take_succ, h, Option.toList_some, List.foldl_append]
  rfl
def Bnd (m : Nat) (es : List Ent) : Prop := es.length ≤ m ∧ ∀ e ∈ es, e.row.length ≤ m
theorem bnd_step {m : Nat} {es : List Ent} {k : Int} (th : Th) (h : Bnd m es) : Bnd (m + 1) (stepP k es th) := by
  obtain ⟨h1, h2⟩ := h
  cases th with
  | beg =>
    refine ⟨by show (es ++ [_]).length ≤ _; rw [List.length_append, List.length_singleton]; omega, fun e me => ?_⟩
    rcases List.mem_append.mp me with me | me
    · have := h2 e me
      omega
    · rw [List.mem_singleton.mp me]
      exact Nat.zero_le _
  | did n a =>
    refine ⟨by show (es.map _).length ≤ _; rw [List.length_map]; omega, fun e me => ?_⟩
    obtain ⟨x, mx, rfl⟩ := List.mem_map.mp me
    have := h2 x mx
    unfold longer
    split
    · show (x.row ++ [a]).length ≤ _
      rw [List.length_append, List.length_singleton]
      omega
    · omega
  | com n =>
    refine ⟨by show (es.map _).length ≤ _; rw [List.length_map]; omega, fun e me => ?_⟩
    obtain ⟨x, mx, rfl⟩ := List.mem_map.mp me
    have := h2 x mx
    unfold committed
    split
    · show x.row.length ≤ _
      omega
    · omega
  | abo n =>
    refine ⟨Nat.le_trans (List.length_filter_le _ _) (by omega), fun e me => ?_⟩
    have := h2 e (List.mem_filter.mp me).1
    omega
theorem bnd_run (ths : List Th) : ∀ i, i ≤ ths.length → Bnd i (runS (ths.take i)).2
  | 0, _ => ⟨by simp [runS], fun e me => by simp [runS] at me⟩
  | i + 1, h => by
    have e : ths[i]? = some ths[i] := List.getElem?_eq_getElem h
    rw [run_next e]
    exact bnd_step _ (bnd_run ths i (by omega))
def histD (ths : List Th) : PyData := .tuple (ths.map thD)
def spLogOf : Sp := fun vs H Q _ => ∃ (a b : Addr) (xs : List V) (ths : List Th), vs = [.ref a, .ref b] ∧ H a = some (.tup xs) ∧ xs.length ≤ 1000 ∧ TD H (.ref b) (histD ths) ∧ ths.length ≤ 1000 ∧ ∀ R H', Same H H' → TD H' (.ref R) (logD xs.length (runS ths).2) → Q (.ref R) H'
section
variable {P : Program} {w : World} {K : PySem.W.Frag} {mg : Str → Option Value} {base : Heap}
abbrev nLf : List Str := ["system", "history", "log", "begun", "thing"]
theorem scLf : FnScope nLf ["system", "history"] (defScope sLogOf) := ⟨rfl, rfl, rfl, by decide +kernel, rfl, by decide +kernel, by decide +kernel⟩
theorem ok_logof {f fF fT : Addr} {fd fdF fdT : FuncData} (F : Fun K "log_of" "log_of" sLogOf f fd)
    (GF : FnOk P w K mg base CX0 1 fF fdF ["system"] spFirst) (mF : mg "first_log" = some (.ref fF)) (kF : PySem.W.keepIn K (.ref fF) = true) (bF : Binds K fdF ["system"] [])
    (GT : FnOk P w K mg base CX0 3 fT fdT ["log", "thing", "begun"] spThing) (mT : mg "with_thing" = some (.ref fT)) (kT : PySem.W.keepIn K (.ref fT) = true) (bT : Binds K fdT ["log", "thing", "begun"] []) :
    FnOk P w K mg base CX0 4 f fd ["system", "history"] spLogOf := by
  refine F.ok scLf (fun vs H Q E h => ?_) (fun cdv A outer s H vs Q E hr h => ?_)
  · obtain ⟨a, b, xs, ths, rfl, _⟩ := h
    rfl
  · obtain ⟨a, b, xs, ths, rfl, ha, few, tb, l1000, k⟩ := h
    have hr1 := hr.mono (show 1 ≤ 3 by omega)
    obtain ⟨tv, hb, tt⟩ := tb.tup_of
    have len : tv.length = ths.length := by have q := tt.len; rwa [List.length_map] at q
    refine ⟨_, pss_cons (ps_set (i := 2) scLf.nd rfl (Or.inl rfl) (pe_call GF hr1 (by rfl) mF kF bF .nil pass0 (pa_cons (pv 0) pa_nil)))
      (pss_cons (ps_set (i := 3) scLf.nd rfl (Or.inl rfl) pe_int)
      (pss_cons (ps_for PassesOwn.never rfl (pi_tup (pv 1)) (pg_name (i := 4) scLf.nd rfl (Or.inl rfl))
        (pss_cons (ps_set (i := 2) scLf.nd rfl (Or.inl rfl) (pe_call GT hr (by rfl) mT kT bT .nil pass0 (pa_cons (pv 2) (pa_cons (pv 4) (pa_cons (pv 3) pa_nil)))))
        (pss_one (ps_if (pt_cmpR op_eq (pe_ix ix_tup (pv 4) pe_int (fun _ _ => rfl)) pe_str (nomark _)) (pss_one (ps_aug (i := 3) scLf.nd rfl (Or.inl rfl) pe_int ip_add)) pss_nil))))
      (pss_one (ps_ret (pv 2))))), ?_⟩
    refine ⟨_, rfl, a, xs, rfl, ha, few, fun R1 H1 s1 t1 => ?_⟩
    have hb1 := s1 _ _ hb
    refine ⟨_, rfl, b, rfl, ⟨_, SqT.of hb1⟩, for_tup (K := K) (a := b) (xs := tv) (fun i σ H2 => ∃ (R : Addr) (o4 : Option V), σ = [some (.ref a), some (.ref b), some (.ref R), some (.int (runS (ths.take i)).1), o4] ∧ Same H H2 ∧ TD H2 (.ref R) (logD xs.length (runS (ths.take i)).2)) ⟨R1, none, rfl, s1, t1⟩ (fun i σ H2 _ ⟨_, _, _, s2, _⟩ => SqT.of (s2 _ _ hb)) (fun i x σ H2 ex ⟨R, o4, eσ, s2, t2⟩ => ?_) fun σ H2 ⟨R, o4, eσ, s2, t2⟩ => ?_⟩
    · subst eσ
      obtain ⟨d, ed, td⟩ := tt.get ex
      rw [List.getElem?_map] at ed
      obtain ⟨th, eth, rfl⟩ := Option.map_eq_some_iff.mp ed
      have lt : i < ths.length := (List.getElem?_eq_some_iff.mp eth).1
      have bb := bnd_run ths i (by omega)
      have td2 := td.to (Tup.of s2)
      refine ⟨_, rfl, _, rfl, _, rfl, .ref R, x, xs.length, (runS (ths.take i)).1, (runS (ths.take i)).2, th, rfl, t2, td2, ⟨by have := bb.1; omega, fun e me => by have := bb.2 e me; omega⟩, fun R2 H3 s3 t3 => ?_⟩
      obtain ⟨t, ys, rfl, ht, hy0, _⟩ := th_tag (td2.to (Tup.of s3))
      have t4 : TD H3 (.ref R2) (logD xs.length (runS (ths.take (i + 1))).2) := by
        rw [run_next eth]
        exact t3
      have k4 : (runS (ths.take (i + 1))).1 = stepK (runS (ths.take i)).1 th := by
        rw [run_next eth]
        rfl
      refine ⟨_, rfl, t, _, 0, _, rfl, rfl, SqT.of ht, atI_nat hy0, rfl, _, rfl, ?_⟩
      cases th with
      | beg =>
        rw [decide_eq_true rfl]
        refine iteT ⟨_, rfl, _, _, rfl, rfl, R2, some (.ref t), ?_, s2.trans s3, t4⟩
        rw [k4]
        rfl
      | did n ac =>
        rw [decide_eq_false (show ¬ (V.str "did" = V.str "begin") by decide)]
        exact iteF ⟨R2, some (.ref t), by rw [k4]; rfl, s2.trans s3, t4⟩
      | com n =>
        rw [decide_eq_false (show ¬ (V.str "commit" = V.str "begin") by decide)]
        exact iteF ⟨R2, some (.ref t), by rw [k4]; rfl, s2.trans s3, t4⟩
      | abo n =>
        rw [decide_eq_false (show ¬ (V.str "abort" = V.str "begin") by decide)]
        exact iteF ⟨R2, some (.ref t), by rw [k4]; rfl, s2.trans s3, t4⟩
    · subst eσ
      rw [len, List.take_length] at t2
      exact ⟨_, rfl, k R H2 s2 t2⟩
end
end My

-- ===== K14Q =====
set_option Elab.async false
set_option linter.all false
set_option maxRecDepth 100000
set_option maxHeartbeats 4000000
namespace My
open PySem L2 PyProof.Rows PySem.Spec Kd
/-! ### the law's own log -/
structure Row where
  bef : List Int
  row : List Act
  fin : Str
def modAt (f : Row → Row) : Nat → List Row → List Row
  | _, [] => []
  | 0, x :: S => f x :: S
  | n + 1, x :: S => x :: modAt f n S
def comIdx (k : Int) : List Row → List Int
  | [] => []
  | x :: S => (if x.fin = "commit" then [k] else []) ++ comIdx (k + 1) S
def entFrom (k : Int) : List Row → List Ent
  | [] => []
  | x :: S => (if x.fin = "abort" then [] else [(⟨k, decide (x.fin = "commit"), x.bef, x.row⟩ : Ent)]) ++ entFrom (k + 1) S
def withRow (a : Act) (x : Row) : Row := { x with row := x.row ++ [a] }
def withFin (z : Str) (x : Row) : Row := { x with fin := z }
def lawStep (S : List Row) : Th → List Row
  | .beg => S ++ [⟨comIdx 0 S, [], ""⟩]
  | .did n a => modAt (withRow a) n.toNat S
  | .com n => modAt (withFin "commit") n.toNat S
  | .abo n => modAt (withFin "abort") n.toNat S
/-- what may come next -/
def Fits (S : List Row) : Th → Prop
  | .beg => True
  | .did n a => 0 ≤ n ∧ n < S.length ∧ Wrd a.2.1 ∧ Wrd a.2.2
  | .com n => 0 ≤ n ∧ n < S.length ∧ ∀ x, S[n.toNat]? = some x → x.fin = ""
  | .abo n => 0 ≤ n ∧ n < S.length ∧ ∀ x, S[n.toNat]? = some x → x.fin = ""
def lawRun (ths : List Th) : List Row := ths.foldl lawStep []
theorem law_next {ths : List Th} {i : Nat} {th : Th} (h : ths[i]? = some th) : lawRun (ths.take (i + 1)) = lawStep (lawRun (ths.take i)) th := by
  unfold lawRun
  rw [List.take_succ, h, Option.toList_some, List.foldl_append]
  rfl
def AllFit (ths : List Th) : Prop := ∀ i th, ths[i]? = some th → Fits (lawRun (ths.take i)) th
theorem mod_len (f : Row → Row) : ∀ (n : Nat) (S : List Row), (modAt f n S).length = S.length
  | _, [] => by cases ‹Nat› <;> rfl
  | 0, x :: S => rfl
  | n + 1, x :: S => by
    show (modAt f n S).length + 1 = _
    rw [mod_len f n S]
    rfl
theorem mod_get (f : Row → Row) : ∀ (n : Nat) (S : List Row) (i : Nat), (modAt f n S)[i]? = if i = n then S[i]?.map f else S[i]?
  | n, [], i => by
    have e : modAt f n [] = [] := by cases n <;> rfl
    rw [e]
    simp
  | 0, x :: S, 0 => by simp [modAt]
  | 0, x :: S, i + 1 => by simp [modAt]
  | n + 1, x :: S, 0 => by simp [modAt]
  | n + 1, x :: S, i + 1 => by
    have e : modAt f (n + 1) (x :: S) = x :: modAt f n S := rfl
    rw [e, List.getElem?_cons_succ, List.getElem?_cons_succ, mod_get f n S i]
    by_cases q : i = n
    · rw [if_pos q, if_pos (by omega)]
    · rw [if_neg q, if_neg (by omega)]
theorem ent_app : ∀ (S T : List Row) (k : Int), entFrom k (S ++ T) = entFrom k S ++ entFrom (k + S.length) T
  | [], T, k => by simp [entFrom]
  | x :: S, T, k => by
    have ih := ent_app S T (k + 1)
    rw [List.cons_append, entFrom, entFrom, ih, List.append_assoc]
    congr 3
    rw [List.length_cons]
    omega
theorem ent_low : ∀ (S : List Row) (k : Int), ∀ e ∈ entFrom k S, k ≤ e.num
  | [], _, e, m => nomatch m
  | x :: S, k, e, m => by
    rw [entFrom] at m
    rcases List.mem_append.mp m with m | m
    · by_cases q : x.fin = "abort"
      · rw [if_pos q] at m
        cases m
      · rw [if_neg q] at m
        rw [List.mem_singleton.mp m]
        exact Int.le_refl _
    · have := ent_low S (k + 1) e m
      omega
theorem coms_ent : ∀ (S : List Row) (k : Int), comsOf (entFrom k S) = comIdx k S
  | [], _ => rfl
  | x :: S, k => by
    have ih := coms_ent S (k + 1)
    rw [entFrom, comIdx, ← ih]
    unfold comsOf
    rw [List.filter_append, List.map_append]
    congr 1
    by_cases q : x.fin = "abort"
    · rw [if_pos q, if_neg (by rw [q]; decide)]
      rfl
    · rw [if_neg q]
      by_cases c : x.fin = "commit"
      · rw [if_pos c, c]
        rfl
      · rw [if_neg c, decide_eq_false c]
        rfl
theorem map_high {f : Ent → Ent} {n : Int} (hf : ∀ e : Ent, e.num ≠ n → f e = e) : ∀ (S : List Row) (k : Int), n < k → (entFrom k S).map f = entFrom k S := fun S k lt => by
  have h : ∀ e ∈ entFrom k S, f e = e := fun e m => hf e (by have := ent_low S k e m; omega)
  exact (List.map_congr_left h).trans (List.map_id _)
theorem longer_ent (a : Act) : ∀ (S : List Row) (k n : Int), k ≤ n → (entFrom k S).map (longer n a) = entFrom k (modAt (withRow a) (n - k).toNat S)
  | [], k, n, h => by cases (n - k).toNat <;> rfl
  | x :: S, k, n, h => by
    by_cases e : k = n
    · subst e
      rw [show (k - k).toNat = 0 by omega]
      show (entFrom k (x :: S)).map _ = entFrom k (withRow a x :: S)
      rw [entFrom, entFrom, List.map_append, map_high (fun e ne => by unfold longer; rw [if_neg ne]) S (k + 1) (by omega)]
      congr 1
      have q : (withRow a x).fin = x.fin := rfl
      rw [q]
      split
      · rfl
      · show [longer k a _] = _
        unfold longer
        rw [if_pos rfl]
        rfl
    · have e2 : (n - k).toNat = (n - (k + 1)).toNat + 1 := by omega
      rw [e2]
      show (entFrom k (x :: S)).map _ = entFrom k (x :: modAt (withRow a) (n - (k + 1)).toNat S)
      rw [entFrom, entFrom, List.map_append, longer_ent a S (k + 1) n (by omega)]
      congr 1
      split
      · rfl
      · show [longer n a _] = _
        unfold longer
        rw [if_neg e]
theorem committed_ent : ∀ (S : List Row) (k n : Int), k ≤ n → (∀ x, S[(n - k).toNat]? = some x → x.fin = "") → (entFrom k S).map (committed n) = entFrom k (modAt (withFin "commit") (n - k).toNat S)
  | [], k, n, h, _ => by cases (n - k).toNat <;> rfl
  | x :: S, k, n, h, ho => by
    by_cases e : k = n
    · subst e
      rw [show (k - k).toNat = 0 by omega] at ho ⊢
      have hx := ho x rfl
      show (entFrom k (x :: S)).map _ = entFrom k (withFin "commit" x :: S)
      rw [entFrom, entFrom, List.map_append, map_high (fun e ne => by unfold committed; rw [if_neg ne]) S (k + 1) (by omega)]
      congr 1
      have q : (withFin "commit" x).fin = "commit" := rfl
      rw [q, hx, if_neg (by decide), if_neg (by decide)]
      show [committed k _] = _
      unfold committed
      rw [if_pos rfl]
      rfl
    · have e2 : (n - k).toNat = (n - (k + 1)).toNat + 1 := by omega
      rw [e2] at ho ⊢
      show (entFrom k (x :: S)).map _ = entFrom k (x :: modAt (withFin "commit") (n - (k + 1)).toNat S)
      rw [entFrom, entFrom, List.map_append, committed_ent S (k + 1) n (by omega) (fun y hy => ho y hy)]
      congr 1
      split
      · rfl
      · show [committed n _] = _
        unfold committed
        rw [if_neg e]
theorem filt_high {n : Int} : ∀ (S : List Row) (k : Int), n < k → (entFrom k S).filter (fun e => decide (e.num ≠ n)) = entFrom k S := fun S k lt =>
  List.filter_eq_self.mpr fun e m => decide_eq_true (by have := ent_low S k e m; omega)
theorem abort_ent : ∀ (S : List Row) (k n : Int), k ≤ n → (entFrom k S).filter (fun e => decide (e.num ≠ n)) = entFrom k (modAt (withFin "abort") (n - k).toNat S)
  | [], k, n, h => by cases (n - k).toNat <;> rfl
  | x :: S, k, n, h => by
    by_cases e : k = n
    · subst e
      rw [show (k - k).toNat = 0 by omega]
      show (entFrom k (x :: S)).filter _ = entFrom k (withFin "abort" x :: S)
      rw [entFrom, entFrom, List.filter_append, filt_high S (k + 1) (by omega)]
      congr 1
      have q : (withFin "abort" x).fin = "abort" := rfl
      rw [q, if_pos rfl]
      split
      · rfl
      · simp
    · have e2 : (n - k).toNat = (n - (k + 1)).toNat + 1 := by omega
      rw [e2]
      show (entFrom k (x :: S)).filter _ = entFrom k (x :: modAt (withFin "abort") (n - (k + 1)).toNat S)
      rw [entFrom, entFrom, List.filter_append, abort_ent S (k + 1) n (by omega)]
      congr 1
      split
      · rfl
      · simp [e]
/-- both logs are one -/
theorem run_law (ths : List Th) (h : AllFit ths) : ∀ i, i ≤ ths.length → runS (ths.take i) = (((lawRun (ths.take i)).length : Int), entFrom 0 (lawRun (ths.take i)))
  | 0, _ => by simp [runS, lawRun, entFrom]
  | i + 1, hi => by
    have e : ths[i]? = some ths[i] := List.getElem?_eq_getElem hi
    have ih := run_law ths h i (by omega)
    have ft := h i _ e
    rw [run_next e, law_next e, ih]
    generalize lawRun (ths.take i) = S at ft
    generalize ths[i] = th at ft
    unfold stepS
    cases th with
    | beg =>
      refine Prod.ext ?_ ?_
      · show (S.length : Int) + 1 = ((S ++ [_]).length : Int)
        rw [List.length_append, List.length_singleton]
        omega
      · show entFrom 0 S ++ [_] = entFrom 0 (S ++ [_])
        rw [ent_app, coms_ent]
        congr 1
        rw [entFrom, entFrom, if_neg (show ¬ (("" : Str) = "abort") by decide), List.append_nil, Int.zero_add]
        rfl
    | did n a =>
      obtain ⟨h0, h1, _⟩ := ft
      refine Prod.ext ?_ ?_
      · show (S.length : Int) = ((modAt _ _ S).length : Int)
        rw [mod_len]
      · have z := longer_ent a S 0 n h0
        rw [Int.sub_zero] at z
        exact z
    | com n =>
      obtain ⟨h0, h1, h2⟩ := ft
      refine Prod.ext ?_ ?_
      · show (S.length : Int) = ((modAt _ _ S).length : Int)
        rw [mod_len]
      · have z := committed_ent S 0 n h0 (by rw [Int.sub_zero]; exact h2)
        rw [Int.sub_zero] at z
        exact z
    | abo n =>
      obtain ⟨h0, h1, _⟩ := ft
      refine Prod.ext ?_ ?_
      · show (S.length : Int) = ((modAt _ _ S).length : Int)
        rw [mod_len]
      · have z := abort_ent S 0 n h0
        rw [Int.sub_zero] at z
        exact z
/-- how long all is -/
def LBnd (m : Nat) (S : List Row) : Prop := S.length ≤ m ∧ ∀ x ∈ S, x.row.length ≤ m
theorem mod_mem {f : Row → Row} : ∀ {n : Nat} {S : List Row} {y : Row}, y ∈ modAt f n S → ∃ x ∈ S, y = x ∨ y = f x
  | n, [], y, m => by
    have e : modAt f n [] = [] := by cases n <;> rfl
    rw [e] at m
    cases m
  | 0, x :: S, y, m => by
    rcases List.mem_cons.mp (show y ∈ f x :: S from m) with rfl | m
    · exact ⟨x, List.mem_cons_self, .inr rfl⟩
    · exact ⟨y, List.mem_cons_of_mem _ m, .inl rfl⟩
  | n + 1, x :: S, y, m => by
    rcases List.mem_cons.mp (show y ∈ x :: modAt f n S from m) with rfl | m
    · exact ⟨y, List.mem_cons_self, .inl rfl⟩
    · obtain ⟨z, mz, e⟩ := mod_mem m
      exact ⟨z, List.mem_cons_of_mem _ mz, e⟩
theorem lbnd_step {m : Nat} {S : List Row} (th : Th) (h : LBnd m S) : LBnd (m + 1) (lawStep S th) := by
  obtain ⟨h1, h2⟩ := h
  cases th with
  | beg =>
    refine ⟨by show (S ++ [_]).length ≤ _; rw [List.length_append, List.length_singleton]; omega, fun e me => ?_⟩
    rcases List.mem_append.mp me with me | me
    · have := h2 e me
      omega
    · rw [List.mem_singleton.mp me]
      exact Nat.zero_le _
  | did n a =>
    refine ⟨by show (modAt _ _ S).length ≤ _; rw [mod_len]; omega, fun e me => ?_⟩
    obtain ⟨x, mx, q⟩ := mod_mem me
    have := h2 x mx
    rcases q with rfl | rfl
    · omega
    · show (x.row ++ [a]).length ≤ _
      rw [List.length_append, List.length_singleton]
      omega
  | com n =>
    refine ⟨by show (modAt _ _ S).length ≤ _; rw [mod_len]; omega, fun e me => ?_⟩
    obtain ⟨x, mx, q⟩ := mod_mem me
    have := h2 x mx
    rcases q with rfl | rfl
    · omega
    · show x.row.length ≤ _
      omega
  | abo n =>
    refine ⟨by show (modAt _ _ S).length ≤ _; rw [mod_len]; omega, fun e me => ?_⟩
    obtain ⟨x, mx, q⟩ := mod_mem me
    have := h2 x mx
    rcases q with rfl | rfl
    · omega
    · show x.row.length ≤ _
      omega
theorem lbnd_run (ths : List Th) : ∀ i, i ≤ ths.length → LBnd i (lawRun (ths.take i))
  | 0, _ => ⟨by simp [lawRun], fun e me => by simp [lawRun] at me⟩
  | i + 1, h => by
    have e : ths[i]? = some ths[i] := List.getElem?_eq_getElem h
    rw [law_next e]
    exact lbnd_step _ (lbnd_run ths i (by omega))
end My

-- ===== K14R =====
set_option Elab.async false
set_option linter.all false
set_option maxRecDepth 100000
set_option maxHeartbeats 4000000
namespace My
open PySem L2 PyProof.Rows PySem.Spec Kd
theorem lay_th {S : List Row} {th : Th} (h : Fits S th) : SeqAt.shaped (thD th) = true := by
  have go : (thD th).canLay0 = true ∧ (thD th).depth ≤ 64 := by
    cases th with
    | beg =>
      have h3 : PyData.strOk "begin" = true := by decide +kernel
      exact ⟨by simp [thD, PyData.canLay0, PyData.canLayAll0, h3], by simp [thD, PyData.depth, PyData.depthAll]⟩
    | did n a =>
      obtain ⟨_, _, w1, w2⟩ := h
      have h1 := wrd_ok w1
      have h2 := wrd_ok w2
      have h3 : PyData.strOk "did" = true := by decide +kernel
      refine ⟨by simp [thD, PyData.canLay0, PyData.canLayAll0, h1, h2, h3], by simp [thD, PyData.depth, PyData.depthAll]⟩
    | com n =>
      have h3 : PyData.strOk "commit" = true := by decide +kernel
      exact ⟨by simp [thD, PyData.canLay0, PyData.canLayAll0, h3], by simp [thD, PyData.depth, PyData.depthAll]⟩
    | abo n =>
      have h3 : PyData.strOk "abort" = true := by decide +kernel
      exact ⟨by simp [thD, PyData.canLay0, PyData.canLayAll0, h3], by simp [thD, PyData.depth, PyData.depthAll]⟩
  unfold SeqAt.shaped
  rw [Bool.and_eq_true]
  exact ⟨go.1, decide_eq_true go.2⟩
theorem eqv_beg (th : Th) : PyData.eqv (thD th) (.tuple [.str "begin"]) = (match th with | .beg => true | _ => false) := by
  cases th with
  | beg => simp [thD, PyData.eqv, PyData.eqvAll]
  | did n a => simp [thD, PyData.eqv, PyData.eqvAll]
  | com n => simp [thD, PyData.eqv, PyData.eqvAll]
  | abo n => simp [thD, PyData.eqv, PyData.eqvAll]
/-- the lists of rows, H0 being the heap at the entry -/
structure Rws (H0 H : Hp) (rv : List V) (S : List Row) : Prop where
  len : rv.length = S.length
  at_ : ∀ (i : Nat) (r : V) (x : Row), rv[i]? = some r → S[i]? = some x → ∃ gl gv, r = .ref gl ∧ H0 gl = none ∧ H gl = some (.lst gv) ∧ TDs H gv (x.row.map actD)
  ap : ∀ (i j : Nat) (r : V), rv[i]? = some r → rv[j]? = some r → i = j
theorem Rws.same {H0 H H' : Hp} {rv : List V} {S : List Row} (h : Rws H0 H rv S) (s : Same H H') : Rws H0 H' rv S :=
  ⟨h.len, fun i r x e1 e2 => let ⟨gl, gv, a, b, c, d⟩ := h.at_ i r x e1 e2; ⟨gl, gv, a, b, s _ _ c, d.to (Tup.of s)⟩, h.ap⟩
theorem Rws.wr {H0 H : Hp} {rv : List V} {S : List Row} {D : Addr} {xs : List V} {o : HO} (h : Rws H0 H rv S) (hD : H D = some (.lst xs)) (ne : ∀ r ∈ rv, r ≠ .ref D) : Rws H0 (upd H D o) rv S := by
  have tp : Tup H (upd H D o) := Tup.at_ hD fun xs z => nomatch z
  refine ⟨h.len, fun i r x e1 e2 => ?_, h.ap⟩
  obtain ⟨gl, gv, a, b, c, d⟩ := h.at_ i r x e1 e2
  exact ⟨gl, gv, a, b, by rw [upd_ne (fun z => ne r (List.mem_of_getElem? e1) (by rw [a, z]))]; exact c, d.to tp⟩
/-- the rows' own parts alone count -/
theorem Rws.like {H0 H : Hp} {rv : List V} {S T : List Row} (h : Rws H0 H rv S) (e : S.map (·.row) = T.map (·.row)) : Rws H0 H rv T := by
  have l := congrArg List.length e
  rw [List.length_map, List.length_map] at l
  refine ⟨h.len.trans l, fun i r x e1 e2 => ?_, h.ap⟩
  have li : i < S.length := by rw [l]; exact (List.getElem?_eq_some_iff.mp e2).1
  obtain ⟨gl, gv, a, b, c, d⟩ := h.at_ i r S[i] e1 (List.getElem?_eq_getElem li)
  have q := congrArg (fun l => l[i]?) e
  simp only [List.getElem?_map, List.getElem?_eq_getElem li, e2, Option.map_some] at q
  exact ⟨gl, gv, a, b, c, by rw [← Option.some.inj q]; exact d⟩
theorem mod_rows (z : Str) : ∀ (n : Nat) (S : List Row), (modAt (withFin z) n S).map (·.row) = S.map (·.row)
  | n, [] => by cases n <;> rfl
  | 0, x :: S => rfl
  | n + 1, x :: S => by
    show _ :: (modAt (withFin z) n S).map _ = _
    rw [mod_rows z n S]
    rfl
theorem mod_bef (f : Row → Row) (hf : ∀ x, (f x).bef = x.bef) : ∀ (n : Nat) (S : List Row), (modAt f n S).map (·.bef) = S.map (·.bef)
  | n, [] => by cases n <;> rfl
  | 0, x :: S => by
    show (f x).bef :: _ = _
    rw [hf]
    rfl
  | n + 1, x :: S => by
    show _ :: (modAt f n S).map _ = _
    rw [mod_bef f hf n S]
    rfl
theorem mod_fin (a : Act) : ∀ (n : Nat) (S : List Row), (modAt (withRow a) n S).map (·.fin) = S.map (·.fin)
  | n, [] => by cases n <;> rfl
  | 0, x :: S => rfl
  | n + 1, x :: S => by
    show _ :: (modAt (withRow a) n S).map _ = _
    rw [mod_fin a n S]
    rfl
theorem set_fin (z : Str) : ∀ (n : Nat) (S : List Row), (S.map fun x => V.str x.fin).set n (.str z) = (modAt (withFin z) n S).map fun x => V.str x.fin
  | n, [] => by cases n <;> rfl
  | 0, x :: S => rfl
  | n + 1, x :: S => by
    show _ :: (S.map _).set n _ = _ :: (modAt (withFin z) n S).map _
    rw [set_fin z n S]
theorem Rws.push {H0 H : Hp} {rv : List V} {S : List Row} {gl : Addr} {bf : List Int} (h : Rws H0 H rv S) (hg : H gl = some (.lst [])) (fr : H0 gl = none) (ne : ∀ r ∈ rv, r ≠ .ref gl) : Rws H0 H (rv ++ [.ref gl]) (S ++ [⟨bf, [], ""⟩]) := by
  have len := h.len
  refine ⟨by rw [List.length_append, List.length_append, len]; rfl, fun i r x e1 e2 => ?_, fun i j r ei ej => ?_⟩
  · rcases Nat.lt_or_ge i rv.length with lt | ge
    · rw [List.getElem?_append_left lt] at e1
      rw [List.getElem?_append_left (by omega)] at e2
      exact h.at_ i r x e1 e2
    · rw [List.getElem?_append_right ge] at e1
      rw [List.getElem?_append_right (by omega)] at e2
      have z := (List.getElem?_eq_some_iff.mp e1).1
      simp at z
      rw [show i - rv.length = 0 by omega] at e1
      rw [show i - S.length = 0 by omega] at e2
      cases Option.some.inj e1
      cases Option.some.inj e2
      exact ⟨gl, [], rfl, fr, hg, .nil⟩
  · have last : ∀ {i : Nat}, (rv ++ [V.ref gl])[i]? = some r → (rv[i]? = some r) ∨ (i = rv.length ∧ r = .ref gl) := fun {i} ei => by
      rcases Nat.lt_or_ge i rv.length with lt | ge
      · rw [List.getElem?_append_left lt] at ei
        exact .inl ei
      · rw [List.getElem?_append_right ge] at ei
        have z := (List.getElem?_eq_some_iff.mp ei).1
        simp at z
        rw [show i - rv.length = 0 by omega] at ei
        exact .inr ⟨by omega, (Option.some.inj ei).symm⟩
    rcases last ei with ei | ⟨ei, ri⟩
    · rcases last ej with ej | ⟨ej, rj⟩
      · exact h.ap i j r ei ej
      · exact absurd rj (ne r (List.mem_of_getElem? ei))
    · rcases last ej with ej | ⟨ej, rj⟩
      · exact absurd ri (ne r (List.mem_of_getElem? ej))
      · omega
theorem Rws.add {H0 H : Hp} {rv : List V} {S : List Row} {n : Nat} {gl : Addr} {gv : List V} {a : Act} {t : Addr} {x : Row} (h : Rws H0 H rv S) (hn : rv[n]? = some (.ref gl)) (hx : S[n]? = some x) (hg : H gl = some (.lst gv)) (tg : TDs H gv (x.row.map actD)) (fr : H0 gl = none) (ht : TD H (.ref t) (actD a)) :
    Rws H0 (upd H gl (.lst (gv ++ [.ref t]))) rv (modAt (withRow a) n S) := by
  have tp : Tup H (upd H gl (.lst (gv ++ [.ref t]))) := Tup.at_ hg fun xs z => nomatch z
  refine ⟨by rw [mod_len]; exact h.len, fun i r y e1 e2 => ?_, h.ap⟩
  rw [mod_get] at e2
  by_cases q : i = n
  · subst q
    rw [if_pos rfl, hx] at e2
    rw [hn] at e1
    cases Option.some.inj e1
    cases Option.some.inj e2
    refine ⟨gl, gv ++ [.ref t], rfl, fr, upd_same, ?_⟩
    show TDs _ _ ((x.row ++ [a]).map actD)
    rw [List.map_append]
    exact TDs.snoc (ht.to tp) (tg.to tp)
  · rw [if_neg q] at e2
    obtain ⟨gl2, gv2, a2, b2, c2, d2⟩ := h.at_ i r y e1 e2
    refine ⟨gl2, gv2, a2, b2, ?_, d2.to tp⟩
    rw [upd_ne (fun z => q (h.ap i n r e1 (by rw [hn, a2, z])))]
    exact c2
theorem Rws.free {H0 H : Hp} {rv : List V} {S : List Row} {gl : Addr} (h : Rws H0 H rv S) (n : H gl = none) : ∀ r ∈ rv, r ≠ .ref gl := fun r m e => by
  obtain ⟨i, ei⟩ := List.mem_iff_getElem?.mp m
  have li : i < rv.length := (List.getElem?_eq_some_iff.mp ei).1
  obtain ⟨gl2, gv2, a2, _, c2, _⟩ := h.at_ i r (S[i]'(by rw [← h.len]; exact li)) ei (List.getElem?_eq_getElem _)
  rw [a2] at e
  cases e
  rw [n] at c2
  cases c2
/-- what is none of the rows: it stood when the rows' first heap stood -/
theorem Rws.out {H0 H : Hp} {rv : List V} {S : List Row} {D : Addr} {o : HO} (h : Rws H0 H rv S) (hD : H0 D = some o) : ∀ r ∈ rv, r ≠ .ref D := fun r m e => by
  obtain ⟨i, ei⟩ := List.mem_iff_getElem?.mp m
  have li : i < rv.length := (List.getElem?_eq_some_iff.mp ei).1
  obtain ⟨gl2, gv2, a2, b2, _, _⟩ := h.at_ i r (S[i]'(by rw [← h.len]; exact li)) ei (List.getElem?_eq_getElem _)
  rw [a2] at e
  cases e
  rw [hD] at b2
  cases b2
theorem com_snoc : ∀ (S : List Row) (k : Int) (x : Row), comIdx k (S ++ [x]) = comIdx k S ++ (if x.fin = "commit" then [k + S.length] else [])
  | [], k, x => by simp [comIdx]
  | y :: S, k, x => by
    have ih := com_snoc S (k + 1) x
    rw [List.cons_append, comIdx, comIdx, ih, List.append_assoc]
    congr 3
    rw [List.length_cons]
    congr 1
    omega
theorem com_len : ∀ (S : List Row) (k : Int), (comIdx k S).length ≤ S.length
  | [], _ => Nat.le_refl _
  | x :: S, k => by
    have := com_len S (k + 1)
    rw [comIdx, List.length_append, List.length_cons]
    split
    · rw [List.length_singleton]
      omega
    · rw [List.length_nil]
      omega
theorem ent_snoc (S : List Row) (x : Row) : entFrom 0 (S ++ [x]) = entFrom 0 S ++ (if x.fin = "abort" then [] else [(⟨S.length, decide (x.fin = "commit"), x.bef, x.row⟩ : Ent)]) := by
  rw [ent_app, entFrom, entFrom, List.append_nil, Int.zero_add]
theorem at_int {α : Type} {xs : List α} {n : Int} {v : α} (h : 0 ≤ n) (e : xs[n.toNat]? = some v) : atI xs n = some v := by
  have z := atI_nat e
  rwa [Int.toNat_of_nonneg h] at z
theorem ix_int {m : Nat} {n : Int} (h : 0 ≤ n) (l : n < m) : ixN m n = some n.toNat := by
  unfold ixN
  rw [if_pos h, if_pos l]
theorem dec_str (a b : Str) : decide (V.str a = V.str b) = decide (a = b) := by
  by_cases e : a = b
  · rw [e, decide_eq_true rfl, decide_eq_true rfl]
  · rw [decide_eq_false e, decide_eq_false fun z => e (V.str.inj z)]
/-- all that was tracked is as it was, but for one thing -/
def But1 (d : Addr) (H H' : Hp) : Prop := ∀ b u, H b = some u → b ≠ d → H' b = some u
theorem But1.refl (d : Addr) (H : Hp) : But1 d H H := fun _ _ h _ => h
theorem But1.trans {d : Addr} {H H1 H2 : Hp} (a : But1 d H H1) (b : But1 d H1 H2) : But1 d H H2 := fun x o h n => b x o (a x o h n) n
theorem But1.of {d : Addr} {H H1 : Hp} (a : Same H H1) : But1 d H H1 := fun x o h _ => a x o h
theorem But1.wr {d x : Addr} {o : HO} {H H1 : Hp} (a : But1 d H H1) (n : H x = none) : But1 d H (upd H1 x o) := fun y u h z => by
  rw [upd_ne (ne_of_none h n)]
  exact a y u h z
theorem But1.at_ {d : Addr} {o : HO} {H H1 : Hp} (a : But1 d H H1) : But1 d H (upd H1 d o) := fun y u h z => by
  rw [upd_ne z]
  exact a y u h z
theorem But1.free {d x : Addr} {H H1 : Hp} (a : But1 d H H1) (n : H1 x = none) (z : x ≠ d) : H x = none := by
  cases e : H x with
  | none => rfl
  | some o => rw [a x o e z] at n; cases n
theorem But1.same {d : Addr} {H0 H H1 : Hp} (s : Same H0 H) (a : But1 d H H1) (n : H0 d = none) : Same H0 H1 := fun b o e => a b o (s b o e) (ne_of_none e n)
/-- all that was tracked is as it was, but for three things -/
def But3 (p q r : Addr) (H H' : Hp) : Prop := ∀ b u, H b = some u → b ≠ p → b ≠ q → b ≠ r → H' b = some u
theorem But3.trans {p q r : Addr} {H H1 H2 : Hp} (a : But3 p q r H H1) (b : But3 p q r H1 H2) : But3 p q r H H2 := fun x o h n1 n2 n3 => b x o (a x o h n1 n2 n3) n1 n2 n3
theorem But3.of {p q r : Addr} {H H1 : Hp} (a : Same H H1) : But3 p q r H H1 := fun x o h _ _ _ => a x o h
theorem But3.free {p q r x : Addr} {H H1 : Hp} (a : But3 p q r H H1) (n : H1 x = none) (z1 : x ≠ p) (z2 : x ≠ q) (z3 : x ≠ r) : H x = none := by
  cases e : H x with
  | none => rfl
  | some o => rw [a x o e z1 z2 z3] at n; cases n
def spDue : Sp := fun vs H Q _ => ∃ (a b : Addr) (xs : List V) (ths : List Th), vs = [.ref a, .ref b] ∧ H a = some (.lst xs) ∧ xs.length ≤ 1000 ∧ TD H (.ref b) (histD ths) ∧ AllFit ths ∧ ths.length ≤ 1000 ∧ ∀ R H', Same H H' → TD H' (.ref R) (logD xs.length (entFrom 0 (lawRun ths))) → Q (.ref R) H'
section
variable {P : Program} {w : World} {K : PySem.W.Frag} {mg : Str → Option Value} {base : Heap}
abbrev nDu : List Str := ["_law_objects", "_law_acts", "_law_behind", "_law_rows", "_law_ends", "_law_thing", "_law_number", "_law_entries", "_law_end", "_law_states_here"]
theorem scDu : FnScope nDu ["_law_objects", "_law_acts"] (defScope sDue) := ⟨rfl, rfl, rfl, by decide +kernel, rfl, by decide +kernel, by decide +kernel⟩
theorem ok_due {f : Addr} {fd : FuncData} (F : Fun K "_law_due" "_law_due" sDue f fd) (mtup : mg "tuple" = none) (mrange : mg "range" = none) (mlen : mg "len" = none) (menum : mg "enumerate" = none) : FnOk P w K mg base CX0 1 f fd ["_law_objects", "_law_acts"] spDue := by
  refine F.ok scDu (fun vs H Q E h => ?_) (fun cdv A outer s H vs Q E hr h => ?_)
  · obtain ⟨a, b, xs, ths, rfl, _⟩ := h
    rfl
  · obtain ⟨a, b, xs, ths, rfl, ha, few, tb, fits, l1000, k⟩ := h
    have hu := hr.units
    refine ⟨_, pss_cons (ps_asg (pe_tup (pa_cons (pe_lst pa_nil) (pa_cons (pe_lst pa_nil) (pa_cons (pe_lst pa_nil) pa_nil)))) (pg_tup (by rfl) (pgs_cons (pg_name (i := 2) scDu.nd rfl (Or.inl rfl)) (pgs_cons (pg_name (i := 3) scDu.nd rfl (Or.inl rfl)) (pgs_cons (pg_name (i := 4) scDu.nd rfl (Or.inr rfl)) pgs_nil)))))
      (pss_cons (ps_for PassesOwn.never rfl (pi_tup (pv 1)) (pg_name (i := 5) scDu.nd rfl (Or.inl rfl))
        (pss_one (ps_if (pt_cmpR (op_eqD hu) (pv 5) (pe_tup (pa_cons pe_str pa_nil)) (nomark _))
          (pss_cons (ps_expr (pe_bm PySem.F.plainAttrs_list PySem.F.slot_list_append PySem.F.type_list_append mt_append (pv 2) (pa_cons (pe_callTy call_tuple_of (by rfl) mtup (by decide +kernel) (pa_cons (pe_lc (own := [("_law_number", 6)]) (g := gName 6) rfl scDu.nd (pi_range1 (by rfl) mrange (pa_cons (pe_callB (r := rLenQ K) call_len_seq (by rfl) mlen PySem.boot_len (pa_cons (pv 4) pa_nil)) pa_nil)) (blkOk_by (N := nDu) (sc := defScope sDue) (by decide +kernel))
              (fun _ _ _ _ _ => pg_name (i := 6) scDu.nd rfl (Or.inl rfl)) (fun _ _ _ _ _ => pts_one (pt_cmpR op_eq (pe_ix (r := rIxL K) ix_list (pv 4) (pv 6) (fun _ _ => rfl)) pe_str (nomark _))) (fun _ _ _ _ _ => pv 6)) pa_nil)) pa_nil)))
          (pss_cons (ps_expr (pe_bm PySem.F.plainAttrs_list PySem.F.slot_list_append PySem.F.type_list_append mt_append (pv 3) (pa_cons (pe_lst pa_nil) pa_nil)))
          (pss_one (ps_expr (pe_bm PySem.F.plainAttrs_list PySem.F.slot_list_append PySem.F.type_list_append mt_append (pv 4) (pa_cons pe_str pa_nil))))))
          (pss_one (ps_if (pt_cmpR op_eq (pe_ix ix_tup (pv 5) pe_int (fun _ _ => rfl)) pe_str (nomark _))
            (pss_one (ps_expr (pe_bm PySem.F.plainAttrs_list PySem.F.slot_list_append PySem.F.type_list_append mt_append (pe_ix ix_list (pv 3) (pe_ix ix_tup (pv 5) pe_int (fun _ _ => rfl)) (fun _ _ => rfl)) (pa_cons (pe_slice (r := rSlT K) sl_tup (pv 5) (po_some pe_int) po_none) pa_nil))))
            (pss_one (ps_asg (pe_ix ix_tup (pv 5) pe_int (fun _ _ => rfl)) (pg_sub (pv 4) (pe_ix ix_tup (pv 5) pe_int (fun _ _ => rfl)) set_list))))))))
      (pss_cons (ps_set (i := 7) scDu.nd rfl (Or.inl rfl) (pe_lst pa_nil))
      (pss_cons (ps_for PassesOwn.never rfl (pi_enum (by rfl) menum (pa_cons (pv 4) pa_nil)) (pg_tup (by rfl) (pgs_cons (pg_name (i := 6) scDu.nd rfl (Or.inl rfl)) (pgs_cons (pg_name (i := 8) scDu.nd rfl (Or.inl rfl)) pgs_nil)))
        (pss_one (ps_if (pt_cmpR op_ne (pv 8) pe_str (nomark _))
          (pss_one (ps_expr (pe_bm PySem.F.plainAttrs_list PySem.F.slot_list_append PySem.F.type_list_append mt_append (pv 7) (pa_cons (pe_tup (pa_cons (pv 6) (pa_cons (pe_cmpR op_eq (pv 8) pe_str (nomark _)) (pa_cons (pe_ix ix_list (pv 2) (pv 6) (fun _ _ => rfl)) (pa_cons (pe_callTy call_tuple_of (by rfl) mtup (by decide +kernel) (pa_cons (pe_ix ix_list (pv 3) (pv 6) (fun _ _ => rfl)) pa_nil)) pa_nil))))) pa_nil)))) pss_nil)))
      (pss_one (ps_ret (pe_tup (pa_cons (pe_tup (pa_cons (pe_callTy call_tuple_of (by rfl) mtup (by decide +kernel) (pa_cons (pe_lc (own := [("_law_states_here", 9)]) (g := gName 9) (tt := tYes) rfl scDu.nd (pi_list (pv 0)) (blkOk_by (N := nDu) (sc := defScope sDue) (by decide +kernel))
          (fun _ _ _ _ _ => pg_name (i := 9) scDu.nd rfl (Or.inl rfl)) (fun _ _ _ _ _ => pts_nil) (fun _ _ _ _ _ => pe_int)) pa_nil)) pa_nil)) (pa_cons (pe_callTy call_tuple_of (by rfl) mtup (by decide +kernel) (pa_cons (pv 7) pa_nil)) pa_nil)))))))), ?_⟩
    have zero : (0 : Nat) ≤ sizeLine := Nat.zero_le _
    have one : (1 : Nat) ≤ sizeLine := by decide
    obtain ⟨tv, hb, tt⟩ := tb.tup_of
    have len : tv.length = ths.length := by have q := tt.len; rwa [List.length_map] at q
    refine ⟨zero, fun bh hbh => ⟨zero, fun ro hro => ⟨zero, fun en hen => ⟨by show 3 ≤ sizeLine; decide, fun tq htq => ?_⟩⟩⟩⟩
    have nrb : ro ≠ bh := fun z => by rw [z, upd_same] at hro; cases hro
    have ner : en ≠ ro := fun z => by rw [z, upd_same] at hen; cases hen
    have neb : en ≠ bh := fun z => by rw [z, upd_ne (Ne.symm nrb), upd_same] at hen; cases hen
    have ntb : tq ≠ bh := fun z => by rw [z, upd_ne (Ne.symm neb), upd_ne (Ne.symm nrb), upd_same] at htq; cases htq
    have ntr : tq ≠ ro := fun z => by rw [z, upd_ne (Ne.symm ner), upd_same] at htq; cases htq
    have nte : tq ≠ en := fun z => by rw [z, upd_same] at htq; cases htq
    have hbh0 : H bh = none := hbh
    have hro0 : H ro = none := by rw [upd_ne nrb] at hro; exact hro
    have hen0 : H en = none := by rw [upd_ne ner, upd_ne neb] at hen; exact hen
    refine ⟨tq, _, rfl, SqT.of upd_same, rfl, _, _, rfl, _, _, rfl, _, _, rfl, rfl, ?_⟩
    have s1 : Same H (upd (upd (upd (upd H bh (.lst [])) ro (.lst [])) en (.lst [])) tq (.tup [.ref bh, .ref ro, .ref en])) := (same_new hbh).trans ((same_new hro).trans ((same_new hen).trans (same_new htq)))
    have b1 : (upd (upd (upd (upd H bh (.lst [])) ro (.lst [])) en (.lst [])) tq (.tup [.ref bh, .ref ro, .ref en])) bh = some (.lst []) := by rw [upd_ne (Ne.symm ntb), upd_ne (Ne.symm neb), upd_ne (Ne.symm nrb)]; exact upd_same
    have r1 : (upd (upd (upd (upd H bh (.lst [])) ro (.lst [])) en (.lst [])) tq (.tup [.ref bh, .ref ro, .ref en])) ro = some (.lst []) := by rw [upd_ne (Ne.symm ntr), upd_ne (Ne.symm ner)]; exact upd_same
    have e1 : (upd (upd (upd (upd H bh (.lst [])) ro (.lst [])) en (.lst [])) tq (.tup [.ref bh, .ref ro, .ref en])) en = some (.lst []) := by rw [upd_ne (Ne.symm nte)]; exact upd_same
    generalize upd (upd (upd (upd H bh (.lst [])) ro (.lst [])) en (.lst [])) tq (.tup [.ref bh, .ref ro, .ref en]) = H1 at s1 b1 r1 e1 ⊢
    have toS : ∀ {H2 : Hp}, But3 bh ro en H1 H2 → Same H H2 := fun u b o e => u b o (s1 b o e) (ne_of_none e hbh0) (ne_of_none e hro0) (ne_of_none e hen0)
    refine ⟨_, rfl, b, rfl, ⟨_, SqT.of (s1 _ _ hb)⟩, for_tup (K := K) (a := b) (xs := tv) (fun i σ H2 => ∃ (o5 : Option V) (bv rv : List V), σ = [some (.ref a), some (.ref b), some (.ref bh), some (.ref ro), some (.ref en), o5, none, none, none, none] ∧ But3 bh ro en H1 H2 ∧ H2 bh = some (.lst bv) ∧ TDs H2 bv ((lawRun (ths.take i)).map fun x => .tuple (x.bef.map .int)) ∧ H2 ro = some (.lst rv) ∧ Rws H1 H2 rv (lawRun (ths.take i)) ∧ H2 en = some (.lst ((lawRun (ths.take i)).map fun x => .str x.fin)))
      ⟨none, [], [], rfl, But3.of (Same.refl H1), b1, .nil, r1, ⟨rfl, (fun i r x e => by simp at e), fun i j r e => by simp at e⟩, e1⟩ (fun i σ H2 _ ⟨_, _, _, _, u2, _⟩ => SqT.of (toS u2 _ _ hb)) (fun i x σ H2 ex ⟨o5, bv, rv, eσ, u2, b2, tb2, r2, R2, e2⟩ => ?_) fun σ H2 ⟨o5, bv, rv, eσ, u2, b2, tb2, r2, R2, e2⟩ => ?_⟩
    · subst eσ
      obtain ⟨d, ed, td⟩ := tt.get ex
      rw [List.getElem?_map] at ed
      obtain ⟨th, eth, rfl⟩ := Option.map_eq_some_iff.mp ed
      have lt : i < ths.length := (List.getElem?_eq_some_iff.mp eth).1
      have ft := fits i th eth
      have nx := law_next eth
      have lb := lbnd_run ths i (by omega)
      generalize lawRun (ths.take i) = S at ft nx lb tb2 R2 e2
      have lbv := tb2.len
      rw [List.length_map] at lbv
      have lrv := R2.len
      have lS := lb.1
      have td2 := td.to (Tup.of (toS u2))
      obtain ⟨t, ys, rfl, ht, hy0, hys⟩ := th_tag td2
      refine ⟨_, rfl, one, fun q hq => ?_⟩
      have sq := same_new (o := .tup [V.str "begin"]) hq
      refine ⟨thD th, .tuple [.str "begin"], (td2.to (Tup.of sq)).dp, .tup (SqT.of upd_same) (.cons (.str _) .nil), lay_th ft, lay_th (S := []) (th := .beg) trivial, _, rfl, ?_⟩
      rw [eqv_beg]
      have u3 : But3 bh ro en H1 (upd H2 q (.tup [V.str "begin"])) := u2.trans (But3.of sq)
      have b3 := sq _ _ b2
      have r3 := sq _ _ r2
      have e3 := sq _ _ e2
      have tb3 := tb2.to (Tup.of sq)
      have R3 := R2.same sq
      have ht3 := sq _ _ ht
      have td3 := td2.to (Tup.of sq)
      generalize upd H2 q (.tup [V.str "begin"]) = H3 at u3 b3 r3 e3 tb3 R3 ht3 td3 ⊢
      rw [nx]
      cases th with
      | beg =>
        refine iteT ?_
        -- behind
        refine ⟨_, rfl, .inl ⟨rfl, _, SqL.of b3⟩, _, rfl, en, _, rfl, .inl (SqL.of e3), _, rfl, by omega, by rw [List.length_map]; omega, fun D hD => ?_⟩
        rw [List.length_map, show ((S.length : Int)).toNat = S.length from Int.toNat_natCast _]
        refine lc_it (walk_range (lo := 0) (n := S.length)) (fun j H4 => Same H3 H4 ∧ ∃ vs, H4 D = some (.lst vs) ∧ TDs H4 vs ((comIdx 0 (S.take j)).map .int) ∧ vs.length ≤ j) ⟨same_new hD, [], upd_same, by simpa [comIdx] using TDs.nil, Nat.le_refl _⟩ (fun _ _ _ _ => trivial) (fun j x H4 H5 lt2 ⟨s4, vs, d4, t4, l4⟩ yl => ?_) fun H4 ⟨s4, vs, d4, t4, _⟩ => ?_
        · obtain ⟨eH, rfl⟩ := yl
          have eH := eH.symm
          subst eH
          obtain ⟨rw_, hrw⟩ : ∃ r, S[j]? = some r := ⟨S[j]'lt2, List.getElem?_eq_getElem _⟩
          have tk : S.take (j + 1) = S.take j ++ [rw_] := by rw [List.take_succ, hrw]; rfl
          have ltk : (S.take j).length = j := by rw [List.length_take]; omega
          refine ⟨rfl, _, rfl, _, rfl, en, _, _, .str rw_.fin, rfl, rfl, SqL.of (s4 _ _ e3), ?_, rfl, _, rfl, ?_⟩
          · rw [Int.zero_add]
            refine atI_nat ?_
            rw [List.getElem?_map, hrw]
            rfl
          · rw [dec_str]
            have tp : Tup H4 (upd H4 D (.lst (vs ++ [.int (0 + (j : Int))]))) := Tup.at_ d4 fun xs z => nomatch z
            by_cases q : rw_.fin = "commit"
            · rw [decide_eq_true q]
              refine iteT ⟨_, rfl, vs, d4, small_lt (m := 1000) (by omega), same_at s4 hD, _, upd_same, ?_, by rw [List.length_append]; exact Nat.succ_le_succ l4⟩
              rw [tk, com_snoc, if_pos q, ltk, List.map_append]
              exact TDs.snoc (.int _) (t4.to tp)
            · rw [decide_eq_false q]
              refine iteF ⟨s4, vs, d4, ?_, by omega⟩
              rw [tk, com_snoc, if_neg q, List.append_nil]
              exact t4
        · rw [List.take_length] at t4
          refine ⟨D, vs, rfl, .inl ⟨SqL.of d4, fun q hq => ?_⟩⟩
          have s5 := same_new (o := .tup vs) hq
          have s35 := s4.trans s5
          have at5 : (upd H4 q (.tup vs)) q = some (.tup vs) := upd_same
          have t5 := t4.to (Tup.of s5)
          generalize upd H4 q (.tup vs) = H5 at s5 s35 at5 t5 ⊢
          have b5 := s35 _ _ b3
          refine ⟨bh, bv, _, rfl, rfl, b5, small_lt (m := 1000) (by omega), ?_⟩
          have tp6 : Tup H5 (upd H5 bh (.lst (bv ++ [.ref q]))) := Tup.at_ b5 fun xs z => nomatch z
          have b6 : (upd H5 bh (.lst (bv ++ [.ref q]))) bh = some (.lst (bv ++ [.ref q])) := upd_same
          have r6 : (upd H5 bh (.lst (bv ++ [.ref q]))) ro = some (.lst rv) := by rw [upd_ne nrb]; exact s35 _ _ r3
          have e6 : (upd H5 bh (.lst (bv ++ [.ref q]))) en = some (.lst (S.map fun x => .str x.fin)) := by rw [upd_ne neb]; exact s35 _ _ e3
          have R6 := (R3.same s35).wr (o := .lst (bv ++ [.ref q])) b5 ((R3.same s35).out b1)
          have tb6 : TDs (upd H5 bh (.lst (bv ++ [.ref q]))) (bv ++ [.ref q]) ((S ++ [(⟨comIdx 0 S, [], ""⟩ : Row)]).map fun x => .tuple (x.bef.map .int)) := by
            rw [List.map_append]
            exact TDs.snoc (.tup (tp6 _ _ at5) (t5.to tp6)) ((tb3.to (Tup.of s35)).to tp6)
          have u6 : But3 bh ro en H1 (upd H5 bh (.lst (bv ++ [.ref q]))) := fun x o e n1 n2 n3 => by
            rw [upd_ne n1]
            exact s35 _ _ (u3 x o e n1 n2 n3)
          generalize upd H5 bh (.lst (bv ++ [.ref q])) = H6 at b6 r6 e6 R6 tb6 u6 ⊢
          -- rows
          refine ⟨_, rfl, .inl ⟨rfl, _, SqL.of r6⟩, zero, fun gl hgl => ?_⟩
          have s7 := same_new (o := .lst []) hgl
          have g7 : (upd H6 gl (.lst [])) gl = some (.lst []) := upd_same
          have glb : gl ≠ bh := Ne.symm (ne_of_none b6 hgl)
          have glr : gl ≠ ro := Ne.symm (ne_of_none r6 hgl)
          have gle : gl ≠ en := Ne.symm (ne_of_none e6 hgl)
          have fr : H1 gl = none := But3.free u6 hgl glb glr gle
          have free := R6.free hgl
          have R7 := R6.same s7
          have r7 := s7 _ _ r6
          have u7 := u6.trans (But3.of s7)
          have b7 := s7 _ _ b6
          have e7 := s7 _ _ e6
          have tb7 := tb6.to (Tup.of s7)
          generalize upd H6 gl (.lst []) = H7 at s7 g7 R7 r7 u7 b7 e7 tb7 ⊢
          refine ⟨ro, rv, _, rfl, rfl, r7, small_lt (m := 1000) (by omega), ?_⟩
          have R8 := (R7.push (bf := comIdx 0 S) g7 fr free).wr (D := ro) (o := .lst (rv ++ [.ref gl])) r7 (fun r mr e => by
            rcases List.mem_append.mp mr with mr | mr
            · exact R7.out r1 r mr e
            · rw [List.mem_singleton.mp mr] at e
              exact glr (V.ref.inj e))
          have tp8 : Tup H7 (upd H7 ro (.lst (rv ++ [.ref gl]))) := Tup.at_ r7 fun xs z => nomatch z
          have r8 : (upd H7 ro (.lst (rv ++ [.ref gl]))) ro = some (.lst (rv ++ [.ref gl])) := upd_same
          have b8 : (upd H7 ro (.lst (rv ++ [.ref gl]))) bh = some (.lst (bv ++ [.ref q])) := by rw [upd_ne (Ne.symm nrb)]; exact b7
          have e8 : (upd H7 ro (.lst (rv ++ [.ref gl]))) en = some (.lst (S.map fun x => .str x.fin)) := by rw [upd_ne ner]; exact e7
          have tb8 := tb7.to tp8
          have u8 : But3 bh ro en H1 (upd H7 ro (.lst (rv ++ [.ref gl]))) := fun x o e n1 n2 n3 => by
            rw [upd_ne n2]
            exact u7 x o e n1 n2 n3
          generalize upd H7 ro (.lst (rv ++ [.ref gl])) = H8 at R8 r8 b8 e8 tb8 u8 ⊢
          -- ends
          refine ⟨_, rfl, .inl ⟨rfl, _, SqL.of e8⟩, en, _, _, rfl, rfl, e8, small_lt (m := 1000) (by rw [List.length_map]; omega), ?_⟩
          have tp9 : Tup H8 (upd H8 en (.lst ((S.map fun x => V.str x.fin) ++ [.str ""]))) := Tup.at_ e8 fun xs z => nomatch z
          refine ⟨_, _, _, rfl, fun x o e n1 n2 n3 => by rw [upd_ne n3]; exact u8 x o e n1 n2 n3, ?_, tb8.to tp9, ?_, R8.wr e8 (fun r mr => R8.out e1 r mr), ?_⟩
          · rw [upd_ne (Ne.symm neb)]
            exact b8
          · rw [upd_ne (Ne.symm ner)]
            exact r8
          · rw [upd_same]
            show _ = some (HO.lst ((S ++ [_]).map _))
            rw [List.map_append]
            rfl
      | did n ac =>
        refine iteF ?_
        have hys : ys = [.str "did", .int n, .int ac.1, .str ac.2.1, .str ac.2.2] := hys
        subst hys
        obtain ⟨f0, f1, _⟩ := ft
        have ln : n.toNat < S.length := by omega
        obtain ⟨x, hx⟩ : ∃ x, S[n.toNat]? = some x := ⟨S[n.toNat]'ln, List.getElem?_eq_getElem _⟩
        obtain ⟨r, hr2⟩ : ∃ r, rv[n.toNat]? = some r := ⟨rv[n.toNat]'(by omega), List.getElem?_eq_getElem _⟩
        obtain ⟨gl, gv, rfl, frg, hg, tg⟩ := R3.at_ _ _ _ hr2 hx
        have lg := tg.len
        rw [List.length_map] at lg
        have lx := lb.2 x (List.mem_of_getElem? hx)
        refine ⟨_, rfl, t, _, 0, .str "did", rfl, rfl, SqT.of ht3, rfl, rfl, _, rfl, ?_⟩
        rw [decide_eq_true rfl]
        refine iteT ⟨_, rfl, _, rfl, t, _, 1, _, rfl, rfl, SqT.of ht3, rfl, ro, rv, n, .ref gl, rfl, rfl, SqL.of r3, at_int f0 hr2, .inl ⟨rfl, _, SqL.of hg⟩, _, rfl, 2, rfl, t, _, rfl, SqT.of ht3, (by show ¬ (HT.sIx 5 0 (some 2) = 0 ∧ HT.sIx 5 5 none = 5); decide), fun q2 hq2 => ?_⟩
        have s4 := same_new (o := .tup (cutV [V.str "did", .int n, .int ac.1, .str ac.2.1, .str ac.2.2] (some 2) none)) hq2
        have tact : TD (upd H3 q2 (.tup (cutV [V.str "did", .int n, .int ac.1, .str ac.2.1, .str ac.2.2] (some 2) none))) (.ref q2) (actD ac) := act_new upd_same
        have R4 := R3.same s4
        have b4 := s4 _ _ b3
        have r4 := s4 _ _ r3
        have e4 := s4 _ _ e3
        have hg4 := s4 _ _ hg
        have tg4 := tg.to (Tup.of s4)
        have tb4 := tb3.to (Tup.of s4)
        have u4 := u3.trans (But3.of s4)
        generalize upd H3 q2 (.tup (cutV [V.str "did", .int n, .int ac.1, .str ac.2.1, .str ac.2.2] (some 2) none)) = H4 at s4 tact R4 b4 r4 e4 hg4 tg4 tb4 u4 ⊢
        refine ⟨gl, gv, _, rfl, rfl, hg4, small_lt (m := 1000) (by omega), ?_⟩
        have tp5 : Tup H4 (upd H4 gl (.lst (gv ++ [.ref q2]))) := Tup.at_ hg4 fun xs z => nomatch z
        have nb : bh ≠ gl := ne_of_none b1 frg
        have nr : ro ≠ gl := ne_of_none r1 frg
        have ne : en ≠ gl := ne_of_none e1 frg
        refine ⟨_, bv, rv, rfl, fun x o e n1 n2 n3 => by rw [upd_ne (ne_of_none e frg)]; exact u4 x o e n1 n2 n3, by rw [upd_ne nb]; exact b4, ?_, by rw [upd_ne nr]; exact r4, R4.add hr2 hx hg4 tg4 frg tact, ?_⟩
        · have z : (lawStep S (.did n ac)).map (fun x => PyData.tuple (x.bef.map .int)) = S.map fun x => PyData.tuple (x.bef.map .int) := by
            have q := congrArg (List.map fun b : List Int => PyData.tuple (b.map .int)) (mod_bef (withRow ac) (fun _ => rfl) n.toNat S)
            rw [List.map_map, List.map_map] at q
            exact q
          rw [z]
          exact tb4.to tp5
        · have z : (lawStep S (.did n ac)).map (fun x => V.str x.fin) = S.map fun x => V.str x.fin := by
            have q := congrArg (List.map fun b : Str => V.str b) (mod_fin ac n.toNat S)
            rw [List.map_map, List.map_map] at q
            exact q
          rw [z, upd_ne ne]
          exact e4
      | com n =>
        refine iteF ?_
        have hys : ys = [.str "commit", .int n] := hys
        subst hys
        obtain ⟨f0, f1, _⟩ := ft
        refine ⟨_, rfl, t, _, 0, .str "commit", rfl, rfl, SqT.of ht3, rfl, rfl, _, rfl, ?_⟩
        rw [decide_eq_false (show ¬ (V.str "commit" = V.str "did") by decide)]
        refine iteF ⟨_, rfl, t, _, 0, .str "commit", rfl, rfl, SqT.of ht3, rfl, _, rfl, _, rfl, t, _, 1, _, rfl, rfl, SqT.of ht3, rfl, en, _, n, n.toNat, rfl, rfl, e3, ix_int f0 (by rw [List.length_map]; exact f1), ?_⟩
        have tp5 : Tup H3 (upd H3 en (.lst ((S.map fun x => V.str x.fin).set n.toNat (.str "commit")))) := Tup.at_ e3 fun xs z => nomatch z
        refine ⟨_, bv, rv, rfl, fun x o e n1 n2 n3 => by rw [upd_ne n3]; exact u3 x o e n1 n2 n3, by rw [upd_ne (Ne.symm neb)]; exact b3, ?_, by rw [upd_ne (Ne.symm ner)]; exact r3, (R3.wr e3 (fun r mr => R3.out e1 r mr)).like (mod_rows "commit" n.toNat S).symm, by rw [upd_same, set_fin]; rfl⟩
        have z : (lawStep S (.com n)).map (fun x => PyData.tuple (x.bef.map .int)) = S.map fun x => PyData.tuple (x.bef.map .int) := by
          have q := congrArg (List.map fun b : List Int => PyData.tuple (b.map .int)) (mod_bef (withFin "commit") (fun _ => rfl) n.toNat S)
          rw [List.map_map, List.map_map] at q
          exact q
        rw [z]
        exact tb3.to tp5
      | abo n =>
        refine iteF ?_
        have hys : ys = [.str "abort", .int n] := hys
        subst hys
        obtain ⟨f0, f1, _⟩ := ft
        refine ⟨_, rfl, t, _, 0, .str "abort", rfl, rfl, SqT.of ht3, rfl, rfl, _, rfl, ?_⟩
        rw [decide_eq_false (show ¬ (V.str "abort" = V.str "did") by decide)]
        refine iteF ⟨_, rfl, t, _, 0, .str "abort", rfl, rfl, SqT.of ht3, rfl, _, rfl, _, rfl, t, _, 1, _, rfl, rfl, SqT.of ht3, rfl, en, _, n, n.toNat, rfl, rfl, e3, ix_int f0 (by rw [List.length_map]; exact f1), ?_⟩
        have tp5 : Tup H3 (upd H3 en (.lst ((S.map fun x => V.str x.fin).set n.toNat (.str "abort")))) := Tup.at_ e3 fun xs z => nomatch z
        refine ⟨_, bv, rv, rfl, fun x o e n1 n2 n3 => by rw [upd_ne n3]; exact u3 x o e n1 n2 n3, by rw [upd_ne (Ne.symm neb)]; exact b3, ?_, by rw [upd_ne (Ne.symm ner)]; exact r3, (R3.wr e3 (fun r mr => R3.out e1 r mr)).like (mod_rows "abort" n.toNat S).symm, by rw [upd_same, set_fin]; rfl⟩
        have z : (lawStep S (.abo n)).map (fun x => PyData.tuple (x.bef.map .int)) = S.map fun x => PyData.tuple (x.bef.map .int) := by
          have q := congrArg (List.map fun b : List Int => PyData.tuple (b.map .int)) (mod_bef (withFin "abort") (fun _ => rfl) n.toNat S)
          rw [List.map_map, List.map_map] at q
          exact q
        rw [z]
        exact tb3.to tp5
    · subst eσ
      rw [len, List.take_length] at tb2 R2 e2
      have lb := lbnd_run ths ths.length (Nat.le_refl _)
      rw [List.take_length] at lb
      generalize lawRun ths = S at tb2 R2 e2 lb k
      have lS : S.length ≤ 1000 := by have := lb.1; omega
      have lbv := tb2.len
      rw [List.length_map] at lbv
      have lrv := R2.len
      have s2 : Same H H2 := toS u2
      -- entries
      refine ⟨zero, fun el hel => ?_⟩
      have s3 := same_new (o := .lst []) hel
      have l3 : (upd H2 el (.lst [])) el = some (.lst []) := upd_same
      have helb : el ≠ bh := Ne.symm (ne_of_none b2 hel)
      have helr : el ≠ ro := Ne.symm (ne_of_none r2 hel)
      have hele : el ≠ en := Ne.symm (ne_of_none e2 hel)
      have freeL := R2.free hel
      have b3 := s3 _ _ b2
      have r3 := s3 _ _ r2
      have e3 := s3 _ _ e2
      have R3 := R2.same s3
      have tb3 := tb2.to (Tup.of s3)
      have s03 := s2.trans s3
      have nel0 : H el = none := s2.free hel
      generalize upd H2 el (.lst []) = H3 at s3 l3 b3 r3 e3 R3 tb3 s03 ⊢
      refine ⟨_, rfl, en, _, rfl, SqL.of e3, ?_⟩
      refine for_it (walk_enum (K := K) (a := en) (xs := S.map fun x => V.str x.fin)) (fun j σ H4 => ∃ (o5 o6 o8 : Option V) (ev : List V), σ = [some (.ref a), some (.ref b), some (.ref bh), some (.ref ro), some (.ref en), o5, o6, some (.ref el), o8, none] ∧ But1 el H3 H4 ∧ H4 el = some (.lst ev) ∧ TDs H4 ev ((entFrom 0 (S.take j)).map entD) ∧ ev.length ≤ j)
        ⟨_, none, none, [], rfl, But1.refl el H3, l3, .nil, Nat.le_refl _⟩ (fun j σ H4 _ ⟨_, _, _, _, _, u4, _⟩ => SqL.of (u4 _ _ e3 (Ne.symm hele))) (fun j x σ H4 H5 lt ⟨o5, o6, o8, ev, eσ, u4, l4, t4, le4⟩ yl => ?_) fun σ H4 ⟨o5, o6, o8, ev, eσ, u4, l4, t4, _⟩ => ?_
      · subst eσ
        obtain ⟨T, y1, y2, rfl, hT, rfl, h1, h2⟩ := yl
        rw [List.length_map] at lt
        obtain ⟨rw_, hrw⟩ : ∃ r, S[j]? = some r := ⟨S[j]'lt, List.getElem?_eq_getElem _⟩
        have h1 : V.int (j : Int) = y1 := Option.some.inj h1
        have h2 : some (V.str rw_.fin) = some y2 := by
          rw [← h2]
          show _ = (S.map fun x => V.str x.fin)[j]?
          rw [List.getElem?_map, hrw]
          rfl
        have h2 := Option.some.inj h2
        subst h1 h2
        have tk : S.take (j + 1) = S.take j ++ [rw_] := by rw [List.take_succ, hrw]; rfl
        have ltk : (S.take j).length = j := by rw [List.length_take]; omega
        have s5 := same_new (o := .tup [V.int (j : Int), .str rw_.fin]) hT
        have u5 : But1 el H3 (upd H4 T (.tup [V.int (j : Int), .str rw_.fin])) := u4.trans (But1.of s5)
        refine ⟨T, _, rfl, SqT.of upd_same, rfl, _, _, rfl, _, _, rfl, rfl, ?_⟩
        have l5 := s5 _ _ l4
        have t5 := t4.to (Tup.of s5)
        generalize upd H4 T (.tup [V.int (j : Int), .str rw_.fin]) = H5 at s5 u5 l5 t5 ⊢
        refine ⟨_, rfl, rfl, _, rfl, ?_⟩
        rw [dec_str]
        by_cases q : rw_.fin = "abort"
        · rw [decide_eq_true q]
          refine iteF ⟨_, _, _, ev, rfl, u5, l5, ?_, by omega⟩
          rw [tk, ent_snoc, if_pos q, List.append_nil]
          exact t5
        · rw [decide_eq_false q]
          obtain ⟨bx, hbx⟩ : ∃ v, bv[j]? = some v := ⟨bv[j]'(by omega), List.getElem?_eq_getElem _⟩
          obtain ⟨db, edb, tdb⟩ := tb3.get hbx
          rw [List.getElem?_map, hrw] at edb
          cases Option.some.inj edb
          obtain ⟨r, hr2⟩ : ∃ r, rv[j]? = some r := ⟨rv[j]'(by omega), List.getElem?_eq_getElem _⟩
          obtain ⟨gl, gv, rfl, frg, hg, tg⟩ := R3.at_ _ _ _ hr2 hrw
          obtain ⟨bt, bvs, rfl, hbt, tbt⟩ := TD.ref_of tdb
          have ngl : gl ≠ el := fun z => freeL _ (List.mem_of_getElem? hr2) (by rw [z])
          have nbt : bt ≠ el := fun z => by rw [z, l3] at hbt; cases hbt
          have toT : Tup H3 H5 := fun x xs e => u5 x _ e (fun z => by rw [z, l3] at e; cases e)
          refine iteT ⟨_, rfl, .inl ⟨rfl, _, SqL.of l5⟩, _, rfl, _, rfl, rfl, _, rfl, _, rfl, bh, bv, _, _, rfl, rfl, SqL.of (u5 _ _ b3 (Ne.symm helb)), atI_nat hbx, _, rfl, _, rfl, ro, rv, _, _, rfl, rfl, SqL.of (u5 _ _ r3 (Ne.symm helr)), atI_nat hr2, gl, gv, rfl, .inl ⟨SqL.of (u5 _ _ hg ngl), fun q1 hq1 => ⟨by show 4 ≤ sizeLine; decide, fun q2 hq2 => ?_⟩⟩⟩
          have s6 := (same_new (o := .tup gv) hq1).trans (same_new (o := .tup [V.int (j : Int), .bl (decide (V.str rw_.fin = V.str "commit")), .ref bt, .ref q1]) hq2)
          have at1 : (upd (upd H5 q1 (.tup gv)) q2 (.tup [V.int (j : Int), .bl (decide (V.str rw_.fin = V.str "commit")), .ref bt, .ref q1])) q1 = some (.tup gv) := same_new hq2 _ _ upd_same
          have at2 : (upd (upd H5 q1 (.tup gv)) q2 (.tup [V.int (j : Int), .bl (decide (V.str rw_.fin = V.str "commit")), .ref bt, .ref q1])) q2 = some (.tup [V.int (j : Int), .bl (decide (V.str rw_.fin = V.str "commit")), .ref bt, .ref q1]) := upd_same
          generalize upd (upd H5 q1 (.tup gv)) q2 (.tup [V.int (j : Int), .bl (decide (V.str rw_.fin = V.str "commit")), .ref bt, .ref q1]) = H6 at s6 at1 at2 ⊢
          have l6 := s6 _ _ l5
          refine ⟨el, ev, _, rfl, rfl, l6, small_lt (m := 1000) (by omega), ?_⟩
          have tp7 : Tup H6 (upd H6 el (.lst (ev ++ [.ref q2]))) := Tup.at_ l6 fun xs z => nomatch z
          refine ⟨_, _, _, _, rfl, (u5.trans (But1.of s6)).at_, upd_same, ?_, by rw [List.length_append]; exact Nat.succ_le_succ le4⟩
          rw [tk, ent_snoc, if_neg q, ltk, List.map_append]
          rw [dec_str] at at2
          have tAll : Tup H3 (upd H6 el (.lst (ev ++ [.ref q2]))) := toT.trans ((Tup.of s6).trans tp7)
          exact TDs.snoc (ent_new (e := ⟨(j : Int), decide (rw_.fin = "commit"), rw_.bef, rw_.row⟩) (tp7 _ _ at2) (tAll _ _ hbt) (tbt.to tAll) (tp7 _ _ at1) (tg.to tAll)) ((t5.to (Tup.of s6)).to tp7)
      · subst eσ
        rw [List.length_map, List.take_length] at t4
        have s04 : Same H H4 := But1.same s03 u4 nel0
        have ha4 := s04 _ _ ha
        refine ⟨_, rfl, a, rfl, ⟨_, SqL.of ha4⟩, fun D hD => lc_list (K := K) (a := a) (xs := xs) (fun i H5 => Same H4 H5 ∧ ∃ vs, H5 D = some (.lst vs) ∧ TDs H5 vs (List.replicate i (.int 0))) ⟨same_new hD, [], upd_same, .nil⟩ (fun i H5 _ ⟨s5, _⟩ => SqL.of (s5 _ _ ha4)) (fun i v H5 ex ⟨s5, vs, d5, t5⟩ => ?_) fun H5 ⟨s5, vs, d5, t5⟩ => ?_⟩
        · have lt : i < xs.length := (List.getElem?_eq_some_iff.mp ex).1
          have l2 := t5.len
          rw [List.length_replicate] at l2
          have tp : Tup H5 (upd H5 D (.lst (vs ++ [.int 0]))) := Tup.at_ d5 fun xs z => nomatch z
          refine ⟨rfl, vs, d5, small_lt (m := 1000) (by omega), same_at s5 hD, _, upd_same, ?_⟩
          rw [List.replicate_succ']
          exact TDs.snoc (.int 0) (t5.to tp)
        · refine ⟨D, vs, rfl, .inl ⟨SqL.of d5, fun t1 h1 => ⟨by show 1 ≤ sizeLine; decide, fun t2' h2 => ⟨_, rfl, el, ev, rfl, .inl ⟨SqL.of ?_, fun t3 h3 => ⟨by show 2 ≤ sizeLine; decide, fun t4' h4 => ?_⟩⟩⟩⟩⟩⟩
          · exact same_new h2 _ _ (same_new h1 _ _ (s5 _ _ l4))
          · have s6 := same_new (o := .tup vs) h1
            have s7 := same_new (o := .tup [V.ref t1]) h2
            have s8 := same_new (o := .tup ev) h3
            have s9 := same_new (o := .tup [V.ref t2', .ref t3]) h4
            have s69 := s6.trans (s7.trans (s8.trans s9))
            refine k t4' _ (s04.trans (s5.trans s69)) (log_new upd_same ?_ (s9 _ _ upd_same) (t4.to (Tup.of (s5.trans s69))))
            exact .tup (s9 _ _ (s8 _ _ upd_same)) (.cons (.tup (s9 _ _ (s8 _ _ (s7 _ _ upd_same))) (t5.to (Tup.of s69))) .nil)
end
end My

-- ===== KN3 =====
set_option Elab.async false
set_option linter.all false
set_option maxRecDepth 100000
set_option maxHeartbeats 4000000
namespace Kd
open PySem L2 PyProof.Rows PySem.Spec
/-! ### xs.remove(i), xs whole numbers -/
def rRemZ : V → List V → Hp → VK → Prop := fun x vs H Q => ∃ (l : Addr) (zs : List Int) (z : Int), x = .ref l ∧ vs = [.int z] ∧ H l = some (.lst (zs.map V.int)) ∧ z ∈ zs ∧ Q .non (upd H l (.lst ((zs.erase z).map V.int)))
theorem eqv_int (x y : Int) : PyData.eqv (.int x) (.int y) = decide (x = y) := by
  simp only [PyData.eqv]
  by_cases h : x = y
  · rw [h, decide_eq_true rfl, beq_self_eq_true]
  · rw [decide_eq_false h]
    exact beq_eq_false_iff_ne.mpr h
theorem er_map {α β : Type} (f : α → β) : ∀ (l : List α) (j : Nat), (l.eraseIdx j).map f = (l.map f).eraseIdx j
  | [], j => by simp
  | x :: l, 0 => by simp
  | x :: l, j + 1 => by simp [er_map f l j]
theorem place_int {zs : List Int} {z : Int} (h : z ∈ zs) : ∃ j, SeqAt.dataPlace (zs.map PyData.int) (.int z) = some j ∧ zs.erase z = zs.eraseIdx j := by
  have e : SeqAt.dataPlace (zs.map PyData.int) (.int z) = zs.idxOf? z := by
    unfold SeqAt.dataPlace List.idxOf?
    rw [List.findIdx?_map]
    refine congrArg (fun p => zs.findIdx? p) (funext fun y => ?_)
    show PyData.eqv (.int y) (.int z) = (y == z)
    rw [eqv_int]
    rfl
  have q := List.erase_eq_eraseIdx zs z
  cases o : zs.idxOf? z with
  | none =>
    exact absurd h (by simpa [List.idxOf?_eq_none_iff] using o)
  | some j =>
    rw [o] at q
    exact ⟨j, by rw [e, o], q⟩
theorem reads_ints {h : Heap} : ∀ {zs : List Int} {its : List Value}, Vals (zs.map V.int) its → ∃ as, ReadsAll h its (zs.map PyData.int) as
  | [], its, r => by
    cases r
    exact ⟨[], .nil⟩
  | z :: zs, its, r => by
    cases r with
    | cons p q =>
      obtain ⟨t, rfl⟩ := p
      obtain ⟨as, ra⟩ := reads_ints (h := h) q
      exact ⟨_, .cons (.int z t) ra⟩
theorem plain_ints : ∀ zs : List Int, PyData.plainAll (zs.map PyData.int) = true
  | [] => by simp [PyData.plainAll]
  | z :: zs => by simp [PyData.plainAll, PyData.plain, plain_ints zs]
theorem mt_removeZ {X : Cx} (hu : X.A.units + 64 < cLine) : MtR X "list.remove" rRemZ := by
  intro pins s σ H x vs v us Q I rx rv h
  obtain ⟨l, zs, z, rfl, rfl, hH, hz, q⟩ := h
  cases rx
  obtain ⟨u, rfl, ru⟩ := rv.one
  obtain ⟨t, rfl⟩ := ru
  obtain ⟨sz, its, n, r, hl, e⟩ := I.lstM hH
  obtain ⟨j, hp, he⟩ := place_int hz
  obtain ⟨as, ra⟩ := reads_ints (h := s.heap) r
  have dd : min (PyData.depthAll (zs.map PyData.int)) (PyData.int z).depth = 0 := by simp [PyData.depth]
  refine SeqAt.remove_list_data (vs := its.toArray) (xs := zs.map PyData.int) (d := .int z) (j := j) ⟨_, e, rfl, n, rfl⟩ ra (.int z t) (plain_ints zs) (by simp [PyData.plain]) (by rw [dd]; omega) hp (by rw [List.size_toArray, ← hl]; exact sz) ?_
  refine ⟨.non, _, I.lset (its' := its.eraseIdx j) (ys := (zs.erase z).map V.int) (t' := s.toks) hH e ?_ ?_ ?_, rfl, q⟩
  · show its.toArray.eraseIdxIfInBounds j = (its.eraseIdx j).toArray
    rw [List.eraseIdxIfInBounds_toArray]
  · rw [he, er_map]
    exact r.eraseIdx j
  · have := List.length_erase_le (a := z) (l := zs)
    rw [List.length_map] at sz ⊢
    omega
end Kd

-- ===== K14U0 =====
set_option Elab.async false
set_option linter.all false
set_option maxRecDepth 100000
set_option maxHeartbeats 4000000
namespace My
open PySem L2 PyProof.Rows PySem.Spec Kd
/-! ### histories drawn, as mathematics -/
theorem run_snoc (ths : List Th) (th : Th) : lawRun (ths ++ [th]) = lawStep (lawRun ths) th := by
  unfold lawRun
  rw [List.foldl_append]
  rfl
theorem fit_nil : AllFit [] := fun i th h => by simp at h
theorem fit_snoc {ths : List Th} {th : Th} (h : AllFit ths) (f : Fits (lawRun ths) th) : AllFit (ths ++ [th]) := fun i x e => by
  rcases Nat.lt_or_ge i ths.length with lt | ge
  · rw [List.getElem?_append_left lt] at e
    rw [List.take_append_of_le_length (Nat.le_of_lt lt)]
    exact h i x e
  · rw [List.getElem?_append_right ge] at e
    have z : i - ths.length = 0 := by
      cases q : i - ths.length with
      | zero => rfl
      | succ k => rw [q] at e; simp at e
    rw [z] at e
    have ei : i = ths.length := by omega
    rw [ei, List.take_append_of_le_length (Nat.le_refl _), List.take_length]
    rw [← Option.some.inj e]
    exact f
/-- a row as the law may hold it -/
structure RowOk (x : Row) : Prop where
  bl : x.bef.length ≤ 10
  bi : ∀ i ∈ x.bef, 0 ≤ i ∧ i < 10
  rw_ : ∀ a ∈ x.row, 0 ≤ a.1 ∧ a.1 < 4 ∧ Wrd a.2.1 ∧ Wrd a.2.2
theorem com_bnd : ∀ (S : List Row) (k : Int), (comIdx k S).length ≤ S.length ∧ ∀ i ∈ comIdx k S, k ≤ i ∧ i < k + S.length
  | [], k => ⟨Nat.le_refl _, fun i m => nomatch m⟩
  | x :: S, k => by
    obtain ⟨h1, h2⟩ := com_bnd S (k + 1)
    unfold comIdx
    refine ⟨?_, fun i m => ?_⟩
    · rw [List.length_append, List.length_cons]
      split <;> simp <;> omega
    · rw [List.length_cons]
      rcases List.mem_append.mp m with m | m
      · split at m
        · rw [List.mem_singleton.mp m]
          omega
        · cases m
      · have := h2 i m
        omega
theorem mod_ok {f : Row → Row} {n : Nat} {S : List Row} (h : ∀ x ∈ S, RowOk x) (hf : ∀ x, RowOk x → RowOk (f x)) : ∀ x ∈ modAt f n S, RowOk x := fun y m => by
  obtain ⟨x, mx, rfl | rfl⟩ := mod_mem m
  · exact h _ mx
  · exact hf _ (h _ mx)
structure HInv (S : List Row) (os cs : List Int) : Prop where
  nd : os.Nodup
  op : ∀ z ∈ os, 0 ≤ z ∧ z < S.length ∧ ∀ x, S[z.toNat]? = some x → x.fin = ""
  cl : cs.length = S.length
  ol : os.length ≤ cs.length
  few : cs.length ≤ 10
  ok : ∀ x ∈ S, RowOk x
theorem HInv.beg {S : List Row} {os cs : List Int} (h : HInv S os cs) (lt : cs.length < 10) : HInv (lawStep S .beg) (os ++ [(cs.length : Int)]) (cs ++ [0]) := by
  have l : (lawStep S .beg).length = S.length + 1 := by
    show (S ++ [_]).length = _
    rw [List.length_append]
    rfl
  refine ⟨List.nodup_append.mpr ⟨h.nd, by simp, fun a ha b hb e => ?_⟩, fun z m => ?_, ?_, ?_, ?_, fun x m => ?_⟩
  · rw [List.mem_singleton.mp hb] at e
    have := (h.op a ha).2.1
    have := h.cl
    omega
  · rcases List.mem_append.mp m with m | m
    · obtain ⟨z0, z1, z2⟩ := h.op z m
      refine ⟨z0, by rw [l]; omega, fun x e => z2 x ?_⟩
      have e' : (S ++ [(⟨comIdx 0 S, [], ""⟩ : Row)])[z.toNat]? = some x := e
      rwa [List.getElem?_append_left (by omega)] at e'
    · rw [List.mem_singleton.mp m]
      refine ⟨by omega, by rw [l, h.cl]; omega, fun x e => ?_⟩
      have e' : (S ++ [(⟨comIdx 0 S, [], ""⟩ : Row)])[((cs.length : Int)).toNat]? = some x := e
      rw [Int.toNat_natCast, h.cl, List.getElem?_append_right (Nat.le_refl _), Nat.sub_self] at e'
      rw [← Option.some.inj e']
  · rw [l, List.length_append, h.cl]
    rfl
  · rw [List.length_append, List.length_append]
    have := h.ol
    simp
    omega
  · rw [List.length_append]
    exact lt
  · rcases List.mem_append.mp (show x ∈ S ++ [(⟨comIdx 0 S, [], ""⟩ : Row)] from m) with m | m
    · exact h.ok x m
    · rw [List.mem_singleton.mp m]
      have z := com_bnd S 0
      have := h.cl
      exact ⟨by have := z.1; show (comIdx 0 S).length ≤ 10; omega, fun i mi => by have := z.2 i mi; omega, fun a ma => nomatch ma⟩
theorem HInv.did {S : List Row} {os cs cs' : List Int} {n : Int} {a : Act} (h : HInv S os cs) (l : cs'.length = cs.length) (ha : 0 ≤ a.1 ∧ a.1 < 4 ∧ Wrd a.2.1 ∧ Wrd a.2.2) : HInv (lawStep S (.did n a)) os cs' := by
  have e : lawStep S (.did n a) = modAt (withRow a) n.toNat S := rfl
  rw [e]
  refine ⟨h.nd, fun z m => ?_, by rw [mod_len, l, h.cl], by rw [l]; exact h.ol, by rw [l]; exact h.few, mod_ok h.ok fun x hx => ⟨hx.bl, hx.bi, fun b mb => by
    rcases List.mem_append.mp (show b ∈ x.row ++ [a] from mb) with mb | mb
    · exact hx.rw_ b mb
    · rw [List.mem_singleton.mp mb]
      exact ha⟩⟩
  obtain ⟨z0, z1, z2⟩ := h.op z m
  refine ⟨z0, by rw [mod_len]; exact z1, fun x ex => ?_⟩
  rw [mod_get] at ex
  split at ex
  · obtain ⟨x', e1, rfl⟩ := Option.map_eq_some_iff.mp ex
    exact z2 x' e1
  · exact z2 x ex
theorem HInv.fin {S : List Row} {os cs : List Int} {n : Int} {t : Str} (h : HInv S os cs) (hn : 0 ≤ n) : HInv (modAt (withFin t) n.toNat S) (os.erase n) cs := by
  refine ⟨h.nd.erase _, fun z m => ?_, by rw [mod_len]; exact h.cl, Nat.le_trans (List.length_erase_le) h.ol, h.few, mod_ok h.ok fun x hx => ⟨hx.bl, hx.bi, hx.rw_⟩⟩
  obtain ⟨ne, m⟩ := (h.nd.mem_erase_iff).mp m
  obtain ⟨z0, z1, z2⟩ := h.op z m
  refine ⟨z0, by rw [mod_len]; exact z1, fun x ex => ?_⟩
  rw [mod_get, if_neg (by omega)] at ex
  exact z2 x ex
/-! ### the lists it keeps -/
structure Dst (H : Hp) (p c T Oq C : Addr) : Prop where
  tp : T ≠ p
  tc : T ≠ c
  op : Oq ≠ p
  oc : Oq ≠ c
  cp : C ≠ p
  cc : C ≠ c
  to : T ≠ Oq
  tC : T ≠ C
  oC : Oq ≠ C
  fT : H T = none
  fO : H Oq = none
  fC : H C = none
structure HSt (H H2 : Hp) (p c T Oq C : Addr) (y n2 : Int) (tv : List V) (ths : List Th) (os cs : List Int) : Prop where
  fd : ∃ ks, FeedAt H2 p c ks y n2
  sv : Save p c H H2
  ht : H2 T = some (.lst tv)
  tt : TDs H2 tv (ths.map thD)
  oo : H2 Oq = some (.lst (os.map V.int))
  cs_ : H2 C = some (.lst (cs.map V.int))
section
variable {H H2 H3 : Hp} {p c T Oq C : Addr} {y n2 n3 : Int} {tv : List V} {ths : List Th} {os cs : List Int}
theorem HSt.step (D : Dst H p c T Oq C) (h : HSt H H2 p c T Oq C y n2 tv ths os cs) (sv : Save p c H2 H3) (fd : ∃ ks, FeedAt H3 p c ks y n3) : HSt H H3 p c T Oq C y n3 tv ths os cs := by
  obtain ⟨ks, F⟩ := h.fd
  exact ⟨fd, h.sv.trans sv, sv _ _ h.ht D.tp D.tc, h.tt.to (Save.tup F sv), sv _ _ h.oo D.op D.oc, sv _ _ h.cs_ D.cp D.cc⟩
theorem HSt.same (D : Dst H p c T Oq C) (h : HSt H H2 p c T Oq C y n2 tv ths os cs) (s : Same H2 H3) : HSt H H3 p c T Oq C y n2 tv ths os cs :=
  h.step D (Save.of s) (let ⟨ks, F⟩ := h.fd; ⟨ks, F.same s⟩)
theorem HSt.putT (D : Dst H p c T Oq C) (h : HSt H H2 p c T Oq C y n2 tv ths os cs) {b : Addr} {th : Th} (hb : TD H2 (.ref b) (thD th)) : HSt H (upd H2 T (.lst (tv ++ [.ref b]))) p c T Oq C y n2 (tv ++ [.ref b]) (ths ++ [th]) os cs := by
  obtain ⟨ks, F⟩ := h.fd
  have tp : Tup H2 (upd H2 T (.lst (tv ++ [.ref b]))) := Tup.at_ h.ht fun xs z => nomatch z
  refine ⟨⟨ks, F.wr D.tp D.tc⟩, h.sv.wr D.fT, upd_same, ?_, by rw [upd_ne (Ne.symm D.to)]; exact h.oo, by rw [upd_ne (Ne.symm D.tC)]; exact h.cs_⟩
  rw [List.map_append]
  exact TDs.snoc (hb.to tp) (h.tt.to tp)
theorem HSt.putO (D : Dst H p c T Oq C) (h : HSt H H2 p c T Oq C y n2 tv ths os cs) {os' : List Int} : HSt H (upd H2 Oq (.lst (os'.map V.int))) p c T Oq C y n2 tv ths os' cs := by
  obtain ⟨ks, F⟩ := h.fd
  have tp : Tup H2 (upd H2 Oq (.lst (os'.map V.int))) := Tup.at_ h.oo fun xs z => nomatch z
  exact ⟨⟨ks, F.wr D.op D.oc⟩, h.sv.wr D.fO, by rw [upd_ne D.to]; exact h.ht, h.tt.to tp, upd_same, by rw [upd_ne (Ne.symm D.oC)]; exact h.cs_⟩
theorem HSt.putC (D : Dst H p c T Oq C) (h : HSt H H2 p c T Oq C y n2 tv ths os cs) {cs' : List Int} : HSt H (upd H2 C (.lst (cs'.map V.int))) p c T Oq C y n2 tv ths os cs' := by
  obtain ⟨ks, F⟩ := h.fd
  have tp : Tup H2 (upd H2 C (.lst (cs'.map V.int))) := Tup.at_ h.cs_ fun xs z => nomatch z
  exact ⟨⟨ks, F.wr D.cp D.cc⟩, h.sv.wr D.fC, by rw [upd_ne D.tC]; exact h.ht, h.tt.to tp, by rw [upd_ne D.oC]; exact h.oo, upd_same⟩
end
theorem eqv_ints (os : List Int) : PyData.eqv (.list (os.map PyData.int)) (.list []) = os.isEmpty := by
  cases os with
  | nil => simp [PyData.eqv, PyData.eqvAll]
  | cons e es => simp [PyData.eqv, PyData.eqvAll]
theorem PT.wk {X : Cx} {e : Expr} {t u : TT} (h : PT X e t) (k : ∀ σ H Q, u σ H Q → t σ H Q) : PT X e u := ⟨fun pins s σ H Q I q => h.run pins s σ H Q I (k σ H Q q)⟩
theorem dec_int (x y : Int) : decide (V.int x = V.int y) = decide (x = y) := by
  by_cases h : x = y
  · rw [h, decide_eq_true rfl, decide_eq_true rfl]
  · rw [decide_eq_false h, decide_eq_false fun z => h (V.int.inj z)]
theorem PE.wk {X : Cx} {e : Expr} {t u : TE} (h : PE X e t) (k : ∀ σ H Q, u σ H Q → t σ H Q) : PE X e u := ⟨fun pins s σ H Q I q => h.run pins s σ H Q I (k σ H Q q)⟩
theorem new_ne {H : Hp} {a b : Addr} {o : HO} (h : upd H a o b = none) : b ≠ a ∧ H b = none := by
  have n : b ≠ a := fun z => by
    rw [z, upd_same] at h
    cases h
  exact ⟨n, by rwa [upd_ne n] at h⟩
theorem at_intZ {cs : List Int} {z : Int} (h0 : 0 ≤ z) (h1 : z < cs.length) : ∃ k, cs[z.toNat]? = some k ∧ atI (cs.map V.int) z = some (.int k) := by
  have lt : z.toNat < cs.length := by omega
  have e : (cs.map V.int)[z.toNat]? = some (.int cs[z.toNat]) := by rw [List.getElem?_map, List.getElem?_eq_getElem lt]; rfl
  have q := atI_nat e
  rw [Int.toNat_of_nonneg h0] at q
  exact ⟨_, List.getElem?_eq_getElem lt, q⟩
/-- the word of an end -/
def u4 : TE := fun σ H Q => ∃ (p c : Addr) (ks : List Int) (w n wy : Int), σ[0]? = some (some (.ref p)) ∧ σ[7]? = some (some (.int wy)) ∧ FeedAt H p c ks w n ∧ n < 999999 ∧
  ∀ (z : Str) (ks' : List Int) (n' : Int) (H' : Hp), (z = "commit" ∨ z = "abort") → FeedAt H' p c ks' w n' → n' ≤ n + 1 → Save p c H H' → Q (.str z) H'
/-- the first test -/
def u1 : TT := fun σ H Q => ∃ (C Oq : Addr) (cs os : List Int) (wy : Int), σ[5]? = some (some (.ref C)) ∧ σ[4]? = some (some (.ref Oq)) ∧ σ[7]? = some (some (.int wy)) ∧ H C = some (.lst (cs.map V.int)) ∧ H Oq = some (.lst (os.map V.int)) ∧
  (∀ H', Same H H' → cs.length < 10 → Q true H') ∧ ∀ H', Same H H' → Q false H'
def u2 : TT := fun σ H Q => ∃ (Oq : Addr) (os : List Int) (wy : Int), σ[4]? = some (some (.ref Oq)) ∧ σ[7]? = some (some (.int wy)) ∧ H Oq = some (.lst (os.map V.int)) ∧
  (∀ H', Same H H' → os ≠ [] → wy < 6 → Q true H') ∧ ∀ H', Same H H' → Q false H'
end My

-- ===== K14V =====
set_option Elab.async false
set_option linter.all false
set_option maxRecDepth 100000
set_option maxHeartbeats 4000000
namespace My
open PySem L2 PyProof.Rows PySem.Spec Kd
def spHist : Sp := fun vs H Q _ => ∃ (p c O : Addr) (ks : List Int) (w n m : Int) (ov : List V) (sss : List (List (List Stp))), vs = [.ref p, .ref O, .int m] ∧ FeedAt H p c ks w n ∧ n < 890000 ∧ 0 ≤ m ∧ m ≤ 200 ∧ H O = some (.lst ov) ∧ TDs H ov (sss.map statesD) ∧ 1 ≤ sss.length ∧ sss.length ≤ 4 ∧ (∀ ss ∈ sss, KOk ss) ∧ O ≠ p ∧ O ≠ c ∧
  ∀ (t : Addr) (ths : List Th) (ks' : List Int) (n' : Int) (H' : Hp), TD H' (.ref t) (histD ths) → AllFit ths → ths.length ≤ 200 → (lawRun ths).length ≤ 10 → (∀ x ∈ lawRun ths, RowOk x) → FeedAt H' p c ks' w n' → n' ≤ n + 1 + 1000 → Save p c H H' → Q (.ref t) H'
section
variable {P : Program} {w : World} {K : PySem.W.Frag} {mg : Str → Option Value} {base : Heap}
abbrev nHi : List Str := ["_law_deck_here", "_law_machines", "_law_many", "_law_things", "_law_opened", "_law_counts", "_law_k", "_law_way", "_law_did_here", "_law_number"]
theorem scHi : FnScope nHi ["_law_deck_here", "_law_machines", "_law_many"] (defScope sHist) := ⟨rfl, rfl, rfl, by decide +kernel, rfl, by decide +kernel, by decide +kernel⟩
theorem ok_hist {f fI fP fD : Addr} {fd fdI fdP fdD : FuncData} (F : Fun K "_law_history" "_law_history" sHist f fd) (mlen : mg "len" = none) (mrange : mg "range" = none) (mtup : mg "tuple" = none)
    (GI : FnOk P w K mg base CX0 3 fI fdI ["_law_deck_here", "_law_machines"] spDid) (mI : mg "_law_did" = some (.ref fI)) (kI : PySem.W.keepIn K (.ref fI) = true) (bI : Binds K fdI ["_law_deck_here", "_law_machines"] [])
    (GP : FnOk P w K mg base CX0 2 fP fdP ["_law_deck_here", "_law_some"] spPick) (mP : mg "_law_pick" = some (.ref fP)) (kP : PySem.W.keepIn K (.ref fP) = true) (bP : Binds K fdP ["_law_deck_here", "_law_some"] [])
    (GD : FnOk P w K mg base CX0 1 fD fdD ["_law_deck_here", "_law_count"] spDigit) (mD : mg "_law_draw" = some (.ref fD)) (kD : PySem.W.keepIn K (.ref fD) = true) (bD : Binds K fdD ["_law_deck_here", "_law_count"] []) :
    FnOk P w K mg base CX0 4 f fd ["_law_deck_here", "_law_machines", "_law_many"] spHist := by
  refine F.ok scHi (fun vs H Q E h => ?_) (fun cdv A outer s H vs Q E hr h => ?_)
  · obtain ⟨p, c, O, ks, y, n, m, ov, sss, rfl, _⟩ := h
    rfl
  · obtain ⟨p, c, O, ks, y, n, m, ov, sss, rfl, FA, hn, m0, m2, hO, tO, o1, o4, ko, Op, Oc, k⟩ := h
    have hu := hr.units
    have hr1 := hr.mono (show 1 ≤ 3 by omega)
    have hr2 := hr.mono (show 2 ≤ 3 by omega)
    refine ⟨_, (pss_cons (ps_par3 (i := 3) (j := 4) (l := 5) rfl scHi.nd rfl rfl rfl (by decide) (by decide) (by decide) rfl rfl rfl (pa_cons (pe_lst pa_nil) (pa_cons (pe_lst pa_nil) (pa_cons (pe_lst pa_nil) pa_nil))) (by rfl)) (pss_cons (ps_for PassesOwn.never rfl (pi_range1 (by rfl) mrange (pa_cons (pe_call GD hr1 (by rfl) mD kD bD .nil pass0 (pa_cons (pv 0) (pa_cons (pe_op op_add (pv 2) pe_int) pa_nil))) pa_nil)) (pg_name (i := 6) scHi.nd rfl (Or.inl rfl)) (pss_cons (ps_set (i := 7) scHi.nd rfl (Or.inl rfl) (pe_call GD hr1 (by rfl) mD kD bD .nil pass0 (pa_cons (pv 0) (pa_cons pe_int pa_nil)))) (pss_one (ps_if (PT.wk (u := u1) (PW.pt (pw_and (pt_cmpR op_lt (pe_callB (r := rLenQ K) call_len_seq (by rfl) mlen PySem.boot_len (pa_cons (pv 5) pa_nil)) pe_int (nomark _)) (pw_and1 (PW.pt (pw_or (pt_cmpR (op_eqD hu) (pv 4) (pe_lst pa_nil) (nomark _)) (pw_or1 (pt_cmpR op_eq (pv 7) pe_int (nomark _)))))))) (fun σ H Q ⟨C, Oq, cs, os, wy, e5, e4, e7, hC, hO, qt, qf⟩ => by
      refine ⟨_, e5, C, _, rfl, .inl (SqL.of hC), _, _, rfl, rfl, _, rfl, ?_⟩
      rw [List.length_map]
      by_cases c10 : cs.length < 10
      · rw [decide_eq_true (show (cs.length : Int) < 10 by omega)]
        refine iteT ⟨_, e4, by show 0 ≤ sizeLine; decide, fun e he => ⟨_, _, .lst (SqL.of (same_new he _ _ hO)) (dp_ints os), .lst (SqL.of upd_same) .nil, shaped_ints os, by decide, _, rfl, ?_⟩⟩
        rw [eqv_ints]
        have s := same_new (o := .lst []) he
        cases os with
        | nil => exact iteT (qt _ s c10)
        | cons z os =>
          refine iteF ⟨_, e7, rfl, _, rfl, ?_⟩
          cases decide (V.int wy = V.int 0) with
          | true => exact qt _ s c10
          | false => exact qf _ s
      · rw [decide_eq_false (show ¬ (cs.length : Int) < 10 by omega)]
        exact iteF (qf _ (Same.refl H)))) (pss_cons (ps_expr (pe_bm PySem.F.plainAttrs_list PySem.F.slot_list_append PySem.F.type_list_append mt_append (pv 3) (pa_cons (pe_tup (pa_cons pe_str pa_nil)) pa_nil))) (pss_cons (ps_expr (pe_bm PySem.F.plainAttrs_list PySem.F.slot_list_append PySem.F.type_list_append mt_append (pv 4) (pa_cons (pe_callB (r := rLenQ K) call_len_seq (by rfl) mlen PySem.boot_len (pa_cons (pv 5) pa_nil)) pa_nil))) (pss_one (ps_expr (pe_bm PySem.F.plainAttrs_list PySem.F.slot_list_append PySem.F.type_list_append mt_append (pv 5) (pa_cons pe_int pa_nil)))))) (pss_one (ps_if (PT.wk (u := u2) (PW.pt (pw_and (pt_cmpR (op_neD hu) (pv 4) (pe_lst pa_nil) (nomark _)) (pw_and1 (pt_cmpR op_lt (pv 7) pe_int (nomark _))))) (fun σ H Q ⟨Oq, os, wy, e4, e7, hO, qt, qf⟩ => by
      refine ⟨_, e4, by show 0 ≤ sizeLine; decide, fun e he => ⟨_, _, .lst (SqL.of (same_new he _ _ hO)) (dp_ints os), .lst (SqL.of upd_same) .nil, shaped_ints os, by decide, _, rfl, ?_⟩⟩
      rw [eqv_ints]
      have s := same_new (o := .lst []) he
      cases os with
      | nil => exact iteF (qf _ s)
      | cons z os =>
        refine iteT ⟨_, e7, _, _, rfl, rfl, _, rfl, ?_⟩
        by_cases w6 : wy < 6
        · rw [decide_eq_true w6]
          exact qt _ s (by simp) w6
        · rw [decide_eq_false w6]
          exact qf _ s)) (pss_cons (ps_par (i := 8) (j := 9) rfl scHi.nd rfl rfl (by decide) rfl rfl (pa_cons (pe_call GI hr (by rfl) mI kI bI .nil pass0 (pa_cons (pv 0) (pa_cons (pv 1) pa_nil))) (pa_cons (pe_call GP hr2 (by rfl) mP kP bP .nil pass0 (pa_cons (pv 0) (pa_cons (pv 4) pa_nil))) pa_nil)) (by rfl)) (pss_one (ps_if (PW.pt (pw_and (pt_cmp (pc_notN (pv 8))) (pw_and1 (pt_cmpR op_lt (pe_ix (r := rIxL K) ix_list (pv 5) (pv 9) (fun _ _ => rfl)) pe_int (nomark _))))) (pss_cons (ps_expr (pe_bm PySem.F.plainAttrs_list PySem.F.slot_list_append PySem.F.type_list_append mt_append (pv 3) (pa_cons (pe_op op_catA (pe_tup (pa_cons pe_str (pa_cons (pv 9) pa_nil))) (pv 8)) pa_nil))) (pss_one (ps_asg (pe_op op_add (pe_ix (r := rIxL K) ix_list (pv 5) (pv 9) (fun _ _ => rfl)) pe_int) (pg_sub (pv 5) (pv 9) set_list)))) pss_nil))) (pss_one (ps_if (pt_cmpR (op_neD hu) (pv 4) (pe_lst pa_nil) (nomark _)) (pss_cons (ps_set (i := 9) scHi.nd rfl (Or.inl rfl) (pe_call GP hr2 (by rfl) mP kP bP .nil pass0 (pa_cons (pv 0) (pa_cons (pv 4) pa_nil)))) (pss_cons (ps_expr (pe_bm PySem.F.plainAttrs_list PySem.F.slot_list_remove PySem.F.type_list_remove (mt_removeZ hu) (pv 4) (pa_cons (pv 9) pa_nil))) (pss_one (ps_expr (pe_bm PySem.F.plainAttrs_list PySem.F.slot_list_append PySem.F.type_list_append mt_append (pv 3) (pa_cons (pe_tup (pa_cons (PE.wk (u := u4) (pe_ifExp (PW.pt (pw_or (pt_cmpR op_eq (pv 7) pe_int (nomark _)) (pw_or1 (pt_cmpR op_eq (pe_call GD hr1 (by rfl) mD kD bD .nil pass0 (pa_cons (pv 0) (pa_cons pe_int pa_nil))) pe_int (nomark _))))) pe_str pe_str) (fun σ H Q ⟨p, c, ks, y, n, wy, e0, e7, FA, hn, q⟩ => by
      refine ⟨_, e7, rfl, _, rfl, ?_⟩
      cases decide (V.int wy = V.int 6) with
      | true => exact iteT (q _ ks n H (.inl rfl) FA (by omega) (Save.refl p c H))
      | false =>
        refine iteF ⟨_, e0, p, c, ks, y, n, 2, rfl, FA, by omega, by decide, by decide, fun d ks1 H1 d0 d2 F1 sv1 => ⟨rfl, _, rfl, ?_⟩⟩
        cases decide (V.int d = V.int 0) with
        | true => exact iteT (q _ ks1 _ H1 (.inl rfl) F1 (by omega) sv1)
        | false => exact iteF (q _ ks1 _ H1 (.inr rfl) F1 (by omega) sv1))) (pa_cons (pv 9) pa_nil))) pa_nil)))))) pss_nil)))))))) (pss_one (ps_ret (pe_callTy call_tuple_of (by rfl) mtup (by decide +kernel) (pa_cons (pv 3) pa_nil)))))), ?_⟩
    have n0 := FA.n0
    refine ⟨by show 0 ≤ sizeLine; decide, fun T hT => ⟨by show 0 ≤ sizeLine; decide, fun Oq hOq => ⟨by show 0 ≤ sizeLine; decide, fun C hC => ⟨_, _, _, rfl, ?_⟩⟩⟩⟩
    obtain ⟨nOT, fO⟩ := new_ne hOq
    obtain ⟨nCO, hC1⟩ := new_ne hC
    obtain ⟨nCT, fC⟩ := new_ne hC1
    have off : ∀ x : Addr, H x = none → x ≠ p ∧ x ≠ c := fun x z => ⟨Ne.symm (ne_of_none FA.ob z), Ne.symm (ne_of_none FA.cs z)⟩
    have D : Dst H p c T Oq C := ⟨(off T hT).1, (off T hT).2, (off Oq fO).1, (off Oq fO).2, (off C fC).1, (off C fC).2, Ne.symm nOT, Ne.symm nCT, Ne.symm nCO, hT, fO, fC⟩
    have s0 := (same_new (o := .lst []) hT).trans ((same_new (o := .lst []) hOq).trans (same_new (o := .lst []) hC))
    have S0 : HSt H (upd (upd (upd H T (.lst [])) Oq (.lst [])) C (.lst [])) p c T Oq C y n [] [] [] [] :=
      ⟨⟨ks, FA.same s0⟩, Save.of s0, same_new hC _ _ (same_new hOq _ _ upd_same), .nil, same_new hC _ _ upd_same, upd_same⟩
    generalize upd (upd (upd H T (.lst [])) Oq (.lst [])) C (.lst []) = H0 at S0 ⊢
    obtain ⟨ks0, F0⟩ := S0.fd
    refine ⟨_, rfl, _, rfl, _, _, rfl, rfl, p, c, ks0, y, n, _, rfl, F0, by omega, by omega, by omega, fun r ks1 H1 r0 r1 F1 sv1 => ?_⟩
    have S1 := S0.step D sv1 ⟨_, F1⟩
    refine ⟨r, rfl, by omega, by omega, for_range (lo := 0) (n := r.toNat) (fun j σ H2 => ∃ (o6 o7 o8 o9 : Option V) (n2 : Int) (tv : List V) (ths : List Th) (os cs : List Int), σ = [some (.ref p), some (.ref O), some (.int m), some (.ref T), some (.ref Oq), some (.ref C), o6, o7, o8, o9] ∧
        HSt H H2 p c T Oq C y n2 tv ths os cs ∧ n2 ≤ n + 1 + 5 * (j : Int) ∧ AllFit ths ∧ ths.length ≤ j ∧ HInv (lawRun ths) os cs)
      ⟨none, none, none, none, n + 1, [], [], [], [], rfl, S1, by omega, fit_nil, Nat.le_refl _, ⟨List.nodup_nil, (fun z m => nomatch m), rfl, Nat.le_refl _, Nat.zero_le _, (fun x m => nomatch m)⟩⟩ ?_ ?_⟩
    · rintro j σ H2 hj ⟨o6, o7, o8, o9, n2, tv, ths, os, cs, rfl, S2, le2, af, tl, hi⟩
      obtain ⟨ks2, F2⟩ := S2.fd
      have tvl := S2.tt.lenm
      have ol := hi.ol
      have few := hi.few
      refine ⟨_, rfl, p, c, ks2, y, n2, 8, rfl, F2, by omega, by decide, by decide, fun wy ks3 H3 w0 w8 F3 sv3 => ?_⟩
      have S3 := S2.step D sv3 ⟨_, F3⟩
      clear S2 F2 F3 sv3
      refine ⟨C, Oq, cs, os, wy, rfl, rfl, rfl, S3.cs_, S3.oo, fun H4 s4 c10 => ?_, fun H4 s4 => ?_⟩
      · refine iteT ?_
        have S4 := S3.same D s4
        refine ⟨_, rfl, .inl ⟨rfl, _, SqL.of S4.ht⟩, by show 1 ≤ sizeLine; decide, fun b hb => ?_⟩
        have S5 := S4.same D (same_new (o := .tup [V.str "begin"]) hb)
        have tb : TD (upd H4 b (.tup [V.str "begin"])) (.ref b) (thD .beg) := .tup upd_same (.cons (.str _) .nil)
        have S6 := S5.putT D (th := .beg) tb
        refine ⟨T, tv, _, rfl, rfl, S5.ht, small_lt (m := 200) (by omega), ?_⟩
        refine ⟨_, rfl, .inl ⟨rfl, _, SqL.of S6.oo⟩, _, rfl, C, _, rfl, .inl (SqL.of S6.cs_), Oq, _, _, rfl, rfl, S6.oo, small_lt (m := 10) (by rw [List.length_map]; omega), ?_⟩
        have e1 : os.map V.int ++ [V.int ((cs.map V.int).length : Int)] = (os ++ [(cs.length : Int)]).map V.int := by simp
        rw [e1]
        have S7 := S6.putO D (os' := os ++ [(cs.length : Int)])
        refine ⟨_, rfl, .inl ⟨rfl, _, SqL.of S7.cs_⟩, C, _, _, rfl, rfl, S7.cs_, small_lt (m := 10) (by rw [List.length_map]; omega), ?_⟩
        have e2 : cs.map V.int ++ [V.int 0] = (cs ++ [0]).map V.int := by simp
        rw [e2]
        exact ⟨_, _, _, _, n2 + 1, tv ++ [.ref b], ths ++ [.beg], os ++ [(cs.length : Int)], cs ++ [0], rfl, S7.putC D, by omega, fit_snoc (th := .beg) af trivial, by rw [List.length_append]; exact Nat.succ_le_succ tl, by rw [run_snoc]; exact hi.beg c10⟩
      · refine iteF ?_
        have S4 := S3.same D s4
        refine ⟨Oq, os, wy, rfl, rfl, S4.oo, fun H5 s5 ne w6 => ?_, fun H5 s5 => ?_⟩
        · refine iteT ?_
          have S5 := S4.same D s5
          obtain ⟨ks5, F5⟩ := S5.fd
          have o1' : 1 ≤ (os.map V.int).length := by
            rw [List.length_map]
            cases os with
            | nil => exact absurd rfl ne
            | cons z os => exact Nat.succ_le_succ (Nat.zero_le _)
          have o2' : (os.map V.int).length ≤ 100 := by rw [List.length_map]; omega
          refine ⟨_, rfl, _, rfl, p, c, O, ks5, y, n2 + 1, ov, sss, rfl, F5, by omega, S5.sv _ _ hO Op Oc, tO.to (Save.tup FA S5.sv), o1, o4, ko, Op, Oc, fun ks6 n6 H6 F6 le6 sv6 => ?_, fun t i x z ks6 n6 H6 ht i0 i4 wx wz F6 le6 sv6 => ?_⟩
          · have S6 := S5.step D sv6 ⟨_, F6⟩
            refine ⟨_, rfl, _, rfl, p, c, Oq, _, ks6, y, n6, rfl, F6, by omega, S6.oo, D.op, D.oc, o1', o2', fun v ks7 H7 mv F7 sv7 => ⟨_, _, rfl, ?_⟩⟩
            have S7 := S6.step D sv7 ⟨_, F7⟩
            refine ⟨_, rfl, _, rfl, ?_⟩
            rw [show (!decide (V.non = V.non)) = false from by simp]
            refine iteF (iteF ?_)
            exact ⟨_, _, _, _, n6 + 1, tv, ths, os, cs, rfl, S7, by omega, af, by omega, hi⟩
          · have S6 := S5.step D sv6 ⟨_, F6⟩
            refine ⟨_, rfl, _, rfl, p, c, Oq, _, ks6, y, n6, rfl, F6, by omega, S6.oo, D.op, D.oc, o1', o2', fun v ks7 H7 mv F7 sv7 => ⟨_, _, rfl, ?_⟩⟩
            have S7 := S6.step D sv7 ⟨_, F7⟩
            obtain ⟨nn, mo, rfl⟩ := List.mem_map.mp mv
            obtain ⟨p0, p1, p2⟩ := hi.op nn mo
            have cl := hi.cl
            obtain ⟨kk, ek, eat⟩ := at_intZ (cs := cs) p0 (by omega)
            refine ⟨_, rfl, _, rfl, ?_⟩
            rw [show (!decide (V.ref t = V.non)) = true from by simp]
            refine iteT ⟨_, rfl, _, rfl, C, _, nn, _, rfl, rfl, SqL.of S7.cs_, eat, _, _, rfl, rfl, _, rfl, ?_⟩
            by_cases k12 : kk < 12
            · rw [decide_eq_true k12]
              refine iteT ?_
              have ht7 := Save.tup F6 sv7 _ _ ht
              refine ⟨_, rfl, .inl ⟨rfl, _, SqL.of S7.ht⟩, _, rfl, by show 2 ≤ sizeLine; decide, fun b hb => ⟨_, rfl, ?_⟩⟩
              have s8 := same_new (o := .tup [V.str "did", .int nn]) hb
              refine ⟨b, t, _, _, rfl, rfl, upd_same, s8 _ _ ht7, by show 5 ≤ sizeLine; decide, fun R H9 s9 hR => ?_⟩
              have S9 := S7.same D (s8.trans s9)
              have tb : TD H9 (.ref R) (thD (.did nn (i, x, z))) := .tup hR (.cons (.str _) (.cons (.int _) (.cons (.int _) (.cons (.str _) (.cons (.str _) .nil)))))
              have Sa := S9.putT D tb
              refine ⟨T, tv, _, rfl, rfl, S9.ht, small_lt (m := 200) (by omega), ?_⟩
              refine ⟨_, rfl, _, rfl, C, _, nn, _, rfl, rfl, SqL.of Sa.cs_, eat, _, _, rfl, rfl, _, rfl, _, rfl, C, _, nn, nn.toNat, rfl, rfl, Sa.cs_, ?_, ?_⟩
              · have z1 := Evl.ixN_nat (n := (cs.map V.int).length) (j := nn.toNat) (by rw [List.length_map]; omega)
                rwa [Int.toNat_of_nonneg p0] at z1
              · have e3 : (cs.map V.int).set nn.toNat (.int (kk + 1)) = (cs.set nn.toNat (kk + 1)).map V.int := by rw [List.map_set]
                rw [e3]
                exact ⟨_, _, _, _, n6 + 1, tv ++ [.ref R], ths ++ [.did nn (i, x, z)], os, cs.set nn.toNat (kk + 1), rfl, Sa.putC D, by omega, fit_snoc (th := .did nn (i, x, z)) af ⟨p0, p1, wx, wz⟩, by rw [List.length_append]; exact Nat.succ_le_succ tl, by rw [run_snoc]; exact hi.did (List.length_set ..) ⟨i0, i4, wx, wz⟩⟩
            · rw [decide_eq_false k12]
              refine iteF ?_
              exact ⟨_, _, _, _, n6 + 1, tv, ths, os, cs, rfl, S7, by omega, af, by omega, hi⟩
        · refine iteF ?_
          have S5 := S4.same D s5
          refine ⟨_, rfl, by show 0 ≤ sizeLine; decide, fun e he => ⟨_, _, .lst (SqL.of (same_new he _ _ S5.oo)) (dp_ints os), .lst (SqL.of upd_same) .nil, shaped_ints os, by decide, _, rfl, ?_⟩⟩
          rw [eqv_ints]
          have S6 := S5.same D (same_new (o := .lst []) he)
          by_cases ne : os = []
          · rw [show os.isEmpty = true from by rw [ne]; rfl]
            refine iteF ?_
            exact ⟨_, _, _, _, n2 + 1, tv, ths, os, cs, rfl, S6, by omega, af, by omega, hi⟩
          · have o1' : 1 ≤ (os.map V.int).length := by
              rw [List.length_map]
              cases os with
              | nil => exact absurd rfl ne
              | cons z os => exact Nat.succ_le_succ (Nat.zero_le _)
            have o2' : (os.map V.int).length ≤ 100 := by rw [List.length_map]; omega
            rw [show os.isEmpty = false from by simpa using ne]
            refine iteT ?_
            obtain ⟨ks6, F6⟩ := S6.fd
            refine ⟨_, rfl, _, rfl, p, c, Oq, _, ks6, y, n2 + 1, rfl, F6, by omega, S6.oo, D.op, D.oc, o1', o2', fun v ks7 H7 mv F7 sv7 => ?_⟩
            have S7 := S6.step D sv7 ⟨_, F7⟩
            obtain ⟨nn, mo, rfl⟩ := List.mem_map.mp mv
            obtain ⟨p0, p1, p2⟩ := hi.op nn mo
            refine ⟨_, rfl, .inl ⟨rfl, _, SqL.of S7.oo⟩, _, rfl, Oq, os, nn, rfl, rfl, S7.oo, mo, ?_⟩
            have S8 := S7.putO D (os' := os.erase nn)
            obtain ⟨ks8, F8⟩ := S8.fd
            refine ⟨_, rfl, .inl ⟨rfl, _, SqL.of S8.ht⟩, p, c, ks8, y, n2 + 1 + 1, wy, rfl, rfl, F8, by omega, fun z ks9 n9 H9 hz F9 le9 sv9 => ⟨_, rfl, by show 2 ≤ sizeLine; decide, fun b hb => ?_⟩⟩
            have S9 := (S8.step D sv9 ⟨_, F9⟩).same D (same_new (o := .tup [V.str z, .int nn]) hb)
            have at_ : (upd H9 b (.tup [V.str z, .int nn])) b = some (.tup [V.str z, .int nn]) := upd_same
            generalize upd H9 b (.tup [V.str z, .int nn]) = Ha at S9 at_ ⊢
            refine ⟨T, tv, _, rfl, rfl, S9.ht, small_lt (m := 200) (by omega), ?_⟩
            rcases hz with rfl | rfl
            · exact ⟨_, _, _, _, n9, tv ++ [.ref b], ths ++ [.com nn], os.erase nn, cs, rfl, S9.putT D (th := .com nn) (.tup at_ (.cons (.str _) (.cons (.int _) .nil))), by omega, fit_snoc (th := .com nn) af ⟨p0, p1, p2⟩, by rw [List.length_append]; exact Nat.succ_le_succ tl, by rw [run_snoc]; exact hi.fin p0⟩
            · exact ⟨_, _, _, _, n9, tv ++ [.ref b], ths ++ [.abo nn], os.erase nn, cs, rfl, S9.putT D (th := .abo nn) (.tup at_ (.cons (.str _) (.cons (.int _) .nil))), by omega, fit_snoc (th := .abo nn) af ⟨p0, p1, p2⟩, by rw [List.length_append]; exact Nat.succ_le_succ tl, by rw [run_snoc]; exact hi.fin p0⟩
    · rintro σ H2 ⟨o6, o7, o8, o9, n2, tv, ths, os, cs, rfl, S2, le2, af, tl, hi⟩
      obtain ⟨ks2, F2⟩ := S2.fd
      refine ⟨_, rfl, T, tv, rfl, .inl ⟨SqL.of S2.ht, fun b hb => ?_⟩⟩
      exact k b ths ks2 n2 _ (.tup upd_same (S2.tt.to (Tup.new hb))) af (by omega) (by have := hi.cl; have := hi.few; omega) hi.ok (F2.same (same_new hb)) (by omega) (S2.sv.trans (Save.of (same_new hb)))
end
end My

-- ===== K14W =====
set_option Elab.async false
set_option linter.all false
set_option maxRecDepth 100000
set_option maxHeartbeats 4000000
namespace My
open PySem L2 PyProof.Rows PySem.Spec Kd
/-! ### how long the logs' texts are -/
theorem sh_small : ∀ i : Fin 300, (PyData.int (i.val : Int)).showable = true ∧ (PyData.int (i.val : Int)).shown.length ≤ 4 := by decide +kernel
theorem sh_int {i : Int} (h0 : 0 ≤ i) (h1 : i < 300) : Sh 4 (.int i) := by
  have z := sh_small ⟨i.toNat, by omega⟩
  rw [show ((⟨i.toNat, by omega⟩ : Fin 300).val : Int) = i from Int.toNat_of_nonneg h0] at z
  exact ⟨z.1, z.2⟩
theorem sh_wrd {z : Str} (h : Wrd z) : Sh 122 (.str z) := by
  have h2 : ∀ c ∈ LETS.cps.toList, c < 256 := by decide +kernel
  have := PySem.StrLaws.reprText_len z fun c m => Nat.lt_trans (h2 c (h.2.2 c m)) (by decide)
  have := h.2.1
  exact ⟨by simp only [PyData.showable], by simp only [PyData.shown]; omega⟩
theorem sh_bool (b : Bool) : Sh 5 (.bool b) := by cases b <;> exact ⟨by decide +kernel, by decide +kernel⟩
theorem sh_act {a : Act} (h : 0 ≤ a.1 ∧ a.1 < 4 ∧ Wrd a.2.1 ∧ Wrd a.2.2) : Sh 375 (actD a) :=
  sh_tuple (k := 122) (m := 3) (fun d hd => by
    rcases List.mem_cons.mp hd with rfl | hd
    · exact sh_mono (sh_int h.1 (by omega)) (by decide)
    rcases List.mem_cons.mp hd with rfl | hd
    · exact sh_wrd h.2.2.1
    · rw [List.mem_singleton.mp hd]
      exact sh_wrd h.2.2.2) (Nat.le_refl _)
structure EntOk (e : Ent) : Prop where
  n0 : 0 ≤ e.num
  n1 : e.num < 10
  bl : e.bef.length ≤ 10
  bi : ∀ i ∈ e.bef, 0 ≤ i ∧ i < 10
  rl : e.row.length ≤ 200
  rw_ : ∀ a ∈ e.row, 0 ≤ a.1 ∧ a.1 < 4 ∧ Wrd a.2.1 ∧ Wrd a.2.2
theorem sh_ent {e : Ent} (h : EntOk e) : Sh 301623 (entD e) :=
  sh_tuple (k := 75403) (m := 4) (fun d hd => by
    rcases List.mem_cons.mp hd with rfl | hd
    · exact sh_mono (sh_int h.n0 (by have := h.n1; omega)) (by decide)
    rcases List.mem_cons.mp hd with rfl | hd
    · exact sh_mono (sh_bool _) (by decide)
    rcases List.mem_cons.mp hd with rfl | hd
    · exact sh_mono (sh_tuple (k := 4) (m := 10) (fun d hd => by
        obtain ⟨i, m, rfl⟩ := List.mem_map.mp hd
        exact sh_int (h.bi i m).1 (by have := (h.bi i m).2; omega)) (by rw [List.length_map]; exact h.bl)) (by decide)
    · rw [List.mem_singleton.mp hd]
      exact sh_tuple (k := 375) (m := 200) (fun d hd => by
        obtain ⟨a, m, rfl⟩ := List.mem_map.mp hd
        exact sh_act (h.rw_ a m)) (by rw [List.length_map]; exact h.rl)) (Nat.le_refl _)
theorem ent_mem : ∀ (S : List Row) (k : Int), (entFrom k S).length ≤ S.length ∧ ∀ e ∈ entFrom k S, k ≤ e.num ∧ e.num < k + S.length ∧ ∃ x ∈ S, e.bef = x.bef ∧ e.row = x.row
  | [], k => ⟨Nat.le_refl _, fun e m => nomatch m⟩
  | x :: S, k => by
    obtain ⟨h1, h2⟩ := ent_mem S (k + 1)
    unfold entFrom
    refine ⟨?_, fun e m => ?_⟩
    · rw [List.length_append, List.length_cons]
      split <;> simp <;> omega
    · rw [List.length_cons]
      rcases List.mem_append.mp m with m | m
      · split at m
        · cases m
        · rw [List.mem_singleton.mp m]
          exact ⟨Int.le_refl _, by show k < _; omega, x, List.mem_cons_self, rfl, rfl⟩
      · obtain ⟨a, b, y, my, e1, e2⟩ := h2 e m
        exact ⟨by omega, by omega, y, List.mem_cons_of_mem _ my, e1, e2⟩
theorem sh_log {z : Nat} {S : List Row} (hz : z ≤ 4) (hl : S.length ≤ 10) (ok : ∀ x ∈ S, RowOk x) (rl : ∀ x ∈ S, x.row.length ≤ 200) : Sh 6032513 (logD z (entFrom 0 S)) := by
  obtain ⟨e1, e2⟩ := ent_mem S 0
  refine sh_tuple (k := 3016253) (m := 2) (fun d hd => ?_) (Nat.le_refl _)
  rcases List.mem_cons.mp hd with rfl | hd
  · exact sh_mono (sh_tuple (k := 27) (m := 1) (fun d hd => by
      rw [List.mem_singleton.mp hd]
      exact sh_tuple (k := 4) (m := 4) (fun d hd => by
        rw [List.eq_of_mem_replicate hd]
        exact sh_int (by decide) (by decide)) (by rw [List.length_replicate]; exact hz)) (Nat.le_refl _)) (by decide)
  · rw [List.mem_singleton.mp hd]
    refine sh_tuple (k := 301623) (m := 10) (fun d hd => ?_) (by rw [List.length_map]; omega)
    obtain ⟨e, m, rfl⟩ := List.mem_map.mp hd
    obtain ⟨a, b, x, mx, q1, q2⟩ := e2 e m
    have h := ok x mx
    exact sh_ent ⟨a, by omega, by rw [q1]; exact h.bl, by rw [q1]; exact h.bi, by rw [q2]; exact rl x mx, by rw [q2]; exact h.rw_⟩
theorem deep_all {α : Type} {f : α → PyData} {k : Nat} : ∀ (l : List α), (∀ x ∈ l, (f x).depth ≤ k) → PyData.depthAll (l.map f) ≤ k
  | [], _ => by simp [PyData.depthAll]
  | x :: l, h => by
    have h1 := h x List.mem_cons_self
    have h2 := deep_all l fun y m => h y (List.mem_cons_of_mem _ m)
    simp only [List.map_cons, PyData.depthAll]
    omega
theorem deep_rep : ∀ z : Nat, PyData.depthAll (List.replicate z (PyData.int 0)) ≤ 0
  | 0 => by simp [PyData.depthAll]
  | z + 1 => by
    have := deep_rep z
    rw [List.replicate_succ]
    simp only [PyData.depthAll, PyData.depth]
    omega
theorem deep_log (z : Nat) (es : List Ent) : (logD z es).depth ≤ 10 := by
  have h1 := deep_rep z
  have h2 : PyData.depthAll (es.map entD) ≤ 4 := deep_all es fun e _ => by
    have a1 := deep_all (f := PyData.int) (k := 0) e.bef fun x _ => by simp [PyData.depth]
    have a2 := deep_all (f := actD) (k := 1) e.row fun x _ => by simp [actD, PyData.depth, PyData.depthAll]
    unfold entD
    simp only [PyData.depth, PyData.depthAll]
    omega
  unfold logD
  simp only [PyData.depth, PyData.depthAll]
  omega
/-- which many -/
def u5 : TE := fun σ H Q => ∃ t : Int, σ[2]? = some (some (.int t)) ∧ ∀ z : Int, 0 ≤ z → z ≤ 200 → Q (.int z) H
def spLaw (K : PySem.W.Frag) : Sp := fun vs H Q _ => ∃ (a : Addr) (ns : List Int), vs = [.ref a] ∧ SqL K H a (ns.map V.int) ∧ ns.length ≤ 63 ∧ Bits ns ∧ ∀ H', Q (.bl true) H'
end My

-- ===== K14X =====
set_option Elab.async false
set_option linter.all false
set_option maxRecDepth 100000
set_option maxHeartbeats 4000000
namespace My
open PySem L2 PyProof.Rows PySem.Spec Kd
theorem fnR_of {P : Program} {w : World} {K : PySem.W.Frag} {mg : Str → Option Value} {base : Heap} {CX : CXT} {k : Nat} {f : Addr} {fd : FuncData} {ps : List Str} {sp : Sp} (F : FnOk P w K mg base CX k f fd ps sp) (hb : Binds K fd ps []) : FnR P w K mg base CX k f sp :=
  (F.raw hb .nil).imp fun vs H Q E h => by rw [List.append_nil]; exact h
/-- two arguments by name, in the other order -/
def kgl {α : Type} : List α → List α → List α
  | [], [a, b] => [b, a]
  | _, _ => []
/-- what the law takes of the class -/
structure KOf (P : Program) (w : World) (K : PySem.W.Frag) (mg : Str → Option Value) (base : Heap) (C : Addr) : Prop where
  nm : mg "Kind" = some (.ref C)
  cr : ∃ mc, ClX.CRead K C mc ∧ ∃ p g fd, ClX.CMet K C mc "of" p g ∧ FnOk P w K mg base CX0 7 g fd ["cls", "states"] (spOf C) ∧ Binds K fd ["cls", "states"] []
section
variable {P : Program} {w : World} {K : PySem.W.Frag} {mg : Str → Option Value} {base : Heap} {C : Addr}
abbrev nLw : List Str := ["_law_script", "_law_deck_here", "_law_turn", "_law_objects", "_law_house", "_law_acts", "_law_due_here", "_law_states_here"]
theorem scLw : FnScope nLw ["_law_script"] (defScope sLaw) := ⟨rfl, rfl, rfl, by decide +kernel, rfl, by decide +kernel, by decide +kernel⟩
theorem ok_law {f fF fS fH fU fO : Addr} {fd fdF fdS fdH fdU fdO : FuncData} (F : Fun K "law" "law" sLaw f fd) (T : KOf P w K mg base C) (mrange : mg "range" = none) (mtup : mg "tuple" = none) (mrepr : mg "repr" = none)
    (GF : FnOk P w K mg base CX0 1 fF fdF ["_law_script"] (spFeed K)) (mF : mg "_law_deck" = some (.ref fF)) (kF : PySem.W.keepIn K (.ref fF) = true) (bF : Binds K fdF ["_law_script"] [])
    (GS : FnOk P w K mg base CX0 4 fS fdS ["_law_deck_here"] spSystem) (mS : mg "_law_system" = some (.ref fS)) (kS : PySem.W.keepIn K (.ref fS) = true) (bS : Binds K fdS ["_law_deck_here"] [])
    (GH : FnOk P w K mg base CX0 4 fH fdH ["_law_deck_here", "_law_machines", "_law_many"] spHist) (mH : mg "_law_history" = some (.ref fH)) (kH : PySem.W.keepIn K (.ref fH) = true) (bH : Binds K fdH ["_law_deck_here", "_law_machines", "_law_many"] [])
    (GU : FnOk P w K mg base CX0 1 fU fdU ["_law_objects", "_law_acts"] spDue) (mU : mg "_law_due" = some (.ref fU)) (kU : PySem.W.keepIn K (.ref fU) = true) (bU : Binds K fdU ["_law_objects", "_law_acts"] [])
    (GO : FnOk P w K mg base CX0 4 fO fdO ["system", "history"] spLogOf) (mO : mg "log_of" = some (.ref fO)) (kO : PySem.W.keepIn K (.ref fO) = true) (bO : Binds K fdO ["system", "history"] []) (kbO : KBinds K fdO ["system", "history"] ["history", "system"] kgl kgl) :
    FnG true (fun A => A.guards = some []) P w K mg base CX0 8 f fd ["_law_script"] (spLaw K) := by
  obtain ⟨mc, cr, p1, g1, fd1, m1, G1, b1⟩ := T.cr
  have R1 := fnR_of G1 b1
  refine okG F scLw (fun vs H Q E h => ?_) (fun cdv A outer s H vs Q E hh hgA hr h => ?_)
  · obtain ⟨a, ns, rfl, _⟩ := h
    rfl
  · obtain ⟨a, ns, rfl, hS, hlen, hbits, k⟩ := h
    have hR : Room 7 (A.deeper (envOfC "law" (defScope sLaw) s.heap.objs.size f cdv)) := ⟨hh rfl, hr.dp, hr.un⟩
    have hG : (A.deeper (envOfC "law" (defScope sLaw) s.heap.objs.size f cdv)).guards = some [] := hgA
    have hu := hR.units
    have hR4 := hR.mono (show 4 ≤ 7 by omega)
    have hR1 := hR.mono (show 1 ≤ 7 by omega)
    refine ⟨_, PSs.nox (pss_cons (ps_set (i := 1) scLw.nd rfl (Or.inl rfl) (pe_call GF hR1 (by rfl) mF kF bF .nil pass0 (pa_cons (pv 0) pa_nil)))
      (pss_cons (ps_for PassesOwn.never rfl (pi_range1 (by rfl) mrange (pa_cons pe_int pa_nil)) (pg_name (i := 2) scLw.nd rfl (Or.inl rfl))
        (pss_cons (ps_set (i := 3) scLw.nd rfl (Or.inl rfl) (pe_call GS hR4 (by rfl) mS kS bS .nil pass0 (pa_cons (pv 1) pa_nil)))
        (pss_cons (ps_set (i := 4) scLw.nd rfl (Or.inl rfl) (pe_callTy call_tuple_of (by rfl) mtup (by decide +kernel) (pa_cons (pe_lc (own := [("_law_states_here", 7)]) (g := gName 7) (tt := tYes) rfl scLw.nd (pi_list (pv 3)) (blkOk_by (N := nLw) (sc := defScope sLaw) (by decide +kernel))
            (fun _ _ _ _ _ => pg_name (i := 7) scLw.nd rfl (Or.inl rfl)) (fun _ _ _ _ _ => pts_nil) (fun _ _ _ _ _ => ClX.pe_cmeth (pl := _) (pe_glob (v := .ref C) (by rfl) T.nm rfl) cr m1 R1 hR pass0 (pa_cons (pv 7) pa_nil))) pa_nil)))
        (pss_cons (ps_set (i := 5) scLw.nd rfl (Or.inl rfl) (pe_call GH hR4 (by rfl) mH kH bH .nil pass0 (pa_cons (pv 1) (pa_cons (pv 3) (pa_cons (PE.wk (u := u5) (pe_ifExp (pt_cmpR op_gt (pv 2) pe_int (nomark _)) pe_int pe_int) (fun σ H Q ⟨t, e2, q⟩ => by
              refine ⟨_, e2, _, _, rfl, rfl, _, rfl, ?_⟩
              cases decide (t > 0) with
              | true => exact iteT (q 30 (by decide) (by decide))
              | false => exact iteF (q 200 (by decide) (by decide)))) pa_nil)))))
        (pss_cons (ps_set (i := 6) scLw.nd rfl (Or.inl rfl) (pe_callB (call_reprD (F := fun _ => True) hG hu) (by rfl) mrepr boot_repr (pa_cons (pe_call GU hR1 (by rfl) mU kU bU .nil pass0 (pa_cons (pv 3) (pa_cons (pv 5) pa_nil))) pa_nil)))
        (pss_one (ps_if (PW.pt (pw_or (pt_cmpR op_ne (pe_callB (call_reprD (F := fun _ => True) hG hu) (by rfl) mrepr boot_repr (pa_cons (pe_call GO hR4 (by rfl) mO kO bO .nil pass0 (pa_cons (pv 4) (pa_cons (pv 5) pa_nil))) pa_nil)) (pv 6) (nomark _))
            (pw_or1 (pt_cmpR op_ne (pe_callB (call_reprD (F := fun _ => True) hG hu) (by rfl) mrepr boot_repr (pa_cons (pe_callK0 GO hR4 (by rfl) mO kO kbO pass0 (pk_cons (pv 5) (pk_cons (pv 4) pk_nil))) pa_nil)) (pv 6) (nomark _)))))
          (pss_one (ps_ret pe_bl)) pss_nil)))))))
      (pss_one (ps_ret pe_bl)))), ?_⟩
    refine ⟨_, rfl, a, ns, rfl, hS, hlen, hbits, fun p c ks y H1 _ _ _ FA => ?_⟩
    refine ⟨6, rfl, by decide, by decide, for_range (lo := 0) (n := 6) (fun m σ H2 => ∃ (o2 o3 o4 o5 o6 : Option V) (ks' : List Int) (n' : Int), σ = [some (.ref a), some (.ref p), o2, o3, o4, o5, o6, none] ∧ FeedAt H2 p c ks' y n' ∧ n' ≤ 2000 * (m : Int)) ⟨none, none, none, none, none, ks, 0, rfl, FA, by omega⟩ ?_ ?_⟩
    · rintro m σ H2 hm ⟨o2, o3, o4, o5, o6, ks1, n1, rfl, FA1, le1⟩
      -- objects
      refine ⟨_, rfl, p, c, ks1, y, n1, rfl, FA1, by omega, fun O ov sss ks2 n2 H3 fO hO tO l1 l4 ko FA2 le2 sv2 => ?_⟩
      have off : ∀ x : Addr, H2 x = none → x ≠ p ∧ x ≠ c := fun x z => ⟨Ne.symm (ne_of_none FA1.ob z), Ne.symm (ne_of_none FA1.cs z)⟩
      have lov := tO.lenm
      -- house
      refine ⟨_, rfl, O, rfl, ⟨_, SqL.of hO⟩, fun D hD => lc_list (K := K) (a := O) (xs := ov) (fun i H4 => ∃ vs : List V, Same H3 H4 ∧ H4 D = some (.lst vs) ∧ vs.length = i) ⟨[], same_new hD, upd_same, rfl⟩ (fun i H4 _ ⟨_, s4, _⟩ => SqL.of (s4 _ _ hO)) (fun i x H4 ex ⟨vs, s4, d4, lv⟩ => ?_) fun H4 ⟨hv, s4, d4, lv⟩ => ?_⟩
      · obtain ⟨ss, es, td⟩ := tO.at_ ex
        have lt : i < sss.length := (List.getElem?_eq_some_iff.mp es).1
        obtain ⟨b, xs, rfl, hb, hx⟩ := TD.ref_of (ds := ss.map stateD) td
        refine ⟨rfl, rfl, _, rfl, b, ss, rfl, td.to (Tup.of s4), ko ss (List.mem_of_getElem? es), fun vm H5 s5 km => ⟨vs, s5 _ _ d4, small_lt (m := 4) (by omega), vs ++ [vm], same_at (s4.trans s5) hD, upd_same, by rw [List.length_append, lv]; rfl⟩⟩
      · refine ⟨D, hv, rfl, .inl ⟨SqL.of d4, fun W hW => ?_⟩⟩
        have s5 := s4.trans (same_new (o := .tup hv) hW)
        have hW5 : (upd H4 W (.tup hv)) W = some (.tup hv) := upd_same
        generalize upd H4 W (.tup hv) = H5 at s5 hW5 ⊢
        have FA5 := FA2.same s5
        -- the history
        refine ⟨_, rfl, _, rfl, _, rfl, fun z z0 z200 => ⟨p, c, O, ks2, y, n2, z, ov, sss, rfl, FA5, by omega, z0, z200, s5 _ _ hO, tO.to (Tup.of s5), l1, l4, ko, (off O fO).1, (off O fO).2, fun t ths ks3 n3 H6 tt af tl s10 rok FA6 le6 sv6 => ?_⟩⟩
        have hO6 := sv6 _ _ (s5 _ _ hO) (off O fO).1 (off O fO).2
        have hW6 := Save.tup FA5 sv6 _ _ hW5
        -- what is due
        refine ⟨_, rfl, _, rfl, O, t, ov, ths, rfl, hO6, by omega, tt, af, by omega, fun R H7 s7 tR => ?_⟩
        have rl : ∀ x ∈ lawRun ths, x.row.length ≤ 200 := fun x mx => by
          have q := (lbnd_run ths ths.length (Nat.le_refl _)).2 x (by rw [List.take_length]; exact mx)
          omega
        have sh := sh_log (z := ov.length) (by omega) s10 rok rl
        have dp := deep_log ov.length (entFrom 0 (lawRun ths))
        have szl : (logD ov.length (entFrom 0 (lawRun ths))).shown.length ≤ sizeLine := small_len (m := 6032513) sh.sz
        have same : logD hv.length (runS ths).2 = logD ov.length (entFrom 0 (lawRun ths)) := by
          have q := run_law ths af ths.length (Nat.le_refl _)
          rw [List.take_length] at q
          rw [q, lv]
        refine ⟨.ref R, _, rfl, tR.dq, sh.sh, by omega, szl, ?_⟩
        -- the two logs
        refine ⟨_, rfl, _, rfl, W, t, hv, ths, rfl, s7 _ _ hW6, by omega, tt.to (Tup.of s7), by omega, fun R2 H8 s8 tR2 => ?_⟩
        rw [same] at tR2
        refine ⟨.ref R2, _, rfl, tR2.dq, sh.sh, by omega, szl, _, rfl, rfl, _, rfl, ?_⟩
        rw [decide_eq_true rfl]
        refine iteF ⟨_, rfl, _, rfl, W, t, hv, ths, rfl, s8 _ _ (s7 _ _ hW6), by omega, tt.to (Tup.of (s7.trans s8)), by omega, fun R3 H9 s9 tR3 => ?_⟩
        rw [same] at tR3
        refine ⟨.ref R3, _, rfl, tR3.dq, sh.sh, by omega, szl, _, rfl, rfl, _, rfl, ?_⟩
        rw [decide_eq_true rfl]
        exact iteF ⟨_, _, _, _, _, ks3, n3, rfl, FA6.same (s7.trans (s8.trans s9)), by omega⟩
    · rintro σ H2 ⟨o2, o3, o4, o5, o6, ks1, n1, rfl, FA1, le1⟩
      exact k _
end
end My

-- ===== K14Y =====
set_option Elab.async false
set_option linter.all false
set_option maxRecDepth 100000
set_option maxHeartbeats 4000000
namespace My
open PySem L2 PyProof.Rows PySem.Spec Kd StX ClX
theorem kgl_rel {vs zs : List V} {us ws : List Value} (r : Vals vs us) (z : Vals zs ws) : Vals (kgl vs zs) (kgl us ws) := by
  cases r with
  | nil =>
    cases z with
    | nil => exact .nil
    | cons a z =>
      cases z with
      | nil => exact .nil
      | cons b z =>
        cases z with
        | nil => exact .cons b (.cons a .nil)
        | cons _ _ => exact .nil
  | cons _ _ => exact .nil
set_option linter.unusedVariables false in
theorem all_mk {P : Program} {w : World} {K : PySem.W.Frag} {h : Heap} {mg : Str → Option Value} {fa C p1 fM fW fB fS fA fE fa1 fa2 fa3 fa4 fa5 fa6 fa7 fa8 fa9 fb0 fF fD fK fb1 fb2 fb3 fb4 fb5 fb6 fL fi fo : Addr} {rest1 : List Value} {t1 t2 t3 t4 : Tok} (X : K.In h) (G : h.Ns mainGlobals mg) (hfa : mg "law" = some (.ref fa))
    {oc_M kV_M doc_M pm_M cd_M ct_M : Value} {od_M an_M : Option Addr} {sl_M : Array (Option Value)} {oc_W kV_W doc_W pm_W cd_W ct_W : Value} {od_W an_W : Option Addr} {sl_W : Array (Option Value)} {oc_B kV_B doc_B pm_B cd_B ct_B : Value} {od_B an_B : Option Addr} {sl_B : Array (Option Value)} {oc_S kV_S doc_S pm_S cd_S ct_S : Value} {od_S an_S : Option Addr} {sl_S : Array (Option Value)} {oc_A kV_A doc_A pm_A cd_A ct_A : Value} {od_A an_A : Option Addr} {sl_A : Array (Option Value)} {oc_E kV_E doc_E pm_E cd_E ct_E : Value} {od_E an_E : Option Addr} {sl_E : Array (Option Value)} {oc_a1 kV_a1 doc_a1 pm_a1 cd_a1 ct_a1 : Value} {od_a1 an_a1 : Option Addr} {sl_a1 : Array (Option Value)} {oc_a2 kV_a2 doc_a2 pm_a2 cd_a2 ct_a2 : Value} {od_a2 an_a2 : Option Addr} {sl_a2 : Array (Option Value)} {oc_a3 kV_a3 doc_a3 pm_a3 cd_a3 ct_a3 : Value} {od_a3 an_a3 : Option Addr} {sl_a3 : Array (Option Value)} {oc_a4 kV_a4 doc_a4 pm_a4 cd_a4 ct_a4 : Value} {od_a4 an_a4 : Option Addr} {sl_a4 : Array (Option Value)} {oc_a5 kV_a5 doc_a5 pm_a5 cd_a5 ct_a5 : Value} {od_a5 an_a5 : Option Addr} {sl_a5 : Array (Option Value)} {oc_a6 kV_a6 doc_a6 pm_a6 cd_a6 ct_a6 : Value} {od_a6 an_a6 : Option Addr} {sl_a6 : Array (Option Value)} {oc_a7 kV_a7 doc_a7 pm_a7 cd_a7 ct_a7 : Value} {od_a7 an_a7 : Option Addr} {sl_a7 : Array (Option Value)} {oc_a8 kV_a8 doc_a8 pm_a8 cd_a8 ct_a8 : Value} {od_a8 an_a8 : Option Addr} {sl_a8 : Array (Option Value)} {oc_a9 kV_a9 doc_a9 pm_a9 cd_a9 ct_a9 : Value} {od_a9 an_a9 : Option Addr} {sl_a9 : Array (Option Value)} {oc_b0 kV_b0 doc_b0 pm_b0 cd_b0 ct_b0 : Value} {od_b0 an_b0 : Option Addr} {sl_b0 : Array (Option Value)} {oc_F kV_F doc_F pm_F cd_F ct_F : Value} {od_F an_F : Option Addr} {sl_F : Array (Option Value)} {oc_D kV_D doc_D pm_D cd_D ct_D : Value} {od_D an_D : Option Addr} {sl_D : Array (Option Value)} {oc_K kV_K doc_K pm_K cd_K ct_K : Value} {od_K an_K : Option Addr} {sl_K : Array (Option Value)} {oc_b1 kV_b1 doc_b1 pm_b1 cd_b1 ct_b1 : Value} {od_b1 an_b1 : Option Addr} {sl_b1 : Array (Option Value)} {oc_b2 kV_b2 doc_b2 pm_b2 cd_b2 ct_b2 : Value} {od_b2 an_b2 : Option Addr} {sl_b2 : Array (Option Value)} {oc_b3 kV_b3 doc_b3 pm_b3 cd_b3 ct_b3 : Value} {od_b3 an_b3 : Option Addr} {sl_b3 : Array (Option Value)} {oc_b4 kV_b4 doc_b4 pm_b4 cd_b4 ct_b4 : Value} {od_b4 an_b4 : Option Addr} {sl_b4 : Array (Option Value)} {oc_b5 kV_b5 doc_b5 pm_b5 cd_b5 ct_b5 : Value} {od_b5 an_b5 : Option Addr} {sl_b5 : Array (Option Value)} {oc_b6 kV_b6 doc_b6 pm_b6 cd_b6 ct_b6 : Value} {od_b6 an_b6 : Option Addr} {sl_b6 : Array (Option Value)} {oc_L kV_L doc_L pm_L cd_L ct_L : Value} {od_L an_L : Option Addr} {sl_L : Array (Option Value)} {oc_i kV_i doc_i pm_i cd_i ct_i : Value} {od_i an_i : Option Addr} {sl_i : Array (Option Value)} {oc_o kV_o doc_o pm_o cd_o ct_o : Value} {od_o an_o : Option Addr} {sl_o : Array (Option Value)}
    (aC : PySem.W.nsIn K mainGlobals "Kind" = some (some (.ref C)))
    (clpg : PySem.W.plainGet K C Str.empty = true)
    (clhd : PySem.W.hasDictIn K C = true)
    (clpo : PySem.W.plainOver K C = true)
    (clsa : PySem.W.findIn K (.ref C) "__setattr__" = some (some (.builtin "object.__setattr__")))
    (n1 : PySem.W.findIn K (.ref C) "states" = some none)
    (n2 : PySem.W.findIn K (.ref C) "moves" = some none)
    (rd : PySem.W.readsIn K C (.type "type") = true)
    (ga : PySem.W.specialIn K (.ref C) "__getattribute__" = some (some (.builtin "type.__getattribute__")))
    (m_of : PySem.W.findCls K (.ref C) (.type "type") "of" = some (.get (.builtin "classmethod.__get__") (.ref p1) .none (.ref C)))
    (r_of : PySem.W.recIn K p1 "classmethod" = some (.ref fo :: rest1))
    (f_of : PySem.W.fnIn K fo = true)
    (mk1 : PySem.W.makesIn K C = true)
    (mk2 : PySem.W.findIn K (.ref C) "__init__" = some (some (.ref fi)))
    (mk3 : PySem.W.isFn K (.ref fi) = true)
    (mk4 : PySem.W.keepIn K (.ref C) = true)
    (a_M : PySem.W.nsIn K mainGlobals "moves_of" = some (some (.ref fM)))
    (l_M : K.lookup fM = some ⟨oc_M, od_M, .func (PySem.W.fnOf "moves_of" "moves_of" (defArgs sMoves) (defBody sMoves) (defScope sMoves) .none kV_M doc_M pm_M an_M cd_M ct_M), sl_M⟩)
    (e_M : PySem.W.codeIn K cd_M "moves_of" = true)
    (k_M : PySem.W.keepIn K (.ref fM) = true)
    (a_W : PySem.W.nsIn K mainGlobals "is_word" = some (some (.ref fW)))
    (l_W : K.lookup fW = some ⟨oc_W, od_W, .func (PySem.W.fnOf "is_word" "is_word" (defArgs sWord) (defBody sWord) (defScope sWord) .none kV_W doc_W pm_W an_W cd_W ct_W), sl_W⟩)
    (e_W : PySem.W.codeIn K cd_W "is_word" = true)
    (k_W : PySem.W.keepIn K (.ref fW) = true)
    (a_B : PySem.W.nsIn K mainGlobals "is_number" = some (some (.ref fB)))
    (l_B : K.lookup fB = some ⟨oc_B, od_B, .func (PySem.W.fnOf "is_number" "is_number" (defArgs sNumber) (defBody sNumber) (defScope sNumber) .none kV_B doc_B pm_B an_B cd_B ct_B), sl_B⟩)
    (e_B : PySem.W.codeIn K cd_B "is_number" = true)
    (k_B : PySem.W.keepIn K (.ref fB) = true)
    (a_S : PySem.W.nsIn K mainGlobals "is_states" = some (some (.ref fS)))
    (l_S : K.lookup fS = some ⟨oc_S, od_S, .func (PySem.W.fnOf "is_states" "is_states" (defArgs sStates) (defBody sStates) (defScope sStates) .none kV_S doc_S pm_S an_S cd_S ct_S), sl_S⟩)
    (e_S : PySem.W.codeIn K cd_S "is_states" = true)
    (k_S : PySem.W.keepIn K (.ref fS) = true)
    (a_A : PySem.W.nsIn K mainGlobals "_is_state" = some (some (.ref fA)))
    (l_A : K.lookup fA = some ⟨oc_A, od_A, .func (PySem.W.fnOf "_is_state" "_is_state" (defArgs sState) (defBody sState) (defScope sState) .none kV_A doc_A pm_A an_A cd_A ct_A), sl_A⟩)
    (e_A : PySem.W.codeIn K cd_A "_is_state" = true)
    (k_A : PySem.W.keepIn K (.ref fA) = true)
    (a_E : PySem.W.nsIn K mainGlobals "_is_step" = some (some (.ref fE)))
    (l_E : K.lookup fE = some ⟨oc_E, od_E, .func (PySem.W.fnOf "_is_step" "_is_step" (defArgs sStep) (defBody sStep) (defScope sStep) .none kV_E doc_E pm_E an_E cd_E ct_E), sl_E⟩)
    (e_E : PySem.W.codeIn K cd_E "_is_step" = true)
    (k_E : PySem.W.keepIn K (.ref fE) = true)
    (a_a1 : PySem.W.nsIn K mainGlobals "first_log" = some (some (.ref fa1)))
    (l_a1 : K.lookup fa1 = some ⟨oc_a1, od_a1, .func (PySem.W.fnOf "first_log" "first_log" (defArgs sFirst) (defBody sFirst) (defScope sFirst) .none kV_a1 doc_a1 pm_a1 an_a1 cd_a1 ct_a1), sl_a1⟩)
    (e_a1 : PySem.W.codeIn K cd_a1 "first_log" = true)
    (k_a1 : PySem.W.keepIn K (.ref fa1) = true)
    (a_a2 : PySem.W.nsIn K mainGlobals "committed_of" = some (some (.ref fa2)))
    (l_a2 : K.lookup fa2 = some ⟨oc_a2, od_a2, .func (PySem.W.fnOf "committed_of" "committed_of" (defArgs sComs) (defBody sComs) (defScope sComs) .none kV_a2 doc_a2 pm_a2 an_a2 cd_a2 ct_a2), sl_a2⟩)
    (e_a2 : PySem.W.codeIn K cd_a2 "committed_of" = true)
    (k_a2 : PySem.W.keepIn K (.ref fa2) = true)
    (a_a3 : PySem.W.nsIn K mainGlobals "with_begin" = some (some (.ref fa3)))
    (l_a3 : K.lookup fa3 = some ⟨oc_a3, od_a3, .func (PySem.W.fnOf "with_begin" "with_begin" (defArgs sBegin) (defBody sBegin) (defScope sBegin) .none kV_a3 doc_a3 pm_a3 an_a3 cd_a3 ct_a3), sl_a3⟩)
    (e_a3 : PySem.W.codeIn K cd_a3 "with_begin" = true)
    (k_a3 : PySem.W.keepIn K (.ref fa3) = true)
    (a_a4 : PySem.W.nsIn K mainGlobals "with_event" = some (some (.ref fa4)))
    (l_a4 : K.lookup fa4 = some ⟨oc_a4, od_a4, .func (PySem.W.fnOf "with_event" "with_event" (defArgs sEvent) (defBody sEvent) (defScope sEvent) .none kV_a4 doc_a4 pm_a4 an_a4 cd_a4 ct_a4), sl_a4⟩)
    (e_a4 : PySem.W.codeIn K cd_a4 "with_event" = true)
    (k_a4 : PySem.W.keepIn K (.ref fa4) = true)
    (a_a5 : PySem.W.nsIn K mainGlobals "_longer" = some (some (.ref fa5)))
    (l_a5 : K.lookup fa5 = some ⟨oc_a5, od_a5, .func (PySem.W.fnOf "_longer" "_longer" (defArgs sLonger) (defBody sLonger) (defScope sLonger) .none kV_a5 doc_a5 pm_a5 an_a5 cd_a5 ct_a5), sl_a5⟩)
    (e_a5 : PySem.W.codeIn K cd_a5 "_longer" = true)
    (k_a5 : PySem.W.keepIn K (.ref fa5) = true)
    (a_a6 : PySem.W.nsIn K mainGlobals "with_commit" = some (some (.ref fa6)))
    (l_a6 : K.lookup fa6 = some ⟨oc_a6, od_a6, .func (PySem.W.fnOf "with_commit" "with_commit" (defArgs sCommit) (defBody sCommit) (defScope sCommit) .none kV_a6 doc_a6 pm_a6 an_a6 cd_a6 ct_a6), sl_a6⟩)
    (e_a6 : PySem.W.codeIn K cd_a6 "with_commit" = true)
    (k_a6 : PySem.W.keepIn K (.ref fa6) = true)
    (a_a7 : PySem.W.nsIn K mainGlobals "_committed" = some (some (.ref fa7)))
    (l_a7 : K.lookup fa7 = some ⟨oc_a7, od_a7, .func (PySem.W.fnOf "_committed" "_committed" (defArgs sCommitted) (defBody sCommitted) (defScope sCommitted) .none kV_a7 doc_a7 pm_a7 an_a7 cd_a7 ct_a7), sl_a7⟩)
    (e_a7 : PySem.W.codeIn K cd_a7 "_committed" = true)
    (k_a7 : PySem.W.keepIn K (.ref fa7) = true)
    (a_a8 : PySem.W.nsIn K mainGlobals "with_abort" = some (some (.ref fa8)))
    (l_a8 : K.lookup fa8 = some ⟨oc_a8, od_a8, .func (PySem.W.fnOf "with_abort" "with_abort" (defArgs sAbort) (defBody sAbort) (defScope sAbort) .none kV_a8 doc_a8 pm_a8 an_a8 cd_a8 ct_a8), sl_a8⟩)
    (e_a8 : PySem.W.codeIn K cd_a8 "with_abort" = true)
    (k_a8 : PySem.W.keepIn K (.ref fa8) = true)
    (a_a9 : PySem.W.nsIn K mainGlobals "with_thing" = some (some (.ref fa9)))
    (l_a9 : K.lookup fa9 = some ⟨oc_a9, od_a9, .func (PySem.W.fnOf "with_thing" "with_thing" (defArgs sThing) (defBody sThing) (defScope sThing) .none kV_a9 doc_a9 pm_a9 an_a9 cd_a9 ct_a9), sl_a9⟩)
    (e_a9 : PySem.W.codeIn K cd_a9 "with_thing" = true)
    (k_a9 : PySem.W.keepIn K (.ref fa9) = true)
    (a_b0 : PySem.W.nsIn K mainGlobals "log_of" = some (some (.ref fb0)))
    (l_b0 : K.lookup fb0 = some ⟨oc_b0, od_b0, .func (PySem.W.fnOf "log_of" "log_of" (defArgs sLogOf) (defBody sLogOf) (defScope sLogOf) .none kV_b0 doc_b0 pm_b0 an_b0 cd_b0 ct_b0), sl_b0⟩)
    (e_b0 : PySem.W.codeIn K cd_b0 "log_of" = true)
    (k_b0 : PySem.W.keepIn K (.ref fb0) = true)
    (a_F : PySem.W.nsIn K mainGlobals "_law_deck" = some (some (.ref fF)))
    (l_F : K.lookup fF = some ⟨oc_F, od_F, .func (PySem.W.fnOf "_law_deck" "_law_deck" (defArgs sFeed) (defBody sFeed) (defScope sFeed) .none kV_F doc_F pm_F an_F cd_F ct_F), sl_F⟩)
    (e_F : PySem.W.codeIn K cd_F "_law_deck" = true)
    (k_F : PySem.W.keepIn K (.ref fF) = true)
    (a_D : PySem.W.nsIn K mainGlobals "_law_draw" = some (some (.ref fD)))
    (l_D : K.lookup fD = some ⟨oc_D, od_D, .func (PySem.W.fnOf "_law_draw" "_law_draw" (defArgs sDigit) (defBody sDigit) (defScope sDigit) .none kV_D doc_D pm_D an_D cd_D ct_D), sl_D⟩)
    (e_D : PySem.W.codeIn K cd_D "_law_draw" = true)
    (k_D : PySem.W.keepIn K (.ref fD) = true)
    (a_K : PySem.W.nsIn K mainGlobals "_law_pick" = some (some (.ref fK)))
    (l_K : K.lookup fK = some ⟨oc_K, od_K, .func (PySem.W.fnOf "_law_pick" "_law_pick" (defArgs sPick) (defBody sPick) (defScope sPick) .none kV_K doc_K pm_K an_K cd_K ct_K), sl_K⟩)
    (e_K : PySem.W.codeIn K cd_K "_law_pick" = true)
    (k_K : PySem.W.keepIn K (.ref fK) = true)
    (a_b1 : PySem.W.nsIn K mainGlobals "_law_states" = some (some (.ref fb1)))
    (l_b1 : K.lookup fb1 = some ⟨oc_b1, od_b1, .func (PySem.W.fnOf "_law_states" "_law_states" (defArgs sLStates) (defBody sLStates) (defScope sLStates) .none kV_b1 doc_b1 pm_b1 an_b1 cd_b1 ct_b1), sl_b1⟩)
    (e_b1 : PySem.W.codeIn K cd_b1 "_law_states" = true)
    (k_b1 : PySem.W.keepIn K (.ref fb1) = true)
    (a_b2 : PySem.W.nsIn K mainGlobals "_law_system" = some (some (.ref fb2)))
    (l_b2 : K.lookup fb2 = some ⟨oc_b2, od_b2, .func (PySem.W.fnOf "_law_system" "_law_system" (defArgs sSystem) (defBody sSystem) (defScope sSystem) .none kV_b2 doc_b2 pm_b2 an_b2 cd_b2 ct_b2), sl_b2⟩)
    (e_b2 : PySem.W.codeIn K cd_b2 "_law_system" = true)
    (k_b2 : PySem.W.keepIn K (.ref fb2) = true)
    (a_b3 : PySem.W.nsIn K mainGlobals "_law_events" = some (some (.ref fb3)))
    (l_b3 : K.lookup fb3 = some ⟨oc_b3, od_b3, .func (PySem.W.fnOf "_law_events" "_law_events" (defArgs sLEvents) (defBody sLEvents) (defScope sLEvents) .none kV_b3 doc_b3 pm_b3 an_b3 cd_b3 ct_b3), sl_b3⟩)
    (e_b3 : PySem.W.codeIn K cd_b3 "_law_events" = true)
    (k_b3 : PySem.W.keepIn K (.ref fb3) = true)
    (a_b4 : PySem.W.nsIn K mainGlobals "_law_did" = some (some (.ref fb4)))
    (l_b4 : K.lookup fb4 = some ⟨oc_b4, od_b4, .func (PySem.W.fnOf "_law_did" "_law_did" (defArgs sDid) (defBody sDid) (defScope sDid) .none kV_b4 doc_b4 pm_b4 an_b4 cd_b4 ct_b4), sl_b4⟩)
    (e_b4 : PySem.W.codeIn K cd_b4 "_law_did" = true)
    (k_b4 : PySem.W.keepIn K (.ref fb4) = true)
    (a_b5 : PySem.W.nsIn K mainGlobals "_law_history" = some (some (.ref fb5)))
    (l_b5 : K.lookup fb5 = some ⟨oc_b5, od_b5, .func (PySem.W.fnOf "_law_history" "_law_history" (defArgs sHist) (defBody sHist) (defScope sHist) .none kV_b5 doc_b5 pm_b5 an_b5 cd_b5 ct_b5), sl_b5⟩)
    (e_b5 : PySem.W.codeIn K cd_b5 "_law_history" = true)
    (k_b5 : PySem.W.keepIn K (.ref fb5) = true)
    (a_b6 : PySem.W.nsIn K mainGlobals "_law_due" = some (some (.ref fb6)))
    (l_b6 : K.lookup fb6 = some ⟨oc_b6, od_b6, .func (PySem.W.fnOf "_law_due" "_law_due" (defArgs sDue) (defBody sDue) (defScope sDue) .none kV_b6 doc_b6 pm_b6 an_b6 cd_b6 ct_b6), sl_b6⟩)
    (e_b6 : PySem.W.codeIn K cd_b6 "_law_due" = true)
    (k_b6 : PySem.W.keepIn K (.ref fb6) = true)
    (a_L : PySem.W.nsIn K mainGlobals "law" = some (some (.ref fL)))
    (l_L : K.lookup fL = some ⟨oc_L, od_L, .func (PySem.W.fnOf "law" "law" (defArgs sLaw) (defBody sLaw) (defScope sLaw) .none kV_L doc_L pm_L an_L cd_L ct_L), sl_L⟩)
    (e_L : PySem.W.codeIn K cd_L "law" = true)
    (k_L : PySem.W.keepIn K (.ref fL) = true)
    (l_i : K.lookup fi = some ⟨oc_i, od_i, .func (PySem.W.fnOf "__init__" "Kind.__init__" (defArgs sInit) (defBody sInit) (defScope sInit) .none kV_i doc_i pm_i an_i cd_i ct_i), sl_i⟩)
    (e_i : PySem.W.codeIn K cd_i "Kind.__init__" = true)
    (k_i : PySem.W.keepIn K (.ref fi) = true)
    (l_o : K.lookup fo = some ⟨oc_o, od_o, .func (PySem.W.fnOf "of" "Kind.of" (defArgs sOf) (defBody sOf) (defScope sOf) .none kV_o doc_o pm_o an_o cd_o ct_o), sl_o⟩)
    (e_o : PySem.W.codeIn K cd_o "Kind.of" = true)
    (k_o : PySem.W.keepIn K (.ref fo) = true)
    (z_isinstance : PySem.W.nsIn K mainGlobals "isinstance" = some none)
    (z_str : PySem.W.nsIn K mainGlobals "str" = some none)
    (z_int : PySem.W.nsIn K mainGlobals "int" = some none)
    (z_bool : PySem.W.nsIn K mainGlobals "bool" = some none)
    (z_tuple : PySem.W.nsIn K mainGlobals "tuple" = some none)
    (z_len : PySem.W.nsIn K mainGlobals "len" = some none)
    (z_all : PySem.W.nsIn K mainGlobals "all" = some none)
    (z_set : PySem.W.nsIn K mainGlobals "set" = some none)
    (z_sorted : PySem.W.nsIn K mainGlobals "sorted" = some none)
    (z_range : PySem.W.nsIn K mainGlobals "range" = some none)
    (z_repr : PySem.W.nsIn K mainGlobals "repr" = some none)
    (z_enumerate : PySem.W.nsIn K mainGlobals "enumerate" = some none)
    (z_list : PySem.W.nsIn K mainGlobals "list" = some none)
    (v_MOST_STATES : PySem.W.nsIn K mainGlobals "MOST_STATES" = some (some (.int 40 t1)))
    (v_MOST_EVENTS : PySem.W.nsIn K mainGlobals "MOST_EVENTS" = some (some (.int 24 t2)))
    (v_MOST_LETTERS : PySem.W.nsIn K mainGlobals "MOST_LETTERS" = some (some (.int 12 t3)))
    (v_LETTERS : PySem.W.nsIn K mainGlobals "LETTERS" = some (some (.str LETS t4))) :
    ∃ fd : FuncData, (∀ (s : Shared) (v : Value), BindsTo s fd ⟨[v], []⟩ [("_law_script", v)]) ∧ ∀ base : Heap, K.In base → base.Ns mainGlobals mg → FnG true (fun A => A.guards = some []) P w K mg base CX0 8 fa fd ["_law_script"] (spLaw K) := by
  have e := hfa.symm.trans (PySem.W.mg_of X G a_L)
  cases e
  have nn : ∀ {n : Str}, PySem.W.nsIn K mainGlobals n = some none → mg n = none := fun {n} e => PySem.W.mg_none_of X G e
  have m_isinstance := nn z_isinstance
  have m_str := nn z_str
  have m_int := nn z_int
  have m_bool := nn z_bool
  have m_tuple := nn z_tuple
  have m_len := nn z_len
  have m_all := nn z_all
  have m_set := nn z_set
  have m_sorted := nn z_sorted
  have m_range := nn z_range
  have m_repr := nn z_repr
  have m_enumerate := nn z_enumerate
  have m_list := nn z_list
  have g : Gs mg := ⟨m_isinstance, m_str, m_int, m_bool, m_tuple, m_len, m_all, m_set, m_sorted, m_range, m_repr, m_enumerate, m_list, ⟨t1, PySem.W.mg_of X G v_MOST_STATES⟩, ⟨t2, PySem.W.mg_of X G v_MOST_EVENTS⟩, ⟨t3, PySem.W.mg_of X G v_MOST_LETTERS⟩, ⟨t4, PySem.W.mg_of X G v_LETTERS⟩⟩
  have cl : Cls K C := ⟨clpg, clhd, clpo, clsa⟩
  have M : Mk K C fi := ⟨mk1, mk2, mk3, mk4⟩
  have FM := fun_mk (st := sMoves) l_M e_M k_M
  have bM := FM.binds (ps := ["states"]) fun _ _ _ _ _ _ us hl => match us, hl with | [_], _ => rfl
  have mM := PySem.W.mg_of X G a_M
  have FW := fun_mk (st := sWord) l_W e_W k_W
  have bW := FW.binds (ps := ["thing"]) fun _ _ _ _ _ _ us hl => match us, hl with | [_], _ => rfl
  have mW := PySem.W.mg_of X G a_W
  have FB := fun_mk (st := sNumber) l_B e_B k_B
  have bB := FB.binds (ps := ["thing"]) fun _ _ _ _ _ _ us hl => match us, hl with | [_], _ => rfl
  have mB := PySem.W.mg_of X G a_B
  have FS := fun_mk (st := sStates) l_S e_S k_S
  have bS := FS.binds (ps := ["thing"]) fun _ _ _ _ _ _ us hl => match us, hl with | [_], _ => rfl
  have mS := PySem.W.mg_of X G a_S
  have FA := fun_mk (st := sState) l_A e_A k_A
  have bA := FA.binds (ps := ["thing", "many"]) fun _ _ _ _ _ _ us hl => match us, hl with | [_, _], _ => rfl
  have mA := PySem.W.mg_of X G a_A
  have FE := fun_mk (st := sStep) l_E e_E k_E
  have bE := FE.binds (ps := ["thing", "many"]) fun _ _ _ _ _ _ us hl => match us, hl with | [_, _], _ => rfl
  have mE := PySem.W.mg_of X G a_E
  have Fa1 := fun_mk (st := sFirst) l_a1 e_a1 k_a1
  have ba1 := Fa1.binds (ps := ["system"]) fun _ _ _ _ _ _ us hl => match us, hl with | [_], _ => rfl
  have ma1 := PySem.W.mg_of X G a_a1
  have Fa2 := fun_mk (st := sComs) l_a2 e_a2 k_a2
  have ba2 := Fa2.binds (ps := ["log"]) fun _ _ _ _ _ _ us hl => match us, hl with | [_], _ => rfl
  have ma2 := PySem.W.mg_of X G a_a2
  have Fa3 := fun_mk (st := sBegin) l_a3 e_a3 k_a3
  have ba3 := Fa3.binds (ps := ["log", "number"]) fun _ _ _ _ _ _ us hl => match us, hl with | [_, _], _ => rfl
  have ma3 := PySem.W.mg_of X G a_a3
  have Fa4 := fun_mk (st := sEvent) l_a4 e_a4 k_a4
  have ba4 := Fa4.binds (ps := ["log", "number", "event"]) fun _ _ _ _ _ _ us hl => match us, hl with | [_, _, _], _ => rfl
  have ma4 := PySem.W.mg_of X G a_a4
  have Fa5 := fun_mk (st := sLonger) l_a5 e_a5 k_a5
  have ba5 := Fa5.binds (ps := ["entry", "event"]) fun _ _ _ _ _ _ us hl => match us, hl with | [_, _], _ => rfl
  have ma5 := PySem.W.mg_of X G a_a5
  have Fa6 := fun_mk (st := sCommit) l_a6 e_a6 k_a6
  have ba6 := Fa6.binds (ps := ["log", "number"]) fun _ _ _ _ _ _ us hl => match us, hl with | [_, _], _ => rfl
  have ma6 := PySem.W.mg_of X G a_a6
  have Fa7 := fun_mk (st := sCommitted) l_a7 e_a7 k_a7
  have ba7 := Fa7.binds (ps := ["entry"]) fun _ _ _ _ _ _ us hl => match us, hl with | [_], _ => rfl
  have ma7 := PySem.W.mg_of X G a_a7
  have Fa8 := fun_mk (st := sAbort) l_a8 e_a8 k_a8
  have ba8 := Fa8.binds (ps := ["log", "number"]) fun _ _ _ _ _ _ us hl => match us, hl with | [_, _], _ => rfl
  have ma8 := PySem.W.mg_of X G a_a8
  have Fa9 := fun_mk (st := sThing) l_a9 e_a9 k_a9
  have ba9 := Fa9.binds (ps := ["log", "thing", "begun"]) fun _ _ _ _ _ _ us hl => match us, hl with | [_, _, _], _ => rfl
  have ma9 := PySem.W.mg_of X G a_a9
  have Fb0 := fun_mk (st := sLogOf) l_b0 e_b0 k_b0
  have bb0 := Fb0.binds (ps := ["system", "history"]) fun _ _ _ _ _ _ us hl => match us, hl with | [_, _], _ => rfl
  have mb0 := PySem.W.mg_of X G a_b0
  have FF := fun_mk (st := sFeed) l_F e_F k_F
  have bF := FF.binds (ps := ["_law_script"]) fun _ _ _ _ _ _ us hl => match us, hl with | [_], _ => rfl
  have mF := PySem.W.mg_of X G a_F
  have FD := fun_mk (st := sDigit) l_D e_D k_D
  have bD := FD.binds (ps := ["_law_deck_here", "_law_count"]) fun _ _ _ _ _ _ us hl => match us, hl with | [_, _], _ => rfl
  have mD := PySem.W.mg_of X G a_D
  have FK := fun_mk (st := sPick) l_K e_K k_K
  have bK := FK.binds (ps := ["_law_deck_here", "_law_some"]) fun _ _ _ _ _ _ us hl => match us, hl with | [_, _], _ => rfl
  have mK := PySem.W.mg_of X G a_K
  have Fb1 := fun_mk (st := sLStates) l_b1 e_b1 k_b1
  have bb1 := Fb1.binds (ps := ["_law_deck_here"]) fun _ _ _ _ _ _ us hl => match us, hl with | [_], _ => rfl
  have mb1 := PySem.W.mg_of X G a_b1
  have Fb2 := fun_mk (st := sSystem) l_b2 e_b2 k_b2
  have bb2 := Fb2.binds (ps := ["_law_deck_here"]) fun _ _ _ _ _ _ us hl => match us, hl with | [_], _ => rfl
  have mb2 := PySem.W.mg_of X G a_b2
  have Fb3 := fun_mk (st := sLEvents) l_b3 e_b3 k_b3
  have bb3 := Fb3.binds (ps := ["_law_states_here"]) fun _ _ _ _ _ _ us hl => match us, hl with | [_], _ => rfl
  have mb3 := PySem.W.mg_of X G a_b3
  have Fb4 := fun_mk (st := sDid) l_b4 e_b4 k_b4
  have bb4 := Fb4.binds (ps := ["_law_deck_here", "_law_machines"]) fun _ _ _ _ _ _ us hl => match us, hl with | [_, _], _ => rfl
  have mb4 := PySem.W.mg_of X G a_b4
  have Fb5 := fun_mk (st := sHist) l_b5 e_b5 k_b5
  have bb5 := Fb5.binds (ps := ["_law_deck_here", "_law_machines", "_law_many"]) fun _ _ _ _ _ _ us hl => match us, hl with | [_, _, _], _ => rfl
  have mb5 := PySem.W.mg_of X G a_b5
  have Fb6 := fun_mk (st := sDue) l_b6 e_b6 k_b6
  have bb6 := Fb6.binds (ps := ["_law_objects", "_law_acts"]) fun _ _ _ _ _ _ us hl => match us, hl with | [_, _], _ => rfl
  have mb6 := PySem.W.mg_of X G a_b6
  have FL := fun_mk (st := sLaw) l_L e_L k_L
  have Fi := fun_mk (st := sInit) l_i e_i k_i
  have Fo := fun_mk (st := sOf) l_o e_o k_o
  have bo := Fo.binds (ps := ["cls", "states"]) fun _ _ _ _ _ _ us hl => match us, hl with | [_, _], _ => rfl
  have kb : KBinds K (PySem.W.fnOf "log_of" "log_of" (defArgs sLogOf) (defBody sLogOf) (defScope sLogOf) .none kV_b0 doc_b0 pm_b0 an_b0 cd_b0 ct_b0) ["system", "history"] ["history", "system"] kgl kgl := by
    refine ⟨fun s us ws _ hl => ?_, fun r z => kgl_rel r z⟩
    match us, ws, hl with
    | [], [a, b], _ => exact .of_eq rfl
  refine ⟨PySem.W.fnOf "law" "law" (defArgs sLaw) (defBody sLaw) (defScope sLaw) .none kV_L doc_L pm_L an_L cd_L ct_L, fun s v => .of_eq rfl, fun base _ _ => ?_⟩
  have oF := ok_feed (P := P) (w := w) (mg := mg) (base := base) FF m_list
  have oD := ok_digit (P := P) (w := w) (mg := mg) (base := base) FD
  have oW := ok_word (P := P) (w := w) (mg := mg) (base := base) FW g
  have oB := ok_number (P := P) (w := w) (mg := mg) (base := base) FB g
  have oE := ok_step (P := P) (w := w) (mg := mg) (base := base) FE g oW mW k_W bW oB mB k_B bB
  have oA := ok_state (P := P) (w := w) (mg := mg) (base := base) FA g oE mE k_E bE
  have oS := ok_states (P := P) (w := w) (mg := mg) (base := base) FS g oA mA k_A bA
  have oM := ok_moves (P := P) (w := w) (mg := mg) (base := base) FM
  have oi := ok_init (P := P) (w := w) (mg := mg) (base := base) Fi cl n1 n2 oS mS k_S bS oM mM k_M bM
  have oo := ok_of (P := P) (w := w) (mg := mg) (base := base) Fo g M oi
  have oa1 := ok_first (P := P) (w := w) (mg := mg) (base := base) Fa1 m_tuple
  have oa2 := ok_coms (P := P) (w := w) (mg := mg) (base := base) Fa2 m_tuple
  have oa3 := ok_begin (P := P) (w := w) (mg := mg) (base := base) Fa3 oa2 ma2 k_a2 ba2
  have oa5 := ok_longer (P := P) (w := w) (mg := mg) (base := base) Fa5
  have oa4 := ok_event (P := P) (w := w) (mg := mg) (base := base) Fa4 m_tuple oa5 ma5 k_a5 ba5
  have oa7 := ok_committed (P := P) (w := w) (mg := mg) (base := base) Fa7
  have oa6 := ok_commit (P := P) (w := w) (mg := mg) (base := base) Fa6 m_tuple oa7 ma7 k_a7 ba7
  have oa8 := ok_abort (P := P) (w := w) (mg := mg) (base := base) Fa8 m_tuple
  have oa9 := ok_thing (P := P) (w := w) (mg := mg) (base := base) Fa9 oa3 ma3 k_a3 ba3 oa4 ma4 k_a4 ba4 oa6 ma6 k_a6 ba6 oa8 ma8 k_a8 ba8
  have ob0 := ok_logof (P := P) (w := w) (mg := mg) (base := base) Fb0 oa1 ma1 k_a1 ba1 oa9 ma9 k_a9 ba9
  have oK := ok_pick (P := P) (w := w) (mg := mg) (base := base) FK m_len oD mD k_D bD
  have ob1 := ok_lstates (P := P) (w := w) (mg := mg) (base := base) Fb1 m_tuple m_int m_range oK mK k_K bK oD mD k_D bD
  have ob2 := ok_system (P := P) (w := w) (mg := mg) (base := base) Fb2 m_range ob1 mb1 k_b1 bb1 oD mD k_D bD
  have ob3 := ok_levents (P := P) (w := w) (mg := mg) (base := base) Fb3 m_set m_sorted
  have ob4 := ok_did (P := P) (w := w) (mg := mg) (base := base) Fb4 m_len ob3 mb3 k_b3 bb3 oK mK k_K bK oD mD k_D bD
  have ob5 := ok_hist (P := P) (w := w) (mg := mg) (base := base) Fb5 m_len m_range m_tuple ob4 mb4 k_b4 bb4 oK mK k_K bK oD mD k_D bD
  have ob6 := ok_due (P := P) (w := w) (mg := mg) (base := base) Fb6 m_tuple m_range m_len m_enumerate
  have T : KOf P w K mg base C := ⟨PySem.W.mg_of X G aC, ⟨.type "type", ⟨rd, ga⟩, p1, fo, _, ⟨m_of, ⟨rest1, r_of⟩, f_of⟩, oo, bo⟩⟩
  exact ok_law FL T m_range m_tuple m_repr oF mF k_F bF ob2 mb2 k_b2 bb2 ob5 mb5 k_b5 bb5 ob6 mb6 k_b6 bb6 ob0 mb0 k_b0 bb0 kb
end My
-- ===== end =====
open PySem PySem.W PyProof.Rows
set_option maxRecDepth 100000
set_option maxHeartbeats 0
open_top head14 for PySem.Challenge.rw_mustwait_k14_logs_of_histories
set_option maxRecDepth 100000 in
set_option maxHeartbeats 0 in
theorem PySem.Challenge.cw_mustwait_k14_logs_of_histories_holds : PySem.Challenge.rw_mustwait_k14_logs_of_histories.Holds :=
  head14 (by
  k_fill
  refine My.walk_ofG (l := PySem.Challenge.rw_mustwait_k14_logs_of_histories) (n := 63) (k := 8) (x := "_law_script") (sp := My.spLaw) rfl (by decide) rfl ⟨rfl, by decide, by decide⟩ (fun w h Y => PySem.W.kIn_of Y) ?F (fun K H a ns hl hb _ hS => ⟨a, ns, rfl, hS, hl, hb, fun _ => rfl⟩)
  case F =>
    intro w mg fa h KX G hmg
    refine' My.all_mk KX G hmg ?aC ?clpg ?clhd ?clpo ?clsa ?n1 ?n2 ?rd ?ga ?m_of ?r_of ?f_of ?mk1 ?mk2 ?mk3 ?mk4 ?a_M ?l_M ?e_M ?k_M ?a_W ?l_W ?e_W ?k_W ?a_B ?l_B ?e_B ?k_B ?a_S ?l_S ?e_S ?k_S ?a_A ?l_A ?e_A ?k_A ?a_E ?l_E ?e_E ?k_E ?a_a1 ?l_a1 ?e_a1 ?k_a1 ?a_a2 ?l_a2 ?e_a2 ?k_a2 ?a_a3 ?l_a3 ?e_a3 ?k_a3 ?a_a4 ?l_a4 ?e_a4 ?k_a4 ?a_a5 ?l_a5 ?e_a5 ?k_a5 ?a_a6 ?l_a6 ?e_a6 ?k_a6 ?a_a7 ?l_a7 ?e_a7 ?k_a7 ?a_a8 ?l_a8 ?e_a8 ?k_a8 ?a_a9 ?l_a9 ?e_a9 ?k_a9 ?a_b0 ?l_b0 ?e_b0 ?k_b0 ?a_F ?l_F ?e_F ?k_F ?a_D ?l_D ?e_D ?k_D ?a_K ?l_K ?e_K ?k_K ?a_b1 ?l_b1 ?e_b1 ?k_b1 ?a_b2 ?l_b2 ?e_b2 ?k_b2 ?a_b3 ?l_b3 ?e_b3 ?k_b3 ?a_b4 ?l_b4 ?e_b4 ?k_b4 ?a_b5 ?l_b5 ?e_b5 ?k_b5 ?a_b6 ?l_b6 ?e_b6 ?k_b6 ?a_L ?l_L ?e_L ?k_L ?l_i ?e_i ?k_i ?l_o ?e_o ?k_o ?z_isinstance ?z_str ?z_int ?z_bool ?z_tuple ?z_len ?z_all ?z_set ?z_sorted ?z_range ?z_repr ?z_enumerate ?z_list ?v_MOST_STATES ?v_MOST_EVENTS ?v_MOST_LETTERS ?v_LETTERS
    (case aC => k_is)
    (case clpg => k_is)
    (case clhd => k_is)
    (case clpo => k_is)
    (case clsa => k_is)
    (case n1 => k_is)
    (case n2 => k_is)
    (case rd => k_is)
    (case ga => k_is)
    (case m_of => k_is)
    (case r_of => k_is)
    (case f_of => k_is)
    (case mk1 => k_is)
    (case mk2 => k_is)
    (case mk3 => k_is)
    (case mk4 => k_is)
    (case a_M => k_is)
    (case l_M => k_is)
    (case e_M => k_is)
    (case k_M => k_is)
    (case a_W => k_is)
    (case l_W => k_is)
    (case e_W => k_is)
    (case k_W => k_is)
    (case a_B => k_is)
    (case l_B => k_is)
    (case e_B => k_is)
    (case k_B => k_is)
    (case a_S => k_is)
    (case l_S => k_is)
    (case e_S => k_is)
    (case k_S => k_is)
    (case a_A => k_is)
    (case l_A => k_is)
    (case e_A => k_is)
    (case k_A => k_is)
    (case a_E => k_is)
    (case l_E => k_is)
    (case e_E => k_is)
    (case k_E => k_is)
    (case a_a1 => k_is)
    (case l_a1 => k_is)
    (case e_a1 => k_is)
    (case k_a1 => k_is)
    (case a_a2 => k_is)
    (case l_a2 => k_is)
    (case e_a2 => k_is)
    (case k_a2 => k_is)
    (case a_a3 => k_is)
    (case l_a3 => k_is)
    (case e_a3 => k_is)
    (case k_a3 => k_is)
    (case a_a4 => k_is)
    (case l_a4 => k_is)
    (case e_a4 => k_is)
    (case k_a4 => k_is)
    (case a_a5 => k_is)
    (case l_a5 => k_is)
    (case e_a5 => k_is)
    (case k_a5 => k_is)
    (case a_a6 => k_is)
    (case l_a6 => k_is)
    (case e_a6 => k_is)
    (case k_a6 => k_is)
    (case a_a7 => k_is)
    (case l_a7 => k_is)
    (case e_a7 => k_is)
    (case k_a7 => k_is)
    (case a_a8 => k_is)
    (case l_a8 => k_is)
    (case e_a8 => k_is)
    (case k_a8 => k_is)
    (case a_a9 => k_is)
    (case l_a9 => k_is)
    (case e_a9 => k_is)
    (case k_a9 => k_is)
    (case a_b0 => k_is)
    (case l_b0 => k_is)
    (case e_b0 => k_is)
    (case k_b0 => k_is)
    (case a_F => k_is)
    (case l_F => k_is)
    (case e_F => k_is)
    (case k_F => k_is)
    (case a_D => k_is)
    (case l_D => k_is)
    (case e_D => k_is)
    (case k_D => k_is)
    (case a_K => k_is)
    (case l_K => k_is)
    (case e_K => k_is)
    (case k_K => k_is)
    (case a_b1 => k_is)
    (case l_b1 => k_is)
    (case e_b1 => k_is)
    (case k_b1 => k_is)
    (case a_b2 => k_is)
    (case l_b2 => k_is)
    (case e_b2 => k_is)
    (case k_b2 => k_is)
    (case a_b3 => k_is)
    (case l_b3 => k_is)
    (case e_b3 => k_is)
    (case k_b3 => k_is)
    (case a_b4 => k_is)
    (case l_b4 => k_is)
    (case e_b4 => k_is)
    (case k_b4 => k_is)
    (case a_b5 => k_is)
    (case l_b5 => k_is)
    (case e_b5 => k_is)
    (case k_b5 => k_is)
    (case a_b6 => k_is)
    (case l_b6 => k_is)
    (case e_b6 => k_is)
    (case k_b6 => k_is)
    (case a_L => k_is)
    (case l_L => k_is)
    (case e_L => k_is)
    (case k_L => k_is)
    (case l_i => k_is)
    (case e_i => k_is)
    (case k_i => k_is)
    (case l_o => k_is)
    (case e_o => k_is)
    (case k_o => k_is)
    (case z_isinstance => k_is)
    (case z_str => k_is)
    (case z_int => k_is)
    (case z_bool => k_is)
    (case z_tuple => k_is)
    (case z_len => k_is)
    (case z_all => k_is)
    (case z_set => k_is)
    (case z_sorted => k_is)
    (case z_range => k_is)
    (case z_repr => k_is)
    (case z_enumerate => k_is)
    (case z_list => k_is)
    (case v_MOST_STATES => k_is)
    (case v_MOST_EVENTS => k_is)
    (case v_MOST_LETTERS => k_is)
    (case v_LETTERS => k_is))
#print axioms PySem.Challenge.cw_mustwait_k14_logs_of_histories_holds
