import PyProof.Rows.All
import Wide.All
import OpenK.AllK
import Wide.FinOn
import HandS.ForMost
import HandS.Wide
import HandS.Style
import HandS.EndBits
import HandS.Conv
import PyProof.ReprLen
import PyProof.ReprReads
import PyProof.ReprRoads
import HandS.TupSets
import KE.KDictKeyed
import HandS.Strs
import KE.SortData
import KE.LtData
import HandS.Comp
import HandS.SetBool
import HandS.DictComp
import HandS.IsInst
import HandS.FStr
import HandS.Star
import HandS.ClsMeth
import HandS.Property
import HandS.Walk
import HandS.More
import KE.KDictWalk
import KE.KDictCopyH
import KE.KeyNested
import PyProof.Rows.TupTab
import PyProof.DictMoreH
import HandS.TupLen
import HandS.Deep
import PyProof.TupleOfSeq
import PyProof.P3In
import HandS.WordsExc
import HandS.HotCalls
import PyProof.Rows.TupAdd
import HandS.Evl
import KE.DataFind
import KE.Datum
import PyProof.P3Eq
import PyProof.NeData
import HandS.DictEq
import HandS.Iter
import KE.GoesMore
import KE.GoesEnum
import HandS.SlotsOwn
import HandS.OwnEq
import PyProof.InstNe
import OpenK.KOps
import KE.KDictZip
import HandS.ListItems
import PyProof.Rows.IntBool
import HandS.SetFor
import HandS.SortInts
import HandS.Zip
import HandS.Call
import KE.OsArith
import HandS.TupMul
import HandS.Words
import PySem.Challenge.RW_mustwait_k13_logs_of_any_values
-- ===== K13A =====
set_option Elab.async false
set_option linter.all false
set_option maxRecDepth 100000
set_option maxHeartbeats 4000000
namespace My
open PySem L2
def top (i : Nat) : Stmt := PySem.Challenge.pw_mustwait_k13_logs_of_any_values.main.body.getD i (.Pass ⟨0, 0, 0, 0⟩)
abbrev sFeed : Stmt := top 40
abbrev sDigit : Stmt := top 41

/-- bits of the script's numbers -/
def Bits (ks : List Int) : Prop := ∀ k ∈ ks, Builtin.Int.intBits k ≤ 1048576
/-- a feed at p: its numbers at c, the mixed number, how many draws there were -/
structure FeedAt (H : Hp) (p c : Addr) (ks : List Int) (w n : Int) : Prop where
  ob : H p = some (.lst [.ref c, .int w, .int n])
  cs : H c = some (.lst (ks.map V.int))
  bits : Bits ks
  len : ks.length ≤ 63
  w0 : 0 ≤ w
  w1 : w < 2147483648
  n0 : 0 ≤ n
theorem FeedAt.ne {H : Hp} {p c : Addr} {ks : List Int} {w n : Int} (F : FeedAt H p c ks w n) : c ≠ p := by
  intro e
  have h1 := F.ob
  have h2 := F.cs
  rw [e, h1] at h2
  have h3 := HO.lst.inj (Option.some.inj h2)
  cases ks with
  | nil => cases h3
  | cons k r =>
    injection h3 with h4 _
    cases h4
/-- all that was tracked is as it was, but for these two -/
def Save (p c : Addr) (H H' : Hp) : Prop := ∀ b o, H b = some o → b ≠ p → b ≠ c → H' b = some o
theorem Save.refl (p c : Addr) (H : Hp) : Save p c H H := fun _ _ h _ _ => h
theorem Save.trans {p c : Addr} {H H1 H2 : Hp} (a : Save p c H H1) (b : Save p c H1 H2) : Save p c H H2 := fun x o h h1 h2 => b x o (a x o h h1 h2) h1 h2
theorem Save.of {p c : Addr} {H H1 : Hp} (a : Same H H1) : Save p c H H1 := fun x o h _ _ => a x o h

/-- _law_feed(script): a new feed -/
def spFeed (K : PySem.W.Frag) : Sp := fun vs H Q _ => ∃ (a : Addr) (ns : List Int), vs = [.ref a] ∧ SqL K H a (ns.map V.int) ∧ ns.length ≤ 63 ∧ Bits ns ∧
  ∀ (p c : Addr) (ks : List Int) (w : Int) (H' : Hp), Same H H' → H p = none → H c = none → FeedAt H' p c ks w 0 → Q (.ref p) H'
/-- _law_digit(feed, many): a number below many -/
def spDigit : Sp := fun vs H Q _ => ∃ (p c : Addr) (ks : List Int) (w n m : Int), vs = [.ref p, .int m] ∧ FeedAt H p c ks w n ∧ n < 1000000 ∧ 0 < m ∧ m < 1000000 ∧
  ∀ (i : Int) (ks' : List Int) (H' : Hp), 0 ≤ i → i < m → FeedAt H' p c ks' w (n + 1) → Save p c H H' → Q (.int i) H'

theorem cut63 (xs : List V) : cutV xs none (some (63 : Int)) = xs.take 63 := by
  unfold cutV HT.sIx
  simp [List.take_eq_take_min]
theorem lay_ints : ∀ ks : List Int, PyData.canLayAll0 (ks.map PyData.int) = true
  | [] => by simp only [List.map_nil, PyData.canLayAll0]
  | k :: r => by simp only [List.map_cons, PyData.canLayAll0, PyData.canLay0, lay_ints r, Bool.and_self]
theorem deep_ints : ∀ ks : List Int, PyData.depthAll (ks.map PyData.int) ≤ 1
  | [] => by simp only [List.map_nil, PyData.depthAll]; omega
  | k :: r => by
    have ih := deep_ints r
    simp only [List.map_cons, PyData.depthAll, PyData.depth]
    omega
theorem shaped_ints (ks : List Int) : SeqAt.shaped (.list (ks.map PyData.int)) = true := by
  have h := deep_ints ks
  unfold SeqAt.shaped
  rw [Bool.and_eq_true]
  refine ⟨by simp only [PyData.canLay0, lay_ints], decide_eq_true ?_⟩
  simp only [PyData.depth]
  omega
theorem dp_ints {K : PySem.W.Frag} {H : Hp} : ∀ ks : List Int, DpAll K H (ks.map V.int) (ks.map PyData.int)
  | [] => .nil
  | k :: r => .cons (.int k) (dp_ints r)
theorem some_ints : ∀ (ks : List Int) (z : Int), PyData.eqv (.list ((ks ++ [z]).map PyData.int)) (.list []) = false
  | [], z => by simp [PyData.eqv, PyData.eqvAll]
  | k :: r, z => by simp [PyData.eqv, PyData.eqvAll]
theorem bits_mono {i j : Int} (h0 : 0 ≤ i) (h : i ≤ j) : Builtin.Int.intBits i ≤ Builtin.Int.intBits j := by
  unfold Builtin.Int.intBits
  by_cases e : i = 0
  · subst e
    simp
  · have ej : ¬ j = 0 := by omega
    have e1 : (i == 0) = false := by simpa using e
    have e2 : (j == 0) = false := by simpa using ej
    rw [e1, e2]
    have h2 : i.natAbs ≤ j.natAbs := by omega
    have h3 : i.natAbs ≠ 0 := by omega
    have h4 : j.natAbs ≠ 0 := by omega
    have := (Nat.le_log2 h4).mpr (Nat.le_trans (Nat.log2_self_le h3) h2)
    simp
    exact this
section
variable {P : Program} {w : World} {K : PySem.W.Frag} {mg : Str → Option Value} {base : Heap}
theorem scF : FnScope ["_law_script", "_law_cells", "_law_mixed", "_law_one"] ["_law_script"] (defScope sFeed) := ⟨rfl, rfl, rfl, by decide +kernel, rfl, by decide +kernel, by decide +kernel⟩
theorem ok_feed {f : Addr} {fd : FuncData} (F : Fun K "_law_deck" "_law_deck" sFeed f fd) (mlist : mg "list" = none) : FnOk P w K mg base CX0 1 f fd ["_law_script"] (spFeed K) := by
  refine F.ok scF (fun vs H Q E h => ?_) (fun cdv A outer s H vs Q E hr h => ?_)
  · obtain ⟨a, ns, rfl, _⟩ := h
    rfl
  · obtain ⟨a, ns, rfl, hS, hlen, hbits, k⟩ := h
    refine ⟨_, pss_cons (ps_par (i := 1) (j := 2) rfl scF.nd rfl rfl (by decide) rfl rfl
        (pa_cons (pe_callTy call_list_of (by rfl) mlist (by decide +kernel) (pa_cons (pe_slice sl_list (pv 0) po_none (po_some pe_int)) pa_nil)) (pa_cons pe_int pa_nil)) (by rfl))
      (pss_cons (ps_for PassesOwn.never rfl (pi_list (pv 1)) (pg_name (i := 3) scF.nd rfl (Or.inl rfl))
        (pss_one (ps_set (i := 2) scF.nd rfl (Or.inl rfl)
          (pe_op op_mod (pe_op op_add (pe_op op_add (pe_op op_mul (pv 2) pe_int) (pe_op op_mod (pv 3) pe_int)) pe_int) pe_int))))
      (pss_one (ps_ret (pe_lst (pa_cons (pe_revL (pv 1)) (pa_cons (pv 2) (pa_cons pe_int pa_nil))))))), ?_⟩
    refine ⟨_, rfl, 63, rfl, a, _, rfl, hS, fun q hq => ⟨q, _, rfl, .inl (SqL.of upd_same), fun l hl => ⟨_, _, rfl, ?_⟩⟩⟩
    have nlq : l ≠ q := fun e => by
      rw [e, upd_same] at hl
      cases hl
    have hl0 : H l = none := by
      rw [upd_ne nlq] at hl
      exact hl
    have s0 : Same H (upd (upd H q (.lst (cutV (ns.map V.int) none (some 63)))) l (.lst (cutV (ns.map V.int) none (some 63)))) := fun b o e => by
      rw [upd_ne (ne_of_none e hl0), upd_ne (ne_of_none e hq)]
      exact e
    have ecut : cutV (ns.map V.int) none (some 63) = (ns.take 63).map V.int := by rw [cut63, List.map_take]
    refine ⟨_, rfl, l, rfl, ⟨_, SqL.of upd_same⟩, for_list (K := K) (a := l) (xs := (ns.take 63).map V.int) (fun i σ H2 => ∃ (y : Int) (v : Option V), σ = [some (.ref a), some (.ref l), some (.int y), v] ∧ 0 ≤ y ∧ y < 2147483629 ∧ Same H H2 ∧ H2 l = some (.lst ((ns.take 63).map V.int)))
      ⟨90133, none, rfl, by decide, by decide, s0, by rw [upd_same, ecut]⟩ (fun i σ H2 _ ⟨_, _, _, _, _, _, e⟩ => SqL.of e) ?_ ?_⟩
    · rintro i x σ H2 hi ⟨y, v, rfl, y0, y1, s2, hc⟩
      obtain ⟨z, rfl⟩ : ∃ z, x = V.int z := by
        rw [List.getElem?_map] at hi
        cases e : (ns.take 63)[i]? with
        | none =>
          rw [e] at hi
          cases hi
        | some z =>
          rw [e] at hi
          exact ⟨z, (Option.some.inj hi).symm⟩
      refine ⟨_, rfl, _, _, rfl, rfl, .inl ⟨by omega, by omega⟩, _, rfl, _, _, rfl, rfl, (by show (0 : Int) < _; decide), _, _, rfl, rfl, _, _, rfl, rfl, _, _, rfl, rfl, (by show (0 : Int) < _; decide), ?_⟩
      exact ⟨_, _, rfl, Int.emod_nonneg _ (by decide), Int.emod_lt_of_pos _ (by decide), s2, hc⟩
    · rintro σ H2 ⟨y, v, rfl, y0, y1, s2, hc⟩
      refine ⟨_, rfl, l, _, rfl, SqL.of hc, fun c hcn => ⟨_, rfl, by show 3 ≤ sizeLine; decide, fun p hp => ?_⟩⟩
      have npc : p ≠ c := fun e => by
        rw [e, upd_same] at hp
        cases hp
      have hp0 : H2 p = none := by
        rw [upd_ne npc] at hp
        exact hp
      refine k p c (ns.take 63).reverse y _ (fun b o e => ?_) (s2.free hp0) (s2.free hcn) ⟨upd_same, ?_, ?_, ?_, y0, by omega, by decide⟩
      · rw [upd_ne (ne_of_none (s2 b o e) hp0), upd_ne (ne_of_none (s2 b o e) hcn)]
        exact s2 b o e
      · rw [upd_ne (Ne.symm npc), upd_same, List.map_reverse]
      · exact fun z hz => hbits z (List.mem_of_mem_take (List.mem_reverse.mp hz))
      · rw [List.length_reverse, List.length_take]
        omega
theorem scD : FnScope ["_law_deck_here", "_law_count", "_law_top", "_law_number"] ["_law_deck_here", "_law_count"] (defScope sDigit) := ⟨rfl, rfl, rfl, by decide +kernel, rfl, by decide +kernel, by decide +kernel⟩
theorem draw_b1 {z t : Int} (t0 : 0 ≤ t) (t1 : t < 1000001) : -(2 ^ 64 : Int) < z % 2147483563 + 69621 * t + 7 ∧ z % 2147483563 + 69621 * t + 7 < 2 ^ 64 := by
  have b0 := Int.emod_nonneg z (show (2147483563 : Int) ≠ 0 by decide)
  have b1 := Int.emod_lt_of_pos z (show (0 : Int) < 2147483563 by decide)
  constructor <;> omega
theorem ok_digit {f : Addr} {fd : FuncData} (F : Fun K "_law_draw" "_law_draw" sDigit f fd) : FnOk P w K mg base CX0 1 f fd ["_law_deck_here", "_law_count"] spDigit := by
  refine F.ok scD (fun vs H Q E h => ?_) (fun cdv A outer s H vs Q E hr h => ?_)
  · obtain ⟨p, c, ks, y, n, m, rfl, _⟩ := h
    rfl
  · obtain ⟨p, c, ks, y, n, m, rfl, FA, hn, m0, m1, k⟩ := h
    have hu := hu_of hr
    have ncp := FA.ne
    have w0 := FA.w0
    have w1 := FA.w1
    have n0 := FA.n0
    refine ⟨_, pss_cons (ps_asg (pe_op op_add (pe_ix ix_list (pv 0) pe_int (fun _ _ => rfl)) pe_int) (pg_sub (pv 0) pe_int set_list))
      (pss_cons (ps_set (i := 2) scD.nd rfl (Or.inl rfl) (pe_ix ix_list (pv 0) pe_int (fun _ _ => rfl)))
      (pss_cons (ps_if (pt_cmpR (op_neD hr.units) (pe_ix ix_list (pv 0) pe_int (fun _ _ => rfl)) (pe_lst pa_nil) (nomark _))
        (pss_cons (ps_set (i := 2) scD.nd rfl (Or.inl rfl) (pe_bm0 PySem.F.plainAttrs_list PySem.F.slot_list_pop PySem.F.type_list_pop mt_pop (pe_ix ix_list (pv 0) pe_int (fun _ _ => rfl))))
        (pss_one (ps_if (pt_cmpR op_ge (pv 2) (pe_op op_pow pe_int pe_int) (nomark _))
          (pss_cons (ps_expr (pe_bm PySem.F.plainAttrs_list PySem.F.slot_list_append PySem.F.type_list_append mt_append (pe_ix ix_list (pv 0) pe_int (fun _ _ => rfl)) (pa_cons (pe_op op_fdivW (pv 2) (pv 1)) pa_nil)))
          (pss_one (ps_ret (pe_op op_mod (pv 2) (pv 1))))) pss_nil))) pss_nil)
      (pss_cons (ps_set (i := 3) scD.nd rfl (Or.inl rfl) (pe_op op_mod (pe_op op_mul (pe_op op_add (pe_op op_add (pe_op op_mod (pv 2) pe_int) (pe_op op_mul pe_int (pe_ix ix_list (pv 0) pe_int (fun _ _ => rfl)))) pe_int) pe_int) pe_int))
      (pss_cons (ps_set (i := 3) scD.nd rfl (Or.inl rfl) (pe_op op_mod (pe_op op_add (pe_op op_add (pe_op op_mul (pv 3) (pv 3)) (pe_op op_mul pe_int (pe_ix ix_list (pv 0) pe_int (fun _ _ => rfl)))) pe_int) pe_int))
      (pss_one (ps_ret (pe_op op_mod (pe_op op_fdiv (pe_op op_mod (pe_op op_mul (pv 3) (pe_op op_add (pe_op op_fdiv (pv 3) pe_int) pe_int)) pe_int) pe_int) (pv 1)))))))), ?_⟩
    -- deck[2] = deck[2] + 1
    refine ⟨_, rfl, p, _, 2, .int n, rfl, rfl, SqL.of FA.ob, rfl, _, _, rfl, rfl, _, rfl, p, _, _, 2, rfl, rfl, FA.ob, rfl, ?_⟩
    have hp1 : (upd H p (.lst ([V.ref c, .int y, .int n].set 2 (.int (n + 1))))) p = some (.lst [V.ref c, .int y, .int (n + 1)]) := upd_same
    have hc1 : (upd H p (.lst ([V.ref c, .int y, .int n].set 2 (.int (n + 1))))) c = some (.lst (ks.map V.int)) := by
      rw [upd_ne ncp]
      exact FA.cs
    have sv1 : Save p c H (upd H p (.lst ([V.ref c, .int y, .int n].set 2 (.int (n + 1))))) := fun b o e h1 _ => by
      rw [upd_ne h1]
      exact e
    generalize upd H p (.lst ([V.ref c, .int y, .int n].set 2 (.int (n + 1)))) = H1 at hp1 hc1 sv1 ⊢
    -- top = deck[1]; if deck[0] != []
    refine ⟨_, rfl, p, _, 1, .int y, rfl, rfl, SqL.of hp1, rfl, ?_⟩
    refine ⟨_, rfl, p, _, 0, .ref c, rfl, rfl, SqL.of hp1, rfl, by show 0 ≤ sizeLine; decide, fun e he => ?_⟩
    refine ⟨.list (ks.map PyData.int), .list [], .lst (SqL.of (by rw [upd_ne (ne_of_none hc1 he)]; exact hc1)) (dp_ints ks), .lst (SqL.of upd_same) .nil, shaped_ints ks, by decide, _, rfl, ?_⟩
    have nce : c ≠ e := ne_of_none hc1 he
    have npe : p ≠ e := ne_of_none hp1 he
    have hp2 : (upd H1 e (.lst [])) p = some (.lst [V.ref c, .int y, .int (n + 1)]) := by
      rw [upd_ne npe]
      exact hp1
    have hc2 : (upd H1 e (.lst [])) c = some (.lst (ks.map V.int)) := by
      rw [upd_ne nce]
      exact hc1
    have sv2 : Save p c H (upd H1 e (.lst [])) := fun b o q h1 h2 => by
      have q1 := sv1 b o q h1 h2
      rw [upd_ne (ne_of_none q1 he)]
      exact q1
    generalize upd H1 e (.lst []) = H2 at hp2 hc2 sv2 ⊢
    have hbit := FA.bits
    have hlen := FA.len
    clear FA
    have t0 : 0 ≤ n + 1 := by omega
    have t1 : n + 1 < 1000001 := by omega
    have fin : ∀ (z : Int) (ks' : List Int) (H3 : Hp), H3 p = some (.lst [V.ref c, .int y, .int (n + 1)]) → H3 c = some (.lst (ks'.map V.int)) → Save p c H H3 → Bits ks' → ks'.length ≤ 63 →
        Q (.int (((((z % 2147483563 + 69621 * (n + 1) + 7) * 48271 % 2147483647) * ((z % 2147483563 + 69621 * (n + 1) + 7) * 48271 % 2147483647) + 16807 * (n + 1) + 13) % 2147483587) * ((((z % 2147483563 + 69621 * (n + 1) + 7) * 48271 % 2147483647) * ((z % 2147483563 + 69621 * (n + 1) + 7) * 48271 % 2147483647) + 16807 * (n + 1) + 13) % 2147483587 / 3 + 39373) % 2305843009213693951 / 128 % m)) H3 := fun z ks' H3 h1 h2 sv hb hl =>
      k _ ks' H3 (Int.emod_nonneg _ (by omega)) (Int.emod_lt_of_pos _ m0) ⟨h1, h2, hb, hl, w0, w1, by omega⟩ sv
    rcases List.eq_nil_or_concat ks with rfl | ⟨r, z, rfl⟩
    · have hb : (!PyData.eqv (.list (([] : List Int).map PyData.int)) (.list [])) = false := by decide
      rw [hb]
      refine iteF ?_
      have be := draw_b1 (z := y) t0 t1
      refine ⟨_, rfl, _, _, rfl, rfl, (by show (0 : Int) < _; decide), _, rfl, p, _, 2, .int (n + 1), rfl, rfl, SqL.of hp2, rfl, _, _, rfl, rfl, .inl ⟨by decide, by decide⟩, _, _, rfl, rfl, _, _, rfl, rfl, _, _, rfl, rfl, .inl be, _, _, rfl, rfl, (by show (0 : Int) < _; decide), ?_⟩
      have b0 := Int.emod_nonneg ((y % 2147483563 + 69621 * (n + 1) + 7) * 48271) (show (2147483647 : Int) ≠ 0 by decide)
      have b1 := Int.emod_lt_of_pos ((y % 2147483563 + 69621 * (n + 1) + 7) * 48271) (show (0 : Int) < 2147483647 by decide)
      have fz := fin y [] H2 hp2 hc2 sv2 hbit hlen
      generalize (y % 2147483563 + 69621 * (n + 1) + 7) * 48271 % 2147483647 = g at b0 b1 ⊢
      refine ⟨_, rfl, _, rfl, _, _, rfl, rfl, .inl ⟨by omega, by omega⟩, _, rfl, p, _, 2, .int (n + 1), rfl, rfl, SqL.of hp2, rfl, _, _, rfl, rfl, .inl ⟨by decide, by decide⟩, _, _, rfl, rfl, _, _, rfl, rfl, _, _, rfl, rfl, (by show (0 : Int) < _; decide), ?_⟩
      have d0 := Int.emod_nonneg (g * g + 16807 * (n + 1) + 13) (show (2147483587 : Int) ≠ 0 by decide)
      have d1 := Int.emod_lt_of_pos (g * g + 16807 * (n + 1) + 13) (show (0 : Int) < 2147483587 by decide)
      generalize (g * g + 16807 * (n + 1) + 13) % 2147483587 = j at d0 d1 ⊢
      refine ⟨_, rfl, _, rfl, _, _, rfl, rfl, ⟨by decide, by decide⟩, _, _, rfl, rfl, _, _, rfl, rfl, .inl ⟨by omega, by omega⟩, _, _, rfl, rfl, (by show (0 : Int) < _; decide), _, _, rfl, rfl, ⟨by decide, by decide⟩, _, rfl, _, _, rfl, rfl, m0, fz⟩
    · rw [List.concat_eq_append] at hc2 hbit hlen ⊢
      have hb : (!PyData.eqv (.list ((r ++ [z]).map PyData.int)) (.list [])) = true := by rw [some_ints] <;> rfl
      rw [hb]
      refine iteT ?_
      rw [List.map_append] at hc2
      have hc2' : H2 c = some (.lst (r.map V.int ++ [V.int z])) := hc2
      have hbr : Bits r := fun v hv => hbit v (List.mem_append_left _ hv)
      have hbz : Builtin.Int.intBits z ≤ 1048576 := hbit z (List.mem_append_right _ List.mem_cons_self)
      have hlr : r.length + 1 ≤ 63 := by
        rw [List.length_append] at hlen
        exact hlen
      refine ⟨_, rfl, p, _, 0, .ref c, rfl, rfl, SqL.of hp2, rfl, .inl ⟨rfl, _, SqL.of hc2'⟩, c, _, .int z, rfl, rfl, hc2', by simp, ?_⟩
      rw [List.dropLast_concat]
      have hp3 : (upd H2 c (.lst (r.map V.int))) p = some (.lst [V.ref c, .int y, .int (n + 1)]) := by
        rw [upd_ne (Ne.symm ncp)]
        exact hp2
      have hc3 : (upd H2 c (.lst (r.map V.int))) c = some (.lst (r.map V.int)) := upd_same
      have sv3 : Save p c H (upd H2 c (.lst (r.map V.int))) := fun b o q h1 h2 => by
        rw [upd_ne h2]
        exact sv2 b o q h1 h2
      generalize upd H2 c (.lst (r.map V.int)) = H3 at hp3 hc3 sv3 ⊢
      refine ⟨_, rfl, _, _, rfl, rfl, ⟨by decide, by decide, by decide⟩, _, _, rfl, rfl, _, rfl, ?_⟩
      by_cases big : (10 : Int) ^ ((18 : Int).toNat) ≤ z
      · rw [decide_eq_true big]
        refine iteT ?_
        have zb : (0 : Int) ≤ z := Int.le_trans (by decide) big
        refine ⟨_, rfl, p, _, 0, .ref c, rfl, rfl, SqL.of hp3, rfl, .inl ⟨rfl, _, SqL.of hc3⟩, _, rfl, _, rfl, _, _, rfl, rfl, wide_div m0 (b := 30) (by omega) (by decide) (by decide), c, _, _, rfl, rfl, hc3, small1000 (by rw [List.length_map]; omega), ?_⟩
        refine ⟨_, rfl, _, rfl, _, _, rfl, rfl, m0, ?_⟩
        refine k _ (r ++ [z / m]) _ (Int.emod_nonneg _ (by omega)) (Int.emod_lt_of_pos _ m0) ⟨by rw [upd_ne (Ne.symm ncp)]; exact hp3, by rw [upd_same, List.map_append] <;> rfl, fun v hv => ?_, by rw [List.length_append]; exact hlr, w0, w1, by omega⟩ fun b o q h1 h2 => ?_
        · rcases List.mem_append.mp hv with hv | hv
          · exact hbr v hv
          · obtain rfl : v = z / m := by simpa using hv
            exact Nat.le_trans (bits_mono (Int.ediv_nonneg zb (by omega)) (Int.ediv_le_self _ zb)) hbz
        · rw [upd_ne h2]
          exact sv3 b o q h1 h2
      · rw [decide_eq_false big]
        refine iteF ?_
        have be := draw_b1 (z := z) t0 t1
        refine ⟨_, rfl, _, _, rfl, rfl, (by show (0 : Int) < _; decide), _, rfl, p, _, 2, .int (n + 1), rfl, rfl, SqL.of hp3, rfl, _, _, rfl, rfl, .inl ⟨by decide, by decide⟩, _, _, rfl, rfl, _, _, rfl, rfl, _, _, rfl, rfl, .inl be, _, _, rfl, rfl, (by show (0 : Int) < _; decide), ?_⟩
        have b0 := Int.emod_nonneg ((z % 2147483563 + 69621 * (n + 1) + 7) * 48271) (show (2147483647 : Int) ≠ 0 by decide)
        have b1 := Int.emod_lt_of_pos ((z % 2147483563 + 69621 * (n + 1) + 7) * 48271) (show (0 : Int) < 2147483647 by decide)
        have fz := fin z r H3 hp3 hc3 sv3 hbr (by omega)
        generalize (z % 2147483563 + 69621 * (n + 1) + 7) * 48271 % 2147483647 = g at b0 b1 ⊢
        refine ⟨_, rfl, _, rfl, _, _, rfl, rfl, .inl ⟨by omega, by omega⟩, _, rfl, p, _, 2, .int (n + 1), rfl, rfl, SqL.of hp3, rfl, _, _, rfl, rfl, .inl ⟨by decide, by decide⟩, _, _, rfl, rfl, _, _, rfl, rfl, _, _, rfl, rfl, (by show (0 : Int) < _; decide), ?_⟩
        have d0 := Int.emod_nonneg (g * g + 16807 * (n + 1) + 13) (show (2147483587 : Int) ≠ 0 by decide)
        have d1 := Int.emod_lt_of_pos (g * g + 16807 * (n + 1) + 13) (show (0 : Int) < 2147483587 by decide)
        generalize (g * g + 16807 * (n + 1) + 13) % 2147483587 = j at d0 d1 ⊢
        refine ⟨_, rfl, _, rfl, _, _, rfl, rfl, ⟨by decide, by decide⟩, _, _, rfl, rfl, _, _, rfl, rfl, .inl ⟨by omega, by omega⟩, _, _, rfl, rfl, (by show (0 : Int) < _; decide), _, _, rfl, rfl, ⟨by decide, by decide⟩, _, rfl, _, _, rfl, rfl, m0, fz⟩
end
end My

-- ===== K13D =====
set_option Elab.async false
set_option linter.all false
set_option maxRecDepth 100000
set_option maxHeartbeats 4000000
namespace My
open PySem L2 PyProof.Rows PySem.Spec
/-! ### data, apart from two addresses -/
mutual
/-- v is the data d; F holds of where its objects stand -/
inductive Dq (F : Addr → Prop) (H : Hp) : V → PyData → Prop
  | non : Dq F H .non .none
  | bl (b : Bool) : Dq F H (.bl b) (.bool b)
  | int (i : Int) : Dq F H (.int i) (.int i)
  | str (x : Str) : Dq F H (.str x) (.str x)
  | lst {a : Addr} {xs : List V} {ds : List PyData} : sysModules < a → F a → H a = some (.lst xs) → DqAll F H xs ds → Dq F H (.ref a) (.list ds)
  | tup {a : Addr} {xs : List V} {ds : List PyData} : F a → H a = some (.tup xs) → DqAll F H xs ds → Dq F H (.ref a) (.tuple ds)
  | dct {a : Addr} {k : Str} {v : V} {d : PyData} : F a → H a = some (.dK [(Sum.inr k, v)]) → Dq F H v d → Dq F H (.ref a) (.dict [(.str k, d)])
inductive DqAll (F : Addr → Prop) (H : Hp) : List V → List PyData → Prop
  | nil : DqAll F H [] []
  | cons {v : V} {vs : List V} {d : PyData} {ds : List PyData} : Dq F H v d → DqAll F H vs ds → DqAll F H (v :: vs) (d :: ds)
end
mutual
/-- .. in another heap, where these objects stand, too; of less -/
theorem Dq.to {F F' : Addr → Prop} {H H' : Hp} (s : ∀ a o, F a → H a = some o → H' a = some o) (m : ∀ a, F a → F' a) : ∀ {v : V} {d : PyData}, Dq F H v d → Dq F' H' v d
  | _, _, .non => .non
  | _, _, .bl b => .bl b
  | _, _, .int i => .int i
  | _, _, .str x => .str x
  | _, _, .lst h1 h2 h4 h5 => .lst h1 (m _ h2) (s _ _ h2 h4) (DqAll.to s m h5)
  | _, _, .tup h2 h4 h5 => .tup (m _ h2) (s _ _ h2 h4) (DqAll.to s m h5)
  | _, _, .dct h2 h4 h5 => .dct (m _ h2) (s _ _ h2 h4) (Dq.to s m h5)
theorem DqAll.to {F F' : Addr → Prop} {H H' : Hp} (s : ∀ a o, F a → H a = some o → H' a = some o) (m : ∀ a, F a → F' a) : ∀ {vs : List V} {ds : List PyData}, DqAll F H vs ds → DqAll F' H' vs ds
  | _, _, .nil => .nil
  | _, _, .cons h1 h2 => .cons (Dq.to s m h1) (DqAll.to s m h2)
end
theorem DqAll.snoc {F : Addr → Prop} {H : Hp} {v : V} {d : PyData} (h : Dq F H v d) : ∀ {vs : List V} {ds : List PyData}, DqAll F H vs ds → DqAll F H (vs ++ [v]) (ds ++ [d])
  | _, _, .nil => .cons h .nil
  | _, _, .cons h1 h2 => .cons h1 (DqAll.snoc h h2)
section
variable {X : Cx} {pins : List (Addr × Obj)} {σ : L2.St} {H : Hp} {s : Shared} {F : Addr → Prop}
theorem modules_not {as bs : List Addr} (h1 : sysModules ∉ as) (h2 : sysModules ∉ bs) : sysModules ∉ as ++ bs := fun h => (List.mem_append.mp h).elim h1 h2
mutual
theorem Dq.reads (I : Inv X pins σ H s) : ∀ (d : PyData) (v : V) (u : Value), Dq F H v d → RelV v u → ∃ as, Reads s.heap u d as ∧ sysModules ∉ as
  | .none, _, _, h, r => by
    cases h
    cases r
    exact ⟨_, Reads.none, by simp⟩
  | .bool b, _, _, h, r => by
    cases h
    cases r
    exact ⟨_, Reads.bool b, by simp⟩
  | .int i, _, _, h, r => by
    cases h
    obtain ⟨t, rfl⟩ := r
    exact ⟨_, Reads.int i t, by simp⟩
  | .str x, _, _, h, r => by
    cases h
    obtain ⟨t, rfl⟩ := r
    exact ⟨_, Reads.str x t, by simp⟩
  | .list ds, _, _, h, r => by
    cases h with
    | lst big n1 ha hd =>
      rename_i a xs
      cases r
      obtain ⟨_, its, n, rv, ho⟩ := (show ObjOk X.prog X.w H s.heap a (.lst xs) from I.hok a _ ha)
      obtain ⟨as, hr, hn⟩ := DqAll.reads I ds _ its hd rv
      refine ⟨_, Reads.list ho rfl rfl (by simpa using hr), ?_⟩
      intro hm
      rcases List.mem_cons.mp hm with e | e
      · exact absurd big (by rw [← e]; exact Nat.lt_irrefl _)
      · exact hn e
  | .tuple ds, _, _, h, r => by
    cases h with
    | tup n1 ha hd =>
      rename_i a xs
      cases r
      obtain ⟨_, its, rv, o, ho, hc, n, hdt⟩ := (show ObjOk X.prog X.w H s.heap a (.tup xs) from I.hok a _ ha)
      obtain ⟨as, hr, hn⟩ := DqAll.reads I ds _ its hd rv
      exact ⟨_, Reads.tuple ho hc hdt (by simpa using hr), hn⟩
  | .dict [], _, _, h, _ => by cases h
  | .dict [(k, d)], _, _, h, r => by
    cases h with
    | dct n1 ha hd =>
      rename_i a k v
      cases r
      obtain ⟨_, low, vs, rel, o, es, ep, ho, hx, hdt, _, hp, _⟩ := (show ObjOk X.prog X.w H s.heap a (.dK [(Sum.inr k, v)]) from I.hok a _ ha)
      rcases vs with _ | ⟨⟨kk, u⟩, _ | ⟨_, _⟩⟩
      · cases rel
      · have r1 : (Sum.inr k = kk) ∧ RelV v u := by
          cases rel with
          | cons r1 rn => exact r1
        obtain ⟨e1, rv⟩ := r1
        subst e1
        generalize hl : es.toList = l at hp
        cases hp with
        | cons hk hv hrest =>
          cases hrest
          rename_i en
          obtain ⟨as, hr, hn⟩ := Dq.reads I d v u hd rv
          obtain ⟨t, hk'⟩ : ∃ t, en.key = Value.str k t := by
            have hk2 : keyIs (Sum.inr k) en.key = true := hk
            rcases keyIs_shape hk2 with ⟨i, t, q, _⟩ | ⟨y, t, q, z⟩
            · cases q
            · cases q
              exact ⟨t, z⟩
          refine ⟨_, Reads.dict (es := es) (as := []) (bs := as ++ []) ho hx.1 hdt ?_ ?_, ?_⟩
          · rw [hl]
            show ReadsAll s.heap [en.key] [PyData.str k] []
            rw [hk']
            exact .cons (as := []) (bs := []) (.str k t) .nil
          · rw [hl]
            show ReadsAll s.heap [en.val] [d] (as ++ [])
            rw [show en.val = u from hv]
            exact .cons hr .nil
          · intro hm
            have hm' : sysModules ∈ a :: (as ++ []) := by simpa using hm
            rcases List.mem_cons.mp hm' with e | e
            · rw [← e] at low
              exact absurd low (by simp)
            · exact hn (by simpa using e)
      · cases rel with
        | cons _ rn => cases rn
  | .dict (_ :: _ :: _), _, _, h, _ => by cases h
theorem DqAll.reads (I : Inv X pins σ H s) : ∀ (ds : List PyData) (vs : List V) (us : List Value), DqAll F H vs ds → Vals vs us → ∃ as, ReadsAll s.heap us ds as ∧ sysModules ∉ as
  | [], _, _, h, r => by
    cases h
    cases r
    exact ⟨_, ReadsAll.nil, by simp⟩
  | d :: ds, _, _, h, r => by
    cases h with
    | cons h1 h2 =>
      cases r with
      | cons r1 r2 =>
        obtain ⟨as, q1, n1⟩ := Dq.reads I d _ _ h1 r1
        obtain ⟨bs, q2, n2⟩ := DqAll.reads I ds _ _ h2 r2
        exact ⟨_, ReadsAll.cons q1 q2, modules_not n1 n2⟩
end
/-! ### repr of such data -/
def rReprD (F : Addr → Prop) : List V → Hp → VK → Prop := fun xs H Q => ∃ v d, xs = [v] ∧ Dq F H v d ∧ d.showable = true ∧ d.depth ≤ 60 ∧ d.shown.length ≤ sizeLine ∧ Q (.str d.shown) H
theorem call_reprD (hg : X.A.guards = some []) (hu : X.A.units + 64 < cLine) : CallR X (.builtin "repr") (rReprD F) := by
  intro pins s σ H xs us Q I r h
  obtain ⟨v, d, rfl, hd, hs, hdp, hz, q⟩ := h
  obtain ⟨u, rfl, rx⟩ := vals1 r
  obtain ⟨as, hr, hn⟩ := Dq.reads I d v u hd rx
  cases hd with
  | non =>
    cases (show u = Value.none from rx)
    exact P.repr_of_none ⟨.str _, H, I.tok _, ⟨_, rfl⟩, q⟩
  | bl b =>
    cases (show u = Value.bool b from rx)
    exact P.repr_of_bool ⟨.str _, H, I.tok _, ⟨_, rfl⟩, q⟩
  | int i =>
    obtain ⟨t, rfl⟩ := (show ∃ t, u = Value.int i t from rx)
    exact P.repr_of_int (by simpa [PyData.showable] using hs) ⟨.str _, H, I.tok _, ⟨_, rfl⟩, q⟩
  | str x =>
    obtain ⟨t, rfl⟩ := (show ∃ t, u = Value.str x t from rx)
    exact P.repr_of_str ⟨.str _, H, I.tok _, ⟨_, rfl⟩, q⟩ (by simpa only [PyData.shown] using hz)
  | lst _ _ _ _ =>
    cases rx
    exact repr_of_reads' hr hs (fun _ => hn) hg (by omega) (fun _ _ e => e) (fun h' t tk k => ⟨.str _, H, I.kept k, ⟨t, rfl⟩, q⟩) hz
  | tup _ _ _ =>
    cases rx
    exact repr_of_reads' hr hs (fun _ => hn) hg (by omega) (fun _ _ e => e) (fun h' t tk k => ⟨.str _, H, I.kept k, ⟨t, rfl⟩, q⟩) hz
  | dct _ _ _ =>
    cases rx
    exact repr_of_reads' hr hs (fun _ => hn) hg (by omega) (fun _ _ e => e) (fun h' t tk k => ⟨.str _, H, I.kept k, ⟨t, rfl⟩, q⟩) hz
end
end My

-- ===== KS1 =====
set_option Elab.async false
set_option linter.all false
set_option maxRecDepth 100000
set_option maxHeartbeats 1600000
/-! Sets whose members are objects told by a key (tuples of texts, nested tuples): search and add. -/
namespace Kd
open PySem PySem.Spec PyProof.Rows L2

section
variable {P : Program} {w : World} {K : Type} [DecidableEq K]
/-- keys that a set can have for members: nothing of the program is asked when they are compared -/
structure SetKind (knd : HeapKind P w K) : Prop where
  st : knd.Stays
  cls : ∀ {A : Around} {E : Value → Shared → Prop} {s : Shared} {k : K} {b : Addr} {Q : Bool → Shared → Prop}, knd.is s.heap k b → Q false s → wpAny (model P w) A (ofAClassStatement 8 (.ref b)) Q E s
  byv : ∀ {A : Around} {E : Value → Shared → Prop} {s : Shared} {k : K} {b : Addr} {Q : Bool → Shared → Prop}, knd.is s.heap k b → (∀ c, Q c s) → wpAny (model P w) A (hashByValue 8 (.ref b)) Q E s

def rowsH (knd : HeapKind P w K) (L : List (Addr × K)) : List (Int × Value) := L.map fun q => (knd.hash q.2, Value.ref q.1)
def hashH (knd : HeapKind P w K) (L : List (Addr × K)) : List Int := L.map fun q => knd.hash q.2
theorem rowsH_len (knd : HeapKind P w K) (L : List (Addr × K)) : (rowsH knd L).length = L.length := List.length_map ..
theorem hashH_len (knd : HeapKind P w K) (L : List (Addr × K)) : (hashH knd L).length = L.length := List.length_map ..
/-- at a the set with the members L: their addresses and keys, in the order of the table -/
structure SetH (knd : HeapKind P w K) (h : Heap) (a : Addr) (L : List (Addr × K)) (es : Array (Int × Value)) (ep : Nat) (t : SetTable) : Prop where
  ob : ∃ o, h.get? a = some o ∧ o.ExactSet ∧ o.data = .set es ep t
  rows : es.toList = rowsH knd L
  tab : TabOk t (hashH knd L)
  nd : (L.map Prod.snd).Nodup
  key : ∀ q ∈ L, knd.is h q.2 q.1
  led : w.params.followText "set-order" = true ∨ t.led = true
  room : L.length * 5 < t.mask * 3
  few : L.length < 64
end

section
variable {P : Program} {w : World} {K : Type} [DecidableEq K] {knd : HeapKind P w K} {A : Around} {E : Value → Shared → Prop} {s : Shared} {h : Heap} {a : Addr} {L : List (Addr × K)} {es : Array (Int × Value)} {ep : Nat} {t : SetTable}

theorem SetH.esz (Z : SetH knd h a L es ep t) : es.size = L.length := by
  have q := congrArg List.length Z.rows
  rwa [rowsH_len, Array.length_toList] at q
theorem SetH.psz (Z : SetH knd h a L es ep t) : t.place.size = L.length := by
  have q := Z.tab.sz
  rwa [hashH_len] at q
theorem SetH.fit (Z : SetH knd h a L es ep t) : t.fits es.size = true := by
  have q1 := Z.psz
  have q2 := Z.esz
  have q3 := Z.room
  unfold SetTable.fits SetTable.fill
  rw [Z.tab.dm, Bool.and_eq_true, beq_iff_eq, decide_eq_true_eq, q1, q2]
  refine ⟨rfl, ?_⟩
  show L.length + 0 ≤ t.mask
  omega
theorem SetH.at_ (Z : SetH knd h a L es ep t) {i : Nat} {q : Addr × K} (e : L[i]? = some q) : es[i]? = some (knd.hash q.2, Value.ref q.1) := by
  have z : es.toList[i]? = some (knd.hash q.2, Value.ref q.1) := by
    rw [Z.rows]
    show (L.map _)[i]? = _
    rw [List.getElem?_map, e]
    rfl
  rwa [Array.getElem?_toList] at z
theorem SetH.stands (Z : SetH knd h a L es ep t) : ¬ t.gaveWay = true := by
  unfold SetTable.gaveWay
  rw [mask_odd Z.tab.mok]
  decide
theorem nth_plain (m : Nat) : ∀ (n : Nat) (p : SetTable.Probe), p.dummy = none → (nth m p n).dummy = none
  | 0, _, e => e
  | n + 1, p, e => nth_plain m n (adv m p) (by unfold adv; split <;> exact e)

/-- comparing keys shows nothing -/
theorem unseen (S : SetKind knd) {k : K} {b : Addr} {Q : Bool → Shared → Prop} (hb : knd.is s.heap k b) {ys : List Value} (hy : ∀ y ∈ ys, ∃ k' c, y = Value.ref c ∧ knd.is s.heap k' c) (q : Q false s) :
    wpAny (model P w) A (searchCouldBeSeen (.ref b) ys) Q E s := by
  unfold searchCouldBeSeen
  refine wpAny_bind (wpAny_forIn_list _ (fun todo r s1 => r.1 = none ∧ s1 = s ∧ ∀ y ∈ todo, ∃ k' c, y = Value.ref c ∧ knd.is s.heap k' c) _ (fun y todo r s1 hI => ?_) (fun r s1 hI => ?_) _ _ ⟨rfl, rfl, hy⟩)
  · obtain ⟨e1, e2, e3⟩ := hI
    subst e2
    obtain ⟨k', c, e4, hc⟩ := e3 y List.mem_cons_self
    subst e4
    have more : ∀ y ∈ todo, ∃ k' c, y = Value.ref c ∧ knd.is s1.heap k' c := fun u hu => e3 u (List.mem_cons_of_mem _ hu)
    dsimp only
    by_cases same : (b == c || (carriedByValue (.ref b) && carriedByValue (.ref c))) = true
    · exact wp_if_pos same (wpAny_pure ⟨rfl, rfl, more⟩)
    · refine wp_if_neg same (wpAny_bind (knd.quiet hb ?_))
      simp only [Bool.not_true, Bool.false_eq_true, if_false]
      refine wpAny_bind (knd.quiet hc ?_)
      simp only [Bool.not_true, Bool.false_eq_true, if_false]
      refine wpAny_bind (S.cls hb ?_)
      simp only [Bool.false_eq_true, if_false]
      refine wpAny_bind (S.cls hc ?_)
      simp only [Bool.false_eq_true, if_false]
      exact wpAny_pure ⟨rfl, rfl, more⟩
  · obtain ⟨r1, r2⟩ := r
    obtain ⟨e1, e2, _⟩ := hI
    have e1 : r1 = none := e1
    subst e1
    subst e2
    exact wpAny_pure q

/-- the probe's state behind c steps -/
abbrev prob (t : SetTable) (g : Int) (c : Nat) : SetTable.Probe := nth t.mask (runAt t.mask (SetTable.bits g % (t.mask + 1)) (SetTable.bits g)) c

theorem seek (S : SetKind knd) (Z : SetH knd s.heap a L es ep t) {x : Addr} {k : K} (hx : knd.is s.heap k x) (hr : knd.room A) {K0 : Nat} (kf : K0 < 10 * SetTable.turns t.mask)
    (kout : way t.mask (knd.hash k) K0 ∉ t.place.toList) (kin : ∀ c, c < K0 → way t.mask (knd.hash k) c ∈ t.place.toList) {Q : SetFound → Shared → Prop}
    (yes : k ∈ L.map Prod.snd → Q (.there none) s) (no : k ∉ L.map Prod.snd → Q (.free (way t.mask (knd.hash k) K0) false) s) :
    ∀ (m f c : Nat) (stand : Option SetTable.Probe), K0 - c = m → m < f → c ≤ K0 → stand.getD (t.probeStart (knd.hash k)) = prob t (knd.hash k) c →
      (∀ (i : Nat) q, L[i]? = some q → q.2 = k → ∃ d, c ≤ d ∧ d < K0 ∧ t.place.toList[i]? = some (way t.mask (knd.hash k) d)) →
      wpAny (model P w) A (setSearchFrom a (.ref x) (knd.hash k) true f stand) Q E s := by
  intro m
  induction m using Nat.strongRecOn with
  | ind m ih =>
    intro f c stand em mf ck es0 left
    obtain ⟨f, rfl⟩ : ∃ f', f = f' + 1 := ⟨f - 1, by omega⟩
    obtain ⟨o, ho, hex, hdat⟩ := Z.ob
    rw [setSearchFrom_succ]
    refine wpAny_bind (wpAny_setState_of ho hdat Z.fit ?_)
    dsimp only
    refine wp_if_neg Z.stands ?_
    have step : ∀ d, nth t.mask (prob t (knd.hash k) c) d = prob t (knd.hash k) (c + d) := fun d => (nth_add t.mask c _ d).symm
    have stepj : ∀ d, (nth t.mask (prob t (knd.hash k) c) d).j = way t.mask (knd.hash k) (c + d) := fun d => by rw [step d]
    have hend : c + (K0 - c) = K0 := by omega
    have hat : ∀ (i : Nat) q, L[i]? = some q → (fun i => (es[i]?.map (·.1)).getD 0) i = knd.hash q.2 := fun i q e => by
      show (es[i]?.map (·.1)).getD 0 = _
      rw [Z.at_ e]
      rfl
    rcases go_spec t Z.tab.ris Z.tab.dm (fun i => (es[i]?.map (·.1)).getD 0) (knd.hash k) (10 * SetTable.turns t.mask) (K0 - c) (prob t (knd.hash k) c) (nth_plain _ _ _ rfl) (by omega)
        (fun d hd => by rw [stepj]; exact kin _ (by omega)) (by rw [stepj, hend]; exact kout) with ⟨d, i, d1, d2, d3, d4, d5⟩ | ⟨d1, d2⟩
    · rw [stepj] at d2
      rw [stepj, step] at d5
      have pr : t.probe (fun i => (es[i]?.map (·.1)).getD 0) (knd.hash k) (stand.getD (t.probeStart (knd.hash k))) = some (.candidate (way t.mask (knd.hash k) (c + d)) i (prob t (knd.hash k) (c + (d + 1)))) := by
        rw [es0]
        exact d5
      rw [pr]
      dsimp only
      have il : i < L.length := by
        have z := (List.getElem?_eq_some_iff.mp d2).1
        rw [Array.length_toList, Z.psz] at z
        exact z
      obtain ⟨q, eq⟩ : ∃ q, L[i]? = some q := ⟨_, List.getElem?_eq_getElem il⟩
      have qm : q ∈ L := List.mem_of_getElem? eq
      have go : wpAny (model P w) A (searchRest a (.ref x) (knd.hash k) true f es t (way t.mask (knd.hash k) (c + d)) i (prob t (knd.hash k) (c + (d + 1)))) Q E s := by
        unfold searchRest
        rw [Z.at_ eq]
        dsimp only
        refine wpAny_bind (wpAny_holding (knd.eqBool hr (Z.key q qm) hx ?_))
        refine wpAny_bind (wpAny_setState_of ho hdat Z.fit ?_)
        dsimp only
        have live : t.slot (way t.mask (knd.hash k) (c + d)) = .live i := slot_live Z.tab.ris d2
        by_cases ek : q.2 = k
        · exact wp_if_pos (by simp [ek]) (wpAny_pure (yes (List.mem_map.mpr ⟨q, qm, ek⟩)))
        · refine wp_if_neg (by simp [ek]) ?_
          rw [sameMem]
          dsimp only
          simp only [if_true, live, Z.at_ eq]
          refine wpAny_bind (wpAny_isSame_ref_self (wpAny_bind (wpAny_pure ?_)))
          simp only [if_true]
          refine wp_if_neg (by simp [ek]) (ih (K0 - (c + (d + 1))) (by omega) f (c + (d + 1)) _ rfl (by omega) (by omega) rfl fun i0 q0 e0 ek0 => ?_)
          obtain ⟨v, v1, v2, v3⟩ := left i0 q0 e0 ek0
          refine ⟨v, ?_, v2, v3⟩
          rcases Nat.lt_trichotomy v (c + d) with lt | e | gt
          · exact absurd ((hat i0 q0 e0).trans (congrArg knd.hash ek0)) (d4 (v - c) i0 (by omega) (by rw [stepj, show c + (v - c) = v by omega]; exact v3))
          · rw [e] at v3
            have live2 := slot_live Z.tab.ris v3
            rw [live] at live2
            cases live2
            rw [eq] at e0
            cases e0
            exact absurd ek0 ek
          · omega
      by_cases ld : t.led = true
      · exact wp_if_neg (by simp [ld]) go
      · refine wp_if_pos (by simp [ld]) (wpAny_bind (unseen S hx (fun y hy => ?_) (wp_if_neg (by decide) go)))
        obtain ⟨u, hu, rfl⟩ := List.mem_map.mp hy
        have hu1 : u ∈ es := by
          have z : u ∈ es ∧ u.1 = knd.hash k := by simpa using hu
          exact z.1
        have hu2 : u ∈ rowsH knd L := by
          rw [← Z.rows]
          simpa using hu1
        obtain ⟨q2, h2, rfl⟩ := List.mem_map.mp hu2
        exact ⟨q2.2, q2.1, rfl, Z.key q2 h2⟩
    · rw [stepj, hend] at d2
      have pr : t.probe (fun i => (es[i]?.map (·.1)).getD 0) (knd.hash k) (stand.getD (t.probeStart (knd.hash k))) = some (.empty (way t.mask (knd.hash k) K0) none) := by
        rw [es0]
        exact d2
      rw [pr]
      dsimp only
      refine wpAny_pure (no fun km => ?_)
      obtain ⟨q0, m0, ek0⟩ := List.mem_map.mp km
      obtain ⟨i0, l0, e0⟩ := List.getElem_of_mem m0
      have e1 : L[i0]? = some q0 := by rw [List.getElem?_eq_getElem l0, e0]
      obtain ⟨v, v1, v2, v3⟩ := left i0 q0 e1 ek0
      exact d1 (v - c) i0 (by omega) (by rw [stepj, show c + (v - c) = v by omega]; exact v3) ((hat i0 q0 e1).trans (congrArg knd.hash ek0))

/-- the search before an add -/
theorem find_at (S : SetKind knd) (Z : SetH knd s.heap a L es ep t) {x : Addr} {k : K} (hx : knd.is s.heap k x) (hr : knd.room A) {Q : SetFound → Shared → Prop} (yes : k ∈ L.map Prod.snd → Q (.there none) s)
    (no : ∀ c, k ∉ L.map Prod.snd → way t.mask (knd.hash k) c ∉ t.place.toList → (∀ d, d < c → way t.mask (knd.hash k) d ∈ t.place.toList) → Q (.free (way t.mask (knd.hash k) c) false) s) :
    wpAny (model P w) A (setSearch a (.ref x) (knd.hash k) true) Q E s := by
  have hroom := Z.room
  obtain ⟨c, c1, c2, c3⟩ := Z.tab.first (by rw [hashH_len]; omega) (knd.hash k)
  have small : c < 100000 := by
    have z : 10 * SetTable.turns t.mask ≤ 1420 := by
      unfold SetTable.turns
      rcases Z.tab.mok with e | e | e <;> omega
    omega
  refine seek S Z hx hr c1 c2 c3 yes (fun h => no c h c2 c3) c 100000 0 none (by omega) small (Nat.zero_le _) rfl fun i q e ek => ?_
  have hi : (hashH knd L)[i]? = some (knd.hash k) := by
    show (L.map _)[i]? = _
    rw [List.getElem?_map, e, ← ek]
    rfl
  have il : i < t.place.toList.length := by
    rw [Array.length_toList, Z.psz]
    exact (List.getElem?_eq_some_iff.mp e).1
  obtain ⟨d, d1, d2⟩ := Z.tab.before c2 hi (List.getElem?_eq_getElem il)
  exact ⟨d, Nat.zero_le _, d1, by rw [d2]; exact List.getElem?_eq_getElem il⟩
end
end Kd

-- ===== KS2 =====
set_option Elab.async false
set_option linter.all false
set_option maxRecDepth 100000
set_option maxHeartbeats 1600000
namespace Kd
open PySem PySem.Spec PyProof.Rows L2

theorem range_pick {α : Type} (L : List α) : ∀ n, n ≤ L.length → (List.range n).filterMap (fun i => L[i]?) = L.take n
  | 0, _ => by simp
  | n + 1, le => by
    have lt : n < L.length := le
    rw [List.range_succ, List.filterMap_append, range_pick L n (Nat.le_of_lt lt), List.take_succ, List.getElem?_eq_getElem lt]
    simp [List.getElem?_eq_getElem lt]

section
variable {P : Program} {w : World} {K : Type} [DecidableEq K] {knd : HeapKind P w K} {A : Around} {E : Value → Shared → Prop} {s : Shared} {a : Addr} {L : List (Addr × K)} {es : Array (Int × Value)} {ep : Nat} {t : SetTable}

theorem rows_get {L : List (Addr × K)} {es : Array (Int × Value)} (hr : es.toList = rowsH knd L) (i : Nat) : es[i]? = (L[i]?).map fun q => (knd.hash q.2, Value.ref q.1) := by
  have z : es.toList[i]? = (rowsH knd L)[i]? := by rw [hr]
  rw [Array.getElem?_toList] at z
  rw [z]
  unfold rowsH
  rw [List.getElem?_map]
theorem rows_hash {L : List (Addr × K)} {es : Array (Int × Value)} (hr : es.toList = rowsH knd L) : ∀ l : List Nat, (∀ i ∈ l, i < L.length) → hashH knd (l.filterMap fun i => L[i]?) = l.map fun i => (es.map Prod.fst).getD i 0
  | [], _ => rfl
  | i :: l, hl => by
    have lt := hl i List.mem_cons_self
    have ih := rows_hash hr l fun j hj => hl j (List.mem_cons_of_mem _ hj)
    have g := rows_get hr i
    rw [List.getElem?_eq_getElem lt] at g
    have g2 : (es.map Prod.fst).getD i 0 = knd.hash (L[i]).2 := by
      rw [Array.getD_eq_getD_getElem?, Array.getElem?_map, g]
      rfl
    rw [List.filterMap_cons_some (List.getElem?_eq_getElem lt), List.map_cons, g2, ← ih]
    rfl
/-- a key stays a key when a set changes -/
theorem SetKind.keeps (S : SetKind knd) {h h' : Heap} {a b : Addr} {k : K} {o : Obj} {es : Array (Int × Value)} {ep : Nat} {t : SetTable} (ho : h.get? a = some o) (hd : o.data = .set es ep t) (sb : Heap.SameBut a h h') (x : knd.is h k b) : knd.is h' k b := by
  refine S.st.stays (fun c u vs n e d => ?_) x
  have ne : c ≠ a := fun z => by
    rw [z, ho] at e
    rw [← Option.some.inj e, hd] at d
    cases d
  rw [sb.2 c ne]
  exact e

/-- the table laid anew -/
theorem relay (S : SetKind knd) {o : Obj} (ho : s.heap.get? a = some o) (hex : o.ExactSet) (hd : o.data = .set es ep t) (hr : es.toList = rowsH knd L) (hp : t.place.size = es.size) (dm : t.dummies = #[]) (fl : es.size ≤ t.mask) (nd : (L.map Prod.snd).Nodup)
    (key : ∀ q ∈ L, knd.is s.heap q.2 q.1) (ld : w.params.followText "set-order" = true ∨ t.led = true) (few : L.length < 64) {wanted M : Nat} (hw : SetTable.sizeAbove wanted - 1 = M) (hM : MaskOk M) (hw2 : SetTable.sizeAbove wanted ≤ 128) (hn : L.length * 5 < M * 3)
    {Q : Unit → Shared → Prop} (q : ∀ h' L' es' ep' t', Heap.SameBut a s.heap h' → SetH knd h' a L' es' ep' t' → L'.Perm L → Q () { s with heap := h' }) : wpAny (model P w) A (setRelay a wanted) Q E s := by
  have sz : es.size = L.length := by
    have z := congrArg List.length hr
    rwa [rowsH_len, Array.length_toList] at z
  have fit : t.fits es.size = true := by
    unfold SetTable.fits SetTable.fill
    rw [dm, Bool.and_eq_true, beq_iff_eq, decide_eq_true_eq, hp]
    exact ⟨rfl, fl⟩
  obtain ⟨t', ord, e1, e2, e3, e4, e5, _, _⟩ := relaid_ok t (hs := es.map Prod.fst) (wanted := wanted) hw hM (by rw [Array.size_map]; omega)
  rw [Array.size_map, sz] at e2
  have lt : ∀ i ∈ ord.toList, i < L.length := fun i hi => List.mem_range.mp (e2.mem_iff.mp hi)
  have pm : (ord.toList.filterMap fun i => L[i]?).Perm L := by
    have z := e2.filterMap fun i => L[i]?
    rwa [range_pick L L.length (Nat.le_refl _), List.take_length] at z
  rw [← rows_hash hr ord.toList lt] at e3
  have er : (ord.filterMap (es[·]?)).toList = rowsH knd (ord.toList.filterMap fun i => L[i]?) := by
    rw [Array.toList_filterMap]
    unfold rowsH
    rw [List.map_filterMap]
    congr 1
    funext i
    exact rows_get hr i
  generalize ord.toList.filterMap (fun i => L[i]?) = L' at e3 er pm
  have sz' : (ord.filterMap (es[·]?)).size = L.length := by
    rw [← Array.length_toList, er, rowsH_len, pm.length_eq]
  rw [setRelay_eq]
  refine wpAny_bind (wpAny_setState_of ho hd fit ?_)
  dsimp only
  refine wp_if_neg (by rw [sizeLine_eq]; omega) ?_
  rw [e1]
  dsimp only
  refine wpAny_bind (wp_if_neg (by rw [sz', sz]; simp) (wpAny_pure ?_))
  dsimp only
  have sb : Heap.SameBut a s.heap (s.heap.update a (Obj.putSet (ord.filterMap (es[·]?)) t')) := Heap.SameBut.update ..
  refine wpAny_storeSet_of ho hd (q _ L' _ (ep + 1) t' sb ⟨⟨_, store_at ho hd, hex, rfl⟩, er, e3, ?_, fun p hp => S.keeps ho hd sb (key p (pm.mem_iff.mp hp)), ?_, ?_, ?_⟩ pm) (by rw [sz', sizeLine_eq]; omega)
  · exact (pm.map Prod.snd).nodup_iff.mpr nd
  · rw [e5]
    exact ld
  · rw [pm.length_eq, e4]
    exact hn
  · rw [pm.length_eq]
    exact few

/-- a member added -/
theorem add_key (S : SetKind knd) (Z : SetH knd s.heap a L es ep t) {x : Addr} {k : K} (hx : knd.is s.heap k x) (hr : knd.room A) (hfew : k ∉ L.map Prod.snd → L.length + 1 < 64) {Q : Bool → Shared → Prop}
    (q : ∀ b h' L' es' ep' t', Heap.SameBut a s.heap h' → SetH knd h' a L' es' ep' t' → (k ∈ L.map Prod.snd → L' = L) → (k ∉ L.map Prod.snd → L'.Perm ((x, k) :: L)) → Q b { s with heap := h' }) :
    wpAny (model P w) A (setAddHashed a (.ref x) (knd.hash k)) Q E s := by
  obtain ⟨o, ho, hex, hd⟩ := Z.ob
  have sz := Z.esz
  have rm := Z.room
  unfold setAddHashed
  refine wpAny_holding ?_
  rw [show (100000 : Nat) = 99999 + 1 from rfl, setAddHashedIn_succ]
  refine wpAny_bind (wpAny_setState_of ho hd Z.fit ?_)
  dsimp only
  refine wp_if_neg (by simp [byScan, Value.scannable]) (wpAny_bind (find_at S Z hx hr (fun km => ?_) fun c kn out inn => ?_))
  · exact wpAny_pure (q false s.heap L es ep t (Heap.SameBut.refl a s.heap) Z (fun _ => rfl) fun n => absurd km n)
  · have less := hfew kn
    dsimp only
    refine wpAny_bind (wpAny_setState_of ho hd Z.fit ?_)
    dsimp only
    obtain ⟨p1, p2, p3, p4, p5, _, _, _, p9⟩ := Z.tab.put out inn
    rw [hashH_len] at p2 p9
    generalize t.put (way t.mask (knd.hash k) c) = pt at p1 p3 p4 p5 p9 ⊢
    obtain ⟨t1, at_⟩ := pt
    dsimp only at p1 p3 p4 p5 p9 ⊢
    subst p1
    generalize SetTable.below t.place (way t.mask (knd.hash k) c) = n at p2 p3 ⊢
    have pm : (L.take n ++ (x, k) :: L.drop n).Perm ((x, k) :: L) := put_perm L n (x, k)
    have hh : hashH knd (L.take n ++ (x, k) :: L.drop n) = (hashH knd L).take n ++ knd.hash k :: (hashH knd L).drop n := by
      unfold hashH
      rw [List.map_append, List.map_cons, List.map_take, List.map_drop]
    have rr : (SetTable.insertAt es n (knd.hash k, Value.ref x)).toList = rowsH knd (L.take n ++ (x, k) :: L.drop n) := by
      rw [SetTable.toList_insertAt, Z.rows]
      unfold rowsH
      rw [List.map_append, List.map_cons, List.map_take, List.map_drop]
    rw [← hh] at p3
    generalize L.take n ++ (x, k) :: L.drop n = L1 at pm p3 rr
    have len1 : L1.length = L.length + 1 := pm.length_eq
    have esz1 : (SetTable.insertAt es n (knd.hash k, Value.ref x)).size = L.length + 1 := by
      rw [← Array.length_toList, rr, rowsH_len, len1]
    have nd1 : (L1.map Prod.snd).Nodup := (pm.map Prod.snd).nodup_iff.mpr (List.nodup_cons.mpr ⟨kn, Z.nd⟩)
    generalize SetTable.insertAt es n (knd.hash k, Value.ref x) = es1 at rr esz1 ⊢
    -- whatever is told of the hash, the table is the same but for a mark
    have fin : ∀ t2 : SetTable, t2.mask = t1.mask → TabOk t2 (hashH knd L1) → t2.led = t1.led → t2.fill = t1.fill →
        wpAny (model P w) A (do
          storeSet a es1 t2
          if (!false && t2.tooFull) = true then do
              let _ ← setRelay a (SetTable.grown (es.size + 1))
              pure true
            else pure true) Q E s := fun t2 m2 ok2 led2 fill2 => by
      have sb : Heap.SameBut a s.heap (s.heap.update a (Obj.putSet es1 t2)) := Heap.SameBut.update ..
      have ho1 := store_at (es' := es1) (t' := t2) ho hd
      refine wpAny_bind (wpAny_storeSet_of ho hd ?_ (by rw [esz1, sizeLine_eq]; omega))
      generalize s.heap.update a (Obj.putSet es1 t2) = h1 at sb ho1 ⊢
      have key1 : ∀ p ∈ L1, knd.is h1 p.2 p.1 := fun p hp => by
        rcases List.mem_cons.mp (pm.mem_iff.mp hp) with e | m
        · rw [e]
          exact S.keeps ho hd sb hx
        · exact S.keeps ho hd sb (Z.key p m)
      have led1 : w.params.followText "set-order" = true ∨ t2.led = true := by
        rw [led2, p5]
        exact Z.led
      have full : t2.tooFull = decide ((L.length + 1) * 5 ≥ t.mask * 3) := by
        unfold SetTable.tooFull
        rw [fill2, p9, m2, p4]
      by_cases hf : (L.length + 1) * 5 ≥ t.mask * 3
      · refine wp_if_pos (by rw [full, decide_eq_true hf]; rfl) (wpAny_bind ?_)
        have sized : (t.mask = 7 ∧ L.length = 4) ∨ (t.mask = 31 ∧ L.length = 18) := by
          rcases Z.tab.mok with e | e | e
          · exact .inl ⟨e, by omega⟩
          · exact .inr ⟨e, by omega⟩
          · omega
        have anew : ∀ M, SetTable.sizeAbove (SetTable.grown (L.length + 1)) - 1 = M → MaskOk M → SetTable.sizeAbove (SetTable.grown (L.length + 1)) ≤ 128 → (L.length + 1) * 5 < M * 3 →
            wpAny (model P w) A (setRelay a (SetTable.grown (es.size + 1))) (fun _ s' => wpAny (model P w) A (pure true) Q E s') E { s with heap := h1 } := fun M g1 g2 g3 g4 => by
          rw [sz]
          refine relay S (s := { s with heap := h1 }) ho1 hex rfl rr ?_ ok2.dm ?_ nd1 key1 led1 (by rw [len1]; exact less) g1 g2 g3 (by rw [len1]; exact g4) fun h2 L2 es2 ep2 t2' sb2 Z2 pm2 => ?_
          · rw [ok2.sz, hashH_len, len1, esz1]
          · rw [esz1, m2, p4]
            rcases sized with ⟨e, e'⟩ | ⟨e, e'⟩ <;> omega
          · exact wpAny_pure (q true h2 L2 es2 ep2 t2' (sb.trans sb2) Z2 (fun n => absurd n kn) fun _ => pm2.trans pm)
        rcases sized with ⟨_, e⟩ | ⟨_, e⟩
        · exact anew 31 (by rw [e, size_20]) (.inr (.inl rfl)) (by rw [e, size_20]; decide) (by omega)
        · exact anew 127 (by rw [e, size_76]) (.inr (.inr rfl)) (by rw [e, size_76]; decide) (by omega)
      · refine wp_if_neg (by rw [full, decide_eq_false hf]; decide) (wpAny_pure (q true h1 L1 es1 (ep + 1) t2 sb ⟨⟨_, ho1, hex, rfl⟩, rr, ok2, nd1, key1, led1, ?_, by rw [len1]; exact less⟩ (fun n => absurd n kn) fun _ => pm))
        rw [len1, m2, p4]
        omega
    by_cases pl : t1.plain = true
    · refine wp_if_pos pl (wpAny_bind (S.byv hx fun c => ?_))
      cases c with
      | true => exact fin t1 rfl p3 rfl rfl
      | false => exact fin { t1 with plain := false } rfl ⟨p3.ris, p3.dm, p3.sz, p3.mok, p3.bd, p3.reach⟩ rfl rfl
    · refine wp_if_neg pl (wpAny_bind (wpAny_pure ?_))
      exact fin t1 rfl p3 rfl rfl

/-- set.add as a call -/
theorem call_add (S : SetKind knd) (Z : SetH knd s.heap a L es ep t) {x : Addr} {k : K} (hx : knd.is s.heap k x) (hr : knd.room A.in1) (hfew : k ∉ L.map Prod.snd → L.length + 1 < 64) {Q : Value → Shared → Prop}
    (q : ∀ h' tk L' es' ep' t', Heap.SameBut a s.heap h' → SetH knd h' a L' es' ep' t' → (k ∈ L.map Prod.snd → L' = L) → (k ∉ L.map Prod.snd → L'.Perm ((x, k) :: L)) → s.toks ≤ tk → Q .none { s with heap := h', toks := tk }) :
    wpAny (model P w) A (call (.builtin "set.add") [.ref a, .ref x]) Q E s := by
  obtain ⟨o, ho, hex, hd⟩ := Z.ob
  refine wpAny_call_entry F.slot_set_add ⟨o, ho, hex.1⟩ F.entry_set_add ?_ (F.args_set_add_2 _ _)
  unfold Builtin.«set.add» Builtin.Frozenset.oneOther
  simp only [List.isEmpty_nil, bind_assoc]
  unfold Builtin.Frozenset.addrOf setAdd
  refine wpAny_bind (wpAny_pure ?_)
  try dsimp only
  refine wpAny_bind (wpAny_pure ?_)
  try dsimp only
  refine wpAny_bind (wpAny_holding (wpAny_bind (knd.pyHash hr hx ?_)))
  refine add_key (s := { s with toks := s.toks + knd.draws k }) S Z hx hr hfew fun b h' L' es' ep' t' sb Z' c1 c2 => ?_
  show wpAny _ _ (ret Value.none) _ _ _
  exact wpAny_pure ⟨_, rfl, q h' (s.toks + knd.draws k) L' es' ep' t' sb Z' c1 c2 (Nat.le_add_right _ _)⟩
end
end Kd

-- ===== KS3 =====
set_option Elab.async false
set_option linter.all false
set_option maxRecDepth 100000
set_option maxHeartbeats 1600000
namespace Kd
open PySem PySem.Spec PyProof.Rows L2

/-! ### tuples of ints and texts are keys -/
section
variable {P : Program} {w : World} {A : Around} {E : Value → Shared → Prop} {s : Shared}
theorem mixed {ks : List Key} {vs : List Value} (x : ItemsAre (mixKind P w) ks vs) : ∀ v ∈ vs, (∃ i t, v = Value.int i t) ∨ ∃ z t, v = Value.str z t := by
  induction x with
  | nil => exact fun v m => nomatch m
  | @cons k u ks vs h _ ih =>
    intro v m
    rcases List.mem_cons.mp m with e | m
    · subst e
      have h : keyIs k v = true := h
      cases k with
      | inl i =>
        obtain ⟨t, e⟩ := Value.isInt_shape (k := i) (v := v) h
        exact .inl ⟨i, t, e⟩
      | inr z =>
        obtain ⟨t, e⟩ := Value.isStrOf_shape (x := z) (v := v) h
        exact .inr ⟨z, t, e⟩
    · exact ih v m
theorem mixed_cls (n : Nat) {v : Value} (h : (∃ i t, v = Value.int i t) ∨ ∃ z t, v = Value.str z t) : ofAClassStatement n v = pure false := by
  rcases h with ⟨i, t, rfl⟩ | ⟨z, t, rfl⟩ <;> cases n <;> rfl
theorem mixed_byv (n : Nat) {v : Value} (h : (∃ i t, v = Value.int i t) ∨ ∃ z t, v = Value.str z t) : ∃ c, hashByValue n v = pure c := by
  rcases h with ⟨i, t, rfl⟩ | ⟨z, t, rfl⟩ <;> cases n <;> exact ⟨_, rfl⟩
theorem mix_cls {ks : List Key} {b : Addr} {Q : Bool → Shared → Prop} (x : IsTupleKey (mixKind P w) s.heap ks b) (q : Q false s) : wpAny (model P w) A (ofAClassStatement 8 (.ref b)) Q E s := by
  have T := x.typeIs
  obtain ⟨o, its, n, ho, _, hd, hi⟩ := x
  unfold ofAClassStatement
  refine wpAny_bind (wpAny_typeOf T ?_)
  dsimp only
  have e : (("tuple" : String) == "tuple") = true := by decide
  simp only [e, if_true, Bool.not_true, Bool.false_eq_true, if_false]
  try refine wpAny_bind (wpAny_pure ?_)
  try simp only [Bool.not_true, Bool.false_eq_true, if_false]
  show wpAny _ _ (seqItems? (.ref b) >>= _) _ _ s
  refine wpAny_bind (wpAny_seqItems ho hd ?_)
  dsimp only
  refine wpAny_bind ?_
  show wpAny _ _ (forIn its _ _) _ _ s
  rw [← Array.forIn_toList]
  refine wpAny_forIn_list _ (fun todo r s1 => r.1 = none ∧ s1 = s ∧ ∀ v ∈ todo, (∃ i t, v = Value.int i t) ∨ ∃ z t, v = Value.str z t) _ (fun v todo r s1 hI => ?_) (fun r s1 hI => ?_) _ _ ⟨rfl, rfl, mixed hi⟩
  · obtain ⟨_, e2, e3⟩ := hI
    rw [mixed_cls 7 (e3 v List.mem_cons_self)]
    refine wpAny_bind (wpAny_pure ?_)
    simp only [Bool.false_eq_true, if_false]
    exact wpAny_pure ⟨rfl, e2, fun u m => e3 u (List.mem_cons_of_mem _ m)⟩
  · obtain ⟨r1, r2⟩ := r
    obtain ⟨e1, e2, _⟩ := hI
    have e1 : r1 = none := e1
    subst e1
    subst e2
    exact wpAny_pure q
theorem mix_byv {ks : List Key} {b : Addr} {Q : Bool → Shared → Prop} (x : IsTupleKey (mixKind P w) s.heap ks b) (q : ∀ c, Q c s) : wpAny (model P w) A (hashByValue 8 (.ref b)) Q E s := by
  have T := x.typeIs
  obtain ⟨o, its, n, ho, _, hd, hi⟩ := x
  unfold hashByValue
  refine wpAny_bind (wpAny_specialOf T F.slot_tuple_hash.lookup ?_)
  show wpAny _ _ (seqItems? (.ref b) >>= _) _ _ s
  refine wpAny_bind (wpAny_seqItems ho hd ?_)
  refine wpAny_bind ?_
  show wpAny _ _ (forIn its _ _) _ _ s
  rw [← Array.forIn_toList]
  refine wpAny_forIn_list _ (fun todo r s1 => r.1 = none ∧ s1 = s ∧ ∀ v ∈ todo, (∃ i t, v = Value.int i t) ∨ ∃ z t, v = Value.str z t) _ (fun v todo r s1 hI => ?_) (fun r s1 hI => ?_) _ _ ⟨rfl, rfl, mixed hi⟩
  · obtain ⟨_, e2, e3⟩ := hI
    obtain ⟨c, ec⟩ := mixed_byv 7 (e3 v List.mem_cons_self)
    rw [ec]
    refine wpAny_bind (wpAny_pure ?_)
    cases c with
    | true =>
      simp only [Bool.not_true, Bool.false_eq_true, if_false]
      exact wpAny_pure ⟨rfl, e2, fun u m => e3 u (List.mem_cons_of_mem _ m)⟩
    | false =>
      simp only [Bool.not_false, if_true]
      subst e2
      exact wpAny_pure (wpAny_pure (q false))
  · obtain ⟨r1, r2⟩ := r
    obtain ⟨e1, e2, _⟩ := hI
    have e1 : r1 = none := e1
    subst e1
    subst e2
    exact wpAny_pure (q true)
theorem mixSet : SetKind (tupleKind (mixKind P w)) where
  st := tupleKind_stays
  cls := fun x q => mix_cls x q
  byv := fun x q => mix_byv x q
end
end Kd

-- ===== KS4 =====
set_option Elab.async false
set_option linter.all false
set_option maxRecDepth 100000
set_option maxHeartbeats 3200000
namespace Kd
open PySem PySem.Spec PyProof.Rows L2

section
variable {P : Program} {w : World} {K : Type} [DecidableEq K] {knd : HeapKind P w K}
theorem SetH.stay (S : SetKind knd) {h h' : Heap} {a : Addr} {L : List (Addr × K)} {es : Array (Int × Value)} {ep : Nat} {t : SetTable} (Z : SetH knd h a L es ep t) (ha : ∀ o, h.get? a = some o → h'.get? a = some o) (hk : ∀ q ∈ L, knd.is h' q.2 q.1) : SetH knd h' a L es ep t := by
  obtain ⟨o, ho, r⟩ := Z.ob
  exact ⟨⟨o, ha o ho, r⟩, Z.rows, Z.tab, Z.nd, hk, Z.led, Z.room, Z.few⟩
theorem SetKind.kept (S : SetKind knd) {h h' : Heap} {k : K} {b : Addr} (x : knd.is h k b) (hk : ∀ c o, h.get? c = some o → h'.get? c = some o) : knd.is h' k b := S.st.stays (fun c o _ _ e _ => hk c o e) x
/-- an empty set, just made -/
abbrev newO (w : World) : Obj := { cls := .type "set", dict := none, data := .set #[] 0 (.fresh 0 0 (!w.params.followText "set-order")) }
theorem setH_new {h : Heap} {a : Addr} (ho : h.get? a = some (newO w)) : SetH knd h a [] #[] 0 (.fresh 0 0 (!w.params.followText "set-order")) where
  ob := ⟨_, ho, ⟨rfl, rfl, rfl⟩, rfl⟩
  rows := rfl
  tab := { ris := List.Pairwise.nil, dm := rfl, sz := rfl, mok := .inl rfl, bd := (fun x hx => nomatch hx), reach := fun i g j e => by simp [hashH] at e }
  nd := List.nodup_nil
  key := fun q m => nomatch m
  led := by
    show _ ∨ (!w.params.followText "set-order") = true
    cases e : w.params.followText "set-order"
    · exact .inr rfl
    · exact .inl rfl
  room := by
    show 0 * 5 < 7 * 3
    decide
  few := by
    show 0 < 64
    decide

/-- what came of the first i of the rows ks -/
structure Came (ks : List (Addr × K)) (i : Nat) (L : List (Addr × K)) : Prop where
  inn : ∀ q ∈ L, q ∈ ks.take i
  got : ∀ q ∈ ks.take i, q.2 ∈ L.map Prod.snd
  most : L.length ≤ i
theorem Came.step {ks L L' : List (Addr × K)} {i : Nat} {x : Addr × K} (c : Came ks i L) (e : ks[i]? = some x) (h1 : x.2 ∈ L.map Prod.snd → L' = L) (h2 : x.2 ∉ L.map Prod.snd → L'.Perm (x :: L)) : Came ks (i + 1) L' := by
  have tk : ks.take (i + 1) = ks.take i ++ [x] := by rw [List.take_succ, e]; rfl
  by_cases m : x.2 ∈ L.map Prod.snd
  · rw [h1 m]
    refine ⟨fun q hq => by rw [tk]; exact List.mem_append_left _ (c.inn q hq), fun q hq => ?_, Nat.le_succ_of_le c.most⟩
    rw [tk] at hq
    rcases List.mem_append.mp hq with z | z
    · exact c.got q z
    · rw [List.mem_singleton.mp z]
      exact m
  · have pm := h2 m
    refine ⟨fun q hq => ?_, fun q hq => ?_, by rw [pm.length_eq]; exact Nat.succ_le_succ c.most⟩
    · rw [tk]
      rcases List.mem_cons.mp (pm.mem_iff.mp hq) with z | z
      · rw [z]
        exact List.mem_append_right _ List.mem_cons_self
      · exact List.mem_append_left _ (c.inn q z)
    · rw [(pm.map Prod.snd).mem_iff]
      rw [tk] at hq
      rcases List.mem_append.mp hq with z | z
      · exact List.mem_cons_of_mem _ (c.got q z)
      · rw [List.mem_singleton.mp z]
        exact List.mem_cons_self
end

section
variable {P : Program} {w : World} {K : Type} [DecidableEq K] {knd : HeapKind P w K} {A : Around} {E : Value → Shared → Prop}
theorem nodup_most {α : Type} [DecidableEq α] : ∀ (l D : List α), l.Nodup → (∀ x ∈ l, x ∈ D) → l.length ≤ D.length
  | [], _, _, _ => Nat.zero_le _
  | x :: l, D, nd, sub => by
    obtain ⟨n1, n2⟩ := List.nodup_cons.mp nd
    have mx := sub x List.mem_cons_self
    have ih := nodup_most l (D.erase x) n2 fun y my => (List.mem_erase_of_ne fun (e : y = x) => n1 (by rw [← e]; exact my)).2 (sub y (List.mem_cons_of_mem _ my))
    rw [List.length_erase_of_mem mx] at ih
    have pos := List.length_pos_of_mem mx
    rw [List.length_cons]
    omega
theorem few_of {ks L : List (Addr × K)} {i : Nat} {q : Addr × K} (less : ∃ ds : List K, (∀ q ∈ ks, q.2 ∈ ds) ∧ ds.length < 64) (inn : ∀ p ∈ L, p ∈ ks.take i) (nd : (L.map Prod.snd).Nodup) (mq : q ∈ ks) (nq : q.2 ∉ L.map Prod.snd) : L.length + 1 < 64 := by
  obtain ⟨ds, h1, h2⟩ := less
  have z := nodup_most (q.2 :: L.map Prod.snd) ds (List.nodup_cons.mpr ⟨nq, nd⟩) fun x mx => by
    rcases List.mem_cons.mp mx with rfl | mx
    · exact h1 q mq
    · obtain ⟨p, mp, rfl⟩ := List.mem_map.mp mx
      exact h1 p (List.mem_of_mem_take (inn p mp))
  rw [List.length_cons, List.length_map] at z
  omega
/-- all that is walked goes into the set -/
theorem filled (S : SetKind knd) {I B : Addr} {fp wr : List Addr} {G : Array GenState → Array GenState → Prop} {n : Nat} {Pv : Nat → Value → Prop} {St : Nat → Shared → Prop} {R : Result → Shared → Prop} (W : WalksS P w A.in1 I fp wr G n Pv St) (hB : B ∉ fp)
    (ks : List (Addr × K)) (hn : n = ks.length) (less : ∃ ds : List K, (∀ q ∈ ks, q.2 ∈ ds) ∧ ds.length < 64) (val : ∀ i v, Pv i v → ∃ q, ks[i]? = some q ∧ v = .ref q.1) (g : Heap) (gk : ∀ q ∈ ks, knd.is g q.2 q.1) (gB : g.get? B = none) (gw : ∀ b ∈ wr, g.get? b = none) (room : knd.room A.in1) :
    ∀ (m i : Nat) (s : Shared), n - i = m → i ≤ n → St i s → (∀ b o, g.get? b = some o → s.heap.get? b = some o) → (∃ L es ep t, SetH knd s.heap B L es ep t ∧ Came ks i L) →
      (∀ s' L es ep t, Moved (B :: wr) G s s' → SetH knd s'.heap B L es ep t → Came ks n L → (∀ b o, g.get? b = some o → s'.heap.get? b = some o) → R (.ok (.ret .none)) s') →
      codeAny (model P w) A (.builtin "set.update.loop" ⟨[.ref B, .ref I], []⟩) R s := by
  have nBw : B ∉ wr := fun m => hB (W.sub _ m)
  have more : ∀ b ∈ wr, b ∈ B :: wr := fun b m => List.mem_cons_of_mem _ m
  have on : ∀ {s s' : Shared}, Moved wr G s s' → (∀ b o, g.get? b = some o → s.heap.get? b = some o) → ∀ b o, g.get? b = some o → s'.heap.get? b = some o := fun mv k b o e =>
    mv.heap b o (fun m => by rw [gw b m] at e; cases e) (k b o e)
  intro m
  induction m with
  | zero =>
    intro i s em le st kp ⟨L, es, ep, t, Z, c⟩ fin
    obtain rfl : i = n := by omega
    refine codeAny_builtin F.entry_set_update_loop ?_
    rw [Around.under_plainId F.plain_set_update_loop _]
    show wpAny _ A.in1 (pyNext (.ref I) >>= _) _ _ s
    refine wpAny_bind (W.done s _ _ st fun s' mv => ?_)
    show wpAny _ A.in1 (ret Value.none) _ _ s'
    have kp' := on mv kp
    exact wpAny_pure (fin s' L es ep t (mv.mono more) (Z.stay S (fun o e => mv.heap B o nBw e) fun q hq => S.kept (gk q (List.mem_of_mem_take (c.inn q hq))) kp') c kp')
  | succ m ih =>
    intro i s em le st kp ⟨L, es, ep, t, Z, c⟩ fin
    have lt : i < n := by omega
    refine codeAny_builtin F.entry_set_update_loop ?_
    rw [Around.under_plainId F.plain_set_update_loop _]
    show wpAny _ A.in1 (pyNext (.ref I) >>= _) _ _ s
    refine wpAny_bind (W.item i s _ _ lt st fun v s' pv st' mv => ?_)
    obtain ⟨q, eq, rfl⟩ := val i v pv
    have kp' := on mv kp
    have Z' : SetH knd s'.heap B L es ep t := Z.stay S (fun o e => mv.heap B o nBw e) fun p hp => S.kept (gk p (List.mem_of_mem_take (c.inn p hp))) kp'
    have hx : knd.is s'.heap q.2 q.1 := S.kept (gk q (List.mem_of_getElem? eq)) kp'
    show wpAny _ A.in1 (holding [Value.ref q.1] (setAdd B (.ref q.1)) >>= _) _ _ s'
    refine wpAny_bind (wpAny_holding ?_)
    unfold setAdd
    refine wpAny_holding (wpAny_bind (knd.pyHash room hx ?_))
    refine add_key (s := { s' with toks := s'.toks + knd.draws q.2 }) S Z' hx room (few_of less c.inn Z.nd (List.mem_of_getElem? eq)) fun b h' L' es' ep' t' sb Z2 c1 c2 => ?_
    have nB : ∀ b o, g.get? b = some o → b ≠ B := fun b o e z => by
      rw [z, gB] at e
      cases e
    have kp2 : ∀ b o, g.get? b = some o → h'.get? b = some o := fun b o e => (sb.2 b (nB b o e)).trans (kp' b o e)
    refine wpAny_pure ⟨plainId_quiet F.plain_set_update_loop _, ih (i + 1) _ (by omega) lt (W.frame _ s' _ _ st' (Nat.le_add_right _ _) fun b m o e => ?_) kp2 ⟨L', es', ep', t', Z2, c.step eq c1 c2⟩ fun s'' L2 es2 ep2 t2 mv2 Z3 c3 kp3 => ?_⟩
    · rw [sb.2 b fun z => hB (z ▸ m)]
      exact e
    · refine fin s'' L2 es2 ep2 t2 (Moved.trans W.gtrans ((mv.mono more).then_heap (Nat.le_add_right _ _) fun b o m e => ?_) mv2) Z3 c3 kp3
      rw [sb.2 b fun z => m (by rw [z]; exact List.mem_cons_self)]
      exact e
end
end Kd

-- ===== KS5 =====
set_option Elab.async false
set_option linter.all false
set_option maxRecDepth 100000
set_option maxHeartbeats 3200000
namespace Kd
open PySem PySem.Spec PyProof.Rows L2
section
variable {P : Program} {w : World} {K : Type} [DecidableEq K] {knd : HeapKind P w K} {A : Around} {E : Value → Shared → Prop} {s : Shared}
/-- what is left when set(..) has run -/
def SetMade (knd : HeapKind P w K) (s : Shared) (ks : List (Addr × K)) (s2 : Shared) : Prop :=
  ∃ h' tk L es ep t, s2 = { s with heap := h', toks := tk } ∧ SetH knd h' s.heap.objs.size L es ep t ∧ Came ks ks.length L ∧ ∀ b o, s.heap.get? b = some o → h'.get? b = some o
theorem call_set_keys (S : SetKind knd) {l : Addr} {its : Array Value} (ks : List (Addr × K)) {Q : Value → Shared → Prop} (calm : A.handled = none) (il : s.heap.IsList l its) (ev : its.toList = ks.map fun q => Value.ref q.1) (kk : ∀ q ∈ ks, knd.is s.heap q.2 q.1)
    (less : ∃ ds : List K, (∀ q ∈ ks, q.2 ∈ ds) ∧ ds.length < 64) (room : knd.room A.in1.in1.in1) (q : ∀ s2, SetMade knd s ks s2 → Q (.ref s.heap.objs.size) s2) : wpAny (model P w) A (call (.type "set") [.ref l]) Q E s := by
  have isz : its.size = ks.length := by rw [← Array.length_toList, ev, List.length_map]
  obtain ⟨c, tl, mro⟩ := F.called_set.mro
  have made := F.called_set.made
  have sub := F.called_set.sub
  refine wpAny_call (codeAny_of_tree ?_)
  show wpAny _ _ (callAny (.type "set") _) _ _ _
  refine wpAny_pure ⟨Code.quiet_builtin _ (by decide +kernel), codeAny_builtin F.entry_type_call ?_⟩
  rw [Around.under_plain (weight_type_call_type "set" [.ref l] []) rfl]
  have z1 := F.called_set.notType
  have z2 := F.called_set.canCreate
  have z3 := F.typeCall_set_1 (.ref l)
  repeat (any_goals (first | assumption | wp_step))
  refine codeAny_mono (code_set_led1 (.ref l) (E := E) (Q₁ := fun v s1 => v = .ref s.heap.objs.size ∧ s1 = { s with heap := s.heap.push (newO w) }) ⟨rfl, rfl⟩) fun r s1 hr => ?_
  rcases r with e | fl
  · exact hr
  cases fl with
  | ret obj =>
    obtain ⟨rfl, rfl⟩ := hr
    have at0 : (s.heap.push (newO w)).get? s.heap.objs.size = some (newO w) := Heap.get?_push_size _ rfl
    have T0 : Shared.TypeIs { s with heap := s.heap.push (newO w) } (.ref s.heap.objs.size) "set" := ⟨_, at0, rfl⟩
    have li := F.called_set.init.lookup
    have bi := F.called_set.init.bind (.ref s.heap.objs.size)
    repeat (any_goals (first | assumption | wp_step))
    refine codeAny_mono (codeAny_call_builtin (R := wants (fun r s2 => r = .none ∧ SetMade knd s ks s2) E) F.called_set.init.plain F.entry_set_init (check_set_init_1 T0 ?_)) fun r s2 hr => ?_
    · obtain ⟨⟨oc, od, ob, os⟩, ol, oc', on, ob'⟩ := il
      simp only at oc' ob'
      subst oc'
      subst ob'
      have ol2 := Heap.get?_push_of_some (newO w) ol
      have y1 := F.sub_list_set
      have y2 := F.sub_list_frozenset
      have y3 : (Value.type "list" == Value.type "dict") = false := by decide
      have il2 : (s.heap.push (newO w)).IsList l its := ⟨_, ol2, rfl, on, rfl⟩
      unfold Builtin.«set.__init__» noKeywords Builtin.Frozenset.updateFrom
      generalize hPI : pyIter = PI
      wp_walk
      subst hPI
      refine wpAny_pyIter_list il2 (wpAny_bind (wpAny_runValue ?_))
      have lS : l < s.heap.objs.size := Heap.lt_size ol
      have calm3 : A.in1.in1.in1.handled = none := by simp [calm]
      have szp : (s.heap.push (newO w)).objs.size = s.heap.objs.size + 1 := Heap.size_push ..
      have lI : l ≠ (s.heap.push (newO w)).objs.size := by
        rw [szp]
        exact Nat.ne_of_lt (Nat.lt_succ_of_lt lS)
      have free : ∀ b, s.heap.objs.size ≤ b → s.heap.get? b = none := fun b le => by
        cases e : s.heap.get? b with
        | none => rfl
        | some o => exact absurd (Heap.lt_size e) (Nat.not_lt.mpr le)
      refine filled S ((Walks.list calm3 _ l lI its).toS) (B := s.heap.objs.size) (fun m => ?_) ks isz less (fun i v e => ?_) s.heap kk (free _ (Nat.le_refl _)) (fun b m => free b ?_) room (its.size - 0) 0 _ rfl (Nat.zero_le _)
        ⟨⟨_, Heap.get?_push_size _ rfl, rfl, rfl⟩, il2.push _⟩ (fun b o e => Heap.get?_push_of_some _ (Heap.get?_push_of_some _ e)) ⟨[], #[], 0, _, setH_new (Heap.get?_push_of_some _ at0), fun q m => (nomatch m), fun q m => (by simp at m), Nat.le_refl _⟩ fun s' L es ep t mv Z c kp => ?_
      · rcases List.mem_cons.mp m with e | m
        · rw [szp] at e
          exact absurd e (Nat.ne_of_lt (Nat.lt_succ_self _))
        · have e := List.mem_singleton.mp m
          rw [← e] at lS
          exact absurd lS (Nat.lt_irrefl _)
      · have e2 : its.toList[i]? = some v := by rw [Array.getElem?_toList]; exact e
        rw [ev, List.getElem?_map] at e2
        obtain ⟨q, e3, e4⟩ := Option.map_eq_some_iff.mp e2
        exact ⟨q, e3, e4.symm⟩
      · rw [List.mem_singleton.mp m, szp]
        exact Nat.le_succ _
      · obtain ⟨h', g', d', tk, os'⟩ := s'
        obtain rfl : g' = s.gens := mv.gens
        obtain rfl : d' = s.drawn := mv.drawn
        obtain rfl : os' = s.os := mv.os
        show wpAny _ _ _ _ _ _
        refine wpAny_pure ?_
        show wpAny _ _ (ret Value.none) _ _ _
        rw [isz] at c
        exact wpAny_pure ⟨rfl, h', tk, L, es, ep, t, rfl, Z, c, kp⟩
    · rcases r with e | fl
      · exact hr
      cases fl with
      | ret r =>
        obtain ⟨rfl, mk⟩ := hr
        repeat (any_goals (first | assumption | wp_step))
        exact q _ mk
      | _ => exact hr.elim
  | _ => exact hr.elim
end
end Kd

-- ===== KS6 =====
set_option Elab.async false
set_option linter.all false
set_option maxRecDepth 100000
set_option maxHeartbeats 3200000
namespace Kd
open PySem PySem.Spec PyProof.Rows L2 PySem.W

theorem perm_lift {α β : Type} (f : α → β) {l m : List β} (p : l.Perm m) : ∀ L : List α, m = L.map f → ∃ L1 : List α, L1.Perm L ∧ l = L1.map f := by
  induction p with
  | nil =>
    intro L e
    refine ⟨[], ?_, rfl⟩
    rw [List.map_eq_nil_iff.mp e.symm]
  | cons x _ ih =>
    intro L e
    obtain ⟨y, L', rfl, rfl, e2⟩ := List.map_eq_cons_iff.mp e.symm
    obtain ⟨L1, p1, e3⟩ := ih L' e2.symm
    exact ⟨y :: L1, p1.cons y, by rw [e3, List.map_cons]⟩
  | swap x y l =>
    intro L e
    obtain ⟨u, L', rfl, rfl, e2⟩ := List.map_eq_cons_iff.mp e.symm
    obtain ⟨v, L'', rfl, rfl, e3⟩ := List.map_eq_cons_iff.mp e2
    exact ⟨v :: u :: L'', List.Perm.swap .., by rw [← e3]; rfl⟩
  | trans _ _ ih1 ih2 =>
    intro L e
    obtain ⟨L1, p1, e1⟩ := ih2 L e
    obtain ⟨L2, p2, e2⟩ := ih1 L1 e1
    exact ⟨L2, p2.trans p1, e2⟩

/-- a key as data -/
def kD : Key → PyData
  | .inl i => .int i
  | .inr x => .str x
def tD (k : List Key) : PyData := .tuple (k.map kD)

/-! ### the set as a tracked thing -/
structure Held (P : Program) (w : World) (h : Heap) (a : Addr) (L : List (Addr × List Key)) : Prop where
  ex : ∃ (es : Array (Int × Value)) (ep : Nat) (t : SetTable), (∃ o, h.get? a = some o ∧ o.ExactSet ∧ o.data = .set es ep t) ∧ es.toList = rowsH (tupleKind (mixKind P w)) L ∧ TabOk t (hashH (tupleKind (mixKind P w)) L) ∧ (L.map Prod.snd).Nodup ∧
    (w.params.followText "set-order" = true ∨ t.led = true) ∧ L.length * 5 < t.mask * 3 ∧ L.length < 64
/-- the set at a with the members L -/
def SetO (P : Program) (w : World) (a : Addr) (L : List (Addr × List Key)) : HO := .ext fun h => Held P w h a L
section
variable {P : Program} {w : World} {h : Heap} {a : Addr} {L : List (Addr × List Key)}
theorem SetH.held {es : Array (Int × Value)} {ep : Nat} {t : SetTable} (Z : SetH (tupleKind (mixKind P w)) h a L es ep t) : Held P w h a L := ⟨es, ep, t, Z.ob, Z.rows, Z.tab, Z.nd, Z.led, Z.room, Z.few⟩
theorem Held.set (R : Held P w h a L) (key : ∀ q ∈ L, IsTupleKey (mixKind P w) h q.2 q.1) : ∃ es ep t, SetH (tupleKind (mixKind P w)) h a L es ep t := by
  obtain ⟨es, ep, t, r1, r2, r3, r4, r5, r6, r7⟩ := R.ex
  exact ⟨es, ep, t, r1, r2, r3, r4, key, r5, r6, r7⟩
theorem setO_ok {H : Hp} (R : Held P w h a L) : ObjOk P w H h a (SetO P w a L) := by
  obtain ⟨es, ep, t, ⟨o, ho, _⟩, _⟩ := R.ex
  refine ⟨R, ⟨o, ho⟩, fun g1 g2 (R1 : Held P w g1 a L) k => ?_⟩
  obtain ⟨es, ep, t, ⟨o, ho, r⟩, q⟩ := R1.ex
  exact ⟨es, ep, t, ⟨o, k o ho, r⟩, q⟩
end

section
variable {X : Cx} {pins : List (Addr × Obj)} {σ : L2.St} {H : Hp} {s : Shared}
theorem items_mix {P : Program} {w : World} : ∀ {k : List Key} {us : List Value}, Vals (k.map kV) us → ItemsAre (mixKind P w) k us
  | [], _, .nil => .nil
  | .inl i :: k, _, .cons r t => by
    obtain ⟨tk, rfl⟩ := r
    exact .cons (mixKind_int P w i tk) (items_mix t)
  | .inr x :: k, _, .cons r t => by
    obtain ⟨tk, rfl⟩ := r
    exact .cons (mixKind_str P w x tk) (items_mix t)
theorem reads_mix {h : Heap} : ∀ {k : List Key} {us : List Value}, Vals (k.map kV) us → ReadsAll h us (k.map kD) []
  | [], _, .nil => .nil
  | .inl i :: k, _, .cons r t => by
    obtain ⟨tk, rfl⟩ := r
    exact ReadsAll.cons (as := []) (bs := []) (Reads.int i tk) (reads_mix t)
  | .inr x :: k, _, .cons r t => by
    obtain ⟨tk, rfl⟩ := r
    exact ReadsAll.cons (as := []) (bs := []) (Reads.str x tk) (reads_mix t)
theorem key_raw (I : Inv X pins σ H s) {b : Addr} {k : List Key} (h : SqT X.K H b (k.map kV)) : IsTupleKey (mixKind X.prog X.w) s.heap k b ∧ Reads s.heap (.ref b) (tD k) [] := by
  obtain ⟨its, r, ⟨o, ho, hc, n, hd⟩, _⟩ := I.tuple h
  exact ⟨⟨o, its.toArray, n, ho, hc, hd, by simpa using items_mix r⟩, Reads.tuple ho hc hd (by simpa using reads_mix r)⟩
theorem refs_raw {α : Type} (f : α → Addr) : ∀ {ks : List α} {us : List Value}, Vals (ks.map fun q => V.ref (f q)) us → us = ks.map fun q => Value.ref (f q)
  | [], _, .nil => rfl
  | q :: ks, _, .cons r t => by
    cases r
    rw [refs_raw f t]
    rfl
theorem refs_vals {α : Type} (f : α → Addr) : ∀ (ks : List α), Vals (ks.map fun q => V.ref (f q)) (ks.map fun q => Value.ref (f q))
  | [] => .nil
  | q :: ks => .cons rfl (refs_vals f ks)

/-- set(xs), xs a list of tuples -/
def rSetOfD (K : PySem.W.Frag) (P : Program) (w : World) : List V → Hp → VK → Prop := fun vs H Q => ∃ (l : Addr) (ks : List (Addr × List Key)), vs = [V.ref l] ∧ SqL K H l (ks.map fun q => V.ref q.1) ∧ (∀ q ∈ ks, SqT K H q.1 (q.2.map kV)) ∧ (∃ ds : List (List Key), (∀ q ∈ ks, q.2 ∈ ds) ∧ ds.length < 64) ∧
  ∀ a L, H a = none → (∀ q ∈ L, q ∈ ks) → (∀ q ∈ ks, q.2 ∈ L.map Prod.snd) → (L.map Prod.snd).Nodup → Q (.ref a) (upd H a (SetO P w a L))
theorem cr_setOfD (hc : X.calm = true) (hu : X.A.units + 64 < cLine) : CallR X (.type "set") (rSetOfD X.K X.prog X.w) := by
  intro pins s σ H vs us Q I r h
  obtain ⟨l, ks, rfl, hl, hk, hf, q⟩ := h
  rw [Vals.ref1 r]
  obtain ⟨its, rv, il, _⟩ := I.list hl
  refine call_set_keys (P := X.prog) (w := X.w) (knd := tupleKind (mixKind X.prog X.w)) mixSet ks (I.ok.hd hc) il.isList (by simpa using refs_raw Prod.fst rv) (fun p hp => (key_raw I (hk p hp)).1) hf (by show X.A.in1.in1.in1.units < cLine; have z : X.A.in1.in1.in1.units ≤ X.A.units + 64 := (by simp only [Around.in1]; omega); omega) fun s2 mk => ?_
  obtain ⟨h', tk, L, es, ep, t, rfl, Z, c, kp⟩ := mk
  refine ⟨.ref s.heap.objs.size, upd H s.heap.objs.size (SetO X.prog X.w s.heap.objs.size L), I.laid (t' := tk) kp (Nat.le_refl _) (setO_ok Z.held), rfl, q _ L (I.hok.fresh (Nat.le_refl _)) (fun p m => List.mem_of_mem_take (c.inn p m)) (fun p m => c.got p (by rw [List.take_length]; exact m)) Z.nd⟩

/-- set(xs), xs short -/
def rSetOf (K : PySem.W.Frag) (P : Program) (w : World) : List V → Hp → VK → Prop := fun vs H Q => ∃ (l : Addr) (ks : List (Addr × List Key)), vs = [V.ref l] ∧ SqL K H l (ks.map fun q => V.ref q.1) ∧ (∀ q ∈ ks, SqT K H q.1 (q.2.map kV)) ∧ ks.length < 64 ∧
  ∀ a L, H a = none → (∀ q ∈ L, q ∈ ks) → (∀ q ∈ ks, q.2 ∈ L.map Prod.snd) → (L.map Prod.snd).Nodup → Q (.ref a) (upd H a (SetO P w a L))
theorem cr_setOf (hc : X.calm = true) (hu : X.A.units + 64 < cLine) : CallR X (.type "set") (rSetOf X.K X.prog X.w) := by
  intro pins s σ H vs us Q I r h
  obtain ⟨l, ks, e, hl, hk, hf, q⟩ := h
  exact cr_setOfD hc hu pins s σ H vs us Q I r ⟨l, ks, e, hl, hk, ⟨ks.map Prod.snd, fun q m => List.mem_map.mpr ⟨q, m, rfl⟩, by rw [List.length_map]; exact hf⟩, q⟩

/-- len of such a set -/
def rLenS (P : Program) (w : World) : List V → Hp → VK → Prop := fun vs H Q => ∃ (a : Addr) (L : List (Addr × List Key)), vs = [V.ref a] ∧ H a = some (SetO P w a L) ∧ Q (.int L.length) H
theorem held_fits {P : Program} {w : World} {h : Heap} {L : List (Addr × List Key)} {es : Array (Int × Value)} {t : SetTable} (r : es.toList = rowsH (tupleKind (mixKind P w)) L) (T : TabOk t (hashH (tupleKind (mixKind P w)) L)) (rm : L.length * 5 < t.mask * 3) : es.size = L.length ∧ t.fits es.size = true := by
  have e1 : es.size = L.length := by rw [← Array.length_toList, r, rowsH_len]
  have e2 := T.sz
  rw [hashH_len] at e2
  refine ⟨e1, ?_⟩
  unfold SetTable.fits SetTable.fill
  rw [T.dm, Bool.and_eq_true, beq_iff_eq, decide_eq_true_eq, e2, e1]
  refine ⟨rfl, ?_⟩
  show L.length + 0 ≤ t.mask
  omega
theorem cr_lenS : CallR X (.builtin "len") (rLenS X.prog X.w) := by
  intro pins s σ H vs us Q I r h
  obtain ⟨a, L, rfl, ha, q⟩ := h
  rw [Vals.ref1 r]
  have R : Held X.prog X.w s.heap a L := (I.hok a _ ha).1
  obtain ⟨es, ep, t, ⟨o, ho, hex, hd⟩, r2, r3, _, _, r6, r7⟩ := R.ex
  obtain ⟨e1, e2⟩ := held_fits (h := s.heap) r2 r3 r6
  refine call_len_set ho hex hd e2 (by rw [e1]; omega) ⟨.int L.length, H, I.tok _, ⟨_, by rw [e1]⟩, q⟩

/-- sorted(xs) of a list of tuples: one list -/
def rSortL (K : PySem.W.Frag) : List V → Hp → VK → Prop := fun vs H Q => ∃ (a : Addr) (L : List (Addr × List Key)), vs = [V.ref a] ∧ SqL K H a (L.map fun q => V.ref q.1) ∧ (∀ q ∈ L, SqT K H q.1 (q.2.map kV)) ∧ AllAlike (L.map fun q => tD q.2) ∧ Sortable (L.map fun q => tD q.2) ∧
  ∀ p, H p = none → Q (.ref p) (upd H p (.lst ((L.mergeSort (dataLe false fun q => tD q.2)).map fun q => V.ref q.1)))
theorem tD_depth (k : List Key) : (tD k).depth ≤ 1 := by
  have all : ∀ k : List Key, PyData.depthAll (k.map kD) = 0 := by
    intro k
    induction k with
    | nil => rfl
    | cons x k ih => cases x <;> simp [kD, PyData.depthAll, PyData.depth, ih]
  simp [tD, PyData.depth, all]
theorem cr_sortL (hu : X.A.units + 64 < cLine) : CallR X (.builtin "sorted") (rSortL X.K) := by
  intro pins s σ H vs us Q I r h
  obtain ⟨a, L, rfl, hl, hk, al, so, q⟩ := h
  rw [Vals.ref1 r]
  obtain ⟨its, rv, il, sz⟩ := I.list hl
  have ei := refs_raw Prod.fst rv
  have each : ∀ (R : Value → Addr × List Key → Prop) (M : List (Addr × List Key)), (∀ q ∈ M, R (.ref q.1) q) → EachIs R (M.map fun q => Value.ref q.1) M := by
    intro R M
    induction M with
    | nil => exact fun _ => .nil
    | cons x M ih => exact fun g => .cons (g x List.mem_cons_self) (ih fun y m => g y (List.mem_cons_of_mem _ m))
  rw [List.length_map] at sz
  subst ei
  refine sorted_data (R := fun v q => v = Value.ref q.1) (enc := fun q : Addr × List Key => tD q.2) (bs := L) il.isList (each _ L fun q _ => rfl) (each _ L fun q m => ⟨[], (key_raw I (hk q m)).2⟩) al so sz (fun b _ => by have z := tD_depth b.2; omega) fun out lo eo => ?_
  have eout : ∀ {o : List Value} {M : List (Addr × List Key)}, EachIs (fun v q => v = Value.ref q.1) o M → o = M.map fun q => Value.ref q.1 := by
    intro o M z
    induction z with
    | nil => rfl
    | cons e _ ih => rw [e, ih]; rfl
  have eo' := eout eo
  subst eo'
  obtain ⟨ep, he⟩ := PyProof.Rows.sortedAll_at s.heap (L.map fun q => Value.ref q.1) (((L.mergeSort (dataLe false fun q => tD q.2)).map fun q => Value.ref q.1).toArray)
  refine ⟨.ref _, upd H (s.heap.objs.size + 1) (.lst ((L.mergeSort (dataLe false fun q => tD q.2)).map fun q => V.ref q.1)), I.laid (t' := s.toks) (fun _ _ => PyProof.Rows.sortedAll_old) (Nat.le_succ _) ⟨?_, _, ep, refs_vals Prod.fst _, he⟩, rfl, q _ (I.hok.fresh (Nat.le_succ _))⟩
  rw [List.length_map, List.length_mergeSort]
  exact sz

/-- sorted(set): one list, of the members in some order sorted -/
def rSortS (K : PySem.W.Frag) (P : Program) (w : World) : List V → Hp → VK → Prop := fun vs H Q => ∃ (a : Addr) (L : List (Addr × List Key)), vs = [V.ref a] ∧ H a = some (SetO P w a L) ∧ (∀ q ∈ L, SqT K H q.1 (q.2.map kV)) ∧ (AllAlike (L.map fun q => tD q.2)) ∧ Sortable (L.map fun q => tD q.2) ∧
  ∀ (L1 : List (Addr × List Key)) p, L1.Perm L → L.length < 64 → (L.map Prod.snd).Nodup → H p = none → Q (.ref p) (upd H p (.lst ((L1.mergeSort (dataLe false fun q => tD q.2)).map fun q => V.ref q.1)))
theorem cr_sortS (hc : X.calm = true) (hu : X.A.units + 64 < cLine) : CallR X (.builtin "sorted") (rSortS X.K X.prog X.w) := by
  intro pins s σ H vs us Q I r h
  obtain ⟨a, L, rfl, ha, hk, al, so, q⟩ := h
  rw [Vals.ref1 r]
  have R : Held X.prog X.w s.heap a L := (I.hok a _ ha).1
  obtain ⟨es, ep, t, ⟨o, ho, hex, hd⟩, r2, r3, r4, r5, r6, r7⟩ := R.ex
  obtain ⟨e1, e2⟩ := held_fits (h := s.heap) r2 r3 r6
  refine Calls.call_function_entry kind_sorted plain_sorted entry_sorted (args_sorted1 _) ?_
  unfold Builtin.«sorted»
  refine wpAny_bind (m := checkCount "sorted" 1 1 _) (wpAny_pure ?_)
  refine wpAny_bind (collect_set (A := X.A.in1) (I.ok.hd hc) ⟨o, ho, hex.1, hd⟩ e2 (by unfold scanBound; omega) r3.ris r5 fun s1 vs kp gr g1 o1 pm => ?_)
  have em : es.toList.map (·.2) = L.map fun q => Value.ref q.1 := by
    rw [r2]
    unfold rowsH
    rw [List.map_map]
    rfl
  rw [em] at pm
  obtain ⟨L1, p1, ev⟩ := perm_lift (fun q : Addr × List Key => Value.ref q.1) pm L rfl
  have less : L1.length < 64 := by rw [p1.length_eq]; exact r7
  have vlen : vs.length = L1.length := by rw [ev, List.length_map]
  refine wpAny_bind (wpAny_newList ?_ (by rw [sizeLine_eq]; omega))
  have oL : (s1.heap.push (seqObj "list" vs.toArray 0)).get? s1.heap.objs.size = some (seqObj "list" vs.toArray 0) := Heap.get?_push_size _ rfl
  have each : ∀ (R : Value → Addr × List Key → Prop) (M : List (Addr × List Key)), (∀ q ∈ M, R (.ref q.1) q) → EachIs R (M.map fun q => Value.ref q.1) M := by
    intro R M
    induction M with
    | nil => exact fun _ => .nil
    | cons x M ih => exact fun g => .cons (g x List.mem_cons_self) (ih fun y m => g y (List.mem_cons_of_mem _ m))
  have pmap : (L1.map fun q => tD q.2).Perm (L.map fun q => tD q.2) := p1.map _
  refine wpAny_bind (wpAny_holding (list_sort_data (s := { s1 with heap := s1.heap.push (seqObj "list" vs.toArray 0) }) (R := fun v q => v = Value.ref q.1) (enc := fun q : Addr × List Key => tD q.2) (bs := L1) oL (by rw [ev]; exact each _ L1 fun q _ => rfl)
    (by rw [ev]; exact each _ L1 fun q m => ⟨[], PyProof.Rows.Reads.keeps (fun b u e => Heap.get?_push_of_some _ (kp b u e)) (key_raw I (hk q (p1.mem_iff.mp m))).2, fun z => nomatch z⟩)
    (fun d m d' m' => al d (pmap.mem_iff.mp m) d' (pmap.mem_iff.mp m')) ?_ (by rw [sizeLine_eq]; omega) (fun b _ => by have z := tD_depth b.2; have y : X.A.in1.units ≤ X.A.units + 32 := (by simp only [Around.in1]; omega); omega) fun out lo eo => ?_))
  · rcases so with g | g
    · exact .inl fun d m => g d (pmap.mem_iff.mp m)
    · exact .inr fun d m => g d (pmap.mem_iff.mp m)
  · have eout : ∀ {o : List Value} {M : List (Addr × List Key)}, EachIs (fun v q => v = Value.ref q.1) o M → o = M.map fun q => Value.ref q.1 := by
      intro o M z
      induction z with
      | nil => rfl
      | cons e _ ih => rw [e, ih]; rfl
    have eo' := eout eo
    subst eo'
    obtain ⟨c, hc2⟩ := sortedHeap_at (vs := vs) (out := (List.toArray ((L1.mergeSort (dataLe false fun q => tD q.2)).map fun q => Value.ref q.1))) oL
    have kp2 : ∀ b u, s.heap.get? b = some u → (sortedHeap (s1.heap.push (seqObj "list" vs.toArray 0)) s1.heap.objs.size vs (List.toArray ((L1.mergeSort (dataLe false fun q => tD q.2)).map fun q => Value.ref q.1))).get? b = some u := fun b u e => by
      have z := kp b u e
      have lt := Heap.lt_size z
      rw [sortedHeap_old (Nat.ne_of_lt lt) (by rw [size_push']; exact Nat.lt_succ_of_lt lt)]
      exact Heap.get?_push_of_some _ z
    have ll : ((L1.mergeSort (dataLe false fun q => tD q.2)).map fun q => V.ref q.1).length ≤ sizeLine := by
      rw [List.length_map, List.length_mergeSort, sizeLine_eq]
      omega
    have J : Inv X pins σ (upd H s1.heap.objs.size (.lst ((L1.mergeSort (dataLe false fun q => tD q.2)).map fun q => V.ref q.1))) { s with heap := sortedHeap (s1.heap.push (seqObj "list" vs.toArray 0)) s1.heap.objs.size vs (List.toArray ((L1.mergeSort (dataLe false fun q => tD q.2)).map fun q => Value.ref q.1)), gens := s1.gens, drawn := s1.drawn, toks := s1.toks } :=
      I.call (ch := []) (Un.laid kp2 gr (I.hok.fresh gr)) (I.hok.laid kp2 gr ⟨ll, _, c, refs_vals Prod.fst _, hc2⟩) (by rw [g1]; exact I.bare) (fun _ z => nomatch z)
    have es : ({ s1 with heap := sortedHeap (s1.heap.push (seqObj "list" vs.toArray 0)) s1.heap.objs.size vs (List.toArray ((L1.mergeSort (dataLe false fun q => tD q.2)).map fun q => Value.ref q.1)) } : Shared) = { s with heap := sortedHeap (s1.heap.push (seqObj "list" vs.toArray 0)) s1.heap.objs.size vs (List.toArray ((L1.mergeSort (dataLe false fun q => tD q.2)).map fun q => Value.ref q.1)), gens := s1.gens, drawn := s1.drawn, toks := s1.toks } := by
      rw [← o1]
    refine wpAny_pure ⟨_, rfl, ?_⟩
    rw [es]
    exact ⟨.ref s1.heap.objs.size, _, J, rfl, q L1 _ p1 r7 r4 (I.hok.fresh gr)⟩
end
end Kd

-- ===== KS7 =====
set_option Elab.async false
set_option linter.all false
set_option maxRecDepth 100000
set_option maxHeartbeats 3200000
namespace Kd
open PySem PySem.Spec PyProof.Rows L2

/-! ### {elt for a in A for b in B} -/
section
variable {prog : Program} {w : World} {A : Around} {R : Result → Shared → Prop} {s : Shared} {elt ta ia tb ib : Expr} {scope : Scope} {pos : Pos} {it acc : Value} {env : Env}
/-- the comprehension itself -/
abbrev two (elt ta ia tb ib : Expr) (scope : Scope) (pos : Pos) : Expr := .SetComp elt [⟨ta, ia, [], 0⟩, ⟨tb, ib, [], 0⟩] scope pos
theorem turn_a : compTurn (two elt ta ia tb ib scope pos) 0 it acc env = (do
    standAt ia.pos
    match ← pyNext it with
    | none => pure (.done .next)
    | some v =>
      letOwnedTupleGo ta it v
      assign ta env v
      let x ← eval ib env
      standAt ib.pos
      let x ← foldedSetIterable ib env x
      let _ ← runOwn (.compStart (two elt ta ia tb ib scope pos) 1 (← holding [x] (pyIter x)) acc env) env
      again (.compLoop (two elt ta ia tb ib scope pos) 0 it acc env)) := by rfl
theorem turn_b : compTurn (two elt ta ia tb ib scope pos) 1 it acc env = (do
    standAt ib.pos
    match ← pyNext it with
    | none => pure (.done .next)
    | some v =>
      letOwnedTupleGo tb it v
      assign tb env v
      (do let v ← eval elt env; standAt elt.pos; let _ ← call (.builtin "set.add") [acc, v])
      again (.compLoop (two elt ta ia tb ib scope pos) 1 it acc env)) := by rfl
/-- what fails leaves by the frame's note -/
abbrev fails (prog : Program) (w : World) (A : Around) (env : Env) (R : Result → Shared → Prop) : Value → Shared → Prop := notedBy (model prog w) A env fun e s' => R (.error e) s'
theorem loop_a (pureI : ∀ x, foldedSetIterable ib env x = pure x) (I : Nat → Shared → Prop)
    (turn : ∀ n s, I n s → wpAny (model prog w) A (pyNext it) (fun r s1 => match r with
      | none => R (.ok .next) s1
      | some v => wpAny (model prog w) A (letOwnedTupleGo ta it v) (fun _ s2 => wpAny (model prog w) A (assign ta env v) (fun _ s3 => wpAny (model prog w) A (eval ib env) (fun x s4 => wpAny (model prog w) A (pyIter x) (fun jt s5 =>
          codeAny (model prog w) A (.compStart (two elt ta ia tb ib scope pos) 1 jt acc env) (fun r s' => match r with
            | .ok _ => ∃ m, m < n ∧ I m s'
            | .error _ => False) s5) (fails prog w A env R) s4) (fails prog w A env R) s3) (fails prog w A env R) s2) (fails prog w A env R) s1) (fails prog w A env R) s)
    (n : Nat) (h : I n s) : codeAny (model prog w) A (.compLoop (two elt ta ia tb ib scope pos) 0 it acc env) R s := by
  refine codeAny_loop rfl I (fun n s hI => ?_) n h
  show wpAny _ A ((compTurn (two elt ta ia tb ib scope pos) 0 it acc env).onRaise (fun x => do noteFrame x env; theTreesLotGoes x)) _ _ s
  refine wpAny_noted ?_
  rw [turn_a]
  refine wpAny_bind (wpAny_standAt (wpAny_bind (wpAny_mono (turn n s hI) (fun r s1 g => ?_) fun _ _ x => x)))
  cases r with
  | none => exact wpAny_pure g
  | some v =>
    refine wpAny_bind (wpAny_mono g (fun _ s2 g2 => wpAny_bind (wpAny_mono g2 (fun _ s3 g3 => wpAny_bind (wpAny_mono g3 (fun x s4 g4 => ?_) fun _ _ x => x)) fun _ _ x => x)) fun _ _ x => x)
    refine wpAny_bind (wpAny_standAt (wpAny_bind (wpAny_of_eq (pureI x) (wpAny_bind (wpAny_holding (wpAny_mono g4 (fun jt s5 g5 => ?_) fun _ _ x => x))))))
    refine wpAny_bind (wpAny_runOwn ?_)
    rw [Around.mark_none]
    refine codeAny_mono g5 fun r s' hr => ?_
    cases r with
    | ok f => exact wpAny_pure ⟨rfl, hr⟩
    | error e => exact hr.elim
theorem loop_b (I : Nat → Shared → Prop)
    (turn : ∀ n s, I n s → wpAny (model prog w) A (pyNext it) (fun r s1 => match r with
      | none => R (.ok .next) s1
      | some v => wpAny (model prog w) A (letOwnedTupleGo tb it v) (fun _ s2 => wpAny (model prog w) A (assign tb env v) (fun _ s3 => wpAny (model prog w) A (eval elt env) (fun x s4 =>
          wpAny (model prog w) A (call (.builtin "set.add") [acc, x]) (fun _ s5 => ∃ m, m < n ∧ I m s5) (fails prog w A env R) s4) (fails prog w A env R) s3) (fails prog w A env R) s2) (fails prog w A env R) s1) (fails prog w A env R) s)
    (n : Nat) (h : I n s) : codeAny (model prog w) A (.compLoop (two elt ta ia tb ib scope pos) 1 it acc env) R s := by
  refine codeAny_loop rfl I (fun n s hI => ?_) n h
  show wpAny _ A ((compTurn (two elt ta ia tb ib scope pos) 1 it acc env).onRaise (fun x => do noteFrame x env; theTreesLotGoes x)) _ _ s
  refine wpAny_noted ?_
  rw [turn_b]
  refine wpAny_bind (wpAny_standAt (wpAny_bind (wpAny_mono (turn n s hI) (fun r s1 g => ?_) fun _ _ x => x)))
  cases r with
  | none => exact wpAny_pure g
  | some v =>
    refine wpAny_bind (wpAny_mono g (fun _ s2 g2 => wpAny_bind (wpAny_mono g2 (fun _ s3 g3 => ?_) fun _ _ x => x)) fun _ _ x => x)
    exact wpAny_bind (wpAny_bind (wpAny_mono g3 (fun x s4 g4 => wpAny_bind (wpAny_standAt (wpAny_bind (wpAny_mono g4 (fun _ s5 g5 => wpAny_pure (wpAny_pure ⟨rfl, g5⟩)) fun _ _ x => x)))) fun _ _ x => x))
/-- a clause's start, the first's or the second's -/
theorem start_b (h0 : codeAny (model prog w) A (.compLoop (two elt ta ia tb ib scope pos) 1 it acc env) R s)
    (h : wpAny (model prog w) A (pyIter it) (fun it' s' => codeAny (model prog w) A (.compLoop (two elt ta ia tb ib scope pos) 1 it' acc env) R s') (fails prog w A env R) s) : codeAny (model prog w) A (.compStart (two elt ta ia tb ib scope pos) 1 it acc env) R s := by
  refine codeAny_of_tree ?_
  show wpAny _ _ ((compStart (two elt ta ia tb ib scope pos) 1 it acc env).onRaise (fun x => do noteFrame x env; standAt theWindowsPlace)) _ _ s
  refine wpAny_notedAt ?_
  unfold compStart
  show wpAny _ _ (ask >>= _) _ _ s
  refine wpAny_bind (wpAny_askSetting (wpAny_ite ?_))
  split
  · exact wpAny_pure (And.intro rfl h0)
  · refine wpAny_bind (wpAny_rule ?_)
    show wpAny _ _ (standAt ib.pos >>= _) _ _ s
    exact wpAny_bind (wpAny_standAt (wpAny_bind (wpAny_mono h (fun it' s' g => wpAny_pure (And.intro rfl g)) fun _ _ x => x)))
end

section
variable {X : Cx} {pins : List (Addr × Obj)} {σ : L2.St} {H : Hp} {s : Shared}
/-- a key added to a tracked set -/
theorem add_ok {E : Value → Shared → Prop} {D e : Addr} {k : List Key} {L : List (Addr × List Key)} {Q : Value → Shared → Prop} (I : Inv X pins σ H s) (hD : H D = some (SetO X.prog X.w D L)) (he : SqT X.K H e (k.map kV)) (hL : ∀ q ∈ L, SqT X.K H q.1 (q.2.map kV))
    (room : k ∉ L.map Prod.snd → L.length + 1 < 64) (hu : X.A.units + 2 < cLine) (h : ∀ L' s', (k ∈ L.map Prod.snd → L' = L) → (k ∉ L.map Prod.snd → L'.Perm ((e, k) :: L)) → Inv X pins σ (upd H D (SetO X.prog X.w D L')) s' → Q .none s') :
    wpAny (model X.prog X.w) X.A (call (.builtin "set.add") [.ref D, .ref e]) Q E s := by
  have R : Held X.prog X.w s.heap D L := (I.hok D _ hD).1
  obtain ⟨es, ep, t, Z⟩ := R.set fun q m => (key_raw I (hL q m)).1
  refine call_add mixSet Z (key_raw I he).1 (by show X.A.in1.units < cLine; have z : X.A.in1.units ≤ X.A.units + 2 := (by simp only [Around.in1]; omega); omega) room fun h' tk L' es' ep' t' sb Z' c1 c2 le => ?_
  obtain ⟨o, ho, _⟩ := Z'.ob
  exact h L' _ c1 c2 (I.write (e := D) (t' := tk) (by rw [hD]; trivial) (.inl rfl) (fun b u hb hu => (sb.2 b hb).trans hu) ⟨o, ho⟩ (setO_ok Z'.held))
end
end Kd

-- ===== KS8 =====
set_option Elab.async false
set_option linter.all false
set_option maxRecDepth 100000
set_option maxHeartbeats 3200000
namespace Kd
open PySem PySem.Spec PyProof.Rows L2
section
variable {X : Cx}
/-- the contexts in which a comprehension's parts run -/
abbrev Blks (X : Cx) (scope : Scope) (p : Cx → Prop) : Prop := ∀ (s : Shared) (H : Hp) (C : Addr) (cl : List (PySem.Str × Addr)) (fp : List Addr), p (X.blk s H scope (compEnvC scope cl C X.env) fp)
/-- {elt for ta in ia for tb in ib}, elt a tuple: D the new set. vs: the block's names; us: those of the second target -/
def tSc2 (K : PySem.W.Frag) (P : Program) (w : World) (wa : TI) (ga : TG) (wb : TI) (gb : TG) (te : TE) (vs us : List Nat) : TE := fun σ H Q => wa σ H fun J H1 => ∀ D, H1 D = none → ∃ W : Nat → Nat → Hp → Prop, (∃ m, W 0 m (upd H1 D (SetO P w D []))) ∧ ∀ i m H2, W i m H2 →
  (J.stop i H2 ∧ Q (.ref D) H2) ∨ (J.go i H2 ∧ ∃ Nx : Hp → Prop, (∀ H3, Nx H3 → ∃ m', m' < m ∧ W (i + 1) m' H3) ∧ ∀ x H3, J.yld i H2 x H3 → ga x (wipe σ vs) H3 fun σ4 H4 => wipe σ4 vs = wipe σ vs ∧ wb σ4 H4 fun J1 H5 =>
    ∃ W1 : Nat → Nat → Hp → Prop, (∃ m, W1 0 m H5) ∧ ∀ j k H6, W1 j k H6 → (J1.stop j H6 ∧ Nx H6) ∨ (J1.go j H6 ∧ ∃ Nx1 : Hp → Prop, (∀ H7, Nx1 H7 → ∃ k', k' < k ∧ W1 (j + 1) k' H7) ∧ ∀ x H7, J1.yld j H6 x H7 →
      gb x (wipe σ4 us) H7 fun σ8 H8 => wipe σ8 us = wipe σ4 us ∧ te σ8 H8 fun y H9 => ∃ (e : Addr) (c : List Key) (L : List (Addr × List Key)), y = .ref e ∧ SqT K H9 e (c.map kV) ∧ H9 D = some (SetO P w D L) ∧ (∀ q ∈ L, SqT K H9 q.1 (q.2.map kV)) ∧ (c ∉ L.map Prod.snd → L.length + 1 < 64) ∧
        ∀ L', (c ∈ L.map Prod.snd → L' = L) → (c ∉ L.map Prod.snd → L'.Perm ((e, c) :: L)) → Nx1 (upd H9 D (SetO P w D L'))))

theorem pe_sc2 {elt ta ia tb ib : Expr} {scope : Scope} {own : List (PySem.Str × Nat)} {us : List Nat} {pos : Pos} {wa wb : TI} {ga gb : TG} {te : TE} (hc : X.calm = true) (hN : X.N.Nodup) (hu : X.A.units + 2 < cLine) (hia : PI X ta ia wa) (ok : BlkOk X.N X.env.scope scope own) (hus : ∀ i ∈ us, i ∈ own.map (·.2))
    (hga : Blks X scope fun Y => PG Y ta ga) (hib : Blks X scope fun Y => PI Y tb ib wb) (hgb : Blks X scope fun Y => PG Y tb gb) (hel : Blks X scope fun Y => PE Y elt te)
    (pa : ∀ x, foldedSetIterable ia X.env x = pure x := by intro _; rfl) (pb : ∀ env x, foldedSetIterable ib env x = pure x := by intro _ _; rfl) :
    PE X (two elt ta ia tb ib scope pos) (tSc2 X.K X.prog X.w wa ga wb gb te (own.map (·.2)) us) := by
  refine ⟨fun pins s σ H Q I h => ?_⟩
  rw [PpSet.eval_SetComp]
  have caught : ∀ y ∈ scope.names, y.2 = .free → ∃ c, X.env.cells.lookup y.1 = some c := fun y m e => (ok.free y m e).elim (fun k => I.ok.has _ (.inl k)) (fun k => I.ok.has _ (.inr k))
  refine wpAny_comprehension_free (use := none) rfl pa (closure_ok caught) ok.kind (fun y m e => by rw [ok.uniq y m, e]) (thn (hia.run pins s σ H _ I h) fun xv s1 hx => thn hx fun itv s2 h2 => ?_)
  obtain ⟨it, fp, tn, J, H2, rfl, I2, T, st2, f2, q⟩ := h2
  refine PpSet.newSet_ok (newEnv_comp ?_)
  generalize eD : s2.heap.objs.size = D
  have D0 : H2 D = none := I2.hok.fresh (Nat.le_of_eq eD)
  obtain ⟨W, ⟨m0, w0⟩, turn⟩ := q D D0
  -- the new set stands
  generalize e3 : ({ s2 with heap := s2.heap.push (newO X.w) } : Shared) = s3
  have hp3 : s3.heap = s2.heap.push (newO X.w) := by rw [← e3]
  have I3 : Inv X pins σ (upd H2 D (SetO X.prog X.w D [])) s3 := by
    rw [← e3]
    refine I2.laid (t' := s2.toks) (fun b o e => Heap.get?_push_of_some _ e) (Nat.le_of_eq eD) (setO_ok (SetH.held (ep := 0) (setH_new ?_)))
    rw [← eD]
    exact Heap.get?_push_size _ rfl
  have low : ∀ b ∈ fp, b < s2.heap.objs.size := fun b m => by
    obtain ⟨o, e, _⟩ := T.obj _ _ st2 b m
    exact Heap.lt_size e
  have f3 : ∀ b ∈ fp, FpOk X pins (upd H2 D (SetO X.prog X.w D [])) b ∧ b < s3.heap.objs.size := fun b m => by
    refine ⟨⟨?_, (f2 b m).2⟩, by rw [hp3, Heap.size_push]; exact Nat.lt_succ_of_lt (low b m)⟩
    rw [upd_ne (by rw [← eD]; exact Nat.ne_of_lt (low b m))]
    exact (f2 b m).1
  have st3 : tn 0 s3.heap := T.keep _ _ _ st2 fun b _ o e => by rw [hp3]; exact Heap.get?_push_of_some _ e
  have I4 := block_start I3 ok hN f3
  have ga4 := hga s3 (upd H2 D (SetO X.prog X.w D [])) s3.heap.objs.size (cellsFrom (s3.heap.objs.size + 1) scope.names (cloFrom X.env.cells scope.names [])) fp
  have ib4 := hib s3 (upd H2 D (SetO X.prog X.w D [])) s3.heap.objs.size (cellsFrom (s3.heap.objs.size + 1) scope.names (cloFrom X.env.cells scope.names [])) fp
  have gb4 := hgb s3 (upd H2 D (SetO X.prog X.w D [])) s3.heap.objs.size (cellsFrom (s3.heap.objs.size + 1) scope.names (cloFrom X.env.cells scope.names [])) fp
  have el4 := hel s3 (upd H2 D (SetO X.prog X.w D [])) s3.heap.objs.size (cellsFrom (s3.heap.objs.size + 1) scope.names (cloFrom X.env.cells scope.names [])) fp
  show codeAny _ _ (.compStart (two elt ta ia tb ib scope pos) 0 (.ref it) (.ref D) (compEnvC scope (cellsFrom (s3.heap.objs.size + 1) scope.names (cloFrom X.env.cells scope.names [])) s3.heap.objs.size X.env)) (compPost (model X.prog X.w) X.A X.xe none _ (.ref D) s3.heap.objs.size) { s3 with heap := pushCells (s3.heap.push { cls := .type "dict", data := .dict #[] }) scope.names }
  have fp0 : ∀ b ∈ fp, (upd H2 D (SetO X.prog X.w D [])) b = none := fun b m => (f3 b m).1.1
  generalize ece : compEnvC scope (cellsFrom (s3.heap.objs.size + 1) scope.names (cloFrom X.env.cells scope.names [])) s3.heap.objs.size X.env = ce at I4 ga4 ib4 gb4 el4 ⊢
  have loc : ce.locals = s3.heap.objs.size := by subst ece; rfl
  generalize upd H2 D (SetO X.prog X.w D []) = H3 at I3 I4 ga4 ib4 gb4 el4 w0 fp0 f3
  generalize e4 : ({ s3 with heap := pushCells (s3.heap.push { cls := .type "dict", data := .dict #[] }) scope.names } : Shared) = s4 at I4 ⊢
  have st4 : tn 0 s4.heap := T.keep _ _ _ st3 fun b _ o e => by rw [← e4]; exact pushCells_keeps _ _ _ _ (Heap.get?_push_of_some _ e)
  have still : ∀ {τ : L2.St} {G : Hp} {u : Shared}, Inv (X.blk s3 H3 scope ce fp) [] τ G u → (∀ b ∈ fp, G b = none) → ∀ b ∈ fp, FpOk (X.blk s3 H3 scope ce fp) [] G b := fun {τ G u} Iu no b m =>
    ⟨no b m, (Iu.ok.exf b m).1, Iu.ok.exfs b m, .inl m, fun x c e => (Iu.ok.exf b m).2 x c e, fun p z => absurd (show p ∈ ([] : List (Addr × Obj)) ++ [] from z) (by simp)⟩
  refine PpSet.codeAny_compStart_set ?loop (T.self X.A 0 _ _ _ st4 ?loop)
  refine loop_a (pb ce) (fun n u => ∃ i G, Inv (X.blk s3 H3 scope ce fp) [] (wipe σ (own.map (·.2))) G u ∧ tn i u.heap ∧ (∀ b ∈ fp, G b = none) ∧ W i n G) (fun n s5 hI => ?_) m0 ⟨0, H3, I4, st4, fp0, w0⟩
  obtain ⟨i, H5, I5, st5, no5, w5⟩ := hI
  rcases turn i n H5 w5 with ⟨stop, fin⟩ | ⟨go, Nx, hNx, step⟩
  · -- at the end: back in the def
    refine thnF (T.done (X.blk s3 H3 scope ce fp) rfl rfl rfl hc i [] s5 _ H5 (fun _ _ => False) I5 (still I5 no5) st5 stop) fun r s6 ⟨hr, I6⟩ => ?_
    subst hr
    have I7 : Inv X pins σ H5 s6 := I3.call' (ch := fp) I6.os I6.base I6.hok I6.bare fun b m => ⟨(f3 b m).1.2.2.2.1, (f3 b m).1.2.1, (f3 b m).1.2.2.2.2.1, (f3 b m).1.2.2.2.2.2⟩
    have none5 : H5 s3.heap.objs.size = none := by
      have z : H5 ce.locals = none := I6.free
      rwa [loc] at z
    obtain ⟨m, hn, _⟩ := I6.loc
    have hn : s6.heap.Ns ce.locals m := hn
    rw [loc] at hn
    obtain ⟨g0, g1, g2, g3, g4, g5⟩ := I3.fpOk (Nat.le_refl _) none5
    exact ⟨m, hn, fun h'' sb => ⟨.ref D, H5, I7.turned (t' := s6.toks) (fun b o ne e => (sb.2 b ne).trans e) g0 g1 g3 g4 g5, rfl, fin⟩⟩
  · refine thnF (T.item (X.blk s3 H3 scope ce fp) rfl rfl rfl hc i [] s5 _ H5 (fun _ _ => False) I5 (still I5 no5) st5 go) fun r s6 ⟨u, hr, h6⟩ => ?_
    subst hr
    refine thnF h6 fun _ s7 ⟨x, H7, I7, r7, y7, st7, no7⟩ => ?_
    have I7p := I7.pinned (still I7 no7) (T.obj _ _ st7)
    refine thnF (ga4.run _ s7 _ H7 x u _ I7p r7 (step x H7 y7)) fun _ s8 ⟨σ8, H8, I8, wp8, q8⟩ => ?_
    have len8 : (wipe σ (own.map (·.2))).length = σ8.length := by rw [← wp8, wipe_length]
    -- what the turn comes to
    have next : ∀ {τ : L2.St} {v : Shared} {G : Hp}, Inv (X.blk s3 H3 scope ce fp) ([] ++ pinsAt fp s7.heap) τ G v → (wipe σ (own.map (·.2))).length = τ.length → (∀ (j : Nat) z, (wipe σ (own.map (·.2)))[j]? = some (some z) → τ[j]? = some (some z)) → Nx G →
        ∃ m, m < n ∧ ∃ i G, Inv (X.blk s3 H3 scope ce fp) [] (wipe σ (own.map (·.2))) G v ∧ tn i v.heap ∧ (∀ b ∈ fp, G b = none) ∧ W i m G := fun {τ v G} Iv le ke nx => by
      obtain ⟨m', lt, w'⟩ := hNx G nx
      have pinned : ∀ b ∈ fp, ∀ o, s7.heap.get? b = some o → v.heap.get? b = some o ∧ G b = none := fun b m o e =>
        have z := Iv.pin (b, o) (List.mem_append_right _ (List.mem_append_right _ (mem_pinsAt m e)))
        ⟨z.1, z.2.1⟩
      refine ⟨m', lt, i + 1, G, (Iv.unpinned (pins := [])).weak le ke, T.keep _ _ _ st7 fun b m o e => (pinned b m o e).1, fun b m => ?_, w'⟩
      obtain ⟨o, e, _⟩ := T.obj _ _ st7 b m
      exact (pinned b m o e).2
    refine thnF (ib4.run _ s8 σ8 H8 _ I8 q8) fun xv s9 hx => thnF hx fun jt s10 h10 => ?_
    obtain ⟨jt, gp, un, J1, H10, rfl, I10, U, su10, f10, W1, ⟨m1, v1⟩, turn1⟩ := h10
    have still1 : ∀ {G : Hp}, (∀ b ∈ gp, G b = none) → ∀ b ∈ gp, FpOk (X.blk s3 H3 scope ce fp) ([] ++ pinsAt fp s7.heap) G b := fun no b m => ⟨no b m, (f10 b m).2⟩
    have inner : codeAny (model X.prog X.w) X.A (.compLoop (two elt ta ia tb ib scope pos) 1 (.ref jt) (.ref D) ce) (fun r v => match r with
        | .ok _ => ∃ m, m < n ∧ ∃ i G, Inv (X.blk s3 H3 scope ce fp) [] (wipe σ (own.map (·.2))) G v ∧ tn i v.heap ∧ (∀ b ∈ fp, G b = none) ∧ W i m G
        | .error _ => False) s10 := by
      refine loop_b (fun k v => ∃ j G, Inv (X.blk s3 H3 scope ce fp) ([] ++ pinsAt fp s7.heap) (wipe σ8 us) G v ∧ un j v.heap ∧ (∀ b ∈ gp, G b = none) ∧ W1 j k G) (fun k s12 hI => ?_) m1 ⟨0, H10, I10.weak (wipe_length _ _) (fun j v e => (wipe_some e).1), su10, fun b m => (f10 b m).1, v1⟩
      obtain ⟨j, H12, I12, su12, no12, w12⟩ := hI
      rcases turn1 j k H12 w12 with ⟨stop1, nx⟩ | ⟨go1, Nx1, hNx1, step1⟩
      · refine thnF (U.done (X.blk s3 H3 scope ce fp) rfl rfl rfl hc j _ s12 (wipe σ8 us) H12 (fun _ _ => False) I12 (still1 no12) su12 stop1) fun r s13 ⟨hr, I13⟩ => ?_
        subst hr
        refine next I13 (len8.trans (wipe_length σ8 us).symm) (fun j v e => ?_) nx
        rw [← wp8] at e
        obtain ⟨a1, a2⟩ := wipe_some e
        rw [wipe_out fun z => a2 (hus j z)]
        exact a1
      · refine thnF (U.item (X.blk s3 H3 scope ce fp) rfl rfl rfl hc j _ s12 (wipe σ8 us) H12 (fun _ _ => False) I12 (still1 no12) su12 go1) fun r s13 ⟨u1, hr, h13⟩ => ?_
        subst hr
        refine thnF h13 fun _ s14 ⟨x1, H14, I14, r14, y14, su14, no14⟩ => ?_
        have I14p := I14.pinned (still1 no14) (U.obj _ _ su14)
        refine thnF (gb4.run _ s14 (wipe σ8 us) H14 x1 u1 _ I14p r14 (step1 x1 H14 y14)) fun _ s15 ⟨σ15, H15, I15, wp15, q15⟩ => ?_
        refine thnF (el4.run _ s15 σ15 H15 _ I15 q15) fun z s17 ⟨yv, H17, I17, r17, e, c, L, ey, he, hD, hL, room, nx⟩ => ?_
        subst ey
        cases r17
        refine add_ok (X := X.blk s3 H3 scope ce fp) I17 hD he hL room hu fun L' s18 c1 c2 I18 => ?_
        obtain ⟨m', lt, w'⟩ := hNx1 _ (nx L' c1 c2)
        have pinned : ∀ b ∈ gp, ∀ o, s14.heap.get? b = some o → s18.heap.get? b = some o ∧ (upd H17 D (SetO X.prog X.w D L')) b = none := fun b m o e =>
          have z := I18.pin (b, o) (List.mem_append_right _ (List.mem_append_right _ (mem_pinsAt m e)))
          ⟨z.1, z.2.1⟩
        refine ⟨m', lt, j + 1, _, I18.unpinned.weak (by rw [← wp15, wipe_length]) (fun j v e => by rw [← wp15] at e; exact (wipe_some e).1), U.keep _ _ _ su14 fun b m o e => (pinned b m o e).1, fun b m => ?_, w'⟩
        obtain ⟨o, e, _⟩ := U.obj _ _ su14 b m
        exact (pinned b m o e).2
    exact start_b inner (U.self X.A 0 _ _ _ su10 inner)
end
end Kd

-- ===== KS9 =====
set_option Elab.async false
set_option linter.all false
set_option maxRecDepth 100000
set_option maxHeartbeats 3200000
namespace Kd
open PySem PySem.Spec PyProof.Rows L2
section
variable {X : Cx} {pins : List (Addr × Obj)} {σ : L2.St} {H : Hp} {s : Shared}
/-- an entry with a tuple for its key, by a comprehension -/
theorem put_ok {E : Value → Shared → Prop} {D b : Addr} {kvs : List (List Key × V)} {k : List Key} {v : V} {r : Value} {Q : Unit → Shared → Prop} (hu : X.A.units + 2 < cLine) (I : Inv X pins σ H s) (hD : H D = some (.dT kvs)) (hb : H b = some (.tup (k.map kV))) (room : kvs.length < sizeLine) (rv : RelV v r)
    (h : ∀ s', Inv X pins σ (upd H D (.dT (putK kvs k v))) s' → Q () s') : wpAny (model X.prog X.w) X.A (dictSet D (.ref b) r) Q E s := by
  obtain ⟨z, nsys, xs, rel, dd⟩ := dt_of I.hok hD
  have xz : xs.length ≤ sizeLine := by rw [← Paired.length rel]; exact z
  have pz : (putK kvs k v).length ≤ sizeLine := by have := length_putK kvs k v; omega
  refine wpAny_dictSet_heap (hsz := xz) (show X.A.units < cLine by omega) (key_of I.hok hb) dd fun h' dd' sb => h _ ?_
  obtain ⟨o, es, ep, ho, o2, o3, o4, _, o5⟩ := dd'
  refine d_write I (by rw [hD]; exact True.intro) sb ⟨o, ho⟩ ⟨pz, nsys, _, (rel.put k hb rv).keeps fun c ys e => ?_, o, es, ep, ho, o2, o3, o4, o5⟩
  rw [upd_ne (ne_of e hD (fun z => nomatch z))]
  exact e
end
section
variable {X : Cx}
/-- {key: val for ta in ia}, the key a tuple: D the new dict -/
def tDcT (wa : TI) (ga : TG) (tk tv : TE) (vs : List Nat) : TE := fun σ H Q => wa σ H fun J H1 => ∀ D, H1 D = none → ∃ W : Nat → Nat → Hp → Prop, (∃ m, W 0 m (upd H1 D (.dT []))) ∧ ∀ i m H2, W i m H2 →
  (J.stop i H2 ∧ Q (.ref D) H2) ∨ (J.go i H2 ∧ ∃ Nx : Hp → Prop, (∀ H3, Nx H3 → ∃ m', m' < m ∧ W (i + 1) m' H3) ∧ ∀ x H3, J.yld i H2 x H3 → ga x (wipe σ vs) H3 fun σ4 H4 => wipe σ4 vs = wipe σ vs ∧ tk σ4 H4 fun y H5 => tv σ4 H5 fun z H6 =>
    ∃ (kvs : List (List Key × V)) (k : List Key) (b : Addr), y = .ref b ∧ H6 b = some (.tup (k.map kV)) ∧ H6 D = some (.dT kvs) ∧ kvs.length < sizeLine ∧ Nx (upd H6 D (.dT (putK kvs k z))))
theorem pe_dcT {kx vx ta ia : Expr} {scope : Scope} {own : List (PySem.Str × Nat)} {pos : Pos} {wa : TI} {ga : TG} {tk tv : TE} (hc : X.calm = true) (hN : X.N.Nodup) (hu : X.A.units + 2 < cLine) (hia : PI X ta ia wa) (ok : BlkOk X.N X.env.scope scope own)
    (hga : Blks X scope fun Y => PG Y ta ga) (hk : Blks X scope fun Y => PE Y kx tk) (hv : Blks X scope fun Y => PE Y vx tv) (pa : ∀ x, foldedSetIterable ia X.env x = pure x := by intro _; rfl) :
    PE X (.DictComp kx vx [⟨ta, ia, [], 0⟩] scope pos) (tDcT wa ga tk tv (own.map (·.2))) := by
  refine ⟨fun pins s σ H Q I h => ?_⟩
  rw [arm_eval_DictComp]
  have caught : ∀ y ∈ scope.names, y.2 = .free → ∃ c, X.env.cells.lookup y.1 = some c := fun y m e => (ok.free y m e).elim (fun k => I.ok.has _ (.inl k)) (fun k => I.ok.has _ (.inr k))
  refine wpAny_comprehension_free (use := none) rfl pa (closure_ok caught) ok.kind (fun y m e => by rw [ok.uniq y m, e]) (thn (hia.run pins s σ H _ I h) fun xv s1 hx => thn hx fun itv s2 h2 => ?_)
  obtain ⟨it, fp, tn, J, H2, rfl, I2, T, st2, f2, q⟩ := h2
  refine wpAny_newObj_type (newEnv_comp ?_)
  generalize eD : s2.heap.objs.size = D
  have D0 : H2 D = none := I2.hok.fresh (Nat.le_of_eq eD)
  obtain ⟨W, ⟨m0, w0⟩, turn⟩ := q D D0
  generalize e3 : ({ s2 with heap := s2.heap.push { cls := .type "dict", data := .dict #[] } } : Shared) = s3
  have hp3 : s3.heap = s2.heap.push { cls := .type "dict", data := .dict #[] } := by rw [← e3]
  have I3 : Inv X pins σ (upd H2 D (.dT [])) s3 := by
    rw [← e3]
    refine I2.laid (t' := s2.toks) (fun b o e => Heap.get?_push_of_some _ e) (Nat.le_of_eq eD) ?_
    rw [← eD]
    exact dt_empty s2.heap I2.big
  have low : ∀ b ∈ fp, b < s2.heap.objs.size := fun b m => by
    obtain ⟨o, e, _⟩ := T.obj _ _ st2 b m
    exact Heap.lt_size e
  have f3 : ∀ b ∈ fp, FpOk X pins (upd H2 D (.dT [])) b ∧ b < s3.heap.objs.size := fun b m => by
    refine ⟨⟨?_, (f2 b m).2⟩, by rw [hp3, Heap.size_push]; exact Nat.lt_succ_of_lt (low b m)⟩
    rw [upd_ne (by rw [← eD]; exact Nat.ne_of_lt (low b m))]
    exact (f2 b m).1
  have st3 : tn 0 s3.heap := T.keep _ _ _ st2 fun b _ o e => by rw [hp3]; exact Heap.get?_push_of_some _ e
  have I4 := block_start I3 ok hN f3
  have ga4 := hga s3 (upd H2 D (.dT [])) s3.heap.objs.size (cellsFrom (s3.heap.objs.size + 1) scope.names (cloFrom X.env.cells scope.names [])) fp
  have k4 := hk s3 (upd H2 D (.dT [])) s3.heap.objs.size (cellsFrom (s3.heap.objs.size + 1) scope.names (cloFrom X.env.cells scope.names [])) fp
  have v4 := hv s3 (upd H2 D (.dT [])) s3.heap.objs.size (cellsFrom (s3.heap.objs.size + 1) scope.names (cloFrom X.env.cells scope.names [])) fp
  show codeAny _ _ (.compStart (.DictComp kx vx [⟨ta, ia, [], 0⟩] scope pos) 0 (.ref it) (.ref D) (compEnvC scope (cellsFrom (s3.heap.objs.size + 1) scope.names (cloFrom X.env.cells scope.names [])) s3.heap.objs.size X.env)) (compPost (model X.prog X.w) X.A X.xe none _ (.ref D) s3.heap.objs.size) { s3 with heap := pushCells (s3.heap.push { cls := .type "dict", data := .dict #[] }) scope.names }
  have fp0 : ∀ b ∈ fp, (upd H2 D (.dT [])) b = none := fun b m => (f3 b m).1.1
  generalize ece : compEnvC scope (cellsFrom (s3.heap.objs.size + 1) scope.names (cloFrom X.env.cells scope.names [])) s3.heap.objs.size X.env = ce at I4 ga4 k4 v4 ⊢
  have loc : ce.locals = s3.heap.objs.size := by subst ece; rfl
  generalize upd H2 D (.dT []) = H3 at I3 I4 ga4 k4 v4 w0 fp0 f3
  generalize e4 : ({ s3 with heap := pushCells (s3.heap.push { cls := .type "dict", data := .dict #[] }) scope.names } : Shared) = s4 at I4 ⊢
  have st4 : tn 0 s4.heap := T.keep _ _ _ st3 fun b _ o e => by rw [← e4]; exact pushCells_keeps _ _ _ _ (Heap.get?_push_of_some _ e)
  have still : ∀ {τ : L2.St} {G : Hp} {u : Shared}, Inv (X.blk s3 H3 scope ce fp) [] τ G u → (∀ b ∈ fp, G b = none) → ∀ b ∈ fp, FpOk (X.blk s3 H3 scope ce fp) [] G b := fun {τ G u} Iu no b m =>
    ⟨no b m, (Iu.ok.exf b m).1, Iu.ok.exfs b m, .inl m, fun x c e => (Iu.ok.exf b m).2 x c e, fun p z => absurd (show p ∈ ([] : List (Addr × Obj)) ++ [] from z) (by simp)⟩
  refine codeAny_compStart_dict ?loop (T.self X.A 0 _ _ _ st4 ?loop)
  refine compLoop_anyD (fun n u => ∃ i G, Inv (X.blk s3 H3 scope ce fp) [] (wipe σ (own.map (·.2))) G u ∧ tn i u.heap ∧ (∀ b ∈ fp, G b = none) ∧ W i n G) (fun n s5 hI => ?_) m0 ⟨0, H3, I4, st4, fp0, w0⟩
  obtain ⟨i, H5, I5, st5, no5, w5⟩ := hI
  rcases turn i n H5 w5 with ⟨stop, fin⟩ | ⟨go, Nx, hNx, step⟩
  · refine thnF (T.done (X.blk s3 H3 scope ce fp) rfl rfl rfl hc i [] s5 _ H5 (fun _ _ => False) I5 (still I5 no5) st5 stop) fun r s6 ⟨hr, I6⟩ => ?_
    subst hr
    have I7 : Inv X pins σ H5 s6 := I3.call' (ch := fp) I6.os I6.base I6.hok I6.bare fun b m => ⟨(f3 b m).1.2.2.2.1, (f3 b m).1.2.1, (f3 b m).1.2.2.2.2.1, (f3 b m).1.2.2.2.2.2⟩
    have none5 : H5 s3.heap.objs.size = none := by
      have z : H5 ce.locals = none := I6.free
      rwa [loc] at z
    obtain ⟨m, hn, _⟩ := I6.loc
    have hn : s6.heap.Ns ce.locals m := hn
    rw [loc] at hn
    obtain ⟨g0, g1, g2, g3, g4, g5⟩ := I3.fpOk (Nat.le_refl _) none5
    exact ⟨m, hn, fun h'' sb => ⟨.ref D, H5, I7.turned (t' := s6.toks) (fun b o ne e => (sb.2 b ne).trans e) g0 g1 g3 g4 g5, rfl, fin⟩⟩
  · refine thnF (T.item (X.blk s3 H3 scope ce fp) rfl rfl rfl hc i [] s5 _ H5 (fun _ _ => False) I5 (still I5 no5) st5 go) fun r s6 ⟨u, hr, h6⟩ => ?_
    subst hr
    refine thnF h6 fun _ s7 ⟨x, H7, I7, r7, y7, st7, no7⟩ => ?_
    have I7p := I7.pinned (still I7 no7) (T.obj _ _ st7)
    refine thnF (ga4.run _ s7 _ H7 x u _ I7p r7 (step x H7 y7)) fun _ s8 ⟨σ8, H8, I8, wp8, q8⟩ => ?_
    refine thnF ((pts_nil (X := X.blk s3 H3 scope ce fp)).run _ s8 σ8 H8 (fun b G => b = true ∧ tk σ8 G _) I8 ⟨rfl, q8⟩) fun b s9 ⟨H9, I9, eb, q9⟩ => ?_
    subst eb
    simp only [if_true]
    refine thnF (k4.run _ s9 σ8 H9 _ I9 q9) fun z1 s10 ⟨yk, H10, I10, r10, q10⟩ => ?_
    refine thnF (v4.run _ s10 σ8 H10 _ I10 q10) fun z2 s11 ⟨yv, H11, I11, r11, kvs, k, b, ek, hb, hD, room, nx⟩ => ?_
    subst ek
    cases r10
    refine put_ok (X := X.blk s3 H3 scope ce fp) hu I11 hD hb room r11 fun s12 I12 => ?_
    obtain ⟨m', lt, w'⟩ := hNx _ nx
    have pinned : ∀ b ∈ fp, ∀ o, s7.heap.get? b = some o → s12.heap.get? b = some o ∧ (upd H11 D (.dT (putK kvs k yv))) b = none := fun b m o e =>
      have z := I12.pin (b, o) (List.mem_append_right _ (List.mem_append_right _ (mem_pinsAt m e)))
      ⟨z.1, z.2.1⟩
    refine ⟨m', lt, i + 1, _, (I12.unpinned (pins := [])).weak (by rw [← wp8, wipe_length]) (fun j v e => by rw [← wp8] at e; exact (wipe_some e).1), T.keep _ _ _ st7 fun b m o e => (pinned b m o e).1, fun b m => ?_, w'⟩
    obtain ⟨o, e, _⟩ := T.obj _ _ st7 b m
    exact (pinned b m o e).2
end
end Kd

-- ===== K13B =====
set_option Elab.async false
set_option linter.all false
set_option maxRecDepth 100000
set_option maxHeartbeats 4000000
namespace My
open PySem L2 PyProof.Rows PySem.Spec Kd
abbrev sMoves : Stmt := top 6
abbrev sText : Stmt := top 8
abbrev sLine : Stmt := top 9
abbrev sUntext : Stmt := top 10
abbrev sUnline : Stmt := top 11
abbrev sUnstep : Stmt := top 12
abbrev sWord : Stmt := top 18
abbrev sNumber : Stmt := top 19
abbrev sStates : Stmt := top 20
abbrev sState : Stmt := top 21
abbrev sStep : Stmt := top 22
/-! ### data of tuples, texts and ints -/
mutual
inductive TD (H : Hp) : V → PyData → Prop
  | int (i : Int) : TD H (.int i) (.int i)
  | str (x : Str) : TD H (.str x) (.str x)
  | bl (b : Bool) : TD H (.bl b) (.bool b)
  | tup {a : Addr} {xs : List V} {ds : List PyData} : H a = some (.tup xs) → TDs H xs ds → TD H (.ref a) (.tuple ds)
inductive TDs (H : Hp) : List V → List PyData → Prop
  | nil : TDs H [] []
  | cons {v : V} {vs : List V} {d : PyData} {ds : List PyData} : TD H v d → TDs H vs ds → TDs H (v :: vs) (d :: ds)
end
/-- tuples that stood stand -/
def Tup (H H' : Hp) : Prop := ∀ a xs, H a = some (.tup xs) → H' a = some (.tup xs)
theorem Tup.refl (H : Hp) : Tup H H := fun _ _ e => e
theorem Tup.trans {H H1 H2 : Hp} (a : Tup H H1) (b : Tup H1 H2) : Tup H H2 := fun x xs e => b x xs (a x xs e)
theorem Tup.of {H H' : Hp} (s : Same H H') : Tup H H' := fun a xs e => s a _ e
theorem Tup.new {H : Hp} {p : Addr} {o : HO} (n : H p = none) : Tup H (upd H p o) := fun a xs e => by
  rw [upd_ne (ne_of_none e n)]
  exact e
theorem Tup.at_ {H : Hp} {p : Addr} {o o' : HO} (n : H p = some o') (h : ∀ xs, o' ≠ .tup xs) : Tup H (upd H p o) := fun a xs e => by
  rw [upd_ne (fun z => by rw [z, n] at e; exact h xs (Option.some.inj e))]
  exact e
mutual
theorem TD.to {H H' : Hp} (s : Tup H H') : ∀ {v : V} {d : PyData}, TD H v d → TD H' v d
  | _, _, .int i => .int i
  | _, _, .str x => .str x
  | _, _, .bl b => .bl b
  | _, _, .tup h1 h2 => .tup (s _ _ h1) (TDs.to s h2)
theorem TDs.to {H H' : Hp} (s : Tup H H') : ∀ {vs : List V} {ds : List PyData}, TDs H vs ds → TDs H' vs ds
  | _, _, .nil => .nil
  | _, _, .cons h1 h2 => .cons (TD.to s h1) (TDs.to s h2)
end
mutual
theorem TD.dp {K : PySem.W.Frag} {H : Hp} : ∀ {v : V} {d : PyData}, TD H v d → Dp K H v d
  | _, _, .int i => .int i
  | _, _, .str x => .str x
  | _, _, .bl b => .bl b
  | _, _, .tup h1 h2 => .tup (SqT.of h1) (TDs.dp h2)
theorem TDs.dp {K : PySem.W.Frag} {H : Hp} : ∀ {vs : List V} {ds : List PyData}, TDs H vs ds → DpAll K H vs ds
  | _, _, .nil => .nil
  | _, _, .cons h1 h2 => .cons (TD.dp h1) (TDs.dp h2)
end
mutual
theorem TD.dq {H : Hp} : ∀ {v : V} {d : PyData}, TD H v d → Dq (fun _ => True) H v d
  | _, _, .int i => .int i
  | _, _, .str x => .str x
  | _, _, .bl b => .bl b
  | _, _, .tup h1 h2 => .tup trivial h1 (TDs.dq h2)
theorem TDs.dq {H : Hp} : ∀ {vs : List V} {ds : List PyData}, TDs H vs ds → DqAll (fun _ => True) H vs ds
  | _, _, .nil => .nil
  | _, _, .cons h1 h2 => .cons (TD.dq h1) (TDs.dq h2)
end
theorem TDs.len {H : Hp} : ∀ {vs : List V} {ds : List PyData}, TDs H vs ds → vs.length = ds.length
  | _, _, .nil => rfl
  | _, _, .cons _ h2 => by rw [List.length_cons, List.length_cons, h2.len]
theorem TDs.get {H : Hp} : ∀ {vs : List V} {ds : List PyData}, TDs H vs ds → ∀ {i : Nat} {v : V}, vs[i]? = some v → ∃ d, ds[i]? = some d ∧ TD H v d
  | _, _, .nil, i, v, e => by simp at e
  | _, _, .cons h1 h2, 0, v, e => ⟨_, rfl, by have z := Option.some.inj e; rw [← z]; exact h1⟩
  | _, _, .cons h1 h2, i + 1, v, e => h2.get (i := i) e
theorem TDs.snoc {H : Hp} {v : V} {d : PyData} (h : TD H v d) : ∀ {vs : List V} {ds : List PyData}, TDs H vs ds → TDs H (vs ++ [v]) (ds ++ [d])
  | _, _, .nil => .cons h .nil
  | _, _, .cons h1 h2 => .cons h1 (TDs.snoc h h2)

/-! ### kinds as mathematics -/
abbrev Stp := Str × Str × Int
def stepD (x : Stp) : PyData := .tuple [.str x.1, .str x.2.1, .int x.2.2]
def stateD (st : List Stp) : PyData := .tuple (st.map stepD)
def statesD (ss : List (List Stp)) : PyData := .tuple (ss.map stateD)
abbrev evOf (x : Stp) : Str × Str := (x.1, x.2.1)
def LETS : Str := "abcdefghijklmnopqrstuvwxyz0123456789"
def Wrd (z : Str) : Prop := 1 ≤ z.length ∧ z.length ≤ 12 ∧ ∀ c ∈ z.cps.toList, c ∈ LETS.cps.toList
def evLt (x y : Str × Str) : Prop := x.1.cps.toList < y.1.cps.toList ∨ (x.1 = y.1 ∧ x.2.cps.toList < y.2.cps.toList)
structure StpOk (n : Nat) (x : Stp) : Prop where
  w1 : Wrd x.1
  w2 : Wrd x.2.1
  lo : 0 ≤ x.2.2
  hi : x.2.2 < n
structure StOk (n : Nat) (st : List Stp) : Prop where
  all : ∀ x ∈ st, StpOk n x
  asc : (st.map evOf).Pairwise evLt
  few : st.length ≤ 24
structure KOk (ss : List (List Stp)) : Prop where
  one : 1 ≤ ss.length
  most : ss.length ≤ 40
  all : ∀ st ∈ ss, StOk ss.length st
  evs : ∃ es : List (Str × Str), es.length ≤ 24 ∧ ∀ st ∈ ss, ∀ x ∈ st, evOf x ∈ es

/-- what the module's names hold -/
structure Gs (mg : Str → Option Value) : Prop where
  isi : mg "isinstance" = none
  str : mg "str" = none
  int : mg "int" = none
  bool : mg "bool" = none
  tuple : mg "tuple" = none
  len : mg "len" = none
  all : mg "all" = none
  set : mg "set" = none
  sorted : mg "sorted" = none
  range : mg "range" = none
  repr : mg "repr" = none
  enum : mg "enumerate" = none
  list : mg "list" = none
  c40 : ∃ t, mg "MOST_STATES" = some (.int 40 t)
  c24 : ∃ t, mg "MOST_EVENTS" = some (.int 24 t)
  c12 : ∃ t, mg "MOST_LETTERS" = some (.int 12 t)
  lets : ∃ t, mg "LETTERS" = some (.str LETS t)

theorem same_at {H H2 : Hp} {D : Addr} {o : HO} (s : Same H H2) (n : H D = none) : Same H (upd H2 D o) := fun b u e => by
  rw [upd_ne (ne_of_none e n)]
  exact s b u e
theorem small_len {n m : Nat} (h : n ≤ m) (hm : m ≤ 16777216 := by decide) : n ≤ sizeLine := by rw [sizeLine_eq]; omega
theorem small_lt {n m : Nat} (h : n ≤ m) (hm : m < 16777216 := by decide) : n < sizeLine := by rw [sizeLine_eq]; omega
/-! ### walks of comprehensions -/
/-- what a list comprehension's loop over J asks, the list at D -/
def LcW (J : It) (g : TG) (tt : TT) (te : TE) (vs : List Nat) (σ : L2.St) (H1 : Hp) (D : Addr) (Qd : Hp → Prop) : Prop := ∃ W : Nat → Nat → Hp → Prop, (∃ m, W 0 m (upd H1 D (.lst []))) ∧ ∀ i m H, W i m H →
  (J.stop i H ∧ Qd H) ∨ (J.go i H ∧ ∃ Nx : Hp → Prop, (∀ H', Nx H' → ∃ m', m' < m ∧ W (i + 1) m' H') ∧ ∀ x H', J.yld i H x H' → g x (wipe σ vs) H' fun σ2 H2 => wipe σ2 vs = wipe σ vs ∧ tt σ2 H2 fun b H3 =>
    if b = true then te σ2 H3 fun y H4 => ∃ acc, H4 D = some (.lst acc) ∧ acc.length < sizeLine ∧ Nx (upd H4 D (.lst (acc ++ [y]))) else Nx H3)
theorem lc_text {x : Str} {g : TG} {tt : TT} {te : TE} {vs : List Nat} {σ : L2.St} {H1 : Hp} {D : Addr} {Qd : Hp → Prop} (Pv : Nat → Hp → Prop) (first : Pv 0 (upd H1 D (.lst [])))
    (turn : ∀ i c H, x.cps[i]? = some c → Pv i H → g (.str ⟨#[c]⟩) (wipe σ vs) H fun σ2 H2 => wipe σ2 vs = wipe σ vs ∧ tt σ2 H2 fun b H3 => if b = true then te σ2 H3 fun y H4 => ∃ acc, H4 D = some (.lst acc) ∧ acc.length < sizeLine ∧ Pv (i + 1) (upd H4 D (.lst (acc ++ [y]))) else Pv (i + 1) H3)
    (last : ∀ H, Pv x.cps.size H → Qd H) : LcW (Its x) g tt te vs σ H1 D Qd := by
  refine ⟨fun i m H => m = x.cps.size - i ∧ i ≤ x.cps.size ∧ Pv i H, ⟨_, rfl, Nat.zero_le _, first⟩, fun i m H ⟨em, le, p⟩ => ?_⟩
  subst em
  rcases Nat.lt_or_ge i x.cps.size with lt | ge
  · refine .inr ⟨lt, Pv (i + 1), fun H' p' => ⟨_, by omega, rfl, lt, p'⟩, fun v H' ⟨eH, c, ec, ev⟩ => ?_⟩
    subst eH
    subst ev
    exact turn i c _ ec p
  · have e : i = x.cps.size := by omega
    subst e
    exact .inl ⟨Nat.le_refl _, last H p⟩
/-! ### is_word -/
def spWord : Sp := fun vs H Q _ => ∃ z : Str, vs = [.str z] ∧ Wrd z ∧ ∀ H', Same H H' → Q (.bl true) H'
def spNumber : Sp := fun vs H Q _ => ∃ i : Int, vs = [.int i] ∧ 0 ≤ i ∧ Q (.bl true) H
def spStep : Sp := fun vs H Q _ => ∃ (a : Addr) (x : Stp) (n : Nat), vs = [.ref a, .int n] ∧ TD H (.ref a) (stepD x) ∧ StpOk n x ∧ ∀ H', Same H H' → Q (.bl true) H'
theorem small_str {z : Str} (h : z.length ≤ 12) : z.length ≤ sizeLine := by rw [sizeLine_eq]; omega
section
variable {P : Program} {w : World} {K : PySem.W.Frag} {mg : Str → Option Value} {base : Heap}
theorem scW : FnScope ["thing", "letter"] ["thing"] (defScope sWord) := ⟨rfl, rfl, rfl, by decide +kernel, rfl, by decide +kernel, by decide +kernel⟩
theorem ok_word {f : Addr} {fd : FuncData} (F : Fun K "is_word" "is_word" sWord f fd) (G : Gs mg) : FnOk P w K mg base CX0 1 f fd ["thing"] spWord := by
  obtain ⟨t12, m12⟩ := G.c12
  obtain ⟨tl, mlet⟩ := G.lets
  refine F.ok scW (fun vs H Q E h => ?_) (fun cdv A outer s H vs Q E hr h => ?_)
  · obtain ⟨z, rfl, _⟩ := h
    rfl
  · obtain ⟨z, rfl, wz, k⟩ := h
    refine ⟨_, pss_cons (ps_if (PW.pt (pw_or (pt_not (pt_val (pe_callB call_isi (by rfl) G.isi boot_isinstance (pa_cons (pv 0) (pa_cons (pe_bltn (v := .ty "str") (by rfl) G.str PyProof.Rows.boot_str rfl) pa_nil)))))
          (pw_or1 (pt_not (pt_chain op_le op_le pe_int (pe_callB call_len_str (by rfl) G.len PySem.boot_len (pa_cons (pv 0) pa_nil)) (pe_glob (v := .int 12) (by rfl) m12 ⟨_, rfl⟩)))))) (pss_one (ps_ret pe_bl)) pss_nil)
      (pss_one (ps_ret (pe_callB (cr_all rfl) (by rfl) G.all PyProof.Rows.boot_all (pa_cons (pe_lc (own := [("letter", 1)]) (g := gName 1) (tt := tYes) rfl scW.nd (pi_str (pv 0)) (blkOk_by (N := ["thing", "letter"]) (sc := defScope sWord) (by decide +kernel))
        (fun _ _ _ _ _ => pg_name (i := 1) scW.nd rfl (Or.inl rfl)) (fun _ _ _ _ _ => pts_nil) (fun _ _ _ _ _ => pe_cmpR op_in_sign (pv 1) (pe_glob (v := .str LETS) (by rfl) mlet ⟨_, rfl⟩) (by rfl))) pa_nil)))), ?_⟩
    refine ⟨_, rfl, _, _, _, _, _, rfl, .ty "str", .base (.str z), kit_ty (a := "str") (b := "str") (r := true) (by decide +kernel), _, rfl, iteF ?_⟩
    refine ⟨_, rfl, z, rfl, small_str wz.2.1, _, _, rfl, rfl, _, rfl, ?_⟩
    have l1 := wz.1
    have l2 := wz.2.1
    rw [decide_eq_true (show (1 : Int) ≤ z.length by omega)]
    refine iteT ⟨_, _, rfl, rfl, _, rfl, ?_⟩
    rw [decide_eq_true (show (z.length : Int) ≤ 12 by omega)]
    refine iteF ?_
    refine ⟨_, rfl, z, rfl, fun D hD => lc_text (x := z) (fun i H2 => Same H H2 ∧ H2 D = some (.lst ((List.replicate i true).map V.bl))) ⟨?_, upd_same⟩ (fun i c H2 ec ⟨s2, d2⟩ => ?_) fun H2 ⟨s2, d2⟩ => ?_⟩
    · exact same_at (Same.refl H) hD
    · have lt : i < z.cps.size := (Array.getElem?_eq_some_iff.mp ec).1
      have mem : c ∈ z.cps.toList := List.mem_of_getElem? (by rw [Array.getElem?_toList]; exact ec)
      refine ⟨rfl, _, rfl, c, LETS, rfl, rfl, ?_⟩
      rw [decide_eq_true (wz.2.2 c mem)]
      refine ⟨_, d2, ?_, same_at s2 hD, ?_⟩
      · rw [List.length_map, List.length_replicate]
        exact small_lt (m := 12) (Nat.le_trans (Nat.le_of_lt lt) l2)
      · rw [upd_same, List.replicate_succ', List.map_append]
        rfl
    · refine ⟨D, _, rfl, SqL.of d2, ?_⟩
      have e : ((List.replicate z.cps.size true).all id) = true := by simp
      rw [e]
      exact k _ s2
theorem scNu : FnScope ["thing"] ["thing"] (defScope sNumber) := ⟨rfl, rfl, rfl, by decide +kernel, rfl, by decide +kernel, by decide +kernel⟩
theorem ok_number {f : Addr} {fd : FuncData} (F : Fun K "is_number" "is_number" sNumber f fd) (G : Gs mg) : FnOk P w K mg base CX0 1 f fd ["thing"] spNumber := by
  refine F.ok scNu (fun vs H Q E h => ?_) (fun cdv A outer s H vs Q E hr h => ?_)
  · obtain ⟨i, rfl, _⟩ := h
    rfl
  · obtain ⟨i, rfl, i0, k⟩ := h
    refine ⟨_, pss_one (ps_ret (pe_and (pe_callB call_isi (by rfl) G.isi boot_isinstance (pa_cons (pv 0) (pa_cons (pe_bltn (v := .ty "int") (by rfl) G.int PyProof.Rows.boot_int rfl) pa_nil)))
      (pe_and (pe_not (pe_callB call_isi (by rfl) G.isi boot_isinstance (pa_cons (pv 0) (pa_cons (pe_bltn (v := .ty "bool") (by rfl) G.bool PyProof.Rows.boot_bool rfl) pa_nil)))) (pe_one (pe_cmpR op_ge (pv 0) pe_int (nomark _)))))), ?_⟩
    refine ⟨_, rfl, _, _, _, _, _, rfl, .ty "int", .base (.int i), kit_ty (a := "int") (b := "int") (r := true) (by decide +kernel), _, rfl, ?_⟩
    refine ⟨_, rfl, _, _, _, _, _, rfl, .ty "bool", .base (.int i), kit_ty (a := "int") (b := "bool") (r := false) (by decide +kernel), _, rfl, ?_⟩
    refine ⟨_, rfl, iteT ⟨_, rfl, _, _, rfl, rfl, ?_⟩⟩
    show Q (V.bl (decide (0 ≤ i))) H
    rw [decide_eq_true i0]
    exact k
theorem scSp : FnScope ["thing", "many"] ["thing", "many"] (defScope sStep) := ⟨rfl, rfl, rfl, by decide +kernel, rfl, by decide +kernel, by decide +kernel⟩
theorem TD.tup_of {H : Hp} {a : Addr} {ds : List PyData} (h : TD H (.ref a) (.tuple ds)) : ∃ xs, H a = some (.tup xs) ∧ TDs H xs ds := by
  cases h with
  | tup h1 h2 => exact ⟨_, h1, h2⟩
theorem TD.ref_of {H : Hp} {v : V} {ds : List PyData} (h : TD H v (.tuple ds)) : ∃ a xs, v = .ref a ∧ H a = some (.tup xs) ∧ TDs H xs ds := by
  cases h with
  | tup h1 h2 => exact ⟨_, _, rfl, h1, h2⟩
theorem step_of {H : Hp} {v : V} {x : Stp} (h : TD H v (stepD x)) : ∃ a, v = .ref a ∧ H a = some (.tup [.str x.1, .str x.2.1, .int x.2.2]) := by
  obtain ⟨a, xs, rfl, ha, hx⟩ := h.ref_of
  refine ⟨a, rfl, ?_⟩
  cases hx with
  | cons h1 t1 =>
    cases h1
    cases t1 with
    | cons h2 t2 =>
      cases h2
      cases t2 with
      | cons h3 t3 =>
        cases h3
        cases t3
        exact ha
theorem ok_step {f fW fN : Addr} {fd fdW fdN : FuncData} (F : Fun K "_is_step" "_is_step" sStep f fd) (G : Gs mg)
    (GW : FnOk P w K mg base CX0 1 fW fdW ["thing"] spWord) (mW : mg "is_word" = some (.ref fW)) (kW : PySem.W.keepIn K (.ref fW) = true) (bW : Binds K fdW ["thing"] [])
    (GN : FnOk P w K mg base CX0 1 fN fdN ["thing"] spNumber) (mN : mg "is_number" = some (.ref fN)) (kN : PySem.W.keepIn K (.ref fN) = true) (bN : Binds K fdN ["thing"] []) :
    FnOk P w K mg base CX0 2 f fd ["thing", "many"] spStep := by
  refine F.ok scSp (fun vs H Q E h => ?_) (fun cdv A outer s H vs Q E hr h => ?_)
  · obtain ⟨a, x, n, rfl, _⟩ := h
    rfl
  · obtain ⟨a, x, n, rfl, hx, xo, k⟩ := h
    refine ⟨_, pss_cons (ps_if (PW.pt (pw_or (pt_not (pt_val (pe_callB call_isi (by rfl) G.isi boot_isinstance (pa_cons (pv 0) (pa_cons (pe_bltn (v := .ty "tuple") (by rfl) G.tuple PyProof.Rows.boot_tuple rfl) pa_nil)))))
          (pw_or1 (pt_cmpR op_ne (pe_callB call_len_seq (by rfl) G.len PySem.boot_len (pa_cons (pv 0) pa_nil)) pe_int (nomark _))))) (pss_one (ps_ret pe_bl)) pss_nil)
      (pss_one (ps_ret (pe_and (pe_call GW hr (by rfl) mW kW bW .nil pass0 (pa_cons (pe_ix ix_tup (pv 0) pe_int (fun _ _ => rfl)) pa_nil))
        (pe_and (pe_call GW hr (by rfl) mW kW bW .nil pass0 (pa_cons (pe_ix ix_tup (pv 0) pe_int (fun _ _ => rfl)) pa_nil))
        (pe_and (pe_call GN hr (by rfl) mN kN bN .nil pass0 (pa_cons (pe_ix ix_tup (pv 0) pe_int (fun _ _ => rfl)) pa_nil))
        (pe_one (pe_cmpR op_lt (pe_ix ix_tup (pv 0) pe_int (fun _ _ => rfl)) (pv 1) (nomark _)))))))), ?_⟩
    obtain ⟨a', e, ha⟩ := step_of hx
    cases e
    refine ⟨_, rfl, _, _, _, _, _, rfl, .ty "tuple", .base (.tup ha), kit_ty (a := "tuple") (b := "tuple") (r := true) (by decide +kernel), _, rfl, iteF ?_⟩
    refine ⟨_, rfl, a, _, rfl, .inr (SqT.of ha), ?_⟩
    refine ⟨rfl, _, rfl, iteF ?_⟩
    refine ⟨_, rfl, a, _, _, _, rfl, rfl, SqT.of ha, rfl, x.1, rfl, xo.w1, fun H1 s1 => ⟨_, rfl, iteT ?_⟩⟩
    have h1 := s1 _ _ ha
    refine ⟨_, rfl, a, _, _, _, rfl, rfl, SqT.of h1, rfl, x.2.1, rfl, xo.w2, fun H2 s2 => ⟨_, rfl, iteT ?_⟩⟩
    have h2 := s2 _ _ h1
    refine ⟨_, rfl, a, _, _, _, rfl, rfl, SqT.of h2, rfl, x.2.2, rfl, xo.lo, ⟨_, rfl, iteT ?_⟩⟩
    refine ⟨_, rfl, a, _, _, _, rfl, rfl, SqT.of h2, rfl, _, rfl, _, _, rfl, rfl, ?_⟩
    show Q (V.bl (decide (x.2.2 < (n : Int)))) H2
    rw [decide_eq_true xo.hi]
    exact k _ (s1.trans s2)
end
end My

-- ===== K13M =====
set_option Elab.async false
set_option linter.all false
set_option maxRecDepth 100000
set_option maxHeartbeats 1600000
namespace My
open PySem L2 PyProof.Rows PySem.Spec Kd PySem.W
theorem cps_inj {x y : Str} (h : x.cps.toList = y.cps.toList) : x = y := by
  cases x
  cases y
  simp only [Str.mk.injEq]
  exact Array.toList_inj.mp h
/-- a pair of texts as a key -/
def evK (x : Str × Str) : List Key := [Sum.inr x.1, Sum.inr x.2]
theorem evK_inj {x y : Str × Str} (h : evK x = evK y) : x = y := by
  unfold evK at h
  injection h with h1 h2
  injection h2 with h3 _
  exact Prod.ext (Sum.inr.inj h1) (Sum.inr.inj h3)
theorem evLt_irrefl (x : Str × Str) : ¬ evLt x x := fun h => by
  rcases h with h | ⟨_, h⟩
  · exact List.lt_irrefl _ h
  · exact List.lt_irrefl _ h
theorem evLt_trans {x y z : Str × Str} (h1 : evLt x y) (h2 : evLt y z) : evLt x z := by
  rcases h1 with a | ⟨a, b⟩
  · rcases h2 with c | ⟨c, d⟩
    · exact .inl (List.lt_trans a c)
    · exact .inl (by rw [← c]; exact a)
  · rcases h2 with c | ⟨c, d⟩
    · exact .inl (by rw [a]; exact c)
    · exact .inr ⟨a.trans c, List.lt_trans b d⟩
theorem evLt_tri (x y : Str × Str) (h1 : ¬ evLt x y) (h2 : ¬ evLt y x) : x = y := by
  unfold evLt at h1 h2
  have a : x.1 = y.1 := cps_inj (List.le_antisymm (List.not_lt.mp fun z => h2 (.inl z)) (List.not_lt.mp fun z => h1 (.inl z)))
  have b : x.2 = y.2 := cps_inj (List.le_antisymm (List.not_lt.mp fun z => h2 (.inr ⟨a.symm, z⟩)) (List.not_lt.mp fun z => h1 (.inr ⟨a, z⟩)))
  exact Prod.ext a b
theorem eqv_str (x y : Str) : PyData.eqv (.str x) (.str y) = decide (x = y) := by
  by_cases e : x = y
  · subst e
    simp [PyData.eqv]
  · rw [decide_eq_false e]
    simp [PyData.eqv, e]
/-- the order of sorted on such keys -/
theorem lt_evK (x y : Str × Str) : dataLt (tD (evK x)) (tD (evK y)) = true ↔ evLt x y := by
  unfold tD evK evLt
  simp only [List.map_cons, List.map_nil, kD]
  rw [dataLt_pair rfl rfl, eqv_str, eqv_str]
  by_cases e : x.1 = y.1
  · have e0 : ¬ x.1.cps.toList < y.1.cps.toList := by rw [e]; exact List.lt_irrefl _
    rw [decide_eq_true e, if_pos rfl]
    by_cases e2 : x.2 = y.2
    · have e3 : ¬ x.2.cps.toList < y.2.cps.toList := by rw [e2]; exact List.lt_irrefl _
      rw [decide_eq_true e2, if_pos rfl]
      simp [e0, e3]
    · rw [decide_eq_false e2, if_neg (by decide), dataLt_str, decide_eq_true_eq]
      exact ⟨fun h => .inr ⟨e, h⟩, fun h => h.elim (fun z => absurd z e0) fun z => z.2⟩
  · rw [decide_eq_false e, if_neg (by decide), dataLt_str, decide_eq_true_eq]
    simp [e]
theorem le_evK {q r : Addr × List Key} {x y : Str × Str} (hq : q.2 = evK x) (hr : r.2 = evK y) : dataLe false (fun q : Addr × List Key => tD q.2) q r = true ↔ ¬ evLt y x := by
  rw [dataLe_eq]
  show (!dataLt (tD r.2) (tD q.2)) = true ↔ _
  rw [hq, hr, Bool.not_eq_true', ← Bool.not_eq_true, lt_evK]
theorem asc_nodup {es : List (Str × Str)} (h : es.Pairwise evLt) : es.Nodup := List.Pairwise.imp (fun {x y} lt e => by rw [e] at lt; exact evLt_irrefl _ lt) h
/-- whatever is sorted of what has just these keys -/
theorem sorted_is (L : List (Addr × List Key)) (es : List (Str × Str)) (asc : es.Pairwise evLt) (nd : (L.map Prod.snd).Nodup) (mem : ∀ k, k ∈ L.map Prod.snd ↔ k ∈ es.map evK) :
    (L.mergeSort (dataLe false fun q : Addr × List Key => tD q.2)).map Prod.snd = es.map evK := by
  have tot := sortLe_total (listOrd itemOrd) false fun q : Addr × List Key => keyToks (tD q.2)
  have srt : (L.mergeSort (dataLe false fun q : Addr × List Key => tD q.2)).Pairwise fun q r => dataLe false (fun q : Addr × List Key => tD q.2) q r = true := List.pairwise_mergeSort tot.trans (fun a b => by rw [Bool.or_eq_true]; exact tot.total a b) L
  have pm : (L.mergeSort (dataLe false fun q : Addr × List Key => tD q.2)).Perm L := List.mergeSort_perm _ _
  generalize L.mergeSort (dataLe false fun q : Addr × List Key => tD q.2) = M at srt pm
  have key : ∀ q ∈ M, ∃ x, q.2 = evK x := fun q hq => by
    have z := (mem q.2).mp (List.mem_map.mpr ⟨q, pm.mem_iff.mp hq, rfl⟩)
    obtain ⟨x, _, e⟩ := List.mem_map.mp z
    exact ⟨x, e.symm⟩
  -- as pairs of texts
  have back : ∃ xs : List (Str × Str), M.map Prod.snd = xs.map evK := by
    clear srt pm
    induction M with
    | nil => exact ⟨[], rfl⟩
    | cons q M ih =>
      obtain ⟨x, e⟩ := key q List.mem_cons_self
      obtain ⟨xs, e2⟩ := ih fun r hr => key r (List.mem_cons_of_mem _ hr)
      exact ⟨x :: xs, by rw [List.map_cons, List.map_cons, e, e2]⟩
  obtain ⟨xs, ex⟩ := back
  have px : (xs.map evK).Perm (es.map evK) := by
    rw [← ex]
    refine (pm.map Prod.snd).trans ((List.perm_ext_iff_of_nodup nd ?_).mpr mem)
    exact List.Pairwise.map _ (fun {x y} ne e => ne (evK_inj e)) (asc_nodup asc)
  have sx : xs.Pairwise fun x y => ¬ evLt y x := by
    have z : (M.map Prod.snd).Pairwise fun k l => ∀ x y, k = evK x → l = evK y → ¬ evLt y x := List.pairwise_map.mpr (List.Pairwise.imp (fun {q r} h x y e1 e2 => (le_evK e1 e2).mp h) srt)
    rw [ex] at z
    exact List.Pairwise.imp (fun {x y} h => h x y rfl rfl) (List.pairwise_map.mp z)
  have inj : Function.Injective evK := fun _ _ e => evK_inj e
  have p2 : xs.Perm es := by
    obtain ⟨ys, p1, e1⟩ := Kd.perm_lift evK px es rfl
    have e2 : xs = ys := by
      have : ∀ (l m : List (Str × Str)), l.map evK = m.map evK → l = m := by
        intro l
        induction l with
        | nil => intro m e; cases m with | nil => rfl | cons _ _ => cases e
        | cons x l ih =>
          intro m e
          cases m with
          | nil => cases e
          | cons y m =>
            injection e with a b
            rw [evK_inj a, ih m b]
      exact this _ _ e1
    rw [e2]
    exact p1
  have fin : xs = es := List.Perm.eq_of_pairwise (le := fun x y => ¬ evLt y x) (fun a b _ _ h1 h2 => evLt_tri a b h2 h1) sx (List.Pairwise.imp (fun {x y} lt gt => evLt_irrefl _ (evLt_trans lt gt)) asc) p2
  rw [ex, fin]
end My

-- ===== K13C =====
set_option Elab.async false
set_option linter.all false
set_option maxRecDepth 100000
set_option maxHeartbeats 4000000
namespace My
open PySem L2 PyProof.Rows PySem.Spec Kd
def spState : Sp := fun vs H Q _ => ∃ (a : Addr) (st : List Stp) (n : Nat), vs = [.ref a, .int n] ∧ TD H (.ref a) (stateD st) ∧ StOk n st ∧ ∀ H', Same H H' → Q (.bl true) H'
theorem same_new {H : Hp} {p : Addr} {o : HO} (n : H p = none) : Same H (upd H p o) := same_at (Same.refl H) n
theorem dp_keys {K : PySem.W.Frag} {H : Hp} : ∀ k : List Key, DpAll K H (k.map kV) (k.map kD)
  | [] => .nil
  | .inl i :: k => .cons (.int i) (dp_keys k)
  | .inr x :: k => .cons (.str x) (dp_keys k)
theorem dp_rows {K : PySem.W.Frag} {H : Hp} : ∀ M : List (Addr × List Key), (∀ q ∈ M, H q.1 = some (.tup (q.2.map kV))) → DpAll K H (M.map fun q => V.ref q.1) ((M.map Prod.snd).map tD)
  | [], _ => .nil
  | q :: M, h => .cons (.tup (SqT.of (h q List.mem_cons_self)) (dp_keys q.2)) (dp_rows M fun r m => h r (List.mem_cons_of_mem _ m))
theorem lets_low : ∀ c ∈ LETS.cps.toList, c < 1114112 := by decide +kernel
theorem wrd_ok {z : Str} (h : Wrd z) : PyData.strOk z = true := by
  unfold PyData.strOk
  rw [Array.all_eq_true']
  intro c hc
  have := lets_low c (h.2.2 c (Array.mem_toList_iff.mpr hc))
  simpa using this
theorem lay_rows : ∀ es : List (Str × Str), (∀ e ∈ es, Wrd e.1 ∧ Wrd e.2) → PyData.canLayAll0 ((es.map evK).map tD) = true
  | [], _ => by simp only [List.map_nil, PyData.canLayAll0]
  | e :: es, h => by
    have h1 := wrd_ok (h e List.mem_cons_self).1
    have h2 := wrd_ok (h e List.mem_cons_self).2
    simp only [List.map_cons, List.map_nil, tD, evK, kD, PyData.canLayAll0, PyData.canLay0, h1, h2, lay_rows es fun x m => h x (List.mem_cons_of_mem _ m), Bool.and_self]
theorem deep_rows : ∀ ks : List (List Key), PyData.depthAll (ks.map tD) ≤ 1
  | [] => by simp only [List.map_nil, PyData.depthAll]; omega
  | k :: ks => by
    have h1 := tD_depth k
    have h2 := deep_rows ks
    simp only [List.map_cons, PyData.depthAll]
    omega
theorem shaped_rows (es : List (Str × Str)) (w : ∀ e ∈ es, Wrd e.1 ∧ Wrd e.2) : SeqAt.shaped (.list ((es.map evK).map tD)) = true := by
  have h := deep_rows (es.map evK)
  unfold SeqAt.shaped
  rw [Bool.and_eq_true]
  refine ⟨by simp only [PyData.canLay0, lay_rows es w], decide_eq_true ?_⟩
  simp only [PyData.depth]
  omega
section
variable {P : Program} {w : World} {K : PySem.W.Frag} {mg : Str → Option Value} {base : Heap}
abbrev nSt : List Str := ["thing", "many", "events", "step"]
theorem scSt : FnScope nSt ["thing", "many"] (defScope sState) := ⟨rfl, rfl, rfl, by decide +kernel, rfl, by decide +kernel, by decide +kernel⟩
theorem ok_state {f fS : Addr} {fd fdS : FuncData} (F : Fun K "_is_state" "_is_state" sState f fd) (G : Gs mg)
    (GS : FnOk P w K mg base CX0 2 fS fdS ["thing", "many"] spStep) (mS : mg "_is_step" = some (.ref fS)) (kS : PySem.W.keepIn K (.ref fS) = true) (bS : Binds K fdS ["thing", "many"] []) :
    FnOk P w K mg base CX0 3 f fd ["thing", "many"] spState := by
  refine F.ok scSt (fun vs H Q E h => ?_) (fun cdv A outer s H vs Q E hr h => ?_)
  · obtain ⟨a, st, n, rfl, _⟩ := h
    rfl
  · obtain ⟨a, st, n, rfl, hx, so, k⟩ := h
    have hu := hr.units
    refine ⟨_, pss_cons (ps_if (PW.pt (pw_or (pt_not (pt_val (pe_callB call_isi (by rfl) G.isi boot_isinstance (pa_cons (pv 0) (pa_cons (pe_bltn (v := .ty "tuple") (by rfl) G.tuple PyProof.Rows.boot_tuple rfl) pa_nil)))))
          (pw_or1 (pt_not (pt_val (pe_callB (cr_all rfl) (by rfl) G.all PyProof.Rows.boot_all (pa_cons (pe_lc (own := [("step", 3)]) (g := gName 3) (tt := tYes) rfl scSt.nd (pi_tup (pv 0)) (blkOk_by (N := nSt) (sc := defScope sState) (by decide +kernel))
            (fun _ _ _ _ _ => pg_name (i := 3) scSt.nd rfl (Or.inl rfl)) (fun _ _ _ _ _ => pts_nil) (fun _ _ _ _ _ => pe_call GS hr (by rfl) mS kS bS .nil pass0 (pa_cons (pv 3) (pa_cons (pv 1) pa_nil)))) pa_nil))))))) (pss_one (ps_ret pe_bl)) pss_nil)
      (pss_cons (ps_setLc (i := 2) (own := [("step", 3)]) (g := gName 3) (tt := tYes) rfl scSt.nd rfl rfl (sw_true rfl rfl rfl (by decide +kernel)) (pi_tup (pv 0)) (blkOk_by (N := nSt) (sc := defScope sState) (by decide +kernel))
            (fun _ _ _ _ _ => pg_name (i := 3) scSt.nd rfl (Or.inl rfl)) (fun _ _ _ _ _ => pts_nil) (fun _ _ _ _ _ => pe_slice (r := rSlT K) sl_tup (pv 3) po_none (po_some pe_int)))
      (pss_one (ps_ret (pe_cmpR (op_eqD hu) (pv 2) (pe_callB (cr_sortS rfl hu) (by rfl) G.sorted PyProof.Rows.boot_sorted (pa_cons (pe_callTy (cr_setOf rfl hu) (by rfl) G.set PyProof.Rows.boot_set (pa_cons (pv 2) pa_nil)) pa_nil)) (nomark _))))), ?_⟩
    obtain ⟨xs, ha, hxs⟩ := hx.tup_of
    have sx : ∀ {i : Nat} {x : V}, xs[i]? = some x → ∃ y a', st[i]? = some y ∧ x = .ref a' ∧ TD H (.ref a') (stepD y) := fun {i x} e => by
      obtain ⟨d, ed, td⟩ := hxs.get e
      rw [List.getElem?_map] at ed
      obtain ⟨y, ey, rfl⟩ := Option.map_eq_some_iff.mp ed
      obtain ⟨a', rfl, _⟩ := step_of td
      exact ⟨y, a', ey, rfl, td⟩
    have len : xs.length = st.length := by
      have z := hxs.len
      rwa [List.length_map] at z
    have few := so.few
    refine ⟨_, rfl, _, _, _, _, _, rfl, .ty "tuple", .base (.tup ha), kit_ty (a := "tuple") (b := "tuple") (r := true) (by decide +kernel), _, rfl, iteF ?_⟩
    refine ⟨_, rfl, a, rfl, ⟨_, SqT.of ha⟩, fun D hD => lc_tup (K := K) (a := a) (xs := xs) (fun i H2 => Same H H2 ∧ H2 D = some (.lst ((List.replicate i true).map V.bl))) ⟨same_at (Same.refl H) hD, upd_same⟩ (fun i H2 _ ⟨s2, _⟩ => SqT.of (s2 _ _ ha)) (fun i x H2 ex ⟨s2, d2⟩ => ?_) fun H2 ⟨s2, d2⟩ => ?_⟩
    · obtain ⟨y, a', ey, rfl, td⟩ := sx ex
      have lt : i < st.length := (List.getElem?_eq_some_iff.mp ey).1
      refine ⟨rfl, _, rfl, _, rfl, a', y, n, rfl, td.to (Tup.of s2), so.all y (List.mem_of_getElem? ey), fun H3 s3 => ⟨_, s3 _ _ d2, ?_, same_at (s2.trans s3) hD, ?_⟩⟩
      · rw [List.length_map, List.length_replicate]
        exact small_lt (m := 24) (by omega)
      · rw [upd_same, List.replicate_succ', List.map_append]
        rfl
    · refine ⟨D, _, rfl, SqL.of d2, _, rfl, ?_⟩
      have e : ((List.replicate xs.length true).all id) = true := by simp
      rw [e]
      refine iteF ?_
      -- events
      have ha2 := s2 _ _ ha
      refine ⟨_, rfl, a, rfl, ⟨_, SqT.of ha2⟩, fun D2 hD2 => lc_tup (K := K) (a := a) (xs := xs) (fun i H3 => Same H2 H3 ∧ ∃ ks : List (Addr × List Key), ks.map Prod.snd = ((st.take i).map evOf).map evK ∧ H3 D2 = some (.lst (ks.map fun q => V.ref q.1)) ∧ ∀ q ∈ ks, H3 q.1 = some (.tup (q.2.map kV)))
        ⟨same_at (Same.refl H2) hD2, [], by simp, upd_same, fun q m => nomatch m⟩ (fun i H3 _ ⟨s3, _⟩ => SqT.of (s3 _ _ ha2)) (fun i x H3 ex ⟨s3, ks, k1, k2, k3⟩ => ?_) fun H3 ⟨s3, ks, k1, k2, k3⟩ => ?_⟩
      · obtain ⟨y, a', ey, rfl, td⟩ := sx ex
        obtain ⟨a'', e', hy⟩ := step_of (td.to (Tup.of (s2.trans s3)))
        cases e'
        have lt : i < st.length := (List.getElem?_eq_some_iff.mp ey).1
        have kl : ks.length ≤ 24 := by
          have z := congrArg List.length k1
          rw [List.length_map, List.length_map, List.length_map, List.length_take] at z
          omega
        refine ⟨rfl, _, rfl, 2, rfl, a', _, rfl, SqT.of hy, (fun z => absurd (show HT.sIx 3 3 (some 2) = 3 from z.2) (by decide)), fun p hp => ⟨ks.map fun q => V.ref q.1, ?_, ?_, ?_, ks ++ [(p, evK (evOf y))], ?_, ?_, ?_⟩⟩
        · rw [upd_ne (ne_of_none k2 hp)]
          exact k2
        · rw [List.length_map]
          exact small_lt (m := 24) kl
        · exact same_at (s3.trans (same_new hp)) hD2
        · rw [List.map_append, k1, List.take_succ, ey]
          simp
        · rw [upd_same, List.map_append]
          rfl
        · intro q hq
          have nD : ∀ (b : Addr) (xs : List V), (upd H3 p (.tup (cutV [V.str y.1, V.str y.2.1, V.int y.2.2] none (some 2)))) b = some (.tup xs) → b ≠ D2 := fun b xs e z => by
            rw [z, upd_ne (ne_of_none k2 hp), k2] at e
            cases e
          have at_ : (upd H3 p (.tup (cutV [V.str y.1, V.str y.2.1, V.int y.2.2] none (some 2)))) q.1 = some (.tup (q.2.map kV)) := by
            rcases List.mem_append.mp hq with m | m
            · rw [upd_ne (ne_of_none (k3 q m) hp)]
              exact k3 q m
            · rw [List.mem_singleton.mp m, upd_same]
              rfl
          rw [upd_ne (nD _ _ at_)]
          exact at_
      · -- events == sorted(set(events))
        rw [len, List.take_length] at k1
        have kl : ks.length ≤ 24 := by
          have z := congrArg List.length k1
          rw [List.length_map, List.length_map, List.length_map] at z
          omega
        have evs : ∀ q ∈ ks, ∃ e, q.2 = evK e := fun q m => by
          have z : q.2 ∈ (st.map evOf).map evK := by
            rw [← k1]
            exact List.mem_map.mpr ⟨q, m, rfl⟩
          obtain ⟨e, _, h⟩ := List.mem_map.mp z
          exact ⟨e, h.symm⟩
        refine ⟨_, rfl, _, rfl, D2, ks, rfl, SqL.of k2, fun q m => SqT.of (k3 q m), by omega, fun a2 L ha2 sub all nd => ?_⟩
        have keep : ∀ q ∈ ks, (upd H3 a2 (SetO P w a2 L)) q.1 = some (.tup (q.2.map kV)) := fun q m => by
          rw [upd_ne (ne_of_none (k3 q m) ha2)]
          exact k3 q m
        refine ⟨a2, L, rfl, upd_same, fun q m => SqT.of (keep q (sub q m)), ?_, ?_, fun L1 p pm less nd1 hp => ?_⟩
        · intro d hd d' hd'
          obtain ⟨q, m, rfl⟩ := List.mem_map.mp hd
          obtain ⟨r, m', rfl⟩ := List.mem_map.mp hd'
          obtain ⟨x, ex⟩ := evs q (sub q m)
          obtain ⟨y, ey⟩ := evs r (sub r m')
          rw [ex, ey]
          rfl
        · refine .inl fun d hd => ?_
          obtain ⟨q, m, rfl⟩ := List.mem_map.mp hd
          obtain ⟨x, ex⟩ := evs q (sub q m)
          rw [ex]
          exact ⟨_, _, rfl⟩
        have srt := sorted_is L1 (st.map evOf) so.asc ((pm.map Prod.snd).nodup_iff.mpr nd) fun k => by
          rw [(pm.map Prod.snd).mem_iff, ← k1]
          refine ⟨fun z => ?_, fun z => ?_⟩
          · obtain ⟨q, m, rfl⟩ := List.mem_map.mp z
            exact List.mem_map.mpr ⟨q, sub q m, rfl⟩
          · obtain ⟨q, m, rfl⟩ := List.mem_map.mp z
            exact all q m
        have mem1 : ∀ q ∈ L1.mergeSort (PySem.W.dataLe false fun q : Addr × List Key => tD q.2), q ∈ ks := fun q m => sub q (pm.mem_iff.mp ((List.mergeSort_perm _ _).mem_iff.mp m))
        generalize L1.mergeSort (PySem.W.dataLe false fun q : Addr × List Key => tD q.2) = M at srt mem1 ⊢
        have keep2 : ∀ q ∈ ks, (upd (upd H3 a2 (SetO P w a2 L)) p (.lst (M.map fun q => V.ref q.1))) q.1 = some (.tup (q.2.map kV)) := fun q m => by
          rw [upd_ne (ne_of_none (keep q m) hp)]
          exact keep q m
        have words : ∀ e ∈ st.map evOf, Wrd e.1 ∧ Wrd e.2 := fun e m => by
          obtain ⟨x, hx, rfl⟩ := List.mem_map.mp m
          exact ⟨(so.all x hx).w1, (so.all x hx).w2⟩
        have sh := shaped_rows (st.map evOf) words
        have hev : (upd (upd H3 a2 (SetO P w a2 L)) p (.lst (M.map fun q => V.ref q.1))) D2 = some (.lst (ks.map fun q => V.ref q.1)) := by
          have z : (upd H3 a2 (SetO P w a2 L)) D2 = some (.lst (ks.map fun q => V.ref q.1)) := by
            rw [upd_ne (ne_of_none k2 ha2)]
            exact k2
          rw [upd_ne (ne_of_none z hp)]
          exact z
        have d1 := dp_rows (K := K) ks keep2
        have d2' := dp_rows (K := K) M fun q m => keep2 q (mem1 q m)
        rw [k1] at d1
        rw [srt] at d2'
        refine ⟨_, _, .lst (SqL.of hev) d1, .lst (SqL.of upd_same) d2', sh, sh, ?_⟩
        rw [SeqAt.eqv_refl _ (by simp only [PyData.canLay0]; exact lay_rows _ words)]
        refine k _ ((s2.trans s3).trans ((same_new ha2).trans (same_new hp)))
end
end My

-- ===== K13E =====
set_option Elab.async false
set_option linter.all false
set_option maxRecDepth 100000
set_option maxHeartbeats 4000000
namespace My
open PySem L2 PyProof.Rows PySem.Spec Kd
theorem nodup_most {α : Type} [DecidableEq α] : ∀ (l D : List α), l.Nodup → (∀ x ∈ l, x ∈ D) → l.length ≤ D.length
  | [], _, _, _ => Nat.zero_le _
  | x :: l, D, nd, sub => by
    obtain ⟨n1, n2⟩ := List.nodup_cons.mp nd
    have mx := sub x List.mem_cons_self
    have ih := nodup_most l (D.erase x) n2 fun y my => (List.mem_erase_of_ne fun (e : y = x) => n1 (by rw [← e]; exact my)).2 (sub y (List.mem_cons_of_mem _ my))
    rw [List.length_erase_of_mem mx] at ih
    have pos := List.length_pos_of_mem mx
    rw [List.length_cons]
    omega
/-- what a set comprehension over J asks -/
def Sc2W (K : PySem.W.Frag) (P : Program) (w : World) (ga : TG) (wb : TI) (gb : TG) (te : TE) (vs us : List Nat) (σ : L2.St) (Q : VK) (J : It) (H1 : Hp) : Prop := ∀ D, H1 D = none → ∃ W : Nat → Nat → Hp → Prop, (∃ m, W 0 m (upd H1 D (SetO P w D []))) ∧ ∀ i m H2, W i m H2 →
  (J.stop i H2 ∧ Q (.ref D) H2) ∨ (J.go i H2 ∧ ∃ Nx : Hp → Prop, (∀ H3, Nx H3 → ∃ m', m' < m ∧ W (i + 1) m' H3) ∧ ∀ x H3, J.yld i H2 x H3 → ga x (wipe σ vs) H3 fun σ4 H4 => wipe σ4 vs = wipe σ vs ∧ wb σ4 H4 fun J1 H5 =>
    ∃ W1 : Nat → Nat → Hp → Prop, (∃ m, W1 0 m H5) ∧ ∀ j k H6, W1 j k H6 → (J1.stop j H6 ∧ Nx H6) ∨ (J1.go j H6 ∧ ∃ Nx1 : Hp → Prop, (∀ H7, Nx1 H7 → ∃ k', k' < k ∧ W1 (j + 1) k' H7) ∧ ∀ x H7, J1.yld j H6 x H7 →
      gb x (wipe σ4 us) H7 fun σ8 H8 => wipe σ8 us = wipe σ4 us ∧ te σ8 H8 fun y H9 => ∃ (e : Addr) (c : List Key) (L : List (Addr × List Key)), y = .ref e ∧ SqT K H9 e (c.map kV) ∧ H9 D = some (SetO P w D L) ∧ (∀ q ∈ L, SqT K H9 q.1 (q.2.map kV)) ∧ (c ∉ L.map Prod.snd → L.length + 1 < 64) ∧
        ∀ L', (c ∈ L.map Prod.snd → L' = L) → (c ∉ L.map Prod.snd → L'.Perm ((e, c) :: L)) → Nx1 (upd H9 D (SetO P w D L'))))
def stOf {H : Hp} {v : V} {st : List Stp} (h : TD H v (stateD st)) := h
/-- the set at D has the events that p tells -/
structure Evs (P : Program) (w : World) (H H' : Hp) (D : Addr) (p : List Key → Prop) : Prop where
  same : Same H H'
  ex : ∃ L : List (Addr × List Key), H' D = some (SetO P w D L) ∧ (∀ q ∈ L, H' q.1 = some (.tup (q.2.map kV))) ∧ (L.map Prod.snd).Nodup ∧ ∀ k, k ∈ L.map Prod.snd ↔ p k
theorem Evs.like {P : Program} {w : World} {H H' : Hp} {D : Addr} {p q : List Key → Prop} (h : Evs P w H H' D p) (e : ∀ k, p k ↔ q k) : Evs P w H H' D q := by
  obtain ⟨s, L, h1, h2, h3, h4⟩ := h
  exact ⟨s, L, h1, h2, h3, fun k => (h4 k).trans (e k)⟩
theorem ev_set {K : PySem.W.Frag} {P : Program} {w : World} {o : Option V} {a : Addr} {xs : List V} {ss : List (List Stp)} {es : List (Str × Str)} {H : Hp} (ha : H a = some (.tup xs)) (hx : TDs H xs (ss.map stateD)) (les : es.length ≤ 24) (hes : ∀ st ∈ ss, ∀ x ∈ st, evOf x ∈ es) {Q : VK}
    (q : ∀ D H' (L : List (Addr × List Key)), Same H H' → H' D = some (SetO P w D L) → (∀ q ∈ L, H' q.1 = some (.tup (q.2.map kV))) → (L.map Prod.snd).Nodup → (∀ k, k ∈ L.map Prod.snd ↔ ∃ st ∈ ss, ∃ x ∈ st, k = evK (evOf x)) → L.length ≤ 24 → Q (.ref D) H') :
    Sc2W K P w (gName 1) (iTup K (tVar 1)) (gName 2) (tSl (rSlT K) (tVar 2) tNoPart (tPart (tC (V.int 2)))) [1, 2] [2] [o, none, none] Q (Itt K a) H := by
  intro D hD
  have len : xs.length = ss.length := by
    have z := hx.len
    rwa [List.length_map] at z
  have few : ∀ {L : List (Addr × List Key)} {p : List Key → Prop}, (L.map Prod.snd).Nodup → (∀ k, k ∈ L.map Prod.snd ↔ p k) → (∀ k, p k → ∃ st ∈ ss, ∃ x ∈ st, k = evK (evOf x)) → L.length ≤ 24 := fun {L p} nd me im => by
    have z := nodup_most (L.map Prod.snd) (es.map evK) nd fun k hk => by
      obtain ⟨st, m1, x, m2, rfl⟩ := im k ((me k).mp hk)
      exact List.mem_map.mpr ⟨_, hes st m1 x m2, rfl⟩
    rw [List.length_map, List.length_map] at z
    omega
  refine ⟨fun i m H2 => m = xs.length - i ∧ i ≤ xs.length ∧ Evs P w H H2 D fun k => ∃ st ∈ ss.take i, ∃ x ∈ st, k = evK (evOf x), ⟨_, rfl, Nat.zero_le _, same_new hD, [], upd_same, (fun q m => nomatch m), List.nodup_nil, fun k => by simp⟩, fun i m H2 ⟨em, le, ev⟩ => ?_⟩
  subst em
  have ha2 := ev.same _ _ ha
  rcases Nat.lt_or_ge i xs.length with lt | ge
  · obtain ⟨x, ex⟩ : ∃ x, xs[i]? = some x := ⟨_, List.getElem?_eq_getElem lt⟩
    obtain ⟨d, ed, td⟩ := hx.get ex
    rw [List.getElem?_map] at ed
    obtain ⟨st, est, rfl⟩ := Option.map_eq_some_iff.mp ed
    obtain ⟨b, ys, rfl, hb, hy⟩ := td.ref_of
    have stm : st ∈ ss := List.mem_of_getElem? est
    have leny : ys.length = st.length := by
      have z := hy.len
      rwa [List.length_map] at z
    refine .inr ⟨⟨xs, _, SqT.of ha2, ex⟩, fun H3 => Evs P w H H3 D fun k => ∃ st ∈ ss.take (i + 1), ∃ x ∈ st, k = evK (evOf x), fun H3 e3 => ⟨_, by omega, rfl, lt, e3⟩, fun v H3 yl => ?_⟩
    obtain ⟨eH, yv⟩ := yl
    subst eH
    have e0 : xs[i]? = some v := yv _ (SqT.of ha2)
    rw [ex] at e0
    cases e0
    have hb2 := ev.same _ _ hb
    refine ⟨rfl, _, rfl, b, rfl, ⟨_, SqT.of hb2⟩, fun j m H4 => m = ys.length - j ∧ j ≤ ys.length ∧ Evs P w H H4 D fun k => (∃ st ∈ ss.take i, ∃ x ∈ st, k = evK (evOf x)) ∨ ∃ x ∈ st.take j, k = evK (evOf x), ⟨_, rfl, Nat.zero_le _, ev.like fun k => by simp⟩, fun j k H4 ⟨ek, lej, ev4⟩ => ?_⟩
    subst ek
    have hb4 := ev4.same _ _ hb
    rcases Nat.lt_or_ge j ys.length with ltj | gej
    · obtain ⟨y, ey⟩ : ∃ y, ys[j]? = some y := ⟨_, List.getElem?_eq_getElem ltj⟩
      obtain ⟨d, ed, td4⟩ := hy.get ey
      rw [List.getElem?_map] at ed
      obtain ⟨sx, esx, rfl⟩ := Option.map_eq_some_iff.mp ed
      obtain ⟨c, rfl, hc⟩ := step_of td4
      refine .inr ⟨⟨ys, _, SqT.of hb4, ey⟩, fun H5 => Evs P w H H5 D fun k => (∃ st ∈ ss.take i, ∃ x ∈ st, k = evK (evOf x)) ∨ ∃ x ∈ st.take (j + 1), k = evK (evOf x), fun H5 e5 => ⟨_, by omega, rfl, ltj, e5⟩, fun v H5 yl => ?_⟩
      obtain ⟨eH, yv⟩ := yl
      subst eH
      have e0 : ys[j]? = some v := yv _ (SqT.of hb4)
      rw [ey] at e0
      cases e0
      obtain ⟨s4, L, l1, l2, l3, l4⟩ := ev4
      have hc4 := s4 _ _ hc
      refine ⟨rfl, _, rfl, 2, rfl, c, _, rfl, SqT.of hc4, (fun z => absurd (show HT.sIx 3 3 (some 2) = 3 from z.2) (by decide)), fun p hp => ?_⟩
      have at_ : ∀ q ∈ L, (upd H5 p (.tup (cutV [V.str sx.1, V.str sx.2.1, V.int sx.2.2] none (some 2)))) q.1 = some (.tup (q.2.map kV)) := fun q m => by
        rw [upd_ne (ne_of_none (l2 q m) hp)]
        exact l2 q m
      have atD : (upd H5 p (.tup (cutV [V.str sx.1, V.str sx.2.1, V.int sx.2.2] none (some 2)))) D = some (SetO P w D L) := by
        rw [upd_ne (ne_of_none l1 hp)]
        exact l1
      have llen : L.length ≤ 24 := few l3 l4 fun k h => by
        rcases h with ⟨st', m1, x, m2, e⟩ | ⟨x, m2, e⟩
        · exact ⟨st', List.mem_of_mem_take m1, x, m2, e⟩
        · exact ⟨st, stm, x, List.mem_of_mem_take m2, e⟩
      refine ⟨p, evK (evOf sx), L, rfl, SqT.of upd_same, atD, fun q m => SqT.of (at_ q m), fun _ => by omega, fun L' c1 c2 => ?_⟩
      have tk : st.take (j + 1) = st.take j ++ [sx] := by rw [List.take_succ, esx]; rfl
      have tup2 : ∀ {b : Addr} {zs : List V}, (upd H5 p (.tup (cutV [V.str sx.1, V.str sx.2.1, V.int sx.2.2] none (some 2)))) b = some (.tup zs) → (upd (upd H5 p (.tup (cutV [V.str sx.1, V.str sx.2.1, V.int sx.2.2] none (some 2)))) D (SetO P w D L')) b = some (.tup zs) := fun {b zs} e => by
        rw [upd_ne fun z => by rw [z, atD] at e; cases e]
        exact e
      refine ⟨same_at (s4.trans (same_new hp)) hD, L', upd_same, fun q m => ?_, ?_, fun k => ?_⟩
      · by_cases h : evK (evOf sx) ∈ L.map Prod.snd
        · rw [c1 h] at m
          exact tup2 (at_ q m)
        · rcases List.mem_cons.mp ((c2 h).mem_iff.mp m) with e | m
          · rw [e]
            exact tup2 upd_same
          · exact tup2 (at_ q m)
      · by_cases h : evK (evOf sx) ∈ L.map Prod.snd
        · rw [c1 h]
          exact l3
        · exact ((c2 h).map Prod.snd).nodup_iff.mpr (List.nodup_cons.mpr ⟨h, l3⟩)
      · have step : k ∈ L'.map Prod.snd ↔ k = evK (evOf sx) ∨ k ∈ L.map Prod.snd := by
          by_cases h : evK (evOf sx) ∈ L.map Prod.snd
          · rw [c1 h]
            exact ⟨.inr, fun z => z.elim (fun e => by rw [e]; exact h) id⟩
          · rw [((c2 h).map Prod.snd).mem_iff, List.map_cons, List.mem_cons]
        rw [step, l4 k, tk]
        simp only [List.mem_append, List.mem_singleton]
        constructor
        · rintro (e | e | ⟨x, m, e⟩)
          · exact .inr ⟨sx, .inr rfl, e⟩
          · exact .inl e
          · exact .inr ⟨x, .inl m, e⟩
        · rintro (e | ⟨x, m | m, e⟩)
          · exact .inr (.inl e)
          · exact .inr (.inr ⟨x, m, e⟩)
          · rw [m] at e
            exact .inl e
    · have e : j = ys.length := by omega
      subst e
      refine .inl ⟨⟨ys, SqT.of hb4, Nat.le_refl _⟩, ev4.like fun k => ?_⟩
      have tk : ss.take (i + 1) = ss.take i ++ [st] := by rw [List.take_succ, est]; rfl
      rw [leny, List.take_length, tk]
      simp only [List.mem_append, List.mem_singleton]
      constructor
      · rintro (⟨s, m, z⟩ | z)
        · exact ⟨s, .inl m, z⟩
        · exact ⟨st, .inr rfl, z⟩
      · rintro ⟨s, m | m, z⟩
        · exact .inl ⟨s, m, z⟩
        · rw [m] at z
          exact .inr z
  · have e : i = xs.length := by omega
    subst e
    obtain ⟨s2, L, l1, l2, l3, l4⟩ := ev
    rw [len, List.take_length] at l4
    exact .inl ⟨⟨xs, SqT.of ha2, Nat.le_refl _⟩, q D H2 L s2 l1 l2 l3 l4 (few l3 l4 fun k h => h)⟩
def rLenQ (K : PySem.W.Frag) : List V → Hp → VK → Prop := fun xs H Q => ∃ p ys, xs = [.ref p] ∧ (SqL K H p ys ∨ SqT K H p ys) ∧ Q (.int ys.length) H
def spStates : Sp := fun vs H Q _ => ∃ (a : Addr) (ss : List (List Stp)), vs = [.ref a] ∧ TD H (.ref a) (statesD ss) ∧ KOk ss ∧ ∀ H', Same H H' → Q (.bl true) H'
section
variable {P : Program} {w : World} {K : PySem.W.Frag} {mg : Str → Option Value} {base : Heap}
abbrev nSs : List Str := ["thing", "state", "step"]
theorem scSs : FnScope nSs ["thing"] (defScope sStates) := ⟨rfl, rfl, rfl, by decide +kernel, rfl, by decide +kernel, by decide +kernel⟩
theorem ok_states {f fS : Addr} {fd fdS : FuncData} (F : Fun K "is_states" "is_states" sStates f fd) (G : Gs mg)
    (GS : FnOk P w K mg base CX0 3 fS fdS ["thing", "many"] spState) (mS : mg "_is_state" = some (.ref fS)) (kS : PySem.W.keepIn K (.ref fS) = true) (bS : Binds K fdS ["thing", "many"] []) :
    FnOk P w K mg base CX0 4 f fd ["thing"] spStates := by
  obtain ⟨t40, m40⟩ := G.c40
  obtain ⟨t24, m24⟩ := G.c24
  refine F.ok scSs (fun vs H Q E h => ?_) (fun cdv A outer s H vs Q E hr h => ?_)
  · obtain ⟨a, ss, rfl, _⟩ := h
    rfl
  · obtain ⟨a, ss, rfl, hx, so, k⟩ := h
    have hu := hr.units
    have hu2 : (A.deeper (envOfC "is_states" (defScope sStates) s.heap.objs.size f cdv)).units + 2 < cLine := by omega
    refine ⟨_, pss_cons (ps_if (PW.pt (pw_or (pt_not (pt_val (pe_callB call_isi (by rfl) G.isi boot_isinstance (pa_cons (pv 0) (pa_cons (pe_bltn (v := .ty "tuple") (by rfl) G.tuple PyProof.Rows.boot_tuple rfl) pa_nil)))))
          (pw_or1 (pt_not (pt_chain op_le op_le pe_int (pe_callB call_len_seq (by rfl) G.len PySem.boot_len (pa_cons (pv 0) pa_nil)) (pe_glob (v := .int 40) (by rfl) m40 ⟨_, rfl⟩)))))) (pss_one (ps_ret pe_bl)) pss_nil)
      (pss_cons (ps_if (pt_not (pt_val (pe_callB (cr_all rfl) (by rfl) G.all PyProof.Rows.boot_all (pa_cons (pe_lc (own := [("state", 1)]) (g := gName 1) (tt := tYes) rfl scSs.nd (pi_tup (pv 0)) (blkOk_by (N := nSs) (sc := defScope sStates) (by decide +kernel))
            (fun _ _ _ _ _ => pg_name (i := 1) scSs.nd rfl (Or.inl rfl)) (fun _ _ _ _ _ => pts_nil) (fun _ _ _ _ _ => pe_call GS hr (by rfl) mS kS bS .nil pass0 (pa_cons (pv 1) (pa_cons (pe_callB (r := rLenQ K) call_len_seq (by rfl) G.len PySem.boot_len (pa_cons (pv 0) pa_nil)) pa_nil)))) pa_nil)))) (pss_one (ps_ret pe_bl)) pss_nil)
      (pss_one (ps_ret (pe_cmpR op_le (pe_callB cr_lenS (by rfl) G.len PySem.boot_len (pa_cons (pe_sc2 (own := [("state", 1), ("step", 2)]) (us := [2]) (wa := iTup K (tVar 0)) (wb := iTup K (tVar 1)) (te := tSl (rSlT K) (tVar 2) tNoPart (tPart (tC (V.int 2)))) rfl scSs.nd hu2 (pi_tup (pv 0)) (blkOk_by (N := nSs) (sc := defScope sStates) (by decide +kernel)) (by decide)
            (fun _ _ _ _ _ => pg_name (i := 1) scSs.nd rfl (Or.inl rfl)) (fun _ _ _ _ _ => pi_tup (pv 1)) (fun _ _ _ _ _ => pg_name (i := 2) scSs.nd rfl (Or.inl rfl)) (fun _ _ _ _ _ => pe_slice (r := rSlT K) sl_tup (pv 2) po_none (po_some pe_int))) pa_nil)) (pe_glob (v := .int 24) (by rfl) m24 ⟨_, rfl⟩) (nomark _))))), ?_⟩
    obtain ⟨xs, ha, hxs⟩ := hx.tup_of
    have len : xs.length = ss.length := by
      have z := hxs.len
      rwa [List.length_map] at z
    have l1 := so.one
    have l2 := so.most
    refine ⟨_, rfl, _, _, _, _, _, rfl, .ty "tuple", .base (.tup ha), kit_ty (a := "tuple") (b := "tuple") (r := true) (by decide +kernel), _, rfl, iteF ?_⟩
    refine ⟨_, rfl, a, _, rfl, .inr (SqT.of ha), _, _, rfl, rfl, _, rfl, ?_⟩
    rw [decide_eq_true (show (1 : Int) ≤ xs.length by omega)]
    refine iteT ⟨_, _, rfl, rfl, _, rfl, ?_⟩
    rw [decide_eq_true (show (xs.length : Int) ≤ 40 by omega)]
    refine iteF ?_
    refine ⟨_, rfl, a, rfl, ⟨_, SqT.of ha⟩, fun D hD => lc_tup (K := K) (a := a) (xs := xs) (fun i H2 => Same H H2 ∧ H2 D = some (.lst ((List.replicate i true).map V.bl))) ⟨same_new hD, upd_same⟩ (fun i H2 _ ⟨s2, _⟩ => SqT.of (s2 _ _ ha)) (fun i x H2 ex ⟨s2, d2⟩ => ?_) fun H2 ⟨s2, d2⟩ => ?_⟩
    · obtain ⟨d, ed, td⟩ := hxs.get ex
      rw [List.getElem?_map] at ed
      obtain ⟨st, ey, rfl⟩ := Option.map_eq_some_iff.mp ed
      obtain ⟨b, ys, rfl, _⟩ := td.ref_of
      have lt : i < ss.length := (List.getElem?_eq_some_iff.mp ey).1
      refine ⟨rfl, _, rfl, _, rfl, a, _, rfl, .inr (SqT.of (s2 _ _ ha)), b, st, ss.length, by rw [len]; rfl, td.to (Tup.of s2), so.all st (List.mem_of_getElem? ey), fun H3 s3 => ⟨_, s3 _ _ d2, ?_, same_at (s2.trans s3) hD, ?_⟩⟩
      · rw [List.length_map, List.length_replicate]
        exact small_lt (m := 40) (by omega)
      · rw [upd_same, List.replicate_succ', List.map_append]
        rfl
    · refine ⟨D, _, rfl, SqL.of d2, _, rfl, ?_⟩
      have e : ((List.replicate xs.length true).all id) = true := by simp
      rw [e]
      refine iteF ?_
      obtain ⟨es, e1, e2⟩ := so.evs
      refine ⟨_, rfl, a, rfl, ⟨_, SqT.of (s2 _ _ ha)⟩, ev_set (K := K) (P := P) (w := w) (o := some (V.ref a)) (Q := fun x H1 => rLenS P w [x] H1 fun y H2 => rI0 (fun i j => V.bl (decide (i ≤ j))) y (.int 24) H2 Q) (s2 _ _ ha) (hxs.to (Tup.of s2)) e1 e2 fun D2 H3 L s3 h1 h2 h3 h4 h5 => ⟨D2, L, rfl, h1, _, _, rfl, rfl, ?_⟩⟩
      show Q (V.bl (decide ((L.length : Int) ≤ 24))) H3
      rw [decide_eq_true (show (L.length : Int) ≤ 24 by omega)]
      exact k _ (s2.trans s3)
end
end My

-- ===== K13F =====
set_option Elab.async false
set_option linter.all false
set_option maxRecDepth 100000
set_option maxHeartbeats 4000000
namespace My
open PySem L2 PyProof.Rows PySem.Spec Kd
def DcW (ga : TG) (tk tv : TE) (vs : List Nat) (σ : L2.St) (Q : VK) (J : It) (H1 : Hp) : Prop := ∀ D, H1 D = none → ∃ W : Nat → Nat → Hp → Prop, (∃ m, W 0 m (upd H1 D (.dT []))) ∧ ∀ i m H2, W i m H2 →
  (J.stop i H2 ∧ Q (.ref D) H2) ∨ (J.go i H2 ∧ ∃ Nx : Hp → Prop, (∀ H3, Nx H3 → ∃ m', m' < m ∧ W (i + 1) m' H3) ∧ ∀ x H3, J.yld i H2 x H3 → ga x (wipe σ vs) H3 fun σ4 H4 => wipe σ4 vs = wipe σ vs ∧ tk σ4 H4 fun y H5 => tv σ4 H5 fun z H6 =>
    ∃ (kvs : List (List Key × V)) (k : List Key) (b : Addr), y = .ref b ∧ H6 b = some (.tup (k.map kV)) ∧ H6 D = some (.dT kvs) ∧ kvs.length < sizeLine ∧ Nx (upd H6 D (.dT (putK kvs k z))))
def mvOf (x : Stp) : List Key × V := (evK (evOf x), .int x.2.2)
theorem putK_new {kvs : List (List Key × V)} {k : List Key} {v : V} (h : ∀ p ∈ kvs, p.1 ≠ k) : putK kvs k v = kvs ++ [(k, v)] := by
  unfold putK
  rw [if_neg]
  intro z
  obtain ⟨p, m, e⟩ := List.any_eq_true.mp z
  exact h p m (of_decide_eq_true e)
theorem mv_dict {K : PySem.W.Frag} {o0 o1 : Option V} {b : Addr} {ys : List V} {st : List Stp} {H : Hp} (hb : H b = some (.tup ys)) (hy : TDs H ys (st.map stepD)) (asc : (st.map evOf).Pairwise evLt) (few : st.length ≤ 24) {Q : VK}
    (q : ∀ D H', Same H H' → H' D = some (.dT (st.map mvOf)) → Q (.ref D) H') :
    DcW (gTup K 3 (gCons (gName 2) (gCons (gName 3) (gCons (gName 4) gNil)))) (tTup (tCons (tVar 2) (tCons (tVar 3) tNil))) (tVar 4) [2, 3, 4] [o0, o1, none, none, none] Q (Itt K b) H := by
  intro D hD
  have len : ys.length = st.length := by
    have z := hy.len
    rwa [List.length_map] at z
  refine ⟨fun i m H2 => m = ys.length - i ∧ i ≤ ys.length ∧ Same H H2 ∧ H2 D = some (.dT ((st.take i).map mvOf)), ⟨_, rfl, Nat.zero_le _, same_new hD, by simp [upd_same]⟩, fun i m H2 ⟨em, le, s2, d2⟩ => ?_⟩
  subst em
  have hb2 := s2 _ _ hb
  rcases Nat.lt_or_ge i ys.length with lt | ge
  · obtain ⟨y, ey⟩ : ∃ y, ys[i]? = some y := ⟨_, List.getElem?_eq_getElem lt⟩
    obtain ⟨d, ed, td⟩ := hy.get ey
    rw [List.getElem?_map] at ed
    obtain ⟨x, ex, rfl⟩ := Option.map_eq_some_iff.mp ed
    obtain ⟨c, rfl, hc⟩ := step_of td
    refine .inr ⟨⟨ys, _, SqT.of hb2, ey⟩, fun H3 => Same H H3 ∧ H3 D = some (.dT ((st.take (i + 1)).map mvOf)), fun H3 ⟨s3, d3⟩ => ⟨_, by omega, rfl, lt, s3, d3⟩, fun v H3 yl => ?_⟩
    obtain ⟨eH, yv⟩ := yl
    have e0 : ys[i]? = some v := yv _ (SqT.of hb2)
    rw [ey] at e0
    cases e0
    subst eH
    have hc3 := s2 _ _ hc
    refine ⟨c, _, rfl, SqT.of hc3, rfl, _, _, rfl, _, _, rfl, _, _, rfl, rfl, rfl, ?_⟩
    refine ⟨_, rfl, _, rfl, by show 2 ≤ sizeLine; decide, fun p hp => ⟨_, rfl, (st.take i).map mvOf, evK (evOf x), p, rfl, upd_same, ?_, ?_, ?_, ?_⟩⟩
    · rw [upd_ne (ne_of_none d2 hp)]
      exact d2
    · rw [List.length_map, List.length_take]
      exact small_lt (m := 24) (by omega)
    · exact same_at (s2.trans (same_new hp)) hD
    · have tk : st.take (i + 1) = st.take i ++ [x] := by rw [List.take_succ, ex]; rfl
      rw [upd_same, tk, List.map_append, putK_new]
      · rfl
      · intro p hp e
        obtain ⟨z, hz, rfl⟩ := List.mem_map.mp hp
        have e2 : evOf z = evOf x := evK_inj e
        have nd := asc_nodup asc
        have sub : (st.take (i + 1)).map evOf = (st.map evOf).take (i + 1) := List.map_take
        have nd2 : ((st.take (i + 1)).map evOf).Nodup := by
          rw [sub]
          exact List.Pairwise.sublist (List.take_sublist _ _) nd
        rw [tk, List.map_append] at nd2
        exact (List.nodup_append.mp nd2).2.2 (evOf z) (List.mem_map.mpr ⟨z, hz, rfl⟩) (evOf x) (by simp) e2
  · have e : i = ys.length := by omega
    subst e
    rw [len, List.take_length] at d2
    exact .inl ⟨⟨ys, SqT.of hb2, Nat.le_refl _⟩, q D H2 s2 d2⟩
/-- the moves of a kind stand at m -/
def MovesAt (H : Hp) (m : Addr) (ss : List (List Stp)) : Prop := ∃ bs : List Addr, H m = some (.lst (bs.map V.ref)) ∧ bs.length = ss.length ∧ ∀ (i : Nat) (b : Addr) (st : List Stp), bs[i]? = some b → ss[i]? = some st → H b = some (.dT (st.map mvOf))
def spMoves : Sp := fun vs H Q _ => ∃ (a : Addr) (ss : List (List Stp)), vs = [.ref a] ∧ TD H (.ref a) (statesD ss) ∧ KOk ss ∧ ∀ m H', Same H H' → H m = none → MovesAt H' m ss → Q (.ref m) H'
def lcScope : Stmt → Scope
  | .FunctionDef _ _ [.Return (some (.ListComp _ _ sc _)) _] .. => sc
  | _ => { kind := .function, names := [], isGenerator := false, isCoroutine := false }
section
variable {P : Program} {w : World} {K : PySem.W.Frag} {mg : Str → Option Value} {base : Heap}
abbrev nMv : List Str := ["states", "state", "operation", "answer", "goal"]
theorem scMv : FnScope nMv ["states"] (defScope sMoves) := ⟨rfl, rfl, rfl, by decide +kernel, rfl, by decide +kernel, by decide +kernel⟩
theorem ok_moves {f : Addr} {fd : FuncData} (F : Fun K "moves_of" "moves_of" sMoves f fd) : FnOk P w K mg base CX0 1 f fd ["states"] spMoves := by
  refine F.ok scMv (fun vs H Q E h => ?_) (fun cdv A outer s H vs Q E hr h => ?_)
  · obtain ⟨a, ss, rfl, _⟩ := h
    rfl
  · obtain ⟨a, ss, rfl, hx, so, k⟩ := h
    have hu := hu_of hr
    have hu2 : (A.deeper (envOfC "moves_of" (defScope sMoves) s.heap.objs.size f cdv)).units + 2 < cLine := by have := hr.units; omega
    refine ⟨_, pss_one (ps_ret (pe_lc (own := [("state", 1)]) (g := gName 1) (tt := tYes) (te := tDcT (iTup K (tVar 1)) (gTup K 3 (gCons (gName 2) (gCons (gName 3) (gCons (gName 4) gNil)))) (tTup (tCons (tVar 2) (tCons (tVar 3) tNil))) (tVar 4) [2, 3, 4]) rfl scMv.nd (pi_tup (pv 0)) (blkOk_by (N := nMv) (sc := defScope sMoves) (by decide +kernel))
            (fun _ _ _ _ _ => pg_name (i := 1) scMv.nd rfl (Or.inl rfl)) (fun _ _ _ _ _ => pts_nil)
            (fun _ _ _ _ _ => pe_dcT (own := [("operation", 2), ("answer", 3), ("goal", 4)]) rfl scMv.nd hu2 (pi_tup (pv 1)) (blkOk_by (N := nMv) (sc := relS (lcScope sMoves) (defScope sMoves)) (by decide +kernel))
              (fun _ _ _ _ _ => pg_tup (by rfl) (pgs_cons (pg_name (i := 2) scMv.nd rfl (Or.inl rfl)) (pgs_cons (pg_name (i := 3) scMv.nd rfl (Or.inl rfl)) (pgs_cons (pg_name (i := 4) scMv.nd rfl (Or.inl rfl)) pgs_nil))))
              (fun _ _ _ _ _ => pe_tup (pa_cons (pv 2) (pa_cons (pv 3) pa_nil))) (fun _ _ _ _ _ => pv 4)))), ?_⟩
    obtain ⟨xs, ha, hxs⟩ := hx.tup_of
    have len : xs.length = ss.length := by
      have z := hxs.len
      rwa [List.length_map] at z
    have l2 := so.most
    refine ⟨_, rfl, a, rfl, ⟨_, SqT.of ha⟩, fun D hD => lc_tup (K := K) (a := a) (xs := xs) (fun i H2 => Same H H2 ∧ ∃ bs : List Addr, H2 D = some (.lst (bs.map V.ref)) ∧ bs.length = i ∧ ∀ (j : Nat) (b : Addr) (st : List Stp), bs[j]? = some b → ss[j]? = some st → H2 b = some (.dT (st.map mvOf)))
      ⟨same_new hD, [], upd_same, rfl, fun j b st e => by simp at e⟩ (fun i H2 _ ⟨s2, _⟩ => SqT.of (s2 _ _ ha)) (fun i x H2 ex ⟨s2, bs, d2, bl, hbs⟩ => ?_) fun H2 ⟨s2, bs, d2, bl, hbs⟩ => ?_⟩
    · obtain ⟨d, ed, td⟩ := hxs.get ex
      rw [List.getElem?_map] at ed
      obtain ⟨st, ey, rfl⟩ := Option.map_eq_some_iff.mp ed
      obtain ⟨b, ys, rfl, hb, hy⟩ := td.ref_of
      have lt : i < ss.length := (List.getElem?_eq_some_iff.mp ey).1
      have sto := so.all st (List.mem_of_getElem? ey)
      refine ⟨rfl, _, rfl, b, rfl, ⟨_, SqT.of (s2 _ _ hb)⟩, mv_dict (K := K) (o0 := some (V.ref a)) (o1 := some (V.ref b)) (Q := fun y H4 => ∃ acc, H4 D = some (.lst acc) ∧ acc.length < sizeLine ∧ Same H (upd H4 D (.lst (acc ++ [y]))) ∧ ∃ bs : List Addr, (upd H4 D (.lst (acc ++ [y]))) D = some (.lst (bs.map V.ref)) ∧ bs.length = i + 1 ∧ ∀ (j : Nat) (b : Addr) (st : List Stp), bs[j]? = some b → ss[j]? = some st → (upd H4 D (.lst (acc ++ [y]))) b = some (.dT (st.map mvOf)))
        (s2 _ _ hb) (hy.to (Tup.of s2)) sto.asc sto.few fun D2 H3 s3 d3 => ⟨_, s3 _ _ d2, ?_, same_at (s2.trans s3) hD, bs ++ [D2], ?_, ?_, fun j c sj ec es => ?_⟩⟩
      · rw [List.length_map]
        exact small_lt (m := 40) (by omega)
      · rw [upd_same, List.map_append]
        rfl
      · rw [List.length_append, bl]
        rfl
      · have at_ : H3 c = some (.dT (sj.map mvOf)) := by
          rcases Nat.lt_or_ge j bs.length with l | g
          · rw [List.getElem?_append_left l] at ec
            exact s3 _ _ (hbs j c sj ec es)
          · rw [List.getElem?_append_right g] at ec
            have ej : j - bs.length = 0 := by
              have z := (List.getElem?_eq_some_iff.mp ec).1
              simp at z
              omega
            have ej2 : j = i := by omega
            rw [ej] at ec
            have e2 : D2 = c := Option.some.inj ec
            rw [ej2, ey] at es
            rw [← Option.some.inj es, ← e2]
            exact d3
        rw [upd_ne fun z => by rw [z, s3 _ _ d2] at at_; cases at_]
        exact at_
    · exact k D H2 s2 hD ⟨bs, d2, by rw [bl, len], hbs⟩
end
end My

-- ===== K13G =====
set_option Elab.async false
set_option linter.all false
set_option maxRecDepth 100000
set_option maxHeartbeats 4000000
namespace My
open PySem L2 PyProof.Rows PySem.Spec Kd StX ClX
abbrev sKind : Stmt := top 23
abbrev sInit : Stmt := inClass sKind 0
abbrev sOf : Stmt := inClass sKind 1
abbrev sRead : Stmt := inClass sKind 2
abbrev sEq : Stmt := inClass sKind 3
abbrev sKtext : Stmt := inClass sKind 8
/-! ### C(*xs), C in a local name -/
section
variable {X : Cx} {CX : CXT} {k i : Nat} {f C : Addr} {sp : Sp} {E : XK} {x : PySem.Str} {e : Expr} {te : TE} {p sp_ pos : Pos}
theorem pe_makeL (M : Mk X.K C f) (F : FnR X.prog X.w X.K X.mg X.base CX k f sp) (hr : Room (k + 1) X.A) (hN : X.N[i]? = some x) (hv : Vis X.env.scope x) (hx : Passes CX X E) (he : PE X e te) (hdb : (x == ("__debug__" : PySem.Str)) = false := by decide) (hcd : (x == ("__classdict__" : PySem.Str)) = false := by decide)
    (hst : starEach [.Starred e sp_] X.env = [(true, eval e X.env)] := by rfl) :
    PE X (.Call (.Name x p) [.Starred e sp_] [] pos) (fun σ H Q => σ[i]? = some (some (.ref C)) ∧ te σ H fun y H1 => ∃ a xs, y = V.ref a ∧ (SqT X.K H1 a xs ∨ SqL X.K H1 a xs) ∧ ∀ o dx, H1 o = none → H1 dx = none → dx ≠ o →
      sp (V.ref o :: xs) (upd (upd H1 dx (.own o)) o (.ins C dx [])) (fun v H2 => v = .non ∧ Q (.ref o) H2) E) := by
  refine ⟨fun pins s σ H Q I h => ?_⟩
  obtain ⟨hs, ht⟩ := h
  refine wpAny_Call_Name_kw (thn ((pe_var (pos := p) hN hv hdb hcd).run pins s σ H (fun v H1 => v = .ref C ∧ H1 = H) I ⟨.ref C, hs, rfl, rfl⟩) fun u s1 ⟨v, H1, I1, r1, q1⟩ => ?_)
  obtain ⟨rfl, rfl⟩ := q1
  cases r1
  refine PySem.W.callWith_S (h₀ := X.base) I.ok.mod.kin M.kp (thn (he.run pins s1 σ _ _ I1 ht) fun w s2 ⟨y, H2, I2, ry, a, xs, ey, hxs, q⟩ => ?_) hst
  subst ey
  obtain rfl : w = Value.ref a := ry
  exact star_any I2 hxs fun us s3 I3 rv => ⟨I3.kIn, run_makeR M F hr hx I3 rv q⟩
end
/-! ### the class -/
def KindAt (C : Addr) (H : Hp) (v : V) (ss : List (List Stp)) : Prop := ∃ o dx a m, v = .ref o ∧ H o = some (.ins C dx [("states", .ref a), ("moves", .ref m)]) ∧ TD H (.ref a) (statesD ss) ∧ MovesAt H m ss
theorem MovesAt.same {H H' : Hp} {m : Addr} {ss : List (List Stp)} (s : Same H H') (h : MovesAt H m ss) : MovesAt H' m ss := by
  obtain ⟨bs, h1, h2, h3⟩ := h
  exact ⟨bs, s _ _ h1, h2, fun i b st e1 e2 => s _ _ (h3 i b st e1 e2)⟩
theorem KindAt.same {C : Addr} {H H' : Hp} {v : V} {ss : List (List Stp)} (s : Same H H') (h : KindAt C H v ss) : KindAt C H' v ss := by
  obtain ⟨o, dx, a, m, e, h1, h2, h3⟩ := h
  exact ⟨o, dx, a, m, e, s _ _ h1, h2.to (Tup.of s), h3.same s⟩
/-- as it was but for one address -/
def But (o : Addr) (H H' : Hp) : Prop := ∀ b u, H b = some u → b ≠ o → H' b = some u
def spInit (C : Addr) : Sp := fun vs H Q _ => ∃ (o t dx : Addr) (ss : List (List Stp)), vs = [.ref o, .ref t] ∧ H o = some (.ins C dx []) ∧ TD H (.ref t) (statesD ss) ∧ KOk ss ∧
  ∀ H' m, But o H H' → H' o = some (.ins C dx [("states", .ref t), ("moves", .ref m)]) → MovesAt H' m ss → Q .non H'
def spInitR (C : Addr) : Sp := fun vs H Q E => ∃ ws rest, vs = ws ++ rest ∧ ws.length = ["self"].length ∧ rest.length ≤ sizeLine ∧ ∀ p, H p = Option.none → spInit C (ws ++ [V.ref p]) (upd H p (.tup rest)) Q E
def spOf (C : Addr) : Sp := fun vs H Q _ => ∃ (a : Addr) (ss : List (List Stp)), vs = [.ref C, .ref a] ∧ TD H (.ref a) (statesD ss) ∧ KOk ss ∧ ∀ v H', Same H H' → KindAt C H' v ss → Q v H'
section
variable {P : Program} {w : World} {K : PySem.W.Frag} {mg : Str → Option Value} {base : Heap}
theorem scIn : FnScope ["self", "states"] ["self", "states"] (defScope sInit) := ⟨rfl, rfl, rfl, by decide +kernel, rfl, by decide +kernel, by decide +kernel⟩
theorem ok_init {f C fS fM : Addr} {fd fdS fdM : FuncData} (F : Fun K "__init__" "Kind.__init__" sInit f fd) (cl : Cls K C) (n1 : NoAttr K C "states") (n2 : NoAttr K C "moves")
    (GS : FnOk P w K mg base CX0 4 fS fdS ["thing"] spStates) (mS : mg "is_states" = some (.ref fS)) (kS : PySem.W.keepIn K (.ref fS) = true) (bS : Binds K fdS ["thing"] [])
    (GM : FnOk P w K mg base CX0 1 fM fdM ["states"] spMoves) (mM : mg "moves_of" = some (.ref fM)) (kM : PySem.W.keepIn K (.ref fM) = true) (bM : Binds K fdM ["states"] []) :
    FnR P w K mg base CX0 5 f (spInitR C) := by
  obtain ⟨oc, od, kV, doc, pm, an, cdv, ct, osl, rfl, lk, hcd⟩ := F.ex
  refine fn_star (ps := ["self"]) (pv := "states") (sp := spInit C) lk hcd scIn cxUp_none (bind_star1 (B := fun l => bindArgs (PySem.W.fnOf "__init__" "Kind.__init__" (defArgs sInit) (defBody sInit) (defScope sInit) .none kV doc pm an cdv ct) ⟨l, []⟩) (p1 := "self") (pv := "states") (fun a => rfl) (fun a r rs => rfl)) fun A outer s H vs Q E hr h => ?_
  obtain ⟨o, t, dx, ss, rfl, ho, hx, so, k⟩ := h
  refine ⟨_, PSs.nox (pss_cons (ps_if (pt_not (pt_val (pe_call GS hr (by rfl) mS kS bS .nil pass0 (pa_cons (pv 1) pa_nil)))) (pss_one ps_never) pss_nil)
      (pss_cons (ps_fld (pv 0) (pv 1) rfl) (pss_one (ps_fld (pv 0) (pe_call GM (hr.mono (by decide)) (by rfl) mM kM bM .nil pass0 (pa_cons (pv 1) pa_nil)) rfl)))), ?_⟩
  refine ⟨_, rfl, t, ss, rfl, hx, so, fun H1 s1 => ⟨true, rfl, iteF ?_⟩⟩
  refine ⟨_, rfl, _, rfl, o, C, dx, [], rfl, s1 _ _ ho, cl, n1, by decide, ?_⟩
  have tp : Tup H1 (upd H1 o (.ins C dx [("states", .ref t)])) := Tup.at_ (s1 _ _ ho) fun xs z => nomatch z
  refine ⟨_, rfl, t, ss, rfl, (hx.to (Tup.of s1)).to tp, so, fun m H3 s3 nm mv => ?_⟩
  have ho3 : H3 o = some (.ins C dx [("states", .ref t)]) := s3 _ _ upd_same
  refine ⟨_, rfl, o, C, dx, _, rfl, ho3, cl, n2, (by show (1 : Nat) < 1000; decide), ?_⟩
  refine k _ m (fun b u e ne => ?_) upd_same ?_
  · rw [upd_ne ne]
    exact s3 _ _ (by rw [upd_ne ne]; exact s1 _ _ e)
  · obtain ⟨bs, h1, h2, h3⟩ := mv
    have ne : ∀ {b : Addr} {u : HO}, H3 b = some u → (∀ C dx fs, u ≠ .ins C dx fs) → (upd H3 o (.ins C dx (putF "moves" (V.ref m) [("states", .ref t)]))) b = some u := fun {b u} e n => by
      rw [upd_ne fun z => by rw [z, ho3] at e; exact n _ _ _ (Option.some.inj e).symm]
      exact e
    exact ⟨bs, ne h1 (fun _ _ _ z => nomatch z), h2, fun i b st e1 e2 => ne (h3 i b st e1 e2) (fun _ _ _ z => nomatch z)⟩
theorem scOf : FnScope ["cls", "states"] ["cls", "states"] (defScope sOf) := ⟨rfl, rfl, rfl, by decide +kernel, rfl, by decide +kernel, by decide +kernel⟩
theorem ok_of {f C fI : Addr} {fd : FuncData} (F : Fun K "of" "Kind.of" sOf f fd) (G : Gs mg) (M : Mk K C fI) (FI : FnR P w K mg base CX0 5 fI (spInitR C)) : FnOk P w K mg base CX0 7 f fd ["cls", "states"] (spOf C) := by
  refine F.ok scOf (fun vs H Q E h => ?_) (fun cdv A outer s H vs Q E hr h => ?_)
  · obtain ⟨a, ss, rfl, _⟩ := h
    rfl
  · obtain ⟨a, ss, rfl, hx, so, k⟩ := h
    refine ⟨_, pss_cons (ps_if (pt_not (pt_val (pe_callB call_isi (by rfl) G.isi boot_isinstance (pa_cons (pv 1) (pa_cons (pe_bltn (v := .ty "tuple") (by rfl) G.tuple PyProof.Rows.boot_tuple rfl) pa_nil))))) (pss_one ps_never) pss_nil)
      (pss_one (ps_ret (pe_makeL (i := 0) M FI hr rfl (.inl rfl) pass0 (pv 1)))), ?_⟩
    obtain ⟨xs, ha, hxs⟩ := hx.tup_of
    have l2 := so.most
    have len : xs.length = ss.length := by
      have z := hxs.len
      rwa [List.length_map] at z
    refine ⟨_, rfl, _, _, _, _, _, rfl, .ty "tuple", .base (.tup ha), kit_ty (a := "tuple") (b := "tuple") (r := true) (by decide +kernel), _, rfl, iteF ?_⟩
    refine ⟨rfl, _, rfl, a, xs, rfl, .inl (SqT.of ha), fun o dx no nd ne => ?_⟩
    refine ⟨[.ref o], xs, rfl, rfl, small_len (m := 40) (by omega), fun p hp => ?_⟩
    have hp1 : p ≠ o := fun z => by
      rw [z, upd_same] at hp
      cases hp
    have hp2 : (upd H dx (.own o)) p = none := by
      rw [upd_ne hp1] at hp
      exact hp
    have hp3 : p ≠ dx := fun z => by
      rw [z, upd_same] at hp2
      cases hp2
    have hp0 : H p = none := by
      rw [upd_ne hp3] at hp2
      exact hp2
    have no1 : (upd H dx (.own o)) o = none := by
      rw [upd_ne (Ne.symm ne)]
      exact no
    have s0 : Same H (upd (upd (upd H dx (.own o)) o (.ins C dx [])) p (.tup xs)) := ((same_new nd).trans (same_new no1)).trans (same_new hp)
    refine ⟨o, p, dx, ss, rfl, by rw [upd_ne (Ne.symm hp1)]; exact upd_same, .tup upd_same (hxs.to (Tup.of s0)), so, fun H' m but ho mv => ⟨rfl, ?_⟩⟩
    have s1 : Same H H' := fun b u e => but b u (s0 b u e) (ne_of_none e no)
    refine k _ _ s1 ⟨o, dx, p, m, rfl, ho, .tup (but p _ upd_same hp1) ?_, mv⟩
    exact hxs.to (Tup.of s1)
end
end My

-- ===== KN1 =====
set_option Elab.async false
set_option linter.all false
set_option maxRecDepth 100000
set_option maxHeartbeats 4000000
namespace Kd
open PySem L2 PyProof.Rows PySem.Spec PySem.W
theorem paired_snocV {α β : Type} {R : α → β → Prop} {l : List α} {m : List β} {a : α} {b : β} (r : Paired R l m) (h : R a b) : Paired R (l ++ [a]) (m ++ [b]) := by
  induction r with
  | nil => exact .cons h .nil
  | cons x _ ih => exact .cons x ih
/-! ### dicts whose keys are nested tuples (of numbers, truth values, texts), their values anything -/
mutual
/-- v is the key k -/
inductive NqV (H : Hp) : V → NestedKey → Prop
  | num (i : Int) : NqV H (.int i) (.num i)
  | bool (b : Bool) : NqV H (.bl b) (.num (if b = true then 1 else 0))
  | text (x : Str) : NqV H (.str x) (.text x)
  | tup {a : Addr} {vs : List V} {ks : List NestedKey} : H a = some (.tup vs) → NqVs H vs ks → NqV H (.ref a) (.tup ks)
inductive NqVs (H : Hp) : List V → List NestedKey → Prop
  | nil : NqVs H [] []
  | cons {v : V} {vs : List V} {k : NestedKey} {ks : List NestedKey} : NqV H v k → NqVs H vs ks → NqVs H (v :: vs) (k :: ks)
end
mutual
theorem NqV.to {H H' : Hp} (s : ∀ a xs, H a = some (.tup xs) → H' a = some (.tup xs)) : ∀ {v : V} {k : NestedKey}, NqV H v k → NqV H' v k
  | _, _, .num i => .num i
  | _, _, .bool b => .bool b
  | _, _, .text x => .text x
  | _, _, .tup h1 h2 => .tup (s _ _ h1) (NqVs.to s h2)
theorem NqVs.to {H H' : Hp} (s : ∀ a xs, H a = some (.tup xs) → H' a = some (.tup xs)) : ∀ {vs : List V} {ks : List NestedKey}, NqVs H vs ks → NqVs H' vs ks
  | _, _, .nil => .nil
  | _, _, .cons h1 h2 => .cons (NqV.to s h1) (NqVs.to s h2)
end
section
variable {X : Cx} {pins : List (Addr × Obj)} {σ : L2.St} {H : Hp} {s : Shared}
mutual
theorem nq_is (I : Inv X pins σ H s) : ∀ (k : NestedKey) {v : V} {u : Value}, NqV H v k → RelV v u → NestedIs s.heap k u
  | .none, _, _, h, _ => by cases h
  | .num i, _, _, h, r => by
    cases h with
    | num i =>
      obtain ⟨t, rfl⟩ := r
      exact .int i t
    | bool b =>
      have e : _ = Value.bool b := r
      subst e
      exact .bool rfl
  | .text x, _, _, h, r => by
    cases h
    obtain ⟨t, rfl⟩ := r
    exact .text x t
  | .tup ks, _, _, h, r => by
    cases h with
    | tup h1 h2 =>
      cases r
      obtain ⟨_, its, rv, o, ho, hc, n, hd⟩ := (show ObjOk X.prog X.w H s.heap _ (.tup _) from I.hok _ _ h1)
      exact .tup ho hc hd (by simpa using nqs_are I ks h2 rv)
theorem nqs_are (I : Inv X pins σ H s) : ∀ (ks : List NestedKey) {vs : List V} {us : List Value}, NqVs H vs ks → Vals vs us → NestedAll s.heap ks us
  | [], _, _, h, r => by
    cases h
    cases r
    exact .nil
  | k :: ks, _, _, h, r => by
    cases h with
    | cons h1 h2 =>
      cases r with
      | cons r1 r2 => exact .cons (nq_is I k h1 r1) (nqs_are I ks h2 r2)
end
end
/-- a key, where its tuple stands, its value -/
abbrev VRow := NestedKey × Addr × V
def VRows (L : List VRow) (xs : List (NestedKey × Addr × Value)) : Prop := Paired (fun (p : VRow) x => p.1 = x.1 ∧ p.2.1 = x.2.1 ∧ RelV p.2.2 x.2.2) L xs
def VHeld (P : Program) (w : World) (a : Addr) (L : List VRow) (h : Heap) : Prop := ∃ (xs : List (NestedKey × Addr × Value)) (o : Obj) (es : Array DictEntry) (ep : Nat), h.get? a = some o ∧ o.ExactDict ∧ o.data = .dict es ep ∧ es.toList = xs.map (entryOfKey (nestedKind P w)) ∧ (xs.map (·.1)).Nodup ∧ VRows L xs ∧ (a == sysModules) = false ∧ L.length ≤ 1000
def VDict (P : Program) (w : World) (a : Addr) (L : List VRow) : HO := .ext (VHeld P w a L)
theorem vdict_ok {P : Program} {w : World} {H : Hp} {h : Heap} {a : Addr} {L : List VRow} (x : VHeld P w a L h) : ObjOk P w H h a (VDict P w a L) := by
  refine ⟨x, ?_, fun h1 h2 y k => ?_⟩
  · obtain ⟨_, o, _, _, ho, _⟩ := x
    exact ⟨o, ho⟩
  · obtain ⟨xs, o, es, ep, ho, r⟩ := y
    exact ⟨xs, o, es, ep, k o ho, r⟩
/-- the keys' tuples stand -/
def VKeys (H : Hp) (L : List VRow) : Prop := ∀ p ∈ L, NqV H (.ref p.2.1) p.1 ∧ p.1.depth ≤ 8
theorem VKeys.to {H H' : Hp} {L : List VRow} (s : ∀ a xs, H a = some (.tup xs) → H' a = some (.tup xs)) (k : VKeys H L) : VKeys H' L := fun p m => ⟨(k p m).1.to s, (k p m).2⟩
theorem VKeys.snoc {H : Hp} {L : List VRow} {k : NestedKey} {b : Addr} {v : V} (h : VKeys H L) (hk : NqV H (.ref b) k) (hd : k.depth ≤ 8) : VKeys H (L ++ [(k, b, v)]) := fun p m => by
  rcases List.mem_append.mp m with m | m
  · exact h p m
  · rw [List.mem_singleton.mp m]
    exact ⟨hk, hd⟩
def valW (L : List VRow) (k : NestedKey) : Option V := (L.find? fun p => decide (p.1 = k)).map (·.2.2)
theorem valW_none {L : List VRow} {k : NestedKey} : valW L k = none ↔ k ∉ L.map (·.1) := by
  unfold valW
  rw [Option.map_eq_none_iff, List.find?_eq_none]
  constructor
  · intro h m
    obtain ⟨p, hp, e⟩ := List.mem_map.mp m
    exact h p hp (decide_eq_true e)
  · intro h p hp e
    exact h (List.mem_map.mpr ⟨p, hp, of_decide_eq_true e⟩)
theorem valW_some {L : List VRow} {k : NestedKey} {v : V} (h : valW L k = some v) : ∃ b, (k, b, v) ∈ L := by
  unfold valW at h
  obtain ⟨p, hp, e⟩ := Option.map_eq_some_iff.mp h
  have h1 := List.mem_of_find?_eq_some hp
  have h2 : p.1 = k := of_decide_eq_true (by simpa using List.find?_some hp)
  exact ⟨p.2.1, by rw [← h2, ← e]; exact h1⟩
theorem valW_mem {L : List VRow} (nd : (L.map (·.1)).Nodup) {k : NestedKey} {b : Addr} {v : V} (h : (k, b, v) ∈ L) : valW L k = some v := by
  induction L with
  | nil => cases h
  | cons p L ih =>
    rw [List.map_cons, List.nodup_cons] at nd
    unfold valW
    rw [List.find?_cons]
    by_cases e : p.1 = k
    · rw [decide_eq_true e]
      rcases List.mem_cons.mp h with rfl | m
      · rfl
      · exact absurd (List.mem_map.mpr ⟨_, m, rfl⟩) (by rw [e] at nd; exact nd.1)
    · rw [decide_eq_false e]
      rcases List.mem_cons.mp h with rfl | m
      · exact absurd rfl e
      · exact ih nd.2 m
theorem valW_is {L : List VRow} {k : NestedKey} : (valW L k).isSome = decide (k ∈ L.map (·.1)) := by
  cases e : valW L k with
  | none => exact (decide_eq_false (valW_none.mp e)).symm
  | some v =>
    obtain ⟨b, m⟩ := valW_some e
    exact (decide_eq_true (List.mem_map.mpr ⟨_, m, rfl⟩)).symm
theorem rows_atV {L : List VRow} {xs : List (NestedKey × Addr × Value)} (r : VRows L xs) (k : NestedKey) : (∀ v, valW L k = some v → ∃ b u, atKey xs k = some (b, u) ∧ RelV v u) ∧ (valW L k = none → atKey xs k = none) := by
  unfold VRows at r
  induction r with
  | nil => exact ⟨fun i e => (nomatch (show (none : Option V) = some i from e)), fun _ => rfl⟩
  | @cons p x ps xs h t ih =>
    obtain ⟨h1, h2, h3⟩ := h
    unfold valW atKey at ih ⊢
    rw [List.find?_cons, List.find?_cons, ← h1]
    by_cases e : p.1 = k
    · rw [decide_eq_true e]
      refine ⟨fun i q => ?_, fun q => by cases q⟩
      have q2 : p.2.2 = i := Option.some.inj q
      exact ⟨x.2.1, x.2.2, rfl, by rw [← q2]; exact h3⟩
    · rw [decide_eq_false e]
      exact ih
section
variable {X : Cx} {pins : List (Addr × Obj)} {σ : L2.St} {H : Hp} {s : Shared}
theorem vheld_rd {a : Addr} {L : List VRow} (I : Inv X pins σ H s) (h : VHeld X.prog X.w a L s.heap) (ks : VKeys H L) : ∃ xs, s.heap.DictOfH (nestedKind X.prog X.w) a xs ∧ VRows L xs ∧ (a == sysModules) = false ∧ L.length ≤ 1000 := by
  obtain ⟨xs, o, es, ep, ho, hx, hd, he, hn, r, lo, few⟩ := h
  refine ⟨xs, ⟨o, es, ep, ho, hx, hd, he, fun x hx => ?_, hn⟩, r, lo, few⟩
  have all : ∀ {L : List VRow} {xs : List (NestedKey × Addr × Value)}, VRows L xs → VKeys H L → ∀ x ∈ xs, NestedIs s.heap x.1 (.ref x.2.1) ∧ x.1.depth ≤ 8 := by
    intro L xs r
    unfold VRows at r
    induction r with
    | nil => exact fun _ x m => nomatch m
    | @cons p y ps ys h t ih =>
      intro k x m
      rcases List.mem_cons.mp m with rfl | m
      · obtain ⟨h1, h2, _⟩ := h
        rw [← h1, ← h2]
        have q := k p List.mem_cons_self
        exact ⟨nq_is I _ q.1 rfl, q.2⟩
      · exact ih (fun q mq => k q (List.mem_cons_of_mem _ mq)) x m
  exact all r ks x hx
theorem vdict_rd {a : Addr} {L : List VRow} (I : Inv X pins σ H s) (ha : H a = some (VDict X.prog X.w a L)) (ks : VKeys H L) : ∃ xs, s.heap.DictOfH (nestedKind X.prog X.w) a xs ∧ VRows L xs ∧ (a == sysModules) = false ∧ L.length ≤ 1000 :=
  vheld_rd I (show VHeld X.prog X.w a L s.heap from (I.hok a _ ha).1) ks
theorem vheld_new {P : Program} {w : World} (h : Heap) (big : sysModules < h.objs.size) : VHeld P w h.objs.size [] (h.push { cls := .type "dict", data := .dict #[] }) :=
  ⟨[], _, #[], 0, Heap.get?_push_size _ rfl, ⟨rfl, rfl, rfl⟩, rfl, rfl, List.nodup_nil, .nil, beq_eq_false_iff_ne.mpr (Ne.symm (Nat.ne_of_lt big)), Nat.zero_le _⟩
theorem vheld_put {a b : Addr} {L : List VRow} {k : NestedKey} {v : V} {u : Value} {xs : List (NestedKey × Addr × Value)} {h' : Heap} {P : Program} {w : World} (rr : VRows L xs) (rv : RelV v u) (lo : (a == sysModules) = false) (hn : valW L k = none) (few : L.length < 1000)
    (D2 : h'.DictOfH (nestedKind P w) a (storedH xs k b u)) : VHeld P w a (L ++ [(k, b, v)]) h' := by
  rw [storedH_new ((rows_atV rr k).2 hn)] at D2
  obtain ⟨o2, es, ep, g1, g2, g3, g4, _, g5⟩ := D2
  refine ⟨xs ++ [(k, b, u)], o2, es, ep, g1, g2, g3, g4, g5, ?_, lo, by rw [List.length_append]; exact few⟩
  exact paired_snocV rr ⟨rfl, rfl, rv⟩
end
/-- {}, to be such a dict -/
def tDNewV (P : Program) (w : World) : TE := fun _ H Q => ∀ p, H p = none → Q (.ref p) (upd H p (VDict P w p []))
/-- k in d -/
def rInV (P : Program) (w : World) : R2 := fun x y H Q => ∃ b a k L, x = .ref b ∧ y = .ref a ∧ NqV H (.ref b) k ∧ k.depth ≤ 8 ∧ H a = some (VDict P w a L) ∧ VKeys H L ∧ Q (.bl (valW L k).isSome) H
/-- d[k] -/
def tGetV (P : Program) (w : World) (td ty : TE) : TE := fun σ H Q => td σ H fun x H1 => ty σ H1 fun y H2 => ∃ a b k L v, x = .ref a ∧ y = .ref b ∧ NqV H2 (.ref b) k ∧ k.depth ≤ 8 ∧ H2 a = some (VDict P w a L) ∧ VKeys H2 L ∧ valW L k = some v ∧ Q v H2
/-- d[k] = v, the key being new there -/
def sPutV (P : Program) (w : World) (td ty tv : TE) : TS := fun D σ H => tv σ H fun v H1 => td σ H1 fun x H2 => ty σ H2 fun y H3 => ∃ a b k L, x = .ref a ∧ y = .ref b ∧ NqV H3 (.ref b) k ∧ k.depth ≤ 8 ∧ H3 a = some (VDict P w a L) ∧ VKeys H3 L ∧ valW L k = none ∧ L.length < 1000 ∧
  D.nx σ (upd H3 a (VDict P w a (L ++ [(k, b, v)])))
/-- d.setdefault(k, x) -/
def tSetdV (P : Program) (w : World) (td ty tx : TE) : TE := fun σ H Q => td σ H fun x H1 => ∃ a L0, x = .ref a ∧ H1 a = some (VDict P w a L0) ∧ ty σ H1 fun y H2 => tx σ H2 fun z H3 => ∃ b k L, y = .ref b ∧ NqV H3 (.ref b) k ∧ k.depth ≤ 8 ∧ H3 a = some (VDict P w a L) ∧ VKeys H3 L ∧ L.length < 1000 ∧
  (∀ v, valW L k = some v → Q v H3) ∧ (valW L k = none → Q z (upd H3 a (VDict P w a (L ++ [(k, b, z)]))))
section
variable {X : Cx} {o i e f value : Expr} {pos pos' apos cpos : Pos} {td ty tv tx : TE}
theorem pe_dnewV : PE X (.Dict [] [] pos) (tDNewV X.prog X.w) := ⟨fun pins s σ H Q I h =>
  wpAny_Dict_empty ⟨.ref s.heap.objs.size, _, I.laid (a := s.heap.objs.size) (t' := s.toks) (fun _ _ q => Heap.get?_push_of_some _ q) (Nat.le_refl _)
    (vdict_ok (vheld_new s.heap I.big)), rfl, h _ (I.hok.fresh (Nat.le_refl _))⟩⟩
theorem roomV {X : Cx} (hu : X.A.units + 64 < cLine) : (nestedKind X.prog X.w).room X.A.in1 := (show X.A.in1.units + 8 < cLine by simp only [Around.in1]; omega)
theorem op_inV (hu : X.A.units + 64 < cLine) : OpR X (compareOp .In) (rInV X.prog X.w) := by
  intro pins s σ H x y v u Q I rx ry h
  obtain ⟨b, a, k, L, rfl, rfl, hk, hd, ha, ks, q⟩ := h
  cases (show v = Value.ref b from rx)
  cases (show u = Value.ref a from ry)
  obtain ⟨xs, D, r, lo, few⟩ := vdict_rd I ha ks
  refine wpAny_in_heap (roomV hu) ⟨nq_is I k hk rfl, hd⟩ lo D ⟨.bl (valW L k).isSome, H, I.tok _, ?_, q⟩
  have z := rows_atV r k
  cases e : valW L k with
  | none => rw [z.2 e]; rfl
  | some i =>
    obtain ⟨c, t, q, _⟩ := z.1 i e
    rw [q]
    rfl
theorem pe_getV (hu : X.A.units + 64 < cLine) (ho : PE X o td) (hi : PE X i ty) (hs : NoSl i) : PE X (.Subscript o i pos) (tGetV X.prog X.w td ty) := by
  refine ⟨fun pins s σ H Q I h => ?_⟩
  refine subD_of PySem.F.slot_dict_getitem.lookup hs (thn (ho.run pins s σ H _ I h) fun u s1 ⟨x, H1, I1, rx, q1⟩ => thn (hi.run pins s1 σ H1 _ I1 q1) fun iv s2 ⟨y, H2, I2, ry, a, b, k, L, j, ex, ey, hk, hd, ha, ks, hv, q2⟩ => ?_)
  subst ex ey
  obtain rfl : u = Value.ref a := rx
  obtain rfl : iv = Value.ref b := ry
  obtain ⟨xs, D, r, lo, few⟩ := vdict_rd I2 ha ks
  obtain ⟨c, t, q, rv⟩ := (rows_atV r k).1 j hv
  exact ⟨D.typeIs, wpAny_getItem_heap (roomV hu) ⟨nq_is I2 k hk rfl, hd⟩ D q ⟨j, H2, I2.tok _, rv, q2⟩⟩
theorem ps_putV (hu : X.A.units + 64 < cLine) (ho : PE X o td) (hi : PE X i ty) (hv : PE X value tv) (hs : swapsWith value (some (.Subscript o i pos')) pos.line X.env = pure false) :
    PS X (.Assign [.Subscript o i pos'] value pos) (sPutV X.prog X.w td ty tv) := by
  refine ⟨fun pins s σ H D I h => ?_⟩
  refine wpAny_Assign_Subscript (thn (hv.run pins s σ H _ I h) fun r s1 ⟨v, H1, I1, rv, q1⟩ => thn (ho.run pins s1 σ H1 _ I1 q1) fun u s2 ⟨x, H2, I2, rx, q2⟩ => thn (hi.run pins s2 σ H2 _ I2 q2) fun iv s3 ⟨y, H3, I3, ry, a, b, k, L, ex, ey, hk, hd, ha, ks, hn, few, q3⟩ => ?_) hs
  subst ex ey
  obtain rfl : u = Value.ref a := rx
  obtain rfl : iv = Value.ref b := ry
  obtain ⟨xs, Dd, rr, lo, _⟩ := vdict_rd I3 ha ks
  have lx : L.length = xs.length := Paired.length rr
  have big := sizeLine_eq
  refine wpAny_setItem_heap (hsz := by omega) (roomV hu) ⟨nq_is I3 k hk rfl, hd⟩ Dd fun h' D2 sb => ?_
  have VH := vheld_put rr rv lo hn few D2
  obtain ⟨_, o2, _, _, g1, _⟩ := id VH
  exact ⟨σ, _, d_write I3 (by rw [ha]; exact True.intro) sb ⟨o2, g1⟩ (vdict_ok VH), q3⟩
theorem pe_setdV (hu : X.A.units + 64 < cLine) (ho : PE X o td) (he : PE X e ty) (hf : PE X f tx) (m : M2 X o "setdefault" apos e f cpos) : PE X (.Call (.Attribute o "setdefault" apos) [e, f] [] cpos) (tSetdV X.prog X.w td ty tx) := by
  refine ⟨fun pins s σ H Q I h => ?_⟩
  refine wpAny_Call_method m.base m.few m.line PySem.F.plainAttrs_dict PySem.F.slot_dict_setdefault PySem.F.type_dict_setdefault (thn (ho.run pins s σ H _ I h) fun u s1 ⟨x, H1, I1, rx, a, L0, ex, d, q1⟩ => ?_)
  subst ex
  obtain rfl : u = Value.ref a := rx
  obtain ⟨_, o1, _, _, ho1, hx1, _⟩ := (show VHeld X.prog X.w a L0 s1.heap from (I1.hok a _ d).1)
  refine ⟨⟨o1, ho1, hx1.1⟩, (fun b z => by cases z; exact ⟨o1, ho1, hx1.2.1⟩), ?_⟩
  rw [m.trees]
  refine Calls.callWith_builtin rfl (Calls.evalArgs_plain (Calls.spliced_cons (thn (he.run pins s1 σ H1 _ I1 q1) fun iv s2 ⟨y, H2, I2, ry, q2⟩ =>
    Calls.spliced_cons (thn (hf.run pins s2 σ H2 _ I2 q2) fun fv s3 ⟨z, H3, I3, rz, b, k, L, ey, hk, hd, ha, ks, few, q3, q4⟩ => Calls.spliced_nil ?_))))
  subst ey
  obtain rfl : iv = Value.ref b := ry
  obtain ⟨xs, Dd, rr, lo, _⟩ := vdict_rd I3 ha ks
  have lx : L.length = xs.length := Paired.length rr
  have big := sizeLine_eq
  refine call_setdefault_heap (hsz := by omega) (roomV hu) ⟨nq_is I3 k hk rfl, hd⟩ lo Dd (fun p hp => ?_) fun hn h' D2 sb => ?_
  · cases ev : valW L k with
    | none => rw [(rows_atV rr k).2 ev] at hp; cases hp
    | some v =>
      obtain ⟨c, t, q, rv⟩ := (rows_atV rr k).1 v ev
      rw [q] at hp
      cases hp
      exact ⟨v, H3, I3.tok _, rv, q3 v ev⟩
  · have ev : valW L k = none := by
      cases ev : valW L k with
      | none => rfl
      | some v =>
        obtain ⟨c, t, q, rv⟩ := (rows_atV rr k).1 v ev
        rw [q] at hn
        cases hn
    have VH := vheld_put rr rz lo ev few D2
    obtain ⟨_, o2, _, _, g1, _⟩ := id VH
    exact ⟨z, _, d_write I3 (by rw [ha]; exact True.intro) sb ⟨o2, g1⟩ (vdict_ok VH), rz, q4 ev⟩
end
/-! ### its values, walked -/
section
variable {X : Cx} {pins : List (Addr × Obj)} {σ : L2.St} {H : Hp} {s : Shared} {d : Addr} {o : Obj}
theorem frz_valsV {P : Program} {w : World} {kvs : List VRow} (I : Inv X pins σ H s) (h : H d = some (.frz o (VDict P w d kvs))) :
    s.heap.get? d = some o ∧ o.ExactDict ∧ (d == sysModules) = false ∧ ∃ (es : Array DictEntry) (ep : Nat), o.data = .dict es ep ∧ es.size = kvs.length ∧ ∀ (i : Nat) (p : VRow), kvs[i]? = some p → ∃ en : DictEntry, es[i]? = some en ∧ RelV p.2.2 en.val := by
  obtain ⟨hd, hv, _⟩ := I.hok d _ h
  obtain ⟨xs, o', es, ep, ho, hx, hdt, he, _, pr, lo, _⟩ := (show VHeld P w d kvs s.heap from hv)
  rw [hd] at ho
  cases ho
  refine ⟨hd, hx, lo, es, ep, hdt, ?_, fun i p e => ?_⟩
  · have l1 : es.size = xs.length := size_of_entries he
    have l2 : kvs.length = xs.length := Paired.length pr
    omega
  · obtain ⟨b, hb, _, _, e3⟩ := paired_get pr e
    have q := entry_at he i
    rw [hb] at q
    exact ⟨_, q, e3⟩
end
/-- the values, in their order -/
def ItdV (P : Program) (w : World) (d : Addr) (o : Obj) (kvs : List VRow) : It :=
  ⟨fun i H => H d = some (.frz o (VDict P w d kvs)) ∧ i < kvs.length, fun i H x H' => H' = H ∧ ∃ p, kvs[i]? = some p ∧ x = p.2.2, fun i H => H d = some (.frz o (VDict P w d kvs)) ∧ kvs.length = i⟩
theorem turn_valsV {P : Program} {w : World} {K : Frag} {tg : Expr} {d : Addr} {o : Obj} {es : Array DictEntry} {ep : Nat} {kvs : List VRow} (it : Addr) (ni : d ≠ it) (hod : o.data = .dict es ep) (hz : es.size = kvs.length) :
    Turn P w K tg (ItdV P w d o kvs) [it] it (fun i h => h.IsValIter it d i es.size ep) where
  mem := by simp
  obj := fun i h st b hb => by
    have e : b = it := by simpa using hb
    subst e
    obtain ⟨oi, e, _, dd⟩ := st
    exact ⟨oi, e, fun v z => by rw [dd] at z; cases z⟩
  keep := fun i h h' st k => st.at fun oi e => k it (by simp) oi e
  item := by
    intro X hP hw hK hc i pins s σ H E I hf st hg
    subst hP hw hK
    obtain ⟨hd, hi⟩ := hg
    obtain ⟨f0, f1, f2, f3, f4, f5⟩ := hf it (by simp)
    obtain ⟨hgd, hx, lo, es', ep', hdt, hsz, ent⟩ := frz_valsV I hd
    obtain ⟨rfl, rfl⟩ := dict_ep hod hdt
    obtain ⟨p, hkv⟩ : ∃ p, kvs[i]? = some p := ⟨kvs[i], List.getElem?_eq_getElem hi⟩
    obtain ⟨en, hen, rv⟩ := ent i p hkv
    have W := Walks.rawValues (prog := X.prog) (w := X.w) (I.ok.hd hc) it d ni es' ep'
    refine W.item i s _ _ (by omega) ⟨st, o, hgd, hx, hdt⟩ fun u h' tk hu st' kk => ?_
    obtain ⟨lt, rfl⟩ := hu
    have eu : en = es'[i] := by
      rw [Array.getElem?_eq_getElem lt] at hen
      exact (Option.some.inj hen).symm
    subst eu
    have I1 : Inv X pins σ H { s with heap := h', toks := tk } := I.turned (fun b o hb e => kk b o (by simpa using hb) e) f0 f1 f3 f4 f5
    obtain ⟨oi, e, c, dd⟩ := id st'.1
    exact ⟨_, rfl, go_of (s := { s with heap := h', toks := tk }) e c dd (by decide) ⟨p.2.2, H, I1, rv, ⟨rfl, p, hkv, rfl⟩, st'.1, fun b hb => (hf b hb).1⟩⟩
  done := by
    intro X hP hw hK hc i pins s σ H E I hf st hg
    subst hP hw hK
    obtain ⟨hd, hi⟩ := hg
    obtain ⟨f0, f1, f2, f3, f4, f5⟩ := hf it (by simp)
    obtain ⟨hgd, hx, lo, es', ep', hdt, hsz, ent⟩ := frz_valsV I hd
    obtain ⟨rfl, rfl⟩ := dict_ep hod hdt
    have W := Walks.rawValues (prog := X.prog) (w := X.w) (I.ok.hd hc) it d ni es' ep'
    have e : i = es'.size := by omega
    subst e
    exact W.done s _ _ ⟨st, o, hgd, hx, hdt⟩ fun h' tk eb => ⟨rfl, I.turned (fun b o hb q => eb b o (by simpa using hb) q) f0 f1 f3 f4 f5⟩
  self := fun A i s Q E st h => wpAny_pyIter_valiter st h
/-- the dict is locked (tLock, or by the caller) -/
def iValsV (P : Program) (w : World) (td : TE) : TI := fun σ H R => td σ H fun x H1 => ∃ d o kvs, x = .ref d ∧ H1 d = some (.frz o (VDict P w d kvs)) ∧ R (ItdV P w d o kvs) H1
theorem walk_valsV {P : Program} {w : World} {d : Addr} {o : Obj} {kvs : List VRow} : Walk (ItdV P w d o kvs) kvs.length (fun H => H d = some (.frz o (VDict P w d kvs))) (fun i H x H' => H' = H ∧ ∃ p, kvs[i]? = some p ∧ x = p.2.2) :=
  ⟨fun _ _ hi q => ⟨q, hi⟩, fun _ q => ⟨q, rfl⟩, fun _ _ _ _ _ _ y => y⟩
section
variable {X : Cx} {tg e : Expr} {td : TE} {apos cpos : Pos}
theorem pi_valuesV (he : PE X e td) (hbase : attributeBase e "values" X.env (eval e X.env) = eval e X.env := by rfl) (hline : (apos.endLine == cpos.line) = true := by rfl) : PI X tg (.Call (.Attribute e "values" apos) [] [] cpos) (iValsV X.prog X.w td) := by
  refine ⟨fun pins s σ H R I h => ?_⟩
  refine wpAny_Call_method (T := "dict") (id := "dict.values") hbase rfl hline F.plainAttrs_dict F.slot_dict_values F.type_dict_values (thn (he.run pins s σ H _ I h) fun u s1 ⟨x, H1, I1, rx, d, o, kvs, ex, hd, q⟩ => ?_)
  subst ex
  obtain rfl : u = Value.ref d := rx
  obtain ⟨hgd, hx, lo, es, ep, hdt, hsz, ent⟩ := frz_valsV I1 hd
  have raw : s1.heap.DictRaw d es ep := ⟨o, hgd, hx, hdt⟩
  have ty : s1.TypeIs (.ref d) "dict" := ⟨o, hgd, hx.1⟩
  refine ⟨ty, (fun b z => by cases z; exact ⟨o, hgd, hx.2.1⟩), ?_⟩
  have I2 : Inv X pins σ H1 { s1 with heap := s1.heap.push { cls := .type "dict_values", data := .fields #[.ref d] } } := I1.kept (t' := s1.toks) fun b ob z => Heap.get?_push_of_some _ z
  have lt : d < s1.heap.objs.size := Heap.lt_size hgd
  have fin : wpAny (model X.prog X.w) X.A (pyIter (.ref s1.heap.objs.size)) (PIE X pins σ tg R) X.xe { s1 with heap := s1.heap.push { cls := .type "dict_values", data := .fields #[.ref d] } } := by
    refine wpAny_pyIter_values_raw (d := d) ⟨_, Heap.get?_push_size _ rfl, rfl, rfl⟩ (raw.push _) (pi_one (tk := s1.toks) I2 _ (turn_valsV _ (Nat.ne_of_lt (by show d < (s1.heap.push _).objs.size; rw [Heap.size_push]; exact Nat.lt_succ_of_lt lt)) hdt hsz) ⟨_, Heap.get?_push_size _ rfl, rfl, rfl⟩ q)
  show wpAny _ _ (callWith cpos (.builtin "dict.values") [.ref d] [] []) _ X.xe s1
  exact method_meetsIn F.slot_dict_values F.entry_dict_values rfl (PySem.evalArgs_none ⟨rfl, ty, F.args_dict_values_1 _, _, meets_dict_values_raw d lo, ⟨es, ep, raw⟩, fin⟩)
end
end Kd

-- ===== KN2 =====
set_option Elab.async false
set_option linter.all false
set_option maxRecDepth 100000
set_option maxHeartbeats 4000000
namespace Kd
open PySem L2 PyProof.Rows PySem.Spec PySem.W
section
variable {X : Cx} {CX : CXT} {k : Nat} {f : Addr} {fd : FuncData} {ps ks : List Str} {sp : Sp} {x : Str} {p pos : Pos} {tk : TA} {E : XK} {kws : List Keyword} {g : List Value → List Value → List Value} {gV : List V → List V → List V}
/-- f(k = v, ..), nothing by position -/
theorem pe_callK0 (F : FnOk X.prog X.w X.K X.mg X.base CX k f fd ps sp) (hr : Room k X.A) (hg : Gl X x) (hm : X.mg x = some (.ref f)) (hk : PySem.W.keepIn X.K (.ref f) = true) (hb : KBinds X.K fd ps ks g gV) (hx : Passes CX X E)
    (hkw : PK X kws tk) (hall : (backToKw pos (keywordEach kws X.env)).all (·.1.isSome) = true := by rfl) (hks : (backToKw pos (keywordEach kws X.env)).filterMap (·.1) = ks := by rfl)
    (hdb : (x == ("__debug__" : Str)) = false := by decide)
    (hpl : ((backTo pos (starEach [] X.env)).any (·.1) || (backToKw pos (keywordEach kws X.env)).any (·.1.isNone)) = false := by rfl) :
    PE X (.Call (.Name x p) [] kws pos) (tCallK sp gV E tNil tk) := by
  refine ⟨fun pins s σ H Q I h => ?_⟩
  refine wpAny_Call_Name_kw (ld_glob I hg hm ?_ hdb)
  refine PySem.W.callWith_KW0 (h₀ := X.base) I.ok.mod.kin hk hall (thn (hkw.run pos pins s σ H _ I h) fun ws s2 ⟨zs, H2, I2, rz, q2⟩ => ⟨I2.kIn, ?_⟩) hpl
  rw [hks]
  exact run_fnk F hr hb hx I2 (us := []) (vs := []) .nil rz q2
end
section
variable {X : Cx}
/-- x in t, t a tuple of data -/
def rInDT (K : PySem.W.Frag) : R2 := fun x y H Q => ∃ d ds, Dp K H x d ∧ Dp K H y (.tuple ds) ∧ SeqAt.shaped d = true ∧ SeqAt.shaped (.tuple ds) = true ∧ Q (.bl (ds.any fun z => PyData.eqv z d)) H
theorem op_inDT (hu : X.A.units + 65 < cLine) : OpR X (compareOp .In) (rInDT X.K) := by
  intro pins s σ H x y v u Q I rx ry h
  obtain ⟨d, ds, hd, he, sd, se, q⟩ := h
  obtain ⟨as, r1⟩ := Dp.reads I d x v hd rx
  obtain ⟨bs, r2⟩ := Dp.reads I (.tuple ds) y u he ry
  exact SeqAt.in_tuple_reads r2 r1 (SeqAt.canLay_of_shaped se) (SeqAt.canLay_of_shaped sd) (room_in_shaped sd hu) ⟨.bl _, H, I, rfl, q⟩
/-- a list times an int; the new list is none of the model's own -/
def rRepL : R2 := fun x y H Q => ∃ l k xs, x = .ref l ∧ y = .int k ∧ H l = some (.lst xs) ∧ -(2 ^ 63) ≤ k ∧ k < 2 ^ 63 ∧ xs.length * k.toNat ≤ sizeLine ∧
  ∀ p, H p = none → sysModules < p → Q (.ref p) (upd H p (.lst (List.replicate k.toNat xs).flatten))
theorem op_repL : OpR X (binaryOp .Mult) rRepL := by
  intro pins s σ H x y v u Q I rx ry h
  obtain ⟨l, k, xs, rfl, rfl, hH, h1, h2, hz, q⟩ := h
  cases rx
  obtain ⟨t, rfl⟩ := ry
  obtain ⟨z, its, n, r, hl, e⟩ := I.lstM hH
  have hlen : its.toArray.size * k.toNat ≤ sizeLine := by rw [List.size_toArray, ← hl]; exact hz
  have hcap : ¬ its.toArray.size * k.toNat > (2 ^ 63 - 1) / 8 := by
    have : (sizeLine : Nat) ≤ (2 ^ 63 - 1) / 8 := by decide
    omega
  have hfit : ¬ (!Builtin.List.listFitsIndex k) = true := by
    rw [fitsIndex_both h1 h2]
    exact Bool.false_ne_true
  have hlong : ¬ Builtin.List.listTooLong (its.toArray.size * k.toNat) = true := by
    rw [notLongL hlen]
    exact Bool.false_ne_true
  have hnew : List.foldl (fun x1 x2 => x1 ++ x2) #[] (List.replicate (if its.toArray.isEmpty = true then 0 else k.toNat) its.toArray) = (List.replicate k.toNat its).flatten.toArray := by
    have f0 : ∀ m : Nat, List.foldl (fun x1 x2 => x1 ++ x2) #[] (List.replicate m its.toArray) = (List.replicate m its).flatten.toArray := fun m => by
      have := foldl_rep its m []
      rw [List.nil_append] at this
      exact this
    rw [f0]
    cases its with
    | nil => simp
    | cons a r' => rw [if_neg (by simp)]
  refine wpAny_binaryOp_repeat_ref (T := "list") (U := "int") (by decide) ⟨_, e, rfl⟩ (fun s' => typeIs_int s' k t) noFill_list_mul F.fills_int_mul F.slot_int_rmul repeat_list F.slot_int_index.lookup
    (call_meets F.slot_int_rmul (typeIs_int s k t) F.entry_int_rmul (F.args_int_rmul_2 _ _) (int___rmul___int_list k t l its.toArray n)
      ⟨e, rfl, ⟨_, e, rfl⟩, call_meets F.slot_list_mul ⟨_, e, rfl⟩ F.entry_list_mul (F.args_list_mul_2 _ _) (AutoListH.list___mul___list_int_3 l its.toArray n k t hfit hcap hlong) ⟨e, ?_⟩⟩)
  rw [hnew]
  exact ⟨.ref _, _, I.lnew (t' := s.toks) (r.rep k.toNat) (by rw [PyProof.Rows.lm_len_rep_flat, Nat.mul_comm]; exact hz), rfl, q _ I.fresh I.big⟩
end
/-- what is read off stands -/
theorem reads_in {h : Heap} {v : Value} {d : PyData} {as : List Addr} (r : Reads h v d as) : ∀ a ∈ as, ∃ o, h.get? a = some o :=
  Reads.rec (motive_1 := fun _ _ as _ => ∀ a ∈ as, ∃ o, h.get? a = some o) (motive_2 := fun _ _ as _ => ∀ a ∈ as, ∃ o, h.get? a = some o)
    (fun a m => nomatch m) (fun _ a m => nomatch m) (fun _ _ a m => nomatch m) (fun _ _ a m => nomatch m)
    (fun ho _ _ _ ih a m => by
      rcases List.mem_cons.mp m with e | m
      · exact ⟨_, by rw [e]; exact ho⟩
      · exact ih a m)
    (fun _ _ _ _ ih a m => ih a m)
    (fun ho _ _ _ _ ih1 ih2 a m => by
      rcases List.mem_append.mp m with m | m
      · rcases List.mem_cons.mp m with e | m
        · exact ⟨_, by rw [e]; exact ho⟩
        · exact ih1 a m
      · exact ih2 a m)
    (fun a m => nomatch m)
    (fun _ _ ih1 ih2 a m => by
      rcases List.mem_append.mp m with m | m
      · exact ih1 a m
      · exact ih2 a m) r
/-! ### sorted(xs), xs a list or a tuple of data -/
/-- items told with the data that they are -/
def DpRows {β : Type} (enc : β → PyData) (K : PySem.W.Frag) (H : Hp) (L : List (Addr × β)) : Prop := ∀ q ∈ L, Dp K H (.ref q.1) (enc q.2)
def rSortX {β : Type} (enc : β → PyData) (K : PySem.W.Frag) : List V → Hp → VK → Prop := fun vs H Q => ∃ (a : Addr) (L : List (Addr × β)), vs = [V.ref a] ∧ (SqL K H a (L.map fun q => V.ref q.1) ∨ SqT K H a (L.map fun q => V.ref q.1)) ∧ DpRows enc K H L ∧ AllAlike (L.map fun q => enc q.2) ∧ Sortable (L.map fun q => enc q.2) ∧ (∀ q ∈ L, (enc q.2).depth ≤ 60) ∧ L.length ≤ 100000 ∧
  ∀ p, H p = none → Q (.ref p) (upd H p (.lst ((L.mergeSort (dataLe false fun q => enc q.2)).map fun q => V.ref q.1)))
section
variable {X : Cx} {β : Type} {enc : β → PyData}
theorem refs_of : ∀ {L : List (Addr × β)} {us : List Value}, Vals (L.map fun q => V.ref q.1) us → us = L.map fun q => Value.ref q.1
  | [], _, .nil => rfl
  | q :: ks, _, .cons r t => by
    cases r
    rw [refs_of t]
    rfl
theorem refs_are : ∀ (L : List (Addr × β)), Vals (L.map fun q => V.ref q.1) (L.map fun q => Value.ref q.1)
  | [] => .nil
  | q :: ks => .cons rfl (refs_are ks)
theorem cr_sortX (hu : X.A.units + 80 < cLine) : CallR X (.builtin "sorted") (rSortX enc X.K) := by
  intro pins s σ H vs us Q I r h
  obtain ⟨a, L, rfl, hl, hk, al, so, dp, sz, q⟩ := h
  rw [Vals.ref1 r]
  have big := sizeLine_eq
  have each : ∀ (R : Value → Addr × β → Prop) (M : List (Addr × β)), (∀ q ∈ M, R (.ref q.1) q) → EachIs R (M.map fun q => Value.ref q.1) M := by
    intro R M
    induction M with
    | nil => exact fun _ => .nil
    | cons x M ih => exact fun g => .cons (g x List.mem_cons_self) (ih fun y m => g y (List.mem_cons_of_mem _ m))
  have eout : ∀ {o : List Value} {M : List (Addr × β)}, EachIs (fun v q => v = Value.ref q.1) o M → o = M.map fun q => Value.ref q.1 := by
    intro o M z
    induction z with
    | nil => rfl
    | cons e _ ih => rw [e, ih]; rfl
  have rd : ∀ q ∈ L, ∃ as, Reads s.heap (.ref q.1) (enc q.2) as := fun q m => Dp.reads I (enc q.2) (.ref q.1) (.ref q.1) (hk q m) rfl
  have lz : ((L.mergeSort (dataLe false fun q => enc q.2)).map fun q => V.ref q.1).length ≤ sizeLine := by
    rw [List.length_map, List.length_mergeSort]
    omega
  rcases hl with hl | hl
  · obtain ⟨its, rv, il, _⟩ := I.list hl
    have ei := refs_of rv
    subst ei
    refine sorted_data (R := fun v q => v = Value.ref q.1) (enc := fun q : Addr × β => enc q.2) (bs := L) il.isList (each _ L fun q _ => rfl) (each _ L rd) al so (by omega) (fun b m => by have z := dp b m; omega) fun out lo eo => ?_
    have eo' := eout eo
    subst eo'
    obtain ⟨ep, he⟩ := PyProof.Rows.sortedAll_at s.heap (L.map fun q => Value.ref q.1) (((L.mergeSort (dataLe false fun q => enc q.2)).map fun q => Value.ref q.1).toArray)
    exact ⟨.ref _, upd H (s.heap.objs.size + 1) (.lst ((L.mergeSort (dataLe false fun q => enc q.2)).map fun q => V.ref q.1)), I.laid (t' := s.toks) (fun _ _ => PyProof.Rows.sortedAll_old) (Nat.le_succ _) ⟨lz, _, ep, refs_are _, he⟩, rfl, q _ (I.hok.fresh (Nat.le_succ _))⟩
  · obtain ⟨its, rv, ⟨o, ho, hc, n, hd⟩, _⟩ := I.tuple hl
    have ei := refs_of rv
    subst ei
    refine Calls.call_function_entry kind_sorted plain_sorted entry_sorted (args_sorted1 _) ?_
    unfold Builtin.«sorted»
    refine wpAny_bind (m := checkCount "sorted" 1 1 _) (wpAny_pure ?_)
    refine wpAny_bind (wpAny_collect_seq (A := X.A.in1) a (.inr rfl) ho hc hd (hsz := by rw [List.size_toArray, List.length_map]; omega) fun h' hk' => ?_)
    have I1 : Inv X pins σ H { s with heap := h' } := I.kept (t' := s.toks) hk'
    rw [show (L.map fun q => Value.ref q.1).toArray.toList = L.map fun q => Value.ref q.1 by simp]
    refine wpAny_bind (wpAny_newList ?_ (by rw [List.length_map]; omega))
    have oL : (h'.push (seqObj "list" (L.map fun q => Value.ref q.1).toArray 0)).get? h'.objs.size = some (seqObj "list" (L.map fun q => Value.ref q.1).toArray 0) := Heap.get?_push_size _ rfl
    have al' : ∀ q ∈ L, ∃ as, Reads (h'.push (seqObj "list" (L.map fun q => Value.ref q.1).toArray 0)) (.ref q.1) (enc q.2) as ∧ h'.objs.size ∉ as := fun q m => by
      obtain ⟨as, r1⟩ := Dp.reads I1 (enc q.2) (.ref q.1) (.ref q.1) (hk q m) rfl
      refine ⟨as, PyProof.Rows.Reads.keeps (fun b u e => Heap.get?_push_of_some _ e) r1, fun z => ?_⟩
      obtain ⟨o2, e2⟩ := reads_in r1 _ z
      exact absurd (Heap.lt_size e2) (Nat.lt_irrefl _)
    refine wpAny_bind (wpAny_holding (list_sort_data (s := { s with heap := h'.push (seqObj "list" (L.map fun q => Value.ref q.1).toArray 0) }) (R := fun v q => v = Value.ref q.1) (enc := fun q : Addr × β => enc q.2) (bs := L) oL (each _ L fun q _ => rfl)
      (each _ L al') al so (by omega) (fun b m => by have z := dp b m; have y : X.A.in1.units ≤ X.A.units + 1 := (by simp only [Around.in1]; omega); omega) fun out lo eo => ?_))
    have eo' := eout eo
    subst eo'
    obtain ⟨c, hc2⟩ := sortedHeap_at (vs := L.map fun q => Value.ref q.1) (out := (List.toArray ((L.mergeSort (dataLe false fun q => enc q.2)).map fun q => Value.ref q.1))) oL
    have kp2 : ∀ b u, h'.get? b = some u → (sortedHeap (h'.push (seqObj "list" (L.map fun q => Value.ref q.1).toArray 0)) h'.objs.size (L.map fun q => Value.ref q.1) (List.toArray ((L.mergeSort (dataLe false fun q => enc q.2)).map fun q => Value.ref q.1))).get? b = some u := fun b u z => by
      have lt := Heap.lt_size z
      rw [sortedHeap_old (Nat.ne_of_lt lt) (by rw [size_push']; exact Nat.lt_succ_of_lt lt)]
      exact Heap.get?_push_of_some _ z
    refine wpAny_pure ⟨_, rfl, ?_⟩
    exact ⟨.ref h'.objs.size, upd H h'.objs.size (.lst ((L.mergeSort (dataLe false fun q => enc q.2)).map fun q => V.ref q.1)), I1.laid (t' := s.toks) kp2 (Nat.le_refl _) ⟨lz, _, c, refs_are _, hc2⟩, rfl, q _ (I1.hok.fresh (Nat.le_refl _))⟩
/-- what is sorted, without the places -/
theorem sort_snd (L : List (Addr × β)) : (L.mergeSort (dataLe false fun q => enc q.2)).map Prod.snd = (L.map Prod.snd).mergeSort (dataLe false enc) := List.map_mergeSort fun _ _ _ _ => rfl
end
/-! ### {k: v for ..}, the keys nested tuples, each new -/
/-- in each block of a comprehension -/
abbrev BlksV (X : Cx) (scope : Scope) (p : Cx → Prop) : Prop := ∀ (s : Shared) (H : Hp) (C : Addr) (cl : List (PySem.Str × Addr)) (fp : List Addr), p (X.blk s H scope (compEnvC scope cl C X.env) fp)
section
variable {X : Cx} {pins : List (Addr × Obj)} {σ : L2.St} {H : Hp} {s : Shared}
theorem put_okV {E : Value → Shared → Prop} {D b : Addr} {L : List VRow} {k : NestedKey} {v : V} {r : Value} {Q : Unit → Shared → Prop} (hu : X.A.units + 64 < cLine) (I : Inv X pins σ H s) (hD : H D = some (VDict X.prog X.w D L)) (ks : VKeys H L) (hb : NqV H (.ref b) k) (hd : k.depth ≤ 8) (hn : valW L k = none) (few : L.length < 1000) (rv : RelV v r)
    (h : ∀ s', Inv X pins σ (upd H D (VDict X.prog X.w D (L ++ [(k, b, v)]))) s' → Q () s') : wpAny (model X.prog X.w) X.A (dictSet D (.ref b) r) Q E s := by
  obtain ⟨xs, Dd, rr, lo, _⟩ := vdict_rd I hD ks
  have lx : L.length = xs.length := Paired.length rr
  have big := sizeLine_eq
  refine wpAny_dictSet_heap (knd := nestedKind X.prog X.w) (hsz := by omega) (show X.A.units + 8 < cLine by omega) ⟨nq_is I k hb rfl, hd⟩ Dd fun h' D2 sb => h _ ?_
  have VH := vheld_put rr rv lo hn few D2
  obtain ⟨_, o2, _, _, g1, _⟩ := id VH
  exact d_write I (by rw [hD]; exact True.intro) sb ⟨o2, g1⟩ (vdict_ok VH)
end
section
variable {X : Cx}
/-- {key: val for ta in ia}, the key a nested tuple: D the new dict -/
def tDcV (P : Program) (w : World) (wa : TI) (ga : TG) (tk tv : TE) (vs : List Nat) : TE := fun σ H Q => wa σ H fun J H1 => ∀ D, H1 D = none → ∃ W : Nat → Nat → Hp → Prop, (∃ m, W 0 m (upd H1 D (VDict P w D []))) ∧ ∀ i m H2, W i m H2 →
  (J.stop i H2 ∧ Q (.ref D) H2) ∨ (J.go i H2 ∧ ∃ Nx : Hp → Prop, (∀ H3, Nx H3 → ∃ m', m' < m ∧ W (i + 1) m' H3) ∧ ∀ x H3, J.yld i H2 x H3 → ga x (wipe σ vs) H3 fun σ4 H4 => wipe σ4 vs = wipe σ vs ∧ tk σ4 H4 fun y H5 => tv σ4 H5 fun z H6 =>
    ∃ (L : List VRow) (k : NestedKey) (b : Addr), y = .ref b ∧ NqV H6 (.ref b) k ∧ k.depth ≤ 8 ∧ H6 D = some (VDict P w D L) ∧ VKeys H6 L ∧ valW L k = none ∧ L.length < 1000 ∧ Nx (upd H6 D (VDict P w D (L ++ [(k, b, z)]))))
theorem pe_dcV {kx vx ta ia : Expr} {scope : Scope} {own : List (PySem.Str × Nat)} {pos : Pos} {wa : TI} {ga : TG} {tk tv : TE} (hc : X.calm = true) (hN : X.N.Nodup) (hu : X.A.units + 64 < cLine) (hia : PI X ta ia wa) (ok : BlkOk X.N X.env.scope scope own)
    (hga : BlksV X scope fun Y => PG Y ta ga) (hk : BlksV X scope fun Y => PE Y kx tk) (hv : BlksV X scope fun Y => PE Y vx tv) (pa : ∀ x, foldedSetIterable ia X.env x = pure x := by intro _; rfl) :
    PE X (.DictComp kx vx [⟨ta, ia, [], 0⟩] scope pos) (tDcV X.prog X.w wa ga tk tv (own.map (·.2))) := by
  refine ⟨fun pins s σ H Q I h => ?_⟩
  rw [arm_eval_DictComp]
  have caught : ∀ y ∈ scope.names, y.2 = .free → ∃ c, X.env.cells.lookup y.1 = some c := fun y m e => (ok.free y m e).elim (fun k => I.ok.has _ (.inl k)) (fun k => I.ok.has _ (.inr k))
  refine wpAny_comprehension_free (use := none) rfl pa (closure_ok caught) ok.kind (fun y m e => by rw [ok.uniq y m, e]) (thn (hia.run pins s σ H _ I h) fun xv s1 hx => thn hx fun itv s2 h2 => ?_)
  obtain ⟨it, fp, tn, J, H2, rfl, I2, T, st2, f2, q⟩ := h2
  refine wpAny_newObj_type (newEnv_comp ?_)
  generalize eD : s2.heap.objs.size = D
  have D0 : H2 D = none := I2.hok.fresh (Nat.le_of_eq eD)
  obtain ⟨W, ⟨m0, w0⟩, turn⟩ := q D D0
  generalize e3 : ({ s2 with heap := s2.heap.push { cls := .type "dict", data := .dict #[] } } : Shared) = s3
  have hp3 : s3.heap = s2.heap.push { cls := .type "dict", data := .dict #[] } := by rw [← e3]
  have I3 : Inv X pins σ (upd H2 D (VDict X.prog X.w D [])) s3 := by
    rw [← e3]
    refine I2.laid (t' := s2.toks) (fun b o e => Heap.get?_push_of_some _ e) (Nat.le_of_eq eD) ?_
    rw [← eD]
    exact vdict_ok (vheld_new s2.heap I2.big)
  have low : ∀ b ∈ fp, b < s2.heap.objs.size := fun b m => by
    obtain ⟨o, e, _⟩ := T.obj _ _ st2 b m
    exact Heap.lt_size e
  have f3 : ∀ b ∈ fp, FpOk X pins (upd H2 D (VDict X.prog X.w D [])) b ∧ b < s3.heap.objs.size := fun b m => by
    refine ⟨⟨?_, (f2 b m).2⟩, by rw [hp3, Heap.size_push]; exact Nat.lt_succ_of_lt (low b m)⟩
    rw [upd_ne (by rw [← eD]; exact Nat.ne_of_lt (low b m))]
    exact (f2 b m).1
  have st3 : tn 0 s3.heap := T.keep _ _ _ st2 fun b _ o e => by rw [hp3]; exact Heap.get?_push_of_some _ e
  have I4 := block_start I3 ok hN f3
  have ga4 := hga s3 (upd H2 D (VDict X.prog X.w D [])) s3.heap.objs.size (cellsFrom (s3.heap.objs.size + 1) scope.names (cloFrom X.env.cells scope.names [])) fp
  have k4 := hk s3 (upd H2 D (VDict X.prog X.w D [])) s3.heap.objs.size (cellsFrom (s3.heap.objs.size + 1) scope.names (cloFrom X.env.cells scope.names [])) fp
  have v4 := hv s3 (upd H2 D (VDict X.prog X.w D [])) s3.heap.objs.size (cellsFrom (s3.heap.objs.size + 1) scope.names (cloFrom X.env.cells scope.names [])) fp
  show codeAny _ _ (.compStart (.DictComp kx vx [⟨ta, ia, [], 0⟩] scope pos) 0 (.ref it) (.ref D) (compEnvC scope (cellsFrom (s3.heap.objs.size + 1) scope.names (cloFrom X.env.cells scope.names [])) s3.heap.objs.size X.env)) (compPost (model X.prog X.w) X.A X.xe none _ (.ref D) s3.heap.objs.size) { s3 with heap := pushCells (s3.heap.push { cls := .type "dict", data := .dict #[] }) scope.names }
  have fp0 : ∀ b ∈ fp, (upd H2 D (VDict X.prog X.w D [])) b = none := fun b m => (f3 b m).1.1
  generalize ece : compEnvC scope (cellsFrom (s3.heap.objs.size + 1) scope.names (cloFrom X.env.cells scope.names [])) s3.heap.objs.size X.env = ce at I4 ga4 k4 v4 ⊢
  have loc : ce.locals = s3.heap.objs.size := by subst ece; rfl
  generalize upd H2 D (VDict X.prog X.w D []) = H3 at I3 I4 ga4 k4 v4 w0 fp0 f3
  generalize e4 : ({ s3 with heap := pushCells (s3.heap.push { cls := .type "dict", data := .dict #[] }) scope.names } : Shared) = s4 at I4 ⊢
  have st4 : tn 0 s4.heap := T.keep _ _ _ st3 fun b _ o e => by rw [← e4]; exact pushCells_keeps _ _ _ _ (Heap.get?_push_of_some _ e)
  have still : ∀ {τ : L2.St} {G : Hp} {u : Shared}, Inv (X.blk s3 H3 scope ce fp) [] τ G u → (∀ b ∈ fp, G b = none) → ∀ b ∈ fp, FpOk (X.blk s3 H3 scope ce fp) [] G b := fun {τ G u} Iu no b m =>
    ⟨no b m, (Iu.ok.exf b m).1, Iu.ok.exfs b m, .inl m, fun x c e => (Iu.ok.exf b m).2 x c e, fun p z => absurd (show p ∈ ([] : List (Addr × Obj)) ++ [] from z) (by simp)⟩
  refine codeAny_compStart_dict ?loop (T.self X.A 0 _ _ _ st4 ?loop)
  refine compLoop_anyD (fun n u => ∃ i G, Inv (X.blk s3 H3 scope ce fp) [] (wipe σ (own.map (·.2))) G u ∧ tn i u.heap ∧ (∀ b ∈ fp, G b = none) ∧ W i n G) (fun n s5 hI => ?_) m0 ⟨0, H3, I4, st4, fp0, w0⟩
  obtain ⟨i, H5, I5, st5, no5, w5⟩ := hI
  rcases turn i n H5 w5 with ⟨stop, fin⟩ | ⟨go, Nx, hNx, step⟩
  · refine thnF (T.done (X.blk s3 H3 scope ce fp) rfl rfl rfl hc i [] s5 _ H5 (fun _ _ => False) I5 (still I5 no5) st5 stop) fun r s6 ⟨hr, I6⟩ => ?_
    subst hr
    have I7 : Inv X pins σ H5 s6 := I3.call' (ch := fp) I6.os I6.base I6.hok I6.bare fun b m => ⟨(f3 b m).1.2.2.2.1, (f3 b m).1.2.1, (f3 b m).1.2.2.2.2.1, (f3 b m).1.2.2.2.2.2⟩
    have none5 : H5 s3.heap.objs.size = none := by
      have z : H5 ce.locals = none := I6.free
      rwa [loc] at z
    obtain ⟨m, hn, _⟩ := I6.loc
    have hn : s6.heap.Ns ce.locals m := hn
    rw [loc] at hn
    obtain ⟨g0, g1, g2, g3, g4, g5⟩ := I3.fpOk (Nat.le_refl _) none5
    exact ⟨m, hn, fun h'' sb => ⟨.ref D, H5, I7.turned (t' := s6.toks) (fun b o ne e => (sb.2 b ne).trans e) g0 g1 g3 g4 g5, rfl, fin⟩⟩
  · refine thnF (T.item (X.blk s3 H3 scope ce fp) rfl rfl rfl hc i [] s5 _ H5 (fun _ _ => False) I5 (still I5 no5) st5 go) fun r s6 ⟨u, hr, h6⟩ => ?_
    subst hr
    refine thnF h6 fun _ s7 ⟨x, H7, I7, r7, y7, st7, no7⟩ => ?_
    have I7p := I7.pinned (still I7 no7) (T.obj _ _ st7)
    refine thnF (ga4.run _ s7 _ H7 x u _ I7p r7 (step x H7 y7)) fun _ s8 ⟨σ8, H8, I8, wp8, q8⟩ => ?_
    refine thnF ((pts_nil (X := X.blk s3 H3 scope ce fp)).run _ s8 σ8 H8 (fun b G => b = true ∧ tk σ8 G _) I8 ⟨rfl, q8⟩) fun b s9 ⟨H9, I9, eb, q9⟩ => ?_
    subst eb
    simp only [if_true]
    refine thnF (k4.run _ s9 σ8 H9 _ I9 q9) fun z1 s10 ⟨yk, H10, I10, r10, q10⟩ => ?_
    refine thnF (v4.run _ s10 σ8 H10 _ I10 q10) fun z2 s11 ⟨yv, H11, I11, r11, L, k, b, ek, hb, hdp, hD, hks, hnew, room, nx⟩ => ?_
    subst ek
    cases r10
    refine put_okV (X := X.blk s3 H3 scope ce fp) hu I11 hD hks hb hdp hnew room r11 fun s12 I12 => ?_
    obtain ⟨m', lt, w'⟩ := hNx _ nx
    have pinned : ∀ c ∈ fp, ∀ o, s7.heap.get? c = some o → s12.heap.get? c = some o ∧ (upd H11 D (VDict X.prog X.w D (L ++ [(k, b, yv)]))) c = none := fun c m o e =>
      have z := I12.pin (c, o) (List.mem_append_right _ (List.mem_append_right _ (mem_pinsAt m e)))
      ⟨z.1, z.2.1⟩
    refine ⟨m', lt, i + 1, _, (I12.unpinned (pins := [])).weak (by rw [← wp8, wipe_length]) (fun j v e => by rw [← wp8] at e; exact (wipe_some e).1), T.keep _ _ _ st7 fun b m o e => (pinned b m o e).1, fun b m => ?_, w'⟩
    obtain ⟨o, e, _⟩ := T.obj _ _ st7 b m
    exact (pinned b m o e).2
theorem pe_dcVP {P : Program} {w : World} {kx vx ta ia : Expr} {scope : Scope} {own : List (PySem.Str × Nat)} {pos : Pos} {wa : TI} {ga : TG} {tk tv : TE} (hc : X.calm = true) (hN : X.N.Nodup) (hu : X.A.units + 64 < cLine) (hia : PI X ta ia wa) (ok : BlkOk X.N X.env.scope scope own)
    (hga : BlksV X scope fun Y => PG Y ta ga) (hk : BlksV X scope fun Y => PE Y kx tk) (hv : BlksV X scope fun Y => PE Y vx tv) (hP : X.prog = P := by rfl) (hw : X.w = w := by rfl) (pa : ∀ x, foldedSetIterable ia X.env x = pure x := by intro _; rfl) :
    PE X (.DictComp kx vx [⟨ta, ia, [], 0⟩] scope pos) (tDcV P w wa ga tk tv (own.map (·.2))) := by
  subst hP hw
  exact pe_dcV hc hN hu hia ok hga hk hv pa
end
/-! ### the same, the program and the world by their own letters -/
section
variable {X : Cx} {P : Program} {w : World} {o i e f value tg : Expr} {pos pos' apos cpos : Pos} {td ty tv tx : TE}
theorem pe_dnewVP (hP : X.prog = P := by rfl) (hw : X.w = w := by rfl) : PE X (.Dict [] [] pos) (tDNewV P w) := by
  subst hP hw
  exact pe_dnewV
theorem op_inVP (hu : X.A.units + 64 < cLine) (hP : X.prog = P := by rfl) (hw : X.w = w := by rfl) : OpR X (compareOp .In) (rInV P w) := by
  subst hP hw
  exact op_inV hu
theorem pe_getVP (hu : X.A.units + 64 < cLine) (ho : PE X o td) (hi : PE X i ty) (hs : NoSl i) (hP : X.prog = P := by rfl) (hw : X.w = w := by rfl) : PE X (.Subscript o i pos) (tGetV P w td ty) := by
  subst hP hw
  exact pe_getV hu ho hi hs
theorem ps_putVP (hu : X.A.units + 64 < cLine) (ho : PE X o td) (hi : PE X i ty) (hv : PE X value tv) (hs : swapsWith value (some (.Subscript o i pos')) pos.line X.env = pure false) (hP : X.prog = P := by rfl) (hw : X.w = w := by rfl) :
    PS X (.Assign [.Subscript o i pos'] value pos) (sPutV P w td ty tv) := by
  subst hP hw
  exact ps_putV hu ho hi hv hs
theorem pe_setdVP (hu : X.A.units + 64 < cLine) (ho : PE X o td) (he : PE X e ty) (hf : PE X f tx) (m : M2 X o "setdefault" apos e f cpos) (hP : X.prog = P := by rfl) (hw : X.w = w := by rfl) : PE X (.Call (.Attribute o "setdefault" apos) [e, f] [] cpos) (tSetdV P w td ty tx) := by
  subst hP hw
  exact pe_setdV hu ho he hf m
theorem pi_valuesVP (he : PE X e td) (hP : X.prog = P := by rfl) (hw : X.w = w := by rfl) (hbase : attributeBase e "values" X.env (eval e X.env) = eval e X.env := by rfl) (hline : (apos.endLine == cpos.line) = true := by rfl) : PI X tg (.Call (.Attribute e "values" apos) [] [] cpos) (iValsV P w td) := by
  subst hP hw
  exact pi_valuesV he hbase hline
end
end Kd

-- ===== K13L =====
set_option Elab.async false
set_option linter.all false
set_option maxRecDepth 100000
set_option maxHeartbeats 4000000
namespace My
open PySem L2 PyProof.Rows PySem.Spec Kd
abbrev sPick : Stmt := top 42
abbrev sLStates : Stmt := top 43
abbrev sSystem : Stmt := top 44
abbrev sLEvents : Stmt := top 45
abbrev sDid : Stmt := top 46
abbrev sLaw : Stmt := top 59
/-! ### a def's promise under a condition on what is around -/
structure FnG (c : Bool) (G : Around → Prop) (P : Program) (w : World) (K : PySem.W.Frag) (mg : Str → Option Value) (base : Heap) (CX : CXT) (k : Nat) (f : Addr) (fd : FuncData) (ps : List Str) (sp : Sp) : Prop where
  len : ∀ vs H Q E, sp vs H Q E → vs.length = ps.length
  run : ∀ (A : Around) (outer : List Env) (s : Shared) (H : Hp) (args : Args) (us : List Value) (vs : List V) (Q : VK) (E : XK), (c = true → A.handled = none) → G A → L2H.RoomH k A →
    Env0 P w K mg base A outer s H → BindsTo s fd args (ps.zip us) → Vals vs us → sp vs H Q E → codeAny (model P w) A (.call (.ref f) args) (CR CX outer P w H s Q E) s
def cxG (c : Bool) (CX : CXT) (P : Program) (w : World) (K : PySem.W.Frag) (mg : Str → Option Value) (base : Heap) (N : List Str) (qual : Str) (scope : Scope) (f : Addr) (cd : Value) (A : Around) (outer : List Env) (s : Shared) (H : Hp) (E : XK) : Cx :=
  { cxOf CX P w K mg base N qual scope f cd A outer s H E with calm := c }
section
variable {c : Bool} {G : Around → Prop} {CX : CXT} {P : Program} {w : World} {K : PySem.W.Frag} {mg : Str → Option Value} {base : Heap} {N ps : List Str} {qual : Str} {scope : Scope} {f : Addr} {cd : Value} {A : Around} {outer : List Env} {s s1 : Shared} {H : Hp} {E : XK}
theorem inv_startG {us : List Value} {vs : List V} (S : FnScope N ps scope) (hd : c = true → A.handled = none) (e0 : Env0 P w K mg base A outer s H) (hl : vs.length = ps.length) (r : Vals vs us)
    (x : InCallC s s.heap.objs.size (bindL (envOfC qual scope s.heap.objs.size f cd).kindOf (ps.zip us) fun _ => none) (cellsFrom (s.heap.objs.size + 1) scope.names []) (bindC (envOfC qual scope s.heap.objs.size f cd).kindOf (ps.zip us) fun _ => none) s1) :
    Inv (cxG c CX P w K mg base N qual scope f cd A outer s H E) [] (start N vs) H s1 := by
  have J : Inv (cxOf CX P w K mg base N qual scope f cd { A with handled := none } outer s H E) [] (start N vs) H s1 := inv_start S rfl ⟨e0.frames, e0.mod, e0.bs, e0.bsz, e0.funs, e0.frf, e0.hok, e0.bare⟩ hl r x
  have o := J.ok
  exact ⟨⟨o.mod, o.kind, o.glob, o.blt, o.above, o.inj, o.has, o.cab, hd, Around.frames_deeper e0.frames, o.stk, o.exf, o.bs, o.bsz, o.noex, o.exfs, o.funs, o.frf⟩, J.os, J.bare, J.base, J.loc, J.cell, J.free, J.freeC, J.pin, J.hok, J.len⟩
theorem fn_ofG {k : Nat} {name : Str} {params : Arguments} {body : List Stmt} {dV kV doc pm cdv ct oc : Value} {an od : Option Addr} {osl : Array (Option Value)} {sp : Sp}
    (lk : K.lookup f = some ⟨oc, od, .func (PySem.W.fnOf name qual params body scope dV kV doc pm an cdv ct), osl⟩) (hcd : PySem.W.codeIn K cdv qual = true) (S : FnScope N ps scope) (len : ∀ vs H Q E, sp vs H Q E → vs.length = ps.length)
    (hbody : ∀ (A : Around) (outer : List Env) (s : Shared) (H : Hp) (vs : List V) (Q : VK) (E : XK), (c = true → A.handled = none) → G A → L2H.RoomH k (A.deeper (envOfC qual scope s.heap.objs.size f cdv)) → sp vs H Q E →
      ∃ t, PSs (cxG c CX P w K mg base N qual scope f cdv A outer s H E) body t ∧ t { nx := fun _ H' => Q .non H', rt := Q } (start N vs) H) :
    FnG c G P w K mg base CX (k + 1) f (PySem.W.fnOf name qual params body scope dV kV doc pm an cdv ct) ps sp := by
  refine ⟨len, fun A outer s H args us vs Q E hh hG hr e0 hb r hsp => ?_⟩
  have hl := len _ _ _ _ hsp
  have KX : K.In s.heap := e0.mod.kin.keeps fun b o e => (e0.bs b o e).1
  have lim : s.heap.NoLimit := e0.mod.nolimit.keeps fun b o e => (e0.bs b o e).1
  refine codeAny_call_function hr.depth (KX _ _ lk) rfl S.co S.gen rfl (PySem.W.codeRec_of KX hcd) (hb _ _ _ _ ?_)
  refine wpAny_newFunctionEnv_cells S.kind (fun ⟨n, v⟩ hy => ?_) fun env he s1 x => ?_
  · rcases S.par n (List.of_mem_zip hy).1 with q | q
    · exact .inl q
    · exact .inr ⟨q, PySem.W.cellsFrom_some _ _ _ (.inl q)⟩
  subst he
  refine ⟨lim.keeps x.toInCall.keep, codeAny_func ?_⟩
  obtain ⟨t, ht, hq⟩ := hbody A outer s H vs Q E hh hG (hr.deeper _) hsp
  refine wpAny_mono (ht.run [] s1 (start N vs) H _ (inv_startG S hh e0 hl r x) hq) (fun fl s' hs => ?_) fun e s' hs => hs
  cases fl with
  | ret u =>
    obtain ⟨v, σ', H', J, rv, q⟩ := hs
    exact ⟨v, H', J.os, J.bare, J.base, J.hok, rv, q⟩
  | next =>
    obtain ⟨σ', H', J, q⟩ := hs
    exact ⟨V.non, H', J.os, J.bare, J.base, J.hok, rfl, q⟩
  | brk =>
    obtain ⟨_, _, _, q⟩ := hs
    exact False.elim q
  | cont =>
    obtain ⟨_, _, _, q⟩ := hs
    exact False.elim q
/-- by its body, nothing is raised -/
theorem okG {x : Str} {st : Stmt} {fd : FuncData} {k : Nat} {sp : Sp} (F : Fun K x qual st f fd) (S : FnScope N ps (defScope st)) (len : ∀ vs H Q E, sp vs H Q E → vs.length = ps.length)
    (hbody : ∀ (cdv : Value) (A : Around) (outer : List Env) (s : Shared) (H : Hp) (vs : List V) (Q : VK) (E : XK), (c = true → A.handled = none) → G A → L2H.RoomH k (A.deeper (envOfC qual (defScope st) s.heap.objs.size f cdv)) → sp vs H Q E →
      ∃ t, PSs (cxG c CX P w K mg base N qual (defScope st) f cdv A outer s H E) (defBody st) t ∧ t { nx := fun _ H' => Q .non H', rt := Q } (start N vs) H) : FnG c G P w K mg base CX (k + 1) f fd ps sp := by
  obtain ⟨oc, od, kV, doc, pm, an, cdv, ct, osl, rfl, lk, hcd⟩ := F.ex
  exact fn_ofG lk hcd S len fun A outer s H vs Q E hh hG hr hsp => hbody cdv A outer s H vs Q E hh hG hr hsp
end
section
variable {c : Bool} {G : Around → Prop} {X : Cx} {CX : CXT} {k : Nat} {f : Addr} {fd : FuncData} {ps : List Str} {sp : Sp} {x : Str} {p pos : Pos} {e : Expr} {es : List Expr} {t : TA} {E : XK}
theorem pe_callG (F : FnG c G X.prog X.w X.K X.mg X.base CX k f fd ps sp) (hh : c = true → X.A.handled = none) (hG : G X.A) (hr : L2H.RoomH k X.A) (hg : Gl X x) (hm : X.mg x = some (.ref f)) (hk : PySem.W.keepIn X.K (.ref f) = true) (hb : Binds X.K fd ps []) (hx : Passes CX X E)
    (ha : PA X (e :: es) t) (hdb : (x == ("__debug__" : Str)) = false := by decide) (he : starEach (e :: es) X.env = (false, eval e X.env) :: starEach es X.env := by rfl) (hpl : (backTo pos (starEach es X.env)).any (·.1) = false := by rfl) :
    PE X (.Call (.Name x p) (e :: es) [] pos) (tCall sp [] E t) := by
  refine ⟨fun pins s σ H Q I h => ?_⟩
  refine wpAny_Call_Name_kw (ld_glob I hg hm ?_ hdb)
  refine PySem.W.callWith_K (h₀ := X.base) I.ok.mod.kin hk (thn (ha.run pos pins s σ H _ I h) fun us s1 ⟨vs, H1, I1, r, q⟩ => ⟨I1.kIn, ?_⟩) he hpl
  have r2 : Vals (vs ++ []) (us ++ []) := by rw [List.append_nil, List.append_nil]; exact r
  have hl : (us ++ []).length = ps.length := by rw [← r2.length]; exact F.len _ _ _ _ q
  refine wpAny_call (codeAny_mono (F.run X.A X.stack s1 H1 ⟨us, []⟩ (us ++ []) (vs ++ []) Q E hh hG hr I1.env0 (hb s1 us I1.kIn hl) r2 q) fun r s' hq => ?_)
  cases r with
  | error e => exact hx pins σ H1 s1 e s' I1 hq
  | ok fl =>
    cases fl with
    | ret u => exact I1.after hq
    | next => exact False.elim hq
    | brk => exact False.elim hq
    | cont => exact False.elim hq
end
theorem law_callG {P : Program} {w : World} {K : PySem.W.Frag} {mg mb : Str → Option Value} {CX : CXT} {k : Nat} {fa a : Addr} {fd : FuncData} {x : Str} {sp : Sp} {s₁ : Shared} {vs : List Value} {ns : List Int}
    (KX : K.In s₁.heap) (hns : s₁.heap.Ns mainGlobals mg) (hb : s₁.heap.Ns builtinsNs mb) (hbb : ∀ x : Str, x ≠ "__name__" → mb x = bootBuiltins x) (hlim : s₁.heap.NoLimit) (hg : s₁.gens = #[])
    (ha : s₁.heap.get? a = some { cls := .type "list", data := .seq vs.toArray }) (hi : IntsAre vs ns) (hl : ns.length ≤ sizeLine) (hr : Room k callerA)
    (F : ∀ base : Heap, K.In base → base.Ns mainGlobals mg → FnG true (fun A => A.guards = some []) P w K mg base CX k fa fd [x] sp) (hbind : ∀ (s : Shared) (u : Value), BindsTo s fd ⟨[u], []⟩ [(x, u)])
    (hsp : ∀ H : Hp, Only H → SqL K H a (ns.map V.int) → sp [.ref a] H (fun v _ => v = .bl true) fun _ _ _ => False)
    (hCX : ∀ H e s', CX [] H s₁ (fun _ _ _ => False) e s' → False) :
    codeAny (model P w) callerA (.call (.ref fa) ⟨[.ref a], []⟩) (fun r s' => r = .ok (.ret (.bool true)) ∧ OldK s₁.heap s'.heap ∧ s'.os = s₁.os ∧ AllBare s'.gens) s₁ := by
  have rv := vals_ints hi
  have lenV := hi.length
  -- from an abstract heap in which nothing but the script may be tracked
  have core : ∀ H : Hp, Only H → SqL K H a (ns.map V.int) → HOk P w H s₁.heap → (∀ b, H b ≠ none → b = a) → (H a ≠ none → K.lookup a = none) →
      codeAny (model P w) callerA (.call (.ref fa) ⟨[.ref a], []⟩) (fun r s' => r = .ok (.ret (.bool true)) ∧ OldK s₁.heap s'.heap ∧ s'.os = s₁.os ∧ AllBare s'.gens) s₁ := by
    intro H hO hS hok hA hK
    have base_of : ∀ {b : Addr} {o : Obj}, s₁.heap.get? b = some o → H b = none → (hidT s₁.heap H).get? b = some o := fun e n => hidT_get e n
    have noA : ∀ {b : Addr} {o : Obj} {es : Array DictEntry} {ep : Nat}, s₁.heap.get? b = some o → o.data = .dict es ep → H b = none := fun {b o es ep} e d => by
      cases q : H b with
      | none => rfl
      | some u =>
        have e' : b = a := hA b (by rw [q]; simp)
        subst e'
        rw [ha] at e; cases e
        have d' : Data.seq vs.toArray _ = Data.dict es ep := d
        cases d'
    have nsK : ∀ {b : Addr} {m : Str → Option Value}, s₁.heap.Ns b m → (hidT s₁.heap H).Ns b m := fun {b m} ⟨o, es, ep, e, d, r⟩ => ⟨o, es, ep, base_of e (noA e d), d, r⟩
    have hKb : K.In (hidT s₁.heap H) := fun b o e => base_of (KX b o e) (by
      cases q : H b with
      | none => rfl
      | some u =>
        have e' : b = a := hA b (by rw [q]; simp)
        subst e'
        rw [hK (by rw [q]; simp)] at e; cases e)
    have hM : Mod K mg (hidT s₁.heap H) := ⟨hKb, nsK hns, ⟨mb, nsK hb, hbb⟩, let ⟨mc, h1, h2⟩ := hlim; ⟨mc, nsK h1, h2⟩⟩
    have e0 : Env0 P w K mg (hidT s₁.heap H) callerA [] s₁ H := ⟨rfl, hM, fun b o e => of_hidT e, Nat.le_of_eq (hidT_size _ _), trivial, fun b hb => absurd (show b ∈ ([] : List Addr) from hb) (by simp), hok, .of_eq hg⟩
    refine codeAny_mono ((F _ hKb (nsK hns)).run callerA [] s₁ H ⟨[.ref a], []⟩ [.ref a] [.ref a] _ _ (fun _ => rfl) rfl (L2H.roomH_of hr) e0 (hbind s₁ (.ref a)) (.cons rfl .nil) (hsp H hO hS)) fun r s' h => ?_
    cases r with
    | error e => exact (hCX H e s' h).elim
    | ok fl =>
      cases fl with
      | next => exact False.elim h
      | brk => exact False.elim h
      | cont => exact False.elim h
      | ret u =>
        obtain ⟨v, H', os, bare, un, hok', r', q⟩ := h
        have q' : v = .bl true := q
        subst q'
        obtain rfl : u = Value.bool true := r'
        refine ⟨rfl, OldK.of_keep fun b o e => ?_, os, bare⟩
        cases q : H b with
        | none => exact un.keep b o e q (by intro z; exact absurd (show b ∈ ([] : List Addr) from z) (by simp)) (by simp)
        | some u =>
          rcases hO b with z | ⟨ob, xs, z⟩
          · rw [q] at z; cases z
          · have z2 := un.frzs b ob _ z
            obtain ⟨e1, _⟩ := hok b _ z
            obtain ⟨e2, _⟩ := hok' b _ z2
            rw [e] at e1; cases e1
            exact e2
  cases hk : K.lookup a with
  | some o =>
    -- the script is one of the module's own objects
    have e := KX a o hk
    rw [ha] at e
    cases e
    refine core (fun _ => none) (fun _ => .inl rfl) (.inr ⟨_, vs.toArray, _, hk, rfl, rfl, rfl, by rw [List.size_toArray, lenV]; exact hl, by simpa using rv⟩) (fun b u z => by have z' : (none : Option HO) = some u := z; cases z') (fun b z => absurd rfl z) fun z => absurd rfl z
  | none =>
    refine core (fun b => if b = a then some (.frz { cls := .type "list", data := .seq vs.toArray } (.lst (ns.map V.int))) else none) (fun b => ?_) (.inl (.inr ⟨{ cls := .type "list", data := .seq vs.toArray }, if_pos rfl⟩)) (fun b u z => ?_) (fun b z => ?_) fun _ => hk
    · by_cases hb : b = a
      · exact .inr ⟨_, _, if_pos hb⟩
      · exact .inl (if_neg hb)
    · by_cases hb : b = a
      · have z' := (if_pos hb).symm.trans z
        cases z'
        subst hb
        exact ⟨ha, by rw [List.length_map]; exact hl, vs, _, rv, ha⟩
      · have z' := (if_neg hb).symm.trans z
        cases z'
    · by_cases hb : b = a
      · exact hb
      · exact absurd (if_neg hb) z

theorem walk_ofG {l : PySem.W.OpenLaw} {n k : Nat} {q : Program} {loose : List Str} {XP : (Str → Option Value) → Heap → Prop} {YP : World → Heap → Prop} {d : DefRec} {K : Params → PySem.W.Frag} {sp : PySem.W.Frag → Sp} {x : Str}
    (hn : l.most = some n) (hn2 : n ≤ sizeLine) (hdf : d.params.defaults = []) (hr : Room k callerA) (hY : ∀ (w : World) (h : Heap), YP w h → (K w.params).In h)
    (F : ∀ (w : World) (mg : Str → Option Value) (fa : Addr) (h : Heap), (K w.params).In h → h.Ns mainGlobals mg → mg d.name = some (.ref fa) →
      ∃ fd : FuncData, (∀ (s : Shared) (u : Value), BindsTo s fd ⟨[u], []⟩ [(x, u)]) ∧ ∀ base : Heap, (K w.params).In base → base.Ns mainGlobals mg → FnG true (fun A => A.guards = some []) l.prog w (K w.params) mg base CX0 k fa fd [x] (sp (K w.params)))
    (hsp : ∀ (K : PySem.W.Frag) (H : Hp) (a : Addr) (ns : List Int), ns.length ≤ n → (∀ z ∈ ns, Builtin.Int.intBits z ≤ 1048576) → Only H → SqL K H a (ns.map V.int) → sp K [.ref a] H (fun v _ => v = .bl true) fun _ _ _ => False) :
    PySem.W.WalkO q loose XP YP l.row.toRowW d [] (fun f vs => PySem.call f vs) := by
  refine Att.attach_callB hn hdf fun w s₀ s₁ mg mb fa o pm cd doc a vs ns G Y ho hd hcd hmg hobj hints hlen hbits hg => ?_
  have KX := hY w _ Y
  obtain ⟨fd, hb, hF⟩ := F w mg fa _ KX G.T.g hmg
  exact law_callG KX G.T.g G.T.b G.T.builtins G.T.nolimit hg hobj hints (Nat.le_trans hlen hn2) hr hF hb (fun H hO hS => hsp _ H a ns hlen hbits hO hS) fun _ _ _ z => z
/-! ### displays, told that the new object is none of the model's own -/
def tLstL (t : TA) : TE := fun σ H Q => t σ H fun xs H1 => xs.length ≤ sizeLine ∧ ∀ q, H1 q = none → sysModules < q → Q (.ref q) (upd H1 q (.lst xs))
theorem pe_lstL {X : Cx} {es : List Expr} {t : TA} {pos : Pos} (h : PA X es t) : PE X (.List es pos) (tLstL t) := by
  refine ⟨fun pins s σ H Q I hq => ?_⟩
  refine wpAny_List_spliced (thn (h.run pos pins s σ H _ I hq) fun us s1 hh => ?_)
  obtain ⟨xs, H1, I1, r, z, q⟩ := hh
  have big := I1.big
  exact ⟨by rw [← r.length]; exact z, .ref s1.heap.objs.size, _, I1.laid (t' := s1.toks) (o := .lst xs) (fun b u e => Heap.get?_push_of_some _ e) (Nat.le_refl _) ⟨z, us, 0, r, Heap.get?_push_size _ rfl⟩, rfl, q _ (I1.hok.fresh (Nat.le_refl _)) big⟩

/-- data that is shown within k signs -/
structure Sh (k : Nat) (d : PyData) : Prop where
  sh : d.showable = true
  sz : d.shown.length ≤ k
theorem sh_all {k : Nat} : ∀ {ds : List PyData}, (∀ d ∈ ds, Sh k d) → PyData.showableAll ds = true ∧ ((PyData.shownAll ds).map (·.length)).sum ≤ ds.length * k ∧ (PyData.shownAll ds).length = ds.length
  | [], _ => ⟨by simp only [PyData.showableAll], by simp [PyData.shownAll], by simp [PyData.shownAll]⟩
  | d :: r, h => by
    have g := h d List.mem_cons_self
    obtain ⟨h1, h3, h4⟩ := sh_all (ds := r) fun x hx => h x (List.mem_cons_of_mem _ hx)
    have := g.sz
    refine ⟨by simp only [PyData.showableAll, g.sh, h1, Bool.and_true], ?_, by simp only [PyData.shownAll, List.length_cons, h4]⟩
    simp only [PyData.shownAll, List.map_cons, List.sum_cons, List.length_cons]
    rw [Nat.succ_mul]
    omega
theorem sh_tuple {k m : Nat} {ds : List PyData} (h : ∀ d ∈ ds, Sh k d) (hl : ds.length ≤ m) : Sh (m * k + 2 * m + 3) (.tuple ds) := by
  obtain ⟨h1, h3, h4⟩ := sh_all h
  refine ⟨by simp only [PyData.showable, h1], ?_⟩
  have h5 := tupleText_len_le (PyData.shownAll ds)
  simp only [PyData.shown]
  rw [h4] at h5
  have h6 : ds.length * k ≤ m * k := Nat.mul_le_mul_right _ hl
  omega
theorem sh_mono {k m : Nat} {d : PyData} (h : Sh k d) (l : k ≤ m) : Sh m d := ⟨h.sh, Nat.le_trans h.sz l⟩
theorem at_nat {α : Type} {xs : List α} {i : Int} (h0 : 0 ≤ i) (h1 : i < xs.length) : ∃ x, x ∈ xs ∧ atI xs i = some x := by
  have lt : i.toNat < xs.length := by omega
  have z := atI_nat (List.getElem?_eq_getElem lt)
  rw [Int.toNat_of_nonneg h0] at z
  exact ⟨xs[i.toNat], List.getElem_mem lt, z⟩
theorem FeedAt.same {H H' : Hp} {p c : Addr} {ks : List Int} {w n : Int} (s : Same H H') (F : FeedAt H p c ks w n) : FeedAt H' p c ks w n := ⟨s _ _ F.ob, s _ _ F.cs, F.bits, F.len, F.w0, F.w1, F.n0⟩
theorem Save.tup {H H' : Hp} {p c : Addr} {ks : List Int} {w n : Int} (F : FeedAt H p c ks w n) (s : Save p c H H') : Tup H H' := fun a xs e =>
  s a _ e (fun z => by rw [z, F.ob] at e; cases e) (fun z => by rw [z, F.cs] at e; cases e)
theorem Save.wr {H H2 : Hp} {p c D : Addr} {o : HO} (s : Save p c H H2) (n : H D = none) : Save p c H (upd H2 D o) := fun b u e h1 h2 => by
  rw [upd_ne (ne_of_none e n)]
  exact s b u e h1 h2
theorem FeedAt.wr {H : Hp} {p c D : Addr} {o : HO} {ks : List Int} {w n : Int} (F : FeedAt H p c ks w n) (h1 : D ≠ p) (h2 : D ≠ c) : FeedAt (upd H D o) p c ks w n :=
  ⟨by rw [upd_ne (Ne.symm h1)]; exact F.ob, by rw [upd_ne (Ne.symm h2)]; exact F.cs, F.bits, F.len, F.w0, F.w1, F.n0⟩
theorem Save.free {H H' : Hp} {p c x : Addr} (s : Save p c H H') (h : H' x = none) (hp : x ≠ p) (hc : x ≠ c) : H x = none := by
  cases e : H x with
  | none => rfl
  | some o => rw [s x o e hp hc] at h; cases h
theorem TDs.app {H : Hp} : ∀ {vs : List V} {ds : List PyData} {us : List V} {es : List PyData}, TDs H vs ds → TDs H us es → TDs H (vs ++ us) (ds ++ es)
  | _, _, _, _, .nil, t => t
  | _, _, _, _, .cons h r, t => .cons h (TDs.app r t)
def spPick : Sp := fun vs H Q _ => ∃ (p c a : Addr) (xs : List V) (ks : List Int) (w n : Int), vs = [.ref p, .ref a] ∧ FeedAt H p c ks w n ∧ n < 999999 ∧ H a = some (.lst xs) ∧ a ≠ p ∧ a ≠ c ∧ 1 ≤ xs.length ∧ xs.length ≤ 100 ∧
  ∀ (x : V) (ks' : List Int) (H' : Hp), x ∈ xs → FeedAt H' p c ks' w (n + 1) → Save p c H H' → Q x H'
section
variable {P : Program} {w : World} {K : PySem.W.Frag} {mg : Str → Option Value} {base : Heap}
theorem scPi : FnScope ["_law_deck_here", "_law_some"] ["_law_deck_here", "_law_some"] (defScope sPick) := ⟨rfl, rfl, rfl, by decide +kernel, rfl, by decide +kernel, by decide +kernel⟩
theorem ok_pick {f fD : Addr} {fd fdD : FuncData} (F : Fun K "_law_pick" "_law_pick" sPick f fd) (mlen : mg "len" = none)
    (GD : FnOk P w K mg base CX0 1 fD fdD ["_law_deck_here", "_law_count"] spDigit) (mD : mg "_law_draw" = some (.ref fD)) (kD : PySem.W.keepIn K (.ref fD) = true) (bD : Binds K fdD ["_law_deck_here", "_law_count"] []) :
    FnOk P w K mg base CX0 2 f fd ["_law_deck_here", "_law_some"] spPick := by
  refine F.ok scPi (fun vs H Q E h => ?_) (fun cdv A outer s H vs Q E hr h => ?_)
  · obtain ⟨p, c, a, xs, ks, y, n, rfl, _⟩ := h
    rfl
  · obtain ⟨p, c, a, xs, ks, y, n, rfl, FA, hn, ha, np, nc, l0, l1, k⟩ := h
    refine ⟨_, pss_one (ps_ret (pe_ix ix_list (pv 1) (pe_call GD hr (by rfl) mD kD bD .nil pass0 (pa_cons (pv 0) (pa_cons (pe_callB (r := rLenQ K) call_len_seq (by rfl) mlen PySem.boot_len (pa_cons (pv 1) pa_nil)) pa_nil))) (fun _ _ => rfl))), ?_⟩
    refine ⟨_, rfl, _, rfl, _, rfl, a, _, rfl, .inl (SqL.of ha), p, c, ks, y, n, _, rfl, FA, by omega, by omega, by omega, fun i ks' H' i0 i1 FA' sv => ?_⟩
    obtain ⟨x, hx, e⟩ := at_nat (xs := xs) i0 i1
    exact ⟨a, _, i, x, rfl, rfl, SqL.of (sv a _ ha np nc), e, k x ks' H' hx FA' sv⟩
end
end My

-- ===== KN4 =====
set_option Elab.async false
set_option linter.all false
set_option maxRecDepth 100000
set_option maxHeartbeats 4000000
namespace Kd
open PySem L2 PyProof.Rows PySem.Spec PySem.W PySem.P
/-! ### t + u, whatever they hold -/
def rCatA : R2 := fun x y H Q => ∃ a b xs ys, x = .ref a ∧ y = .ref b ∧ H a = some (.tup xs) ∧ H b = some (.tup ys) ∧ xs.length + ys.length ≤ sizeLine ∧ ∀ r H', Same H H' → H' r = some (.tup (xs ++ ys)) → Q (.ref r) H'
theorem op_catA {X : Cx} : OpR X (binaryOp .Add) rCatA := by
  intro pins s σ H x y v u Q I rx ry h
  obtain ⟨a, b, xs, ys, rfl, rfl, ha, hb, hz, q⟩ := h
  cases rx
  cases ry
  obtain ⟨its, r1, p1, _⟩ := I.tuple (SqT.of ha)
  obtain ⟨its2, r2, p2, _⟩ := I.tuple (SqT.of hb)
  by_cases hx : xs = []
  · subst hx
    cases r1
    obtain ⟨⟨cls, dd, data, sl⟩, ho, hc, n, hd⟩ := id p1
    obtain ⟨⟨cls2, dd2, data2, sl2⟩, ho2, hc2, n2, hd2⟩ := id p2
    simp only at hc hd hc2 hd2
    subst hc hd hc2 hd2
    exact concat_meets ⟨_, ho, rfl⟩ ⟨_, ho2, rfl⟩ noFill_tuple_add seq_tuple_add PySem.F.slot_tuple_add PySem.F.entry_tuple_add (PySem.F.args_tuple_add_2 _ _)
      (tuple_addW0 a b _ its2.toArray n n2 dd dd2 sl sl2 (by simp)) ⟨ho, ho2, ⟨.ref b, H, I, rfl, q b H (Same.refl H) hb⟩⟩
  · refine HT.cat_tup p1 p2 (fun z => hx (r1.nil_iff.mp z)) (fun z => ⟨.ref a, H, I, rfl, q a H (Same.refl H) (by rw [r2.nil_iff.mp z, List.append_nil]; exact ha)⟩) (fun z => ?_) (by rw [← r1.length, ← r2.length]; exact hz)
    refine ⟨.ref s.heap.objs.size, _, I.laid (t' := s.toks) (o := .tup (xs ++ ys)) (fun b ob q => Heap.get?_push_of_some _ q) (Nat.le_refl _) ?_, rfl, q _ _ (fun c o e => ?_) upd_same⟩
    · exact ⟨by rw [List.length_append]; exact hz, _, r1.append r2, IsTup.new _ _⟩
    · rw [upd_ne (ne_of_none e (I.hok.fresh (Nat.le_refl _)))]
      exact e
end Kd

-- ===== K13N =====
set_option Elab.async false
set_option linter.all false
set_option maxRecDepth 100000
set_option maxHeartbeats 4000000
namespace My
open PySem L2 PyProof.Rows PySem.Spec Kd
/-! ### histories as mathematics -/
abbrev Act := Int × Str × Str
inductive Th where
  | beg
  | did (n : Int) (a : Act)
  | com (n : Int)
  | abo (n : Int)
def thD : Th → PyData
  | .beg => .tuple [.str "begin"]
  | .did n a => .tuple [.str "did", .int n, .int a.1, .str a.2.1, .str a.2.2]
  | .com n => .tuple [.str "commit", .int n]
  | .abo n => .tuple [.str "abort", .int n]
def histD (ths : List Th) : PyData := .tuple (ths.map thD)
/-- which transactions are open -/
def opStep (S : List Bool) : Th → List Bool
  | .beg => S ++ [true]
  | .did _ _ => S
  | .com n => S.set n.toNat false
  | .abo n => S.set n.toNat false
def opRun (ths : List Th) : List Bool := ths.foldl opStep []
def EvIn (ss : List (List Stp)) (e : Str × Str) : Prop := ∃ st ∈ ss, ∃ x ∈ st, evOf x = e
def EvOf (sss : List (List (List Stp))) (a : Act) : Prop := 0 ≤ a.1 ∧ ∃ ss, sss[a.1.toNat]? = some ss ∧ EvIn ss a.2
/-- what may come next -/
def Fits (sss : List (List (List Stp))) (S : List Bool) : Th → Prop
  | .beg => True
  | .did n a => 0 ≤ n ∧ S[n.toNat]? = some true ∧ EvOf sss a
  | .com n => 0 ≤ n ∧ S[n.toNat]? = some true
  | .abo n => 0 ≤ n ∧ S[n.toNat]? = some true
def AllFit (sss : List (List (List Stp))) (ths : List Th) : Prop := ∀ i th, ths[i]? = some th → Fits sss (opRun (ths.take i)) th
theorem run_snoc (ths : List Th) (th : Th) : opRun (ths ++ [th]) = opStep (opRun ths) th := by
  unfold opRun
  rw [List.foldl_append]
  rfl
theorem run_next {ths : List Th} {i : Nat} {th : Th} (h : ths[i]? = some th) : opRun (ths.take (i + 1)) = opStep (opRun (ths.take i)) th := by
  rw [List.take_succ, h, Option.toList_some, run_snoc]
theorem fit_nil {sss : List (List (List Stp))} : AllFit sss [] := fun i th h => by simp at h
theorem fit_snoc {sss : List (List (List Stp))} {ths : List Th} {th : Th} (h : AllFit sss ths) (f : Fits sss (opRun ths) th) : AllFit sss (ths ++ [th]) := fun i x e => by
  rcases Nat.lt_or_ge i ths.length with lt | ge
  · rw [List.getElem?_append_left lt] at e
    rw [List.take_append_of_le_length (Nat.le_of_lt lt)]
    exact h i x e
  · rw [List.getElem?_append_right ge] at e
    have z : i - ths.length = 0 := by
      cases q : i - ths.length with
      | zero => rfl
      | succ k => rw [q] at e; simp at e
    rw [z] at e
    have ei : i = ths.length := by omega
    rw [ei, List.take_append_of_le_length (Nat.le_refl _), List.take_length]
    rw [← Option.some.inj e]
    exact f
structure HInv (S : List Bool) (os cs : List Int) : Prop where
  nd : os.Nodup
  op : ∀ z ∈ os, 0 ≤ z ∧ z < S.length ∧ S[z.toNat]? = some true
  cl : cs.length = S.length
  ol : os.length ≤ cs.length
  few : cs.length ≤ 10
theorem HInv.beg {S : List Bool} {os cs : List Int} (h : HInv S os cs) (lt : cs.length < 10) : HInv (opStep S .beg) (os ++ [(cs.length : Int)]) (cs ++ [0]) := by
  have e : opStep S .beg = S ++ [true] := rfl
  rw [e]
  refine ⟨List.nodup_append.mpr ⟨h.nd, by simp, fun a ha b hb e => ?_⟩, fun z m => ?_, ?_, ?_, ?_⟩
  · rw [List.mem_singleton.mp hb] at e
    have := (h.op a ha).2.1
    have := h.cl
    omega
  · rw [List.length_append, List.length_singleton]
    rcases List.mem_append.mp m with m | m
    · obtain ⟨z0, z1, z2⟩ := h.op z m
      exact ⟨z0, by omega, by rw [List.getElem?_append_left (by omega)]; exact z2⟩
    · rw [List.mem_singleton.mp m]
      refine ⟨by omega, by rw [h.cl]; omega, ?_⟩
      rw [Int.toNat_natCast, h.cl, List.getElem?_append_right (Nat.le_refl _), Nat.sub_self]
      rfl
  · rw [List.length_append, List.length_append, h.cl]
    rfl
  · rw [List.length_append, List.length_append]
    have := h.ol
    simp
    omega
  · rw [List.length_append]
    exact lt
theorem HInv.did {S : List Bool} {os cs cs' : List Int} {n : Int} {a : Act} (h : HInv S os cs) (l : cs'.length = cs.length) : HInv (opStep S (.did n a)) os cs' :=
  ⟨h.nd, h.op, by rw [l]; exact h.cl, by rw [l]; exact h.ol, by rw [l]; exact h.few⟩
theorem HInv.fin {S : List Bool} {os cs : List Int} {n : Int} (h : HInv S os cs) (hn : 0 ≤ n) : HInv (S.set n.toNat false) (os.erase n) cs := by
  refine ⟨h.nd.erase _, fun z m => ?_, by rw [List.length_set]; exact h.cl, Nat.le_trans (List.length_erase_le) h.ol, h.few⟩
  obtain ⟨ne, m⟩ := (h.nd.mem_erase_iff).mp m
  obtain ⟨z0, z1, z2⟩ := h.op z m
  refine ⟨z0, by rw [List.length_set]; exact z1, ?_⟩
  rw [List.getElem?_set_ne (by omega)]
  exact z2
end My

-- ===== K13S0 =====
set_option Elab.async false
set_option linter.all false
set_option maxRecDepth 100000
set_option maxHeartbeats 4000000
namespace My
open PySem L2 PyProof.Rows PySem.Spec Kd
/-! ### written data -/
def tDat (d : PyData) : TE := fun _ H Q => ∀ r H', Same H H' → TD H' r d → Q r H'
def tDats (ds : List PyData) : TA := fun _ H Q => ∀ rs H', Same H H' → TDs H' rs ds → Q rs H'
section
variable {X : Cx} {e : Expr} {es : List Expr} {d : PyData} {ds : List PyData} {pos : Pos}
theorem ped_int {i : Int} {j : Nat} : PE X (.Constant (.int i) j pos) (tDat (.int i)) := ⟨fun pins s σ H Q I h => (pe_int (X := X)).run pins s σ H Q I (h _ H (Same.refl H) (.int i))⟩
theorem ped_str {x : Str} {j : Nat} : PE X (.Constant (.str x) j pos) (tDat (.str x)) := ⟨fun pins s σ H Q I h => (pe_str (X := X)).run pins s σ H Q I (h _ H (Same.refl H) (.str x))⟩
theorem pad_nil : PA X [] (tDats []) := ⟨fun pos pins s σ H Q I h => (pa_nil (X := X)).run pos pins s σ H Q I (h _ H (Same.refl H) .nil)⟩
theorem pad_cons (he : PE X e (tDat d)) (hr : PA X es (tDats ds)) (hs : starEach (e :: es) X.env = (false, eval e X.env) :: starEach es X.env := by rfl) : PA X (e :: es) (tDats (d :: ds)) :=
  ⟨fun pos pins s σ H Q I h => (pa_cons he hr hs).run pos pins s σ H Q I fun x H1 s1 t1 xs H2 s2 t2 => h _ H2 (s1.trans s2) (.cons (t1.to (Tup.of s2)) t2)⟩
theorem ped_tup {x1} (h : PA X es (tDats ds)) (hl : ds.length ≤ 1000 := by decide) : PE X (.Tuple es x1 pos) (tDat (.tuple ds)) :=
  ⟨fun pins s σ H Q I q => (pe_tup h).run pins s σ H Q I fun xs H1 s1 t1 => ⟨small_len (m := 1000) (by rw [t1.len]; exact hl), fun p hp => q _ _ (s1.trans (same_new hp)) (.tup upd_same (t1.to (Tup.new hp)))⟩⟩
end
/-! ### the known kinds -/
instance (x y : Str × Str) : Decidable (evLt x y) := by unfold evLt; infer_instance
instance (z : Str) : Decidable (Wrd z) := by unfold Wrd; infer_instance
theorem kok_of (ss : List (List Stp)) (es : List (Str × Str)) (h : 1 ≤ ss.length ∧ ss.length ≤ 40 ∧ es.length ≤ 24 ∧ ∀ st ∈ ss, (∀ x ∈ st, Wrd x.1 ∧ Wrd x.2.1 ∧ 0 ≤ x.2.2 ∧ x.2.2 < (ss.length : Int) ∧ evOf x ∈ es) ∧ (st.map evOf).Pairwise evLt ∧ st.length ≤ 24) : KOk ss :=
  ⟨h.1, h.2.1, fun st m => let ⟨a, b, c⟩ := h.2.2.2 st m; ⟨fun x mx => let ⟨w1, w2, l, h', _⟩ := a x mx; ⟨w1, w2, l, h'⟩, b, c⟩, es, h.2.2.1, fun st m x mx => ((h.2.2.2 st m).1 x mx).2.2.2.2⟩
def kLet1 : List (List Stp) := [[("read", "a", 0), ("seta", "ok", 0), ("setb", "ok", 1)]]
def kLet2 : List (List Stp) := [[("read", "b", 1), ("seta", "ok", 0), ("setb", "ok", 1)]]
def kPur : List (List Stp) := [[("put", "ok", 1), ("take", "no", 0)], [("put", "ok", 2), ("take", "ok", 0)], [("take", "ok", 1)]]
def kLin1 : List (List Stp) := [[("puta", "ok", 1), ("putb", "ok", 2)], [("puta", "ok", 3), ("putb", "ok", 4), ("take", "a", 0)]]
def kLin2 : List (List Stp) := [[("puta", "ok", 5), ("putb", "ok", 6), ("take", "b", 0)], [("take", "a", 1)], [("take", "a", 2)]]
def kLin3 : List (List Stp) := [[("take", "b", 1)], [("take", "b", 2)]]
def kSt (i : Nat) : List Stp := (if i < 39 then [((("add" : Str), ("ok" : Str), (i : Int) + 1) : Stp)] else []) ++ (if 0 < i then [((("sub" : Str), ("ok" : Str), (i : Int) - 1) : Stp)] else [])
def kSteps : List (List Stp) := (List.range 40).map kSt
theorem kok_let : KOk (kLet1 ++ kLet2) := kok_of _ [("read", "a"), ("read", "b"), ("seta", "ok"), ("setb", "ok")] (by decide +kernel)
theorem kok_pur : KOk kPur := kok_of _ [("put", "ok"), ("take", "no"), ("take", "ok")] (by decide +kernel)
theorem kok_lin : KOk ((kLin1 ++ kLin2) ++ kLin3) := kok_of _ [("puta", "ok"), ("putb", "ok"), ("take", "a"), ("take", "b")] (by decide +kernel)
theorem kok_steps : KOk kSteps := kok_of _ [("add", "ok"), ("sub", "ok")] (by decide +kernel)
/-! ### menus -/
abbrev Ev := Str × Str
def evD (e : Ev) : PyData := .tuple [.str e.1, .str e.2]
def MN1 : List Ev := [("begin", "0"), ("commit", "a"), ("did", "ok"), ("x", "y")]
def MN2 : List Ev := [("get", "a"), ("get", "b"), ("see", "a")]
structure MOk (es : List Ev) : Prop where
  asc : es.Pairwise evLt
  wr : ∀ e ∈ es, Wrd e.1 ∧ Wrd e.2
  few : es.length ≤ 4
theorem mok1 : MOk MN1 := ⟨by decide +kernel, by decide +kernel, by decide +kernel⟩
theorem mok2 : MOk MN2 := ⟨by decide +kernel, by decide +kernel, by decide +kernel⟩
theorem ev_of {H : Hp} {v : V} {e : Ev} (h : TD H v (evD e)) : ∃ t, v = .ref t ∧ H t = some (.tup [.str e.1, .str e.2]) := by
  obtain ⟨t, xs, rfl, ht, hx⟩ := TD.ref_of h
  refine ⟨t, rfl, ?_⟩
  cases hx with
  | cons h1 t1 =>
    cases h1
    cases t1 with
    | cons h2 t2 =>
      cases h2
      cases t2
      exact ht
theorem ev_new {H : Hp} {t : Addr} {e : Ev} (h : H t = some (.tup [.str e.1, .str e.2])) : TD H (.ref t) (evD e) := .tup h (.cons (.str _) (.cons (.str _) .nil))
theorem TDs.at_ {H : Hp} {α : Type} {f : α → PyData} {vs : List V} {es : List α} (h : TDs H vs (es.map f)) {i : Nat} {v : V} (e : vs[i]? = some v) : ∃ x, es[i]? = some x ∧ TD H v (f x) := by
  obtain ⟨d, ed, td⟩ := h.get e
  rw [List.getElem?_map] at ed
  obtain ⟨x, ex, rfl⟩ := Option.map_eq_some_iff.mp ed
  exact ⟨x, ex, td⟩
theorem TDs.lenm {H : Hp} {α : Type} {f : α → PyData} {vs : List V} {es : List α} (h : TDs H vs (es.map f)) : vs.length = es.length := by
  have := h.len
  rwa [List.length_map] at this
end My

-- ===== K13S =====
set_option Elab.async false
set_option linter.all false
set_option maxRecDepth 100000
set_option maxHeartbeats 4000000
namespace My
open PySem L2 PyProof.Rows PySem.Spec Kd
theorem rep01 {b : Bool} {l : Addr} {xs : List V} {H : Hp} {Q : VK} (hl : H l = some (.lst xs)) (hx : xs.length ≤ 1000) (q : ∀ p, H p = none → Q (.ref p) (upd H p (.lst (if b = true then xs else [])))) : rRep (.ref l) (.int (if b = true then 1 else 0)) H Q := by
  cases b with
  | true => exact ⟨l, 1, xs, rfl, rfl, hl, by decide, by decide, small_len (m := 1000) (by show xs.length * 1 ≤ _; omega), fun p hp => by
      have e : (List.replicate (1 : Int).toNat xs).flatten = xs := by simp
      rw [e]
      exact q p hp⟩
  | false => exact ⟨l, 0, xs, rfl, rfl, hl, by decide, by decide, small_len (m := 1000) (by show xs.length * 0 ≤ _; omega), fun p hp => q p hp⟩
theorem kst_new {H : Hp} {e1 e2 r : Addr} {i : Nat} (hi : i < 40) (c1 : H e1 = some (.tup [.str "add", .str "ok", .int (0 + (i : Int) + 1)])) (c2 : H e2 = some (.tup [.str "sub", .str "ok", .int (0 + (i : Int) - 1)]))
    (hr : H r = some (.tup ((if decide (0 + (i : Int) < 39) = true then [V.ref e1] else []) ++ (if decide (0 + (i : Int) > 0) = true then [V.ref e2] else [])))) : TD H (.ref r) (stateD (kSt i)) := by
  rw [Int.zero_add] at c1 c2 hr
  have g1 : decide ((i : Int) < 39) = decide (i < 39) := decide_eq_decide.mpr (by omega)
  have g2 : decide ((i : Int) > 0) = decide (0 < i) := decide_eq_decide.mpr (by omega)
  rw [g1, g2] at hr
  refine .tup hr ?_
  have u1 := TD.tup c1 (.cons (.str _) (.cons (.str _) (.cons (.int _) .nil)))
  have u2 := TD.tup c2 (.cons (.str _) (.cons (.str _) (.cons (.int _) .nil)))
  unfold kSt
  by_cases h1 : i < 39 <;> by_cases h2 : 0 < i
  · rw [decide_eq_true h1, decide_eq_true h2, if_pos h1, if_pos h2]
    exact .cons u1 (.cons u2 .nil)
  · rw [decide_eq_true h1, decide_eq_false h2, if_pos h1, if_neg h2]
    exact .cons u1 .nil
  · rw [decide_eq_false h1, decide_eq_true h2, if_neg h1, if_pos h2]
    exact .cons u2 .nil
  · omega
abbrev rTupO (K : PySem.W.Frag) : List V → Hp → VK → Prop := fun xs H Q => ∃ p ys, xs = [.ref p] ∧ ((SqL K H p ys ∧ ∀ l : Addr, H l = none → Q (.ref l) (upd H l (.tup ys))) ∨ SqT K H p ys ∧ Q (.ref p) H)
def spStates' : Sp := fun vs H Q _ => ∃ (p c : Addr) (ks : List Int) (w n : Int), vs = [.ref p] ∧ FeedAt H p c ks w n ∧ n < 900000 ∧
  ∀ (a : Addr) (ss : List (List Stp)) (ks' : List Int) (n' : Int) (H' : Hp), TD H' (.ref a) (statesD ss) → KOk ss → FeedAt H' p c ks' w n' → n' ≤ n + 100 → Save p c H H' → Q (.ref a) H'
section
variable {P : Program} {w : World} {K : PySem.W.Frag} {mg : Str → Option Value} {base : Heap}
abbrev nSt' : List Str := ["_law_deck_here", "_law_letter", "_law_purse", "_law_line", "_law_steps", "_law_known", "_law_way", "_law_menus", "_law_some", "_law_many", "_law_found", "_law_state", "_law_k", "_law_event"]
theorem scSt' : FnScope nSt' ["_law_deck_here"] (defScope sLStates) := ⟨rfl, rfl, rfl, by decide +kernel, rfl, by decide +kernel, by decide +kernel⟩
theorem ok_lstates {f fP fD : Addr} {fd fdP fdD : FuncData} (F : Fun K "_law_states" "_law_states" sLStates f fd) (mtup : mg "tuple" = none) (mint : mg "int" = none) (mrange : mg "range" = none)
    (GP : FnOk P w K mg base CX0 2 fP fdP ["_law_deck_here", "_law_some"] spPick) (mP : mg "_law_pick" = some (.ref fP)) (kP : PySem.W.keepIn K (.ref fP) = true) (bP : Binds K fdP ["_law_deck_here", "_law_some"] [])
    (GD : FnOk P w K mg base CX0 1 fD fdD ["_law_deck_here", "_law_count"] spDigit) (mD : mg "_law_draw" = some (.ref fD)) (kD : PySem.W.keepIn K (.ref fD) = true) (bD : Binds K fdD ["_law_deck_here", "_law_count"] []) :
    FnOk P w K mg base CX0 3 f fd ["_law_deck_here"] spStates' := by
  refine F.ok scSt' (fun vs H Q E h => ?_) (fun cdv A outer s H vs Q E hr h => ?_)
  · obtain ⟨p, c, ks, y, n, rfl, _⟩ := h
    rfl
  · obtain ⟨p, c, ks, y, n, rfl, FA, hn, k⟩ := h
    have hu := hr.units
    have hr1 := hr.mono (show 1 ≤ 2 by omega)
    refine ⟨_, pss_cons (ps_set (i := 1) scSt'.nd rfl (Or.inl rfl) (ped_tup (pad_cons (ped_tup (pad_cons (ped_tup (pad_cons ped_str (pad_cons ped_str (pad_cons ped_int pad_nil)))) (pad_cons (ped_tup (pad_cons ped_str (pad_cons ped_str (pad_cons ped_int pad_nil)))) (pad_cons (ped_tup (pad_cons ped_str (pad_cons ped_str (pad_cons ped_int pad_nil)))) pad_nil)))) pad_nil)))
      (pss_cons (ps_set (i := 1) scSt'.nd rfl (Or.inl rfl) (pe_op op_catA (pv 1) (ped_tup (pad_cons (ped_tup (pad_cons (ped_tup (pad_cons ped_str (pad_cons ped_str (pad_cons ped_int pad_nil)))) (pad_cons (ped_tup (pad_cons ped_str (pad_cons ped_str (pad_cons ped_int pad_nil)))) (pad_cons (ped_tup (pad_cons ped_str (pad_cons ped_str (pad_cons ped_int pad_nil)))) pad_nil)))) pad_nil))))
      (pss_cons (ps_set (i := 2) scSt'.nd rfl (Or.inl rfl) (ped_tup (pad_cons (ped_tup (pad_cons (ped_tup (pad_cons ped_str (pad_cons ped_str (pad_cons ped_int pad_nil)))) (pad_cons (ped_tup (pad_cons ped_str (pad_cons ped_str (pad_cons ped_int pad_nil)))) pad_nil))) (pad_cons (ped_tup (pad_cons (ped_tup (pad_cons ped_str (pad_cons ped_str (pad_cons ped_int pad_nil)))) (pad_cons (ped_tup (pad_cons ped_str (pad_cons ped_str (pad_cons ped_int pad_nil)))) pad_nil))) (pad_cons (ped_tup (pad_cons (ped_tup (pad_cons ped_str (pad_cons ped_str (pad_cons ped_int pad_nil)))) pad_nil)) pad_nil)))))
      (pss_cons (ps_set (i := 3) scSt'.nd rfl (Or.inl rfl) (ped_tup (pad_cons (ped_tup (pad_cons (ped_tup (pad_cons ped_str (pad_cons ped_str (pad_cons ped_int pad_nil)))) (pad_cons (ped_tup (pad_cons ped_str (pad_cons ped_str (pad_cons ped_int pad_nil)))) pad_nil))) (pad_cons (ped_tup (pad_cons (ped_tup (pad_cons ped_str (pad_cons ped_str (pad_cons ped_int pad_nil)))) (pad_cons (ped_tup (pad_cons ped_str (pad_cons ped_str (pad_cons ped_int pad_nil)))) (pad_cons (ped_tup (pad_cons ped_str (pad_cons ped_str (pad_cons ped_int pad_nil)))) pad_nil)))) pad_nil))))
      (pss_cons (ps_set (i := 3) scSt'.nd rfl (Or.inl rfl) (pe_op op_catA (pv 3) (ped_tup (pad_cons (ped_tup (pad_cons (ped_tup (pad_cons ped_str (pad_cons ped_str (pad_cons ped_int pad_nil)))) (pad_cons (ped_tup (pad_cons ped_str (pad_cons ped_str (pad_cons ped_int pad_nil)))) (pad_cons (ped_tup (pad_cons ped_str (pad_cons ped_str (pad_cons ped_int pad_nil)))) pad_nil)))) (pad_cons (ped_tup (pad_cons (ped_tup (pad_cons ped_str (pad_cons ped_str (pad_cons ped_int pad_nil)))) pad_nil)) (pad_cons (ped_tup (pad_cons (ped_tup (pad_cons ped_str (pad_cons ped_str (pad_cons ped_int pad_nil)))) pad_nil)) pad_nil))))))
      (pss_cons (ps_set (i := 3) scSt'.nd rfl (Or.inl rfl) (pe_op op_catA (pv 3) (ped_tup (pad_cons (ped_tup (pad_cons (ped_tup (pad_cons ped_str (pad_cons ped_str (pad_cons ped_int pad_nil)))) pad_nil)) (pad_cons (ped_tup (pad_cons (ped_tup (pad_cons ped_str (pad_cons ped_str (pad_cons ped_int pad_nil)))) pad_nil)) pad_nil)))))
      (pss_cons (ps_setLc (i := 4) (own := [("_law_k", 12)]) (g := gName 12) (tt := tYes) rfl scSt'.nd rfl rfl (sw_true rfl rfl rfl (by decide +kernel)) (pi_range1 (by rfl) mrange (pa_cons pe_int pa_nil)) (blkOk_by (N := nSt') (sc := defScope sLStates) (by decide +kernel))
          (fun _ _ _ _ _ => pg_name (i := 12) scSt'.nd rfl (Or.inl rfl)) (fun _ _ _ _ _ => pts_nil) (fun _ _ _ _ _ => pe_callTy (T := "tuple") (r := rTupO K) call_tuple_of (by rfl) mtup (by decide +kernel) (pa_cons (pe_op op_cat
            (pe_op op_rep (pe_lst (pa_cons (pe_tup (pa_cons pe_str (pa_cons pe_str (pa_cons (pe_op op_add (pv 12) pe_int) pa_nil)))) pa_nil)) (pe_callTy (T := "int") call_int1 (by rfl) mint (by decide +kernel) (pa_cons (pe_cmpR op_lt (pv 12) pe_int (nomark _)) pa_nil)))
            (pe_op op_rep (pe_lst (pa_cons (pe_tup (pa_cons pe_str (pa_cons pe_str (pa_cons (pe_op op_sub (pv 12) pe_int) pa_nil)))) pa_nil)) (pe_callTy (T := "int") call_int1 (by rfl) mint (by decide +kernel) (pa_cons (pe_cmpR op_gt (pv 12) pe_int (nomark _)) pa_nil)))) pa_nil)))
      (pss_cons (ps_set (i := 5) scSt'.nd rfl (Or.inl rfl) (pe_lst (pa_cons (pv 1) (pa_cons (pv 2) (pa_cons (pv 3) (pa_cons (pe_callTy call_tuple_of (by rfl) mtup (by decide +kernel) (pa_cons (pv 4) pa_nil)) pa_nil))))))
      (pss_cons (ps_set (i := 6) scSt'.nd rfl (Or.inl rfl) (pe_call GD hr1 (by rfl) mD kD bD .nil pass0 (pa_cons (pv 0) (pa_cons pe_int pa_nil))))
      (pss_cons (ps_if (pt_cmpR op_lt (pv 6) pe_int (nomark _)) (pss_one (ps_ret (pe_ix (r := rIxL K) ix_list (pv 5) (pv 6) (fun _ _ => rfl)))) pss_nil)
      (pss_cons (ps_set (i := 7) scSt'.nd rfl (Or.inl rfl) (pe_lst (pa_cons (pe_lst (pad_cons (ped_tup (pad_cons ped_str (pad_cons ped_str pad_nil))) (pad_cons (ped_tup (pad_cons ped_str (pad_cons ped_str pad_nil))) (pad_cons (ped_tup (pad_cons ped_str (pad_cons ped_str pad_nil))) (pad_cons (ped_tup (pad_cons ped_str (pad_cons ped_str pad_nil))) pad_nil))))) (pa_cons (pe_lst (pad_cons (ped_tup (pad_cons ped_str (pad_cons ped_str pad_nil))) (pad_cons (ped_tup (pad_cons ped_str (pad_cons ped_str pad_nil))) (pad_cons (ped_tup (pad_cons ped_str (pad_cons ped_str pad_nil))) pad_nil)))) pa_nil))))
      (pss_cons (ps_asg (pe_tup (pa_cons (pe_call GP hr (by rfl) mP kP bP .nil pass0 (pa_cons (pv 0) (pa_cons (pv 7) pa_nil))) (pa_cons (pe_op op_add pe_int (pe_call GD hr1 (by rfl) mD kD bD .nil pass0 (pa_cons (pv 0) (pa_cons pe_int pa_nil)))) pa_nil)))
          (pg_tup (by rfl) (pgs_cons (pg_name (i := 8) scSt'.nd rfl (Or.inl rfl)) (pgs_cons (pg_name (i := 9) scSt'.nd rfl (Or.inr rfl)) pgs_nil))))
      (pss_cons (ps_set (i := 10) scSt'.nd rfl (Or.inl rfl) (pe_lst pa_nil))
      (pss_cons (ps_for PassesOwn.never rfl (pi_range1 (by rfl) mrange (pa_cons (pv 9) pa_nil)) (pg_name (i := 11) scSt'.nd rfl (Or.inl rfl))
        (pss_one (ps_expr (pe_bm PySem.F.plainAttrs_list PySem.F.slot_list_append PySem.F.type_list_append mt_append (pv 10) (pa_cons (pe_callTy call_tuple_of (by rfl) mtup (by decide +kernel) (pa_cons
          (pe_lc (own := [("_law_event", 13)]) (g := gName 13) rfl scSt'.nd (pi_list (pv 8)) (blkOk_by (N := nSt') (sc := defScope sLStates) (by decide +kernel))
            (fun _ _ _ _ _ => pg_name (i := 13) scSt'.nd rfl (Or.inl rfl)) (fun _ _ _ _ _ => pts_one (pt_cmpR op_gt (pe_call GD hr1 (by rfl) mD kD bD .nil pass0 (pa_cons (pv 0) (pa_cons pe_int pa_nil))) pe_int (nomark _)))
            (fun _ _ _ _ _ => pe_op op_catA (pv 13) (pe_tup (pa_cons (pe_call GD hr1 (by rfl) mD kD bD .nil pass0 (pa_cons (pv 0) (pa_cons (pv 9) pa_nil))) pa_nil)))) pa_nil)) pa_nil)))))
      (pss_one (ps_ret (pe_callTy call_tuple_of (by rfl) mtup (by decide +kernel) (pa_cons (pv 10) pa_nil))))))))))))))))), ?_⟩
    have n0 := FA.n0
    -- the cell
    refine fun v1 H1 s1 t1 => ?_
    obtain ⟨a1, x1, rfl, ha1, tx1⟩ := t1.ref_of
    refine ⟨_, rfl, fun v2 H2 s2 t2 => ?_⟩
    obtain ⟨b1, y1, rfl, hb1, ty1⟩ := t2.ref_of
    refine ⟨a1, b1, x1, y1, rfl, rfl, s2 _ _ ha1, hb1, small_len (m := 10) (by rw [tx1.len, ty1.len]; decide), fun A1 H3 s3 hA1 => ?_⟩
    have tA : TD H3 (.ref A1) (statesD (kLet1 ++ kLet2)) := .tup hA1 (TDs.app (tx1.to (Tup.of (s2.trans s3))) (ty1.to (Tup.of s3)))
    have q3 : Same H H3 := s1.trans (s2.trans s3)
    clear tx1 ty1 hA1 ha1 hb1 t1 t2 s1 s2 s3
    -- the purse
    refine fun v4 H4 s4 t4 => ?_
    obtain ⟨A2, x4, rfl, ha4, tx4⟩ := t4.ref_of
    have tB : TD H4 (.ref A2) (statesD kPur) := t4
    clear tx4 ha4 t4
    -- the row
    refine fun v5 H5 s5 t5 => ?_
    obtain ⟨a5, x5, rfl, ha5, tx5⟩ := t5.ref_of
    refine ⟨_, rfl, fun v6 H6 s6 t6 => ?_⟩
    obtain ⟨b6, y6, rfl, hb6, ty6⟩ := t6.ref_of
    refine ⟨a5, b6, x5, y6, rfl, rfl, s6 _ _ ha5, hb6, small_len (m := 10) (by rw [tx5.len, ty6.len]; decide), fun A7 H7 s7 hA7 => ?_⟩
    have tx7 := TDs.app (tx5.to (Tup.of (s6.trans s7))) (ty6.to (Tup.of s7))
    clear tx5 ty6 ha5 hb6 t5 t6
    refine ⟨_, rfl, fun v8 H8 s8 t8 => ?_⟩
    obtain ⟨b8, y8, rfl, hb8, ty8⟩ := t8.ref_of
    refine ⟨A7, b8, _, y8, rfl, rfl, s8 _ _ hA7, hb8, small_len (m := 10) (by rw [tx7.len, ty8.len]; decide), fun A3 H9 s9 hA3 => ?_⟩
    have tC_ : TD H9 (.ref A3) (statesD ((kLin1 ++ kLin2) ++ kLin3)) := .tup hA3 (TDs.app (tx7.to (Tup.of (s8.trans s9))) (ty8.to (Tup.of s9)))
    have q39 : Same H3 H9 := s4.trans (s5.trans (s6.trans (s7.trans (s8.trans s9))))
    have tA := tA.to (Tup.of q39)
    have tB := tB.to (Tup.of (s5.trans (s6.trans (s7.trans (s8.trans s9)))))
    have q9 := q3.trans q39
    clear tx7 ty8 hA7 hA3 hb8 t8 s4 s5 s6 s7 s8 s9 q39 q3
    -- the counter
    refine ⟨40, rfl, by decide, by decide, fun D hD => lc_range (lo := 0) (n := 40) (fun i H' => ∃ vs, H' D = some (.lst vs) ∧ TDs H' vs (((List.range i).map kSt).map stateD) ∧ Same H9 H') ⟨[], upd_same, .nil, same_new hD⟩ (fun i Ha hi ⟨vs, dA, tv, sA⟩ => ?_) fun Ha ⟨vs, dA, tv, sA⟩ => ?_⟩
    · have lv := tv.lenm
      rw [List.length_map, List.length_range] at lv
      refine ⟨rfl, _, rfl, _, _, rfl, rfl, by show 3 ≤ sizeLine; decide, fun e1 he1 => ⟨by show 1 ≤ sizeLine; decide, fun l1 hl1 => ?_⟩⟩
      have sB := (same_new (o := .tup [V.str "add", .str "ok", .int (0 + (i : Int) + 1)]) he1).trans (same_new (o := .lst [V.ref e1]) hl1)
      have at1 : (upd (upd Ha e1 (.tup [V.str "add", .str "ok", .int (0 + (i : Int) + 1)])) l1 (.lst [V.ref e1])) e1 = some (.tup [V.str "add", .str "ok", .int (0 + (i : Int) + 1)]) := same_new hl1 _ _ upd_same
      have al1 : (upd (upd Ha e1 (.tup [V.str "add", .str "ok", .int (0 + (i : Int) + 1)])) l1 (.lst [V.ref e1])) l1 = some (.lst [V.ref e1]) := upd_same
      generalize upd (upd Ha e1 (.tup [V.str "add", .str "ok", .int (0 + (i : Int) + 1)])) l1 (.lst [V.ref e1]) = Hb at sB at1 al1 ⊢
      refine ⟨_, rfl, _, _, rfl, rfl, .inr ⟨_, rfl, rep01 al1 (by simp) fun p1 hp1 => ?_⟩⟩
      have sC := same_new (o := .lst (if decide (0 + (i : Int) < 39) = true then [V.ref e1] else [])) hp1
      have ap1 : (upd Hb p1 (.lst (if decide (0 + (i : Int) < 39) = true then [V.ref e1] else []))) p1 = some (.lst (if decide (0 + (i : Int) < 39) = true then [V.ref e1] else [])) := upd_same
      generalize upd Hb p1 (.lst (if decide (0 + (i : Int) < 39) = true then [V.ref e1] else [])) = Hc at sC ap1 ⊢
      refine ⟨_, rfl, _, _, rfl, rfl, by show 3 ≤ sizeLine; decide, fun e2 he2 => ⟨by show 1 ≤ sizeLine; decide, fun l2 hl2 => ?_⟩⟩
      have sD := (same_new (o := .tup [V.str "sub", .str "ok", .int (0 + (i : Int) - 1)]) he2).trans (same_new (o := .lst [V.ref e2]) hl2)
      have at2 : (upd (upd Hc e2 (.tup [V.str "sub", .str "ok", .int (0 + (i : Int) - 1)])) l2 (.lst [V.ref e2])) e2 = some (.tup [V.str "sub", .str "ok", .int (0 + (i : Int) - 1)]) := same_new hl2 _ _ upd_same
      have al2 : (upd (upd Hc e2 (.tup [V.str "sub", .str "ok", .int (0 + (i : Int) - 1)])) l2 (.lst [V.ref e2])) l2 = some (.lst [V.ref e2]) := upd_same
      generalize upd (upd Hc e2 (.tup [V.str "sub", .str "ok", .int (0 + (i : Int) - 1)])) l2 (.lst [V.ref e2]) = Hd at sD at2 al2 ⊢
      refine ⟨_, rfl, _, _, rfl, rfl, .inr ⟨_, rfl, rep01 al2 (by simp) fun p2 hp2 => ?_⟩⟩
      have sE := same_new (o := .lst (if decide (0 + (i : Int) > 0) = true then [V.ref e2] else [])) hp2
      have l12 : ∀ (b1 b2 : Bool), (if b1 = true then [V.ref e1] else []).length + (if b2 = true then [V.ref e2] else []).length ≤ sizeLine := fun b1 b2 => small_len (m := 2) (by cases b1 <;> cases b2 <;> simp)
      refine ⟨p1, p2, _, _, rfl, rfl, sE _ _ (sD _ _ ap1), upd_same, l12 _ _, fun q hq => ?_⟩
      have sF := same_new (o := .lst ((if decide (0 + (i : Int) < 39) = true then [V.ref e1] else []) ++ (if decide (0 + (i : Int) > 0) = true then [V.ref e2] else []))) hq
      refine ⟨q, _, rfl, .inl ⟨SqL.of upd_same, fun r hr3 => ?_⟩⟩
      have sG := same_new (o := .tup ((if decide (0 + (i : Int) < 39) = true then [V.ref e1] else []) ++ (if decide (0 + (i : Int) > 0) = true then [V.ref e2] else []))) hr3
      have sBG := (((sB.trans sC).trans (sD.trans sE)).trans sF).trans sG
      have dG := sBG _ _ dA
      have aG := upd_same (H := upd (upd Hd p2 (.lst (if decide (0 + (i : Int) > 0) = true then [V.ref e2] else []))) q (.lst ((if decide (0 + (i : Int) < 39) = true then [V.ref e1] else []) ++ (if decide (0 + (i : Int) > 0) = true then [V.ref e2] else [])))) (a := r) (o := .tup ((if decide (0 + (i : Int) < 39) = true then [V.ref e1] else []) ++ (if decide (0 + (i : Int) > 0) = true then [V.ref e2] else [])))
      have a1G := (((sC.trans sD).trans sE).trans (sF.trans sG)) _ _ at1
      have a2G := (sE.trans (sF.trans sG)) _ _ at2
      refine ⟨vs, dG, small_lt (m := 40) (by omega), vs ++ [.ref r], upd_same, ?_, same_at (sA.trans sBG) hD⟩
      have tp := Tup.at_ (o' := .lst vs) (o := .lst (vs ++ [V.ref r])) dG fun xs z => nomatch z
      rw [List.range_succ, List.map_append, List.map_append]
      exact TDs.snoc (kst_new hi (tp _ _ a1G) (tp _ _ a2G) (tp _ _ aG)) ((tv.to (Tup.of sBG)).to tp)
    · have tAa := tA.to (Tup.of sA)
      have tBa := tB.to (Tup.of sA)
      have tCa := tC_.to (Tup.of sA)
      refine ⟨_, rfl, _, rfl, _, rfl, _, rfl, D, vs, rfl, .inl ⟨SqL.of dA, fun A4 hA4 => ⟨by show 4 ≤ sizeLine; decide, fun Kn hKn => ?_⟩⟩⟩
      have sB := (same_new (o := .tup vs) hA4).trans (same_new (o := .lst [V.ref A1, .ref A2, .ref A3, .ref A4]) hKn)
      have aK : (upd (upd Ha A4 (.tup vs)) Kn (.lst [V.ref A1, .ref A2, .ref A3, .ref A4])) Kn = some (.lst [V.ref A1, .ref A2, .ref A3, .ref A4]) := upd_same
      have tD : TD (upd (upd Ha A4 (.tup vs)) Kn (.lst [V.ref A1, .ref A2, .ref A3, .ref A4])) (.ref A4) (statesD kSteps) := .tup (same_new hKn _ _ upd_same) (tv.to (Tup.of sB))
      generalize upd (upd Ha A4 (.tup vs)) Kn (.lst [V.ref A1, .ref A2, .ref A3, .ref A4]) = Hb at sB aK tD ⊢
      have tA := tAa.to (Tup.of sB)
      have tB := tBa.to (Tup.of sB)
      have tC := tCa.to (Tup.of sB)
      have q := q9.trans (sA.trans sB)
      have FB := FA.same q
      clear tAa tBa tCa sA sB dA tv FA q9
      have Knp : Kn ≠ p := fun z => by
        rw [z, FB.ob] at aK
        cases aK
      have Knc : Kn ≠ c ∨ True := .inr trivial
      -- way
      refine ⟨_, rfl, p, c, ks, y, n, 7, rfl, FB, by omega, by decide, by decide, fun wy ks1 H10 w0 w7 FC sv10 => ?_⟩
      have tA := tA.to (Save.tup FB sv10)
      have tB := tB.to (Save.tup FB sv10)
      have tC := tC.to (Save.tup FB sv10)
      have tD := tD.to (Save.tup FB sv10)
      have svC := (Save.of (p := p) (c := c) q).trans sv10
      refine ⟨_, rfl, _, _, rfl, rfl, _, rfl, ?_⟩
      by_cases w4 : wy < 4
      · rw [decide_eq_true w4]
        have kl : Kn ≠ c := fun z => by
          rw [z, FB.cs] at aK
          cases ks with
          | nil => cases aK
          | cons k r => injection aK with e; injection e with e; cases e
        have aK := sv10 _ _ aK Knp kl
        refine iteT ⟨_, rfl, _, rfl, Kn, [V.ref A1, .ref A2, .ref A3, .ref A4], wy, ?_⟩
        obtain rfl | rfl | rfl | rfl : wy = 0 ∨ wy = 1 ∨ wy = 2 ∨ wy = 3 := by omega
        · exact ⟨_, rfl, rfl, SqL.of aK, rfl, k _ _ _ _ _ tA kok_let FC (by omega) svC⟩
        · exact ⟨_, rfl, rfl, SqL.of aK, rfl, k _ _ _ _ _ tB kok_pur FC (by omega) svC⟩
        · exact ⟨_, rfl, rfl, SqL.of aK, rfl, k _ _ _ _ _ tC kok_lin FC (by omega) svC⟩
        · exact ⟨_, rfl, rfl, SqL.of aK, rfl, k _ _ _ _ _ tD kok_steps FC (by omega) svC⟩
      · rw [decide_eq_false w4]
        refine iteF ?_
        clear tA tB tC tD
        -- the menus
        refine fun r1 Hc sc tc => ⟨small_len (m := 10) (by rw [tc.len]; decide), fun m1 hm1 => ?_⟩
        have tm1 : TDs (upd Hc m1 (.lst r1)) r1 (MN1.map evD) := tc.to (Tup.new hm1)
        have sm1 := sc.trans (same_new (o := .lst r1) hm1)
        have am1 : (upd Hc m1 (.lst r1)) m1 = some (.lst r1) := upd_same
        have fm1 : H10 m1 = none := sc.free hm1
        generalize upd Hc m1 (.lst r1) = Hd at tm1 sm1 am1 ⊢
        refine fun r2 He se te => ⟨small_len (m := 10) (by rw [te.len]; decide), fun m2 hm2 => ?_⟩
        have tm2 : TDs (upd He m2 (.lst r2)) r2 (MN2.map evD) := te.to (Tup.new hm2)
        have sm2 := se.trans (same_new (o := .lst r2) hm2)
        have am2 : (upd He m2 (.lst r2)) m2 = some (.lst r2) := upd_same
        have fm2 : H10 m2 = none := (sm1.trans se).free hm2
        generalize upd He m2 (.lst r2) = Hf at tm2 sm2 am2 ⊢
        refine ⟨by show 2 ≤ sizeLine; decide, fun Mn hMn => ?_⟩
        have sm3 := same_new (o := .lst [V.ref m1, .ref m2]) hMn
        have aM : (upd Hf Mn (.lst [V.ref m1, .ref m2])) Mn = some (.lst [V.ref m1, .ref m2]) := upd_same
        have fM : H10 Mn = none := (sm1.trans sm2).free hMn
        have tm1 := tm1.to (Tup.of (sm2.trans sm3))
        have tm2 := tm2.to (Tup.of sm3)
        have am1 := (sm2.trans sm3) _ _ am1
        have am2 := sm3 _ _ am2
        have sM := sm1.trans (sm2.trans sm3)
        generalize upd Hf Mn (.lst [V.ref m1, .ref m2]) = Hg at tm1 tm2 am1 am2 aM sM ⊢
        have FG := FC.same sM
        have nope : ∀ x : Addr, H10 x = none → x ≠ p ∧ x ≠ c := fun x z => ⟨fun q => by (rw [q, FC.ob] at z; cases z), fun q => by (rw [q, FC.cs] at z; cases z)⟩
        refine ⟨_, rfl, _, rfl, p, c, Mn, _, ks1, y, n + 1, rfl, FG, by omega, aM, (nope _ fM).1, (nope _ fM).2, by show 1 ≤ 2; decide, by show 2 ≤ 100; decide, fun x ks2 H11 mx FH sv11 => ?_⟩
        obtain ⟨L, es, mv, rfl, hL, tL, mo, Lp, Lc⟩ : ∃ (L : Addr) (es : List Ev) (mv : List V), x = .ref L ∧ H11 L = some (.lst mv) ∧ TDs H11 mv (es.map evD) ∧ MOk es ∧ L ≠ p ∧ L ≠ c := by
          rcases List.mem_cons.mp mx with rfl | mx
          · exact ⟨m1, MN1, r1, rfl, sv11 _ _ am1 (nope _ fm1).1 (nope _ fm1).2, tm1.to (Save.tup FG sv11), mok1, (nope _ fm1).1, (nope _ fm1).2⟩
          · rw [List.mem_singleton.mp mx]
            exact ⟨m2, MN2, r2, rfl, sv11 _ _ am2 (nope _ fm2).1 (nope _ fm2).2, tm2.to (Save.tup FG sv11), mok2, (nope _ fm2).1, (nope _ fm2).2⟩
        have svH := (svC.trans (Save.of sM)).trans sv11
        clear tm1 tm2 am1 am2 sm1 sm2 sm3 tc te sc se mx aM
        refine ⟨_, rfl, p, c, ks2, y, n + 1 + 1, 4, rfl, FH, by omega, by decide, by decide, fun d ks3 H12 d0 d4 FI sv12 => ⟨1, d, rfl, rfl, by show 2 ≤ sizeLine; decide, fun t ht => ?_⟩⟩
        refine ⟨t, _, rfl, SqT.of upd_same, rfl, _, _, rfl, _, _, rfl, rfl, ?_⟩
        have sB := same_new (o := .tup [V.ref L, .int (1 + d)]) ht
        have hL := sB _ _ (sv12 _ _ hL Lp Lc)
        have tL := (tL.to (Save.tup FH sv12)).to (Tup.of sB)
        have FI := FI.same sB
        have svI := (svH.trans sv12).trans (Save.of sB)
        generalize upd H12 t (.tup [V.ref L, .int (1 + d)]) = H13 at hL tL FI svI ⊢
        clear svH sB svC sv11 sv12 FH FG FC FB
        refine ⟨by show 0 ≤ sizeLine; decide, fun fo hfo => ?_⟩
        have fop : fo ≠ p := Ne.symm (ne_of_none FI.ob hfo)
        have foc : fo ≠ c := Ne.symm (ne_of_none FI.cs hfo)
        have fo0 : H fo = none := svI.free hfo fop foc
        have FJ := FI.wr (o := .lst []) fop foc
        have svJ := svI.wr (o := .lst []) fo0
        have hLJ := same_new (o := .lst []) hfo _ _ hL
        have tLJ := tL.to (Tup.new (o := .lst []) hfo)
        have afo : (upd H13 fo (.lst [])) fo = some (.lst []) := upd_same
        have Lfo : L ≠ fo := ne_of_none hL hfo
        generalize upd H13 fo (.lst []) = H14 at FJ svJ hLJ tLJ afo ⊢
        have lm := tLJ.lenm
        have few := mo.few
        refine ⟨_, rfl, 1 + d, rfl, by omega, by omega, for_range (lo := 0) (n := (1 + d).toNat) (fun j σ H2 => ∃ (o11 : Option V) (ks' : List Int) (n' : Int) (vs : List V) (ss : List (List Stp)), σ = [some (.ref p), some (.ref A1), some (.ref A2), some (.ref A3), some (.ref D), some (.ref Kn), some (.int wy), some (.ref Mn), some (.ref L), some (.int (1 + d)), some (.ref fo), o11, none, none] ∧
            FeedAt H2 p c ks' y n' ∧ n' ≤ n + 3 + 8 * (j : Int) ∧ Save p c H H2 ∧ H2 L = some (.lst mv) ∧ TDs H2 mv (es.map evD) ∧ H2 fo = some (.lst vs) ∧ TDs H2 vs (ss.map stateD) ∧ ss.length = j ∧ ∀ st ∈ ss, StOk (1 + d).toNat st ∧ ∀ x ∈ st, evOf x ∈ es)
          ⟨none, ks3, n + 1 + 1 + 1, [], [], rfl, FJ, by omega, svJ, hLJ, tLJ, afo, .nil, rfl, fun st m => nomatch m⟩ ?_ ?_⟩
        · rintro j σ H2 hj ⟨o11, ks4, n4, vs, ss, rfl, F2, le2, sv2, hL2, tL2, fo2, tv2, sl, so⟩
          refine ⟨_, rfl, .inl ⟨rfl, _, SqL.of fo2⟩, _, rfl, L, rfl, ⟨_, SqL.of hL2⟩, fun D2 hD2 => lc_list (K := K) (a := L) (xs := mv) (fun i H3 => ∃ (ks5 : List Int) (n5 : Int) (us : List V) (st : List Stp), FeedAt H3 p c ks5 y n5 ∧ n5 ≤ n4 + 2 * (i : Int) ∧ Save p c H2 H3 ∧ H3 D2 = some (.lst us) ∧ TDs H3 us (st.map stepD) ∧ (st.map evOf).Sublist (es.take i) ∧ ∀ x ∈ st, StpOk (1 + d).toNat x) ?_ (fun i H3 _ ⟨_, _, _, _, _, _, s3, _⟩ => SqL.of (s3 _ _ hL2 Lp Lc)) (fun i x H3 ex ⟨ks5, n5, us, st, F3, le3, sv3, d3, tu3, sub3, ok3⟩ => ?_) fun H3 ⟨ks5, n5, us, st, F3, le3, sv3, d3, tu3, sub3, ok3⟩ => ?_⟩
          · have dp : D2 ≠ p := Ne.symm (ne_of_none F2.ob hD2)
            have dc : D2 ≠ c := Ne.symm (ne_of_none F2.cs hD2)
            exact ⟨ks4, n4, [], [], F2.wr dp dc, by omega, (Save.refl p c H2).wr hD2, upd_same, .nil, by simp, (fun x m => nomatch m)⟩
          · have dp : D2 ≠ p := Ne.symm (ne_of_none F2.ob hD2)
            have dc : D2 ≠ c := Ne.symm (ne_of_none F2.cs hD2)
            obtain ⟨e, ee, te⟩ := tL2.at_ ex
            have lt : i < es.length := (List.getElem?_eq_some_iff.mp ee).1
            obtain ⟨b, rfl, hb⟩ := ev_of te
            have hb3 := Save.tup F2 sv3 _ _ hb
            have vl := tu3.lenm
            have sl3 := sub3.length_le
            rw [List.length_map, List.length_take] at sl3
            refine ⟨rfl, _, rfl, p, c, ks5, y, n5, 4, rfl, F3, by omega, by omega, by omega, fun d' ks8 H8 d0' d3' FA8 sv8 => ⟨d', 0, rfl, rfl, _, rfl, ?_⟩⟩
            by_cases pos : 0 < d'
            · rw [decide_eq_true pos]
              refine iteT ?_
              refine ⟨_, rfl, _, rfl, _, rfl, p, c, ks8, y, n5 + 1, 1 + d, rfl, FA8, by omega, by omega, by omega, fun d2 ks9 H9 d20 d21 FA9 sv9 => ⟨by show 1 ≤ sizeLine; decide, fun t1 ht1 => ?_⟩⟩
              have hb10 := same_new (o := .tup [V.int d2]) ht1 _ _ ((Save.tup FA8 sv9) _ _ ((Save.tup F3 sv8) _ _ hb3))
              refine ⟨b, t1, [.str e.1, .str e.2], [.int d2], rfl, rfl, hb10, upd_same, by show 3 ≤ sizeLine; decide, fun b2 H11 s11 at2 => ?_⟩
              have sn := (same_new (o := .tup [V.int d2]) ht1).trans s11
              have d11 := sn _ _ (sv9 _ _ (sv8 _ _ d3 dp dc) dp dc)
              have tp : Tup H11 (upd H11 D2 (.lst (us ++ [.ref b2]))) := Tup.at_ d11 fun xs z => nomatch z
              have tall : Tup H3 H11 := ((Save.tup F3 sv8).trans (Save.tup FA8 sv9)).trans (Tup.of sn)
              have em : e ∈ es := List.mem_of_getElem? ee
              refine ⟨us, d11, small_lt (m := 24) (by omega), ks9, n5 + 2, us ++ [.ref b2], st ++ [(e.1, e.2, d2)], ?_, by omega, (((sv3.trans sv8).trans sv9).trans (Save.of sn)).wr hD2, upd_same, ?_, ?_, fun x mx => ?_⟩
              · have z := (FA9.same sn).wr (o := .lst (us ++ [.ref b2])) dp dc
                rwa [show n5 + 1 + 1 = n5 + 2 by omega] at z
              · rw [List.map_append]
                exact TDs.snoc (.tup (tp _ _ at2) (.cons (.str _) (.cons (.str _) (.cons (.int _) .nil)))) ((tu3.to tall).to tp)
              · rw [List.map_append, List.take_succ, ee, Option.toList_some]
                exact sub3.append (List.Sublist.refl [e])
              · rcases List.mem_append.mp mx with q | q
                · exact ok3 x q
                · rw [List.mem_singleton.mp q]
                  refine ⟨(mo.wr e em).1, (mo.wr e em).2, d20, ?_⟩
                  rw [Int.toNat_of_nonneg (by omega)]
                  exact d21
            · rw [decide_eq_false pos]
              refine iteF ⟨ks8, n5 + 1, us, st, FA8, by omega, sv3.trans sv8, sv8 _ _ d3 dp dc, tu3.to (Save.tup F3 sv8), ?_, ok3⟩
              rw [List.take_succ]
              exact sub3.trans (List.sublist_append_left _ _)
          · have sub8 := sub3.trans (List.take_sublist _ _)
            have sl7 := sub8.length_le
            rw [List.length_map] at sl7
            have f7 := sv3 _ _ fo2 fop foc
            have vl6 := tv2.lenm
            refine ⟨D2, us, rfl, .inl ⟨SqL.of d3, fun b hb => ?_⟩⟩
            have f8 := same_new (o := .tup us) hb _ _ f7
            have tp : Tup (upd H3 b (.tup us)) (upd (upd H3 b (.tup us)) fo (.lst (vs ++ [.ref b]))) := Tup.at_ f8 fun xs z => nomatch z
            have tn : Tup H3 (upd H3 b (.tup us)) := Tup.of (same_new hb)
            have t67 := Save.tup F2 sv3
            refine ⟨fo, vs, _, rfl, rfl, f8, small_lt (m := 40) (by omega), ⟨_, ks5, n5, vs ++ [.ref b], ss ++ [st], rfl, (F3.same (same_new hb)).wr fop foc, by omega, ((sv2.trans sv3).trans (Save.of (same_new hb))).wr fo0, ?_, ?_, upd_same, ?_, ?_, ?_⟩⟩
            · rw [upd_ne Lfo]
              exact same_new hb _ _ (sv3 _ _ hL2 Lp Lc)
            · exact ((tL2.to t67).to tn).to tp
            · rw [List.map_append]
              exact TDs.snoc (.tup (tp _ _ upd_same) ((tu3.to tn).to tp)) (((tv2.to t67).to tn).to tp)
            · rw [List.length_append, sl]
              rfl
            · intro st' ms
              rcases List.mem_append.mp ms with q | q
              · exact so st' q
              · rw [List.mem_singleton.mp q]
                exact ⟨⟨ok3, List.Pairwise.sublist sub8 mo.asc, by omega⟩, fun x mx => sub8.subset (List.mem_map.mpr ⟨x, mx, rfl⟩)⟩
        · rintro σ H2 ⟨o11, ks4, n4, vs, ss, rfl, F2, le2, sv2, hL2, tL2, fo2, tv2, sl, so⟩
          refine ⟨_, rfl, fo, vs, rfl, .inl ⟨SqL.of fo2, fun b hb => k b ss ks4 n4 _ (.tup upd_same (tv2.to (Tup.new hb))) ⟨by omega, by omega, fun st ms => ?_, es, by omega, fun st ms x mx => (so st ms).2 x mx⟩ (F2.same (same_new hb)) (by omega) (sv2.trans (Save.of (same_new hb)))⟩⟩
          rw [sl]
          exact (so st ms).1
end
end My

-- ===== K13T =====
set_option Elab.async false
set_option linter.all false
set_option maxRecDepth 100000
set_option maxHeartbeats 4000000
namespace My
open PySem L2 PyProof.Rows PySem.Spec Kd
def spSystem : Sp := fun vs H Q _ => ∃ (p c : Addr) (ks : List Int) (w n : Int), vs = [.ref p] ∧ FeedAt H p c ks w n ∧ n < 890000 ∧
  ∀ (O : Addr) (ov : List V) (sss : List (List (List Stp))) (ks' : List Int) (n' : Int) (H' : Hp), H O = none → H' O = some (.lst ov) → TDs H' ov (sss.map statesD) → 1 ≤ sss.length → sss.length ≤ 4 → (∀ ss ∈ sss, KOk ss) → FeedAt H' p c ks' w n' → n' ≤ n + 500 → Save p c H H' → Q (.ref O) H'
def spEvents : Sp := fun vs H Q _ => ∃ (a : Addr) (ss : List (List Stp)), vs = [.ref a] ∧ TD H (.ref a) (statesD ss) ∧ KOk ss ∧
  ∀ (R : Addr) (rv : List V) (es : List Ev) (H' : Hp), Same H H' → H R = none → H' R = some (.lst rv) → TDs H' rv (es.map evD) → es.length ≤ 64 → (∀ e ∈ es, Wrd e.1 ∧ Wrd e.2 ∧ EvIn ss e) → (∀ e, EvIn ss e → e ∈ es) → Q (.ref R) H'
def spDid : Sp := fun vs H Q _ => ∃ (p c O : Addr) (ks : List Int) (w n : Int) (ov : List V) (sss : List (List (List Stp))), vs = [.ref p, .ref O] ∧ FeedAt H p c ks w n ∧ n < 900000 ∧ H O = some (.lst ov) ∧ TDs H ov (sss.map statesD) ∧ 1 ≤ sss.length ∧ sss.length ≤ 4 ∧ (∀ ss ∈ sss, KOk ss) ∧ O ≠ p ∧ O ≠ c ∧
  (∀ (ks' : List Int) (n' : Int) (H' : Hp), FeedAt H' p c ks' w n' → n' ≤ n + 2 → Save p c H H' → Q .non H') ∧
  ∀ (t : Addr) (i : Int) (x y : Str) (ks' : List Int) (n' : Int) (H' : Hp), H' t = some (.tup [.int i, .str x, .str y]) → EvOf sss (i, x, y) → FeedAt H' p c ks' w n' → n' ≤ n + 2 → Save p c H H' → Q (.ref t) H'
theorem rows_evs {H : Hp} {Pr : Ev → Prop} : ∀ M : List (Addr × List Key), (∀ q ∈ M, H q.1 = some (.tup (q.2.map kV)) ∧ ∃ e : Ev, q.2 = evK e ∧ Wrd e.1 ∧ Wrd e.2 ∧ Pr e) → ∃ es : List Ev, TDs H (M.map fun q => V.ref q.1) (es.map evD) ∧ es.length = M.length ∧ (∀ e ∈ es, Wrd e.1 ∧ Wrd e.2 ∧ Pr e) ∧ M.map Prod.snd = es.map evK
  | [], _ => ⟨[], .nil, rfl, (fun e m => nomatch m), rfl⟩
  | q :: M, h => by
    obtain ⟨es, h1, h2, h3, h4⟩ := rows_evs M fun r m => h r (List.mem_cons_of_mem _ m)
    obtain ⟨a, e, ee, w1, w2, w3⟩ := h q List.mem_cons_self
    rw [ee] at a
    refine ⟨e :: es, .cons (ev_new a) h1, by rw [List.length_cons, List.length_cons, h2], fun x m => ?_, by rw [List.map_cons, List.map_cons, ee, h4]⟩
    rcases List.mem_cons.mp m with rfl | m
    · exact ⟨w1, w2, w3⟩
    · exact h3 x m
theorem evs_list (es : List Ev) : (es.map evK).map tD = es.map evD := by
  rw [List.map_map]
  rfl
theorem eqv_evs (es : List Ev) : PyData.eqv (.list (es.map evD)) (.list []) = es.isEmpty := by
  cases es with
  | nil => simp [PyData.eqv, PyData.eqvAll]
  | cons e es => simp [PyData.eqv, PyData.eqvAll]
section
variable {P : Program} {w : World} {K : PySem.W.Frag} {mg : Str → Option Value} {base : Heap}
abbrev nSy : List Str := ["_law_deck_here", "_law_k"]
theorem scSy : FnScope nSy ["_law_deck_here"] (defScope sSystem) := ⟨rfl, rfl, rfl, by decide +kernel, rfl, by decide +kernel, by decide +kernel⟩
theorem ok_system {f fS fD : Addr} {fd fdS fdD : FuncData} (F : Fun K "_law_system" "_law_system" sSystem f fd) (mrange : mg "range" = none)
    (GS : FnOk P w K mg base CX0 3 fS fdS ["_law_deck_here"] spStates') (mS : mg "_law_states" = some (.ref fS)) (kS : PySem.W.keepIn K (.ref fS) = true) (bS : Binds K fdS ["_law_deck_here"] [])
    (GD : FnOk P w K mg base CX0 1 fD fdD ["_law_deck_here", "_law_count"] spDigit) (mD : mg "_law_draw" = some (.ref fD)) (kD : PySem.W.keepIn K (.ref fD) = true) (bD : Binds K fdD ["_law_deck_here", "_law_count"] []) :
    FnOk P w K mg base CX0 4 f fd ["_law_deck_here"] spSystem := by
  refine F.ok scSy (fun vs H Q E h => ?_) (fun cdv A outer s H vs Q E hr h => ?_)
  · obtain ⟨p, c, ks, y, n, rfl, _⟩ := h
    rfl
  · obtain ⟨p, c, ks, y, n, rfl, FA, hn, k⟩ := h
    have hr1 := hr.mono (show 1 ≤ 3 by omega)
    refine ⟨_, pss_one (ps_ret (pe_lc (own := [("_law_k", 1)]) (g := gName 1) (tt := tYes) rfl scSy.nd (pi_range1 (by rfl) mrange (pa_cons (pe_op op_add pe_int (pe_call GD hr1 (by rfl) mD kD bD .nil pass0 (pa_cons (pv 0) (pa_cons pe_int pa_nil)))) pa_nil)) (blkOk_by (N := nSy) (sc := defScope sSystem) (by decide +kernel))
        (fun _ _ _ _ _ => pg_name (i := 1) scSy.nd rfl (Or.inl rfl)) (fun _ _ _ _ _ => pts_nil) (fun _ _ _ _ _ => pe_call GS hr (by rfl) mS kS bS .nil pass0 (pa_cons (pv 0) pa_nil)))), ?_⟩
    have n0 := FA.n0
    refine ⟨_, rfl, p, c, ks, y, n, 4, rfl, FA, by omega, by decide, by decide, fun d ks1 H1 d0 d4 FA1 sv1 => ⟨1, d, rfl, rfl, ?_⟩⟩
    refine ⟨1 + d, rfl, by omega, by omega, fun D hD => lc_range (lo := 0) (n := (1 + d).toNat) (fun i H2 => ∃ (vs : List V) (sss : List (List (List Stp))) (ks2 : List Int) (n2 : Int), H2 D = some (.lst vs) ∧ TDs H2 vs (sss.map statesD) ∧ sss.length = i ∧ (∀ ss ∈ sss, KOk ss) ∧ FeedAt H2 p c ks2 y n2 ∧ n2 ≤ n + 1 + 100 * (i : Int) ∧ Save p c H H2) ?_ (fun i H2 hi ⟨vs, sss, ks2, n2, d2, t2, l2, k2, FA2, le2, sv2⟩ => ?_) fun H2 ⟨vs, sss, ks2, n2, d2, t2, l2, k2, FA2, le2, sv2⟩ => ?_⟩
    · have dp : D ≠ p := Ne.symm (ne_of_none FA1.ob hD)
      have dc : D ≠ c := Ne.symm (ne_of_none FA1.cs hD)
      exact ⟨[], [], ks1, n + 1, upd_same, .nil, rfl, (fun ss m => nomatch m), FA1.wr dp dc, by omega, sv1.wr (sv1.free hD dp dc)⟩
    · have dp : D ≠ p := Ne.symm (ne_of_none FA1.ob hD)
      have dc : D ≠ c := Ne.symm (ne_of_none FA1.cs hD)
      have D0 := sv1.free hD dp dc
      have vl := t2.lenm
      refine ⟨rfl, _, rfl, p, c, ks2, y, n2, rfl, FA2, by omega, fun a ss ks3 n3 H3 t3 k3 FA3 le3 sv3 => ?_⟩
      have d3 := sv3 _ _ d2 dp dc
      have tp : Tup H3 (upd H3 D (.lst (vs ++ [.ref a]))) := Tup.at_ d3 fun xs z => nomatch z
      refine ⟨vs, d3, small_lt (m := 4) (by omega), vs ++ [.ref a], sss ++ [ss], ks3, n3, upd_same, ?_, by rw [List.length_append, l2]; rfl, fun x m => ?_, FA3.wr dp dc, by omega, (sv2.trans sv3).wr D0⟩
      · rw [List.map_append]
        exact TDs.snoc (t3.to tp) ((t2.to (Save.tup FA2 sv3)).to tp)
      · rcases List.mem_append.mp m with m | m
        · exact k2 x m
        · rw [List.mem_singleton.mp m]
          exact k3
    · have dp : D ≠ p := Ne.symm (ne_of_none FA1.ob hD)
      have dc : D ≠ c := Ne.symm (ne_of_none FA1.cs hD)
      exact k D vs sss ks2 n2 H2 (sv1.free hD dp dc) d2 t2 (by omega) (by omega) k2 FA2 (by omega) sv2
abbrev nEv : List Str := ["_law_states_here", "_law_found", "_law_state", "_law_part"]
theorem scEv : FnScope nEv ["_law_states_here"] (defScope sLEvents) := ⟨rfl, rfl, rfl, by decide +kernel, rfl, by decide +kernel, by decide +kernel⟩
theorem ok_levents {f : Addr} {fd : FuncData} (F : Fun K "_law_events" "_law_events" sLEvents f fd) (mset : mg "set" = none) (msorted : mg "sorted" = none) :
    FnOk P w K mg base CX0 1 f fd ["_law_states_here"] spEvents := by
  refine F.ok scEv (fun vs H Q E h => ?_) (fun cdv A outer s H vs Q E hr h => ?_)
  · obtain ⟨a, ss, rfl, _⟩ := h
    rfl
  · obtain ⟨a, ss, rfl, ts, ko, k⟩ := h
    have hu := hr.units
    obtain ⟨sv, hs, tv⟩ := ts.tup_of
    have lsv := tv.lenm
    refine ⟨_, pss_cons (ps_set (i := 1) scEv.nd rfl (Or.inl rfl) (pe_lst pa_nil))
      (pss_cons (ps_for PassesOwn.never rfl (pi_tup (pv 0)) (pg_name (i := 2) scEv.nd rfl (Or.inl rfl))
        (pss_one (ps_set (i := 1) scEv.nd rfl (Or.inl rfl) (pe_op op_cat (pv 1) (pe_lc (own := [("_law_part", 3)]) (g := gName 3) (tt := tYes) rfl scEv.nd (pi_tup (pv 2)) (blkOk_by (N := nEv) (sc := defScope sLEvents) (by decide +kernel))
            (fun _ _ _ _ _ => pg_name (i := 3) scEv.nd rfl (Or.inl rfl)) (fun _ _ _ _ _ => pts_nil) (fun _ _ _ _ _ => pe_slice (r := rSlT K) sl_tup (pv 3) po_none (po_some pe_int)))))))
      (pss_one (ps_ret (pe_callB (cr_sortS rfl hu) (by rfl) msorted PyProof.Rows.boot_sorted (pa_cons (pe_callTy (cr_setOfD rfl hu) (by rfl) mset PyProof.Rows.boot_set (pa_cons (pv 1) pa_nil)) pa_nil))))), ?_⟩
    refine ⟨by show 0 ≤ sizeLine; decide, fun fo hfo => ?_⟩
    have s0 := same_new (o := .lst []) hfo
    have one := ko.one
    have most := ko.most
    obtain ⟨E0, few0, mem0⟩ := ko.evs
    refine ⟨_, rfl, a, rfl, ⟨_, SqT.of (s0 _ _ hs)⟩, for_tup (K := K) (a := a) (xs := sv) (fun i σ H2 => ∃ (o2 : Option V) (fo2 : Addr) (ks : List (Addr × List Key)), σ = [some (.ref a), some (.ref fo2), o2, none] ∧ Same H H2 ∧ H fo2 = none ∧ H2 fo2 = some (.lst (ks.map fun q => V.ref q.1)) ∧ ks.length ≤ 24 * i ∧ (∀ (j : Nat) (st : List Stp) (z : Stp), j < i → ss[j]? = some st → z ∈ st → evK (evOf z) ∈ ks.map Prod.snd) ∧
        ∀ q ∈ ks, H2 q.1 = some (.tup (q.2.map kV)) ∧ ∃ e : Ev, q.2 = evK e ∧ Wrd e.1 ∧ Wrd e.2 ∧ e ∈ E0 ∧ EvIn ss e)
      ⟨none, fo, [], rfl, s0, hfo, upd_same, Nat.zero_le _, (fun j st z lt => absurd lt (Nat.not_lt_zero _)), fun q m => nomatch m⟩ (fun i σ H2 _ ⟨_, _, _, _, s2, _⟩ => SqT.of (s2 _ _ hs)) ?_ ?_⟩
    · rintro i x σ H2 ex ⟨o2, fo2, ks, rfl, s2, f2, hf2, kl, ka, kq⟩
      obtain ⟨st, es, td⟩ := tv.at_ ex
      have mst := List.mem_of_getElem? es
      have lt : i < ss.length := (List.getElem?_eq_some_iff.mp es).1
      have so := ko.all st mst
      obtain ⟨b, xs, rfl, hb, tx⟩ := TD.ref_of td
      have lx := tx.lenm
      have few := so.few
      have hb2 := s2 _ _ hb
      refine ⟨_, rfl, _, rfl, b, rfl, ⟨_, SqT.of hb2⟩, fun D2 hD2 => lc_tup (K := K) (a := b) (xs := xs) (fun j H3 => Same H2 H3 ∧ ∃ ls : List (Addr × List Key), H3 D2 = some (.lst (ls.map fun q => V.ref q.1)) ∧ ls.length = j ∧ (∀ (i : Nat) (z : Stp), i < j → st[i]? = some z → evK (evOf z) ∈ ls.map Prod.snd) ∧ ∀ q ∈ ls, H3 q.1 = some (.tup (q.2.map kV)) ∧ ∃ e : Ev, q.2 = evK e ∧ Wrd e.1 ∧ Wrd e.2 ∧ e ∈ E0 ∧ EvIn ss e)
        ⟨same_new hD2, [], upd_same, rfl, (fun i z lt => absurd lt (Nat.not_lt_zero _)), fun q m => nomatch m⟩ (fun j H3 _ ⟨s3, _⟩ => SqT.of (s3 _ _ hb2)) (fun j x H3 ex3 ⟨s3, ls, d3, l3, a3, q3⟩ => ?_) fun H3 ⟨s3, ls, d3, l3, a3, q3⟩ => ?_⟩
      · obtain ⟨z, ez, tz⟩ := tx.at_ ex3
        have mz := List.mem_of_getElem? ez
        obtain ⟨b3, rfl, hz⟩ := step_of tz
        have hz3 := s3 _ _ (s2 _ _ hz)
        have lt3 : j < st.length := (List.getElem?_eq_some_iff.mp ez).1
        refine ⟨rfl, _, rfl, 2, rfl, b3, _, rfl, SqT.of hz3, (fun z => absurd (show HT.sIx 3 3 (some 2) = 3 from z.2) (by decide)), fun p hp => ⟨ls.map fun q => V.ref q.1, same_new hp _ _ d3, ?_, ?_, ls ++ [(p, evK (evOf z))], ?_, ?_, (fun i z' lti ei => by
            rw [List.map_append]
            rcases Nat.lt_or_ge i j with l | g
            · exact List.mem_append_left _ (a3 i z' l ei)
            · have e : i = j := by omega
              rw [e, ez] at ei
              rw [← Option.some.inj ei]
              exact List.mem_append_right _ List.mem_cons_self), ?_⟩⟩
        · rw [List.length_map]
          exact small_lt (m := 24) (by omega)
        · exact same_at (s3.trans (same_new hp)) hD2
        · rw [upd_same, List.map_append]
          rfl
        · rw [List.length_append, l3]
          rfl
        · intro q hq
          have d4 := same_new (o := .tup (cutV [V.str z.1, V.str z.2.1, V.int z.2.2] none (some 2))) hp _ _ d3
          have tp : Tup (upd H3 p (.tup (cutV [V.str z.1, V.str z.2.1, V.int z.2.2] none (some 2)))) (upd (upd H3 p (.tup (cutV [V.str z.1, V.str z.2.1, V.int z.2.2] none (some 2)))) D2 (.lst ((ls.map fun q => V.ref q.1) ++ [.ref p]))) := Tup.at_ d4 fun xs z => nomatch z
          rcases List.mem_append.mp hq with m | m
          · exact ⟨tp _ _ (same_new hp _ _ (q3 q m).1), (q3 q m).2⟩
          · rw [List.mem_singleton.mp m]
            exact ⟨tp _ _ upd_same, evOf z, rfl, (so.all z mz).w1, (so.all z mz).w2, mem0 st mst z mz, st, mst, z, mz, rfl⟩
      · refine ⟨fo2, D2, _, _, rfl, rfl, s3 _ _ hf2, d3, ?_, fun q hq => ?_⟩
        · rw [List.length_map, List.length_map]
          exact small_len (m := 1000) (by omega)
        have sq := same_new (o := .lst ((ks.map fun q => V.ref q.1) ++ ls.map fun q => V.ref q.1)) hq
        refine ⟨_, q, ks ++ ls, rfl, s2.trans (s3.trans sq), (s2.trans s3).free hq, ?_, by rw [List.length_append]; omega, (fun j st' z ltj ej mz => by
          rw [List.map_append]
          rcases Nat.lt_or_ge j i with l | g
          · exact List.mem_append_left _ (ka j st' z l ej mz)
          · have e : j = i := by omega
            rw [e, es] at ej
            rw [← Option.some.inj ej] at mz
            obtain ⟨u, hu⟩ := List.mem_iff_getElem?.mp mz
            exact List.mem_append_right _ (a3 u z (by rw [lx]; exact (List.getElem?_eq_some_iff.mp hu).1) hu)), fun r m => ?_⟩
        · rw [upd_same, List.map_append]
        · rcases List.mem_append.mp m with m | m
          · exact ⟨sq _ _ (s3 _ _ (kq r m).1), (kq r m).2⟩
          · exact ⟨sq _ _ (q3 r m).1, (q3 r m).2⟩
    · rintro σ H2 ⟨o2, fo2, ks, rfl, s2, f2, hf2, kl, ka, kq⟩
      refine ⟨_, rfl, fo2, ks, rfl, SqL.of hf2, fun q m => SqT.of (kq q m).1, ⟨E0.map evK, fun q m => ?_, by rw [List.length_map]; omega⟩, fun a2 L ha2 sub all nd => ?_⟩
      · obtain ⟨_, e, e1, _, _, e2, _⟩ := kq q m
        rw [e1]
        exact List.mem_map.mpr ⟨e, e2, rfl⟩
      have keep : ∀ q ∈ ks, (upd H2 a2 (SetO P w a2 L)) q.1 = some (.tup (q.2.map kV)) := fun q m => same_new ha2 _ _ (kq q m).1
      refine ⟨a2, L, rfl, upd_same, fun q m => SqT.of (keep q (sub q m)), ?_, ?_, fun L1 p pm less nd1 hp => ?_⟩
      · intro d hd d' hd'
        obtain ⟨q, m, rfl⟩ := List.mem_map.mp hd
        obtain ⟨r, m', rfl⟩ := List.mem_map.mp hd'
        obtain ⟨_, x, ex, _⟩ := kq q (sub q m)
        obtain ⟨_, y, ey, _⟩ := kq r (sub r m')
        rw [ex, ey]
        rfl
      · refine .inl fun d hd => ?_
        obtain ⟨q, m, rfl⟩ := List.mem_map.mp hd
        obtain ⟨_, x, ex, _⟩ := kq q (sub q m)
        rw [ex]
        exact ⟨_, _, rfl⟩
      have mem2 : ∀ k, k ∈ (L1.mergeSort (PySem.W.dataLe false fun q : Addr × List Key => tD q.2)).map Prod.snd ↔ k ∈ L.map Prod.snd := fun k => (((List.mergeSort_perm _ _).trans pm).map Prod.snd).mem_iff
      have mem1 : ∀ q ∈ L1.mergeSort (PySem.W.dataLe false fun q : Addr × List Key => tD q.2), q ∈ ks := fun q m => sub q (pm.mem_iff.mp ((List.mergeSort_perm _ _).mem_iff.mp m))
      have lenM : (L1.mergeSort (PySem.W.dataLe false fun q : Addr × List Key => tD q.2)).length < 64 := by rw [List.length_mergeSort, pm.length_eq]; exact less
      generalize L1.mergeSort (PySem.W.dataLe false fun q : Addr × List Key => tD q.2) = M at mem1 mem2 lenM ⊢
      obtain ⟨es, t1, l1, w1, k1⟩ := rows_evs (Pr := EvIn ss) (H := upd (upd H2 a2 (SetO P w a2 L)) p (.lst (M.map fun q => V.ref q.1))) M fun q m => ⟨same_new hp _ _ (keep q (mem1 q m)), let ⟨_, e, e1, e2, e3, _, e5⟩ := kq q (mem1 q m); ⟨e, e1, e2, e3, e5⟩⟩
      have sA := same_new (o := SetO P w a2 L) ha2
      exact k p _ es _ (s2.trans (sA.trans (same_new hp))) ((s2.trans sA).free hp) upd_same t1 (by omega) w1 (fun e ⟨st, mst, z, mz, ez⟩ => by
        obtain ⟨j, ej⟩ := List.mem_iff_getElem?.mp mst
        have q := ka j st z (by rw [lsv]; exact (List.getElem?_eq_some_iff.mp ej).1) ej mz
        obtain ⟨r, mr, er⟩ := List.mem_map.mp q
        have q2 := (mem2 (evK (evOf z))).mpr (by rw [← er]; exact all r mr)
        rw [k1] at q2
        obtain ⟨x, mx, exx⟩ := List.mem_map.mp q2
        rw [← ez, ← evK_inj exx]
        exact mx)
abbrev nDi : List Str := ["_law_deck_here", "_law_machines", "_law_at", "_law_some"]
theorem scDi : FnScope nDi ["_law_deck_here", "_law_machines"] (defScope sDid) := ⟨rfl, rfl, rfl, by decide +kernel, rfl, by decide +kernel, by decide +kernel⟩
theorem ok_did {f fE fP fD : Addr} {fd fdE fdP fdD : FuncData} (F : Fun K "_law_did" "_law_did" sDid f fd) (mlen : mg "len" = none)
    (GE : FnOk P w K mg base CX0 1 fE fdE ["_law_states_here"] spEvents) (mE : mg "_law_events" = some (.ref fE)) (kE : PySem.W.keepIn K (.ref fE) = true) (bE : Binds K fdE ["_law_states_here"] [])
    (GP : FnOk P w K mg base CX0 2 fP fdP ["_law_deck_here", "_law_some"] spPick) (mP : mg "_law_pick" = some (.ref fP)) (kP : PySem.W.keepIn K (.ref fP) = true) (bP : Binds K fdP ["_law_deck_here", "_law_some"] [])
    (GD : FnOk P w K mg base CX0 1 fD fdD ["_law_deck_here", "_law_count"] spDigit) (mD : mg "_law_draw" = some (.ref fD)) (kD : PySem.W.keepIn K (.ref fD) = true) (bD : Binds K fdD ["_law_deck_here", "_law_count"] []) :
    FnOk P w K mg base CX0 3 f fd ["_law_deck_here", "_law_machines"] spDid := by
  refine F.ok scDi (fun vs H Q E h => ?_) (fun cdv A outer s H vs Q E hr h => ?_)
  · obtain ⟨p, c, O, ks, y, n, ov, sss, rfl, _⟩ := h
    rfl
  · obtain ⟨p, c, O, ks, y, n, ov, sss, rfl, FA, hn, hO, tO, o1, o4, ko, Op, Oc, k1, k2⟩ := h
    have hu := hr.units
    have hr1 := hr.mono (show 1 ≤ 2 by omega)
    refine ⟨_, pss_cons (ps_set (i := 2) scDi.nd rfl (Or.inl rfl) (pe_call GD hr1 (by rfl) mD kD bD .nil pass0 (pa_cons (pv 0) (pa_cons (pe_callB (r := rLenQ K) call_len_seq (by rfl) mlen PySem.boot_len (pa_cons (pv 1) pa_nil)) pa_nil))))
      (pss_cons (ps_set (i := 3) scDi.nd rfl (Or.inl rfl) (pe_call GE hr1 (by rfl) mE kE bE .nil pass0 (pa_cons (pe_ix (r := rIxL K) ix_list (pv 1) (pv 2) (fun _ _ => rfl)) pa_nil)))
      (pss_one (ps_ret (pe_ifExp (pt_cmpR (op_eqD hu) (pv 3) (pe_lst pa_nil) (nomark _)) pe_non (pe_op op_catA (pe_tup (pa_cons (pv 2) pa_nil)) (pe_call GP hr (by rfl) mP kP bP .nil pass0 (pa_cons (pv 0) (pa_cons (pv 3) pa_nil)))))))), ?_⟩
    have n0 := FA.n0
    have lov := tO.lenm
    refine ⟨_, rfl, _, rfl, O, ov, rfl, .inl (SqL.of hO), p, c, ks, y, n, _, rfl, FA, by omega, by omega, by omega, fun i ks1 H1 i0 i1 FA1 sv1 => ?_⟩
    have lti : i.toNat < ov.length := by omega
    have ev := atI_nat (List.getElem?_eq_getElem lti)
    rw [Int.toNat_of_nonneg i0] at ev
    have hO1 := sv1 _ _ hO Op Oc
    have tO1 := tO.to (Save.tup FA sv1)
    obtain ⟨ss, es_, ts⟩ := tO1.at_ (List.getElem?_eq_getElem lti)
    generalize ov[i.toNat] = v at ev ts
    have ks_ := ko ss (List.mem_of_getElem? es_)
    obtain ⟨a, xs, rfl, ha, hx⟩ := TD.ref_of (ds := ss.map stateD) ts
    refine ⟨_, rfl, _, rfl, O, ov, i, _, rfl, rfl, SqL.of hO1, ev, a, ss, rfl, ts, ks_, fun R rv es H2 s2 fR hR tR lR wR _ => ?_⟩
    refine ⟨_, rfl, by show 0 ≤ sizeLine; decide, fun e he => ?_⟩
    have s3 := same_new (o := .lst []) he
    have hR3 := s3 _ _ hR
    have tR3 := tR.to (Tup.of s3)
    have hE3 : (upd H2 e (.lst [])) e = some (.lst []) := upd_same
    generalize upd H2 e (.lst []) = H3 at s3 hR3 tR3 hE3 ⊢
    have sh := shaped_rows es fun e m => ⟨(wR e m).1, (wR e m).2.1⟩
    rw [evs_list] at sh
    have s13 := s2.trans s3
    have FA3 := FA1.same s13
    have sv3 := sv1.trans (Save.of s13)
    refine ⟨_, _, .lst (SqL.of hR3) (TDs.dp tR3), .lst (SqL.of hE3) .nil, sh, by decide, _, rfl, ?_⟩
    rw [eqv_evs]
    have Rp : R ≠ p := fun z => by rw [z, FA1.ob] at fR; cases fR
    have Rc : R ≠ c := fun z => by rw [z, FA1.cs] at fR; cases fR
    cases es with
    | nil => exact iteT (k1 ks1 (n + 1) _ FA3 (by omega) sv3)
    | cons e0 es =>
      have lrv := tR3.lenm
      rw [List.length_cons] at lrv lR
      refine iteF ⟨_, rfl, by show 1 ≤ sizeLine; decide, fun q hq => ?_⟩
      have s4 := same_new (o := .tup [V.int i]) hq
      have FA4 := FA3.same s4
      refine ⟨_, rfl, _, rfl, p, c, R, rv, ks1, y, n + 1, rfl, FA4, by omega, s4 _ _ hR3, Rp, Rc, by omega, by omega, fun x ks2 H5 mx FA5 sv5 => ?_⟩
      obtain ⟨j, ej⟩ := List.getElem?_of_mem mx
      obtain ⟨e1, ee1, te1⟩ := tR3.at_ ej
      obtain ⟨t1, rfl, ht1⟩ := ev_of ((te1.to (Tup.of s4)).to (Save.tup FA4 sv5))
      have hq5 := Save.tup FA4 sv5 _ _ (upd_same (H := H3) (a := q) (o := .tup [V.int i]))
      have we := wR e1 (List.mem_of_getElem? ee1)
      refine ⟨q, t1, _, _, rfl, rfl, hq5, ht1, by show 3 ≤ sizeLine; decide, fun T H6 s6 hT => ?_⟩
      exact k2 T i e1.1 e1.2 ks2 (n + 1 + 1) H6 hT ⟨i0, ss, es_, we.2.2⟩ (FA5.same s6) (by omega) (((sv3.trans (Save.of s4)).trans sv5).trans (Save.of s6))
end
end My

-- ===== KN3 =====
set_option Elab.async false
set_option linter.all false
set_option maxRecDepth 100000
set_option maxHeartbeats 4000000
namespace Kd
open PySem L2 PyProof.Rows PySem.Spec
/-! ### xs.remove(i), xs whole numbers -/
def rRemZ : V → List V → Hp → VK → Prop := fun x vs H Q => ∃ (l : Addr) (zs : List Int) (z : Int), x = .ref l ∧ vs = [.int z] ∧ H l = some (.lst (zs.map V.int)) ∧ z ∈ zs ∧ Q .non (upd H l (.lst ((zs.erase z).map V.int)))
theorem eqv_int (x y : Int) : PyData.eqv (.int x) (.int y) = decide (x = y) := by
  simp only [PyData.eqv]
  by_cases h : x = y
  · rw [h, decide_eq_true rfl, beq_self_eq_true]
  · rw [decide_eq_false h]
    exact beq_eq_false_iff_ne.mpr h
theorem er_map {α β : Type} (f : α → β) : ∀ (l : List α) (j : Nat), (l.eraseIdx j).map f = (l.map f).eraseIdx j
  | [], j => by simp
  | x :: l, 0 => by simp
  | x :: l, j + 1 => by simp [er_map f l j]
theorem place_int {zs : List Int} {z : Int} (h : z ∈ zs) : ∃ j, SeqAt.dataPlace (zs.map PyData.int) (.int z) = some j ∧ zs.erase z = zs.eraseIdx j := by
  have e : SeqAt.dataPlace (zs.map PyData.int) (.int z) = zs.idxOf? z := by
    unfold SeqAt.dataPlace List.idxOf?
    rw [List.findIdx?_map]
    refine congrArg (fun p => zs.findIdx? p) (funext fun y => ?_)
    show PyData.eqv (.int y) (.int z) = (y == z)
    rw [eqv_int]
    rfl
  have q := List.erase_eq_eraseIdx zs z
  cases o : zs.idxOf? z with
  | none =>
    exact absurd h (by simpa [List.idxOf?_eq_none_iff] using o)
  | some j =>
    rw [o] at q
    exact ⟨j, by rw [e, o], q⟩
theorem reads_ints {h : Heap} : ∀ {zs : List Int} {its : List Value}, Vals (zs.map V.int) its → ∃ as, ReadsAll h its (zs.map PyData.int) as
  | [], its, r => by
    cases r
    exact ⟨[], .nil⟩
  | z :: zs, its, r => by
    cases r with
    | cons p q =>
      obtain ⟨t, rfl⟩ := p
      obtain ⟨as, ra⟩ := reads_ints (h := h) q
      exact ⟨_, .cons (.int z t) ra⟩
theorem plain_ints : ∀ zs : List Int, PyData.plainAll (zs.map PyData.int) = true
  | [] => by simp [PyData.plainAll]
  | z :: zs => by simp [PyData.plainAll, PyData.plain, plain_ints zs]
theorem mt_removeZ {X : Cx} (hu : X.A.units + 64 < cLine) : MtR X "list.remove" rRemZ := by
  intro pins s σ H x vs v us Q I rx rv h
  obtain ⟨l, zs, z, rfl, rfl, hH, hz, q⟩ := h
  cases rx
  obtain ⟨u, rfl, ru⟩ := rv.one
  obtain ⟨t, rfl⟩ := ru
  obtain ⟨sz, its, n, r, hl, e⟩ := I.lstM hH
  obtain ⟨j, hp, he⟩ := place_int hz
  obtain ⟨as, ra⟩ := reads_ints (h := s.heap) r
  have dd : min (PyData.depthAll (zs.map PyData.int)) (PyData.int z).depth = 0 := by simp [PyData.depth]
  refine SeqAt.remove_list_data (vs := its.toArray) (xs := zs.map PyData.int) (d := .int z) (j := j) ⟨_, e, rfl, n, rfl⟩ ra (.int z t) (plain_ints zs) (by simp [PyData.plain]) (by rw [dd]; omega) hp (by rw [List.size_toArray, ← hl]; exact sz) ?_
  refine ⟨.non, _, I.lset (its' := its.eraseIdx j) (ys := (zs.erase z).map V.int) (t' := s.toks) hH e ?_ ?_ ?_, rfl, q⟩
  · show its.toArray.eraseIdxIfInBounds j = (its.eraseIdx j).toArray
    rw [List.eraseIdxIfInBounds_toArray]
  · rw [he, er_map]
    exact r.eraseIdx j
  · have := List.length_erase_le (a := z) (l := zs)
    rw [List.length_map] at sz ⊢
    omega
end Kd

-- ===== K13U0 =====
set_option Elab.async false
set_option linter.all false
set_option maxRecDepth 100000
set_option maxHeartbeats 4000000
namespace My
open PySem L2 PyProof.Rows PySem.Spec Kd
/-! ### the lists it keeps -/
structure Dst (H : Hp) (p c T Oq C : Addr) : Prop where
  tp : T ≠ p
  tc : T ≠ c
  op : Oq ≠ p
  oc : Oq ≠ c
  cp : C ≠ p
  cc : C ≠ c
  to : T ≠ Oq
  tC : T ≠ C
  oC : Oq ≠ C
  fT : H T = none
  fO : H Oq = none
  fC : H C = none
structure HSt (H H2 : Hp) (p c T Oq C : Addr) (y n2 : Int) (tv : List V) (ths : List Th) (os cs : List Int) : Prop where
  fd : ∃ ks, FeedAt H2 p c ks y n2
  sv : Save p c H H2
  ht : H2 T = some (.lst tv)
  tt : TDs H2 tv (ths.map thD)
  oo : H2 Oq = some (.lst (os.map V.int))
  cs_ : H2 C = some (.lst (cs.map V.int))
section
variable {H H2 H3 : Hp} {p c T Oq C : Addr} {y n2 n3 : Int} {tv : List V} {ths : List Th} {os cs : List Int}
theorem HSt.step (D : Dst H p c T Oq C) (h : HSt H H2 p c T Oq C y n2 tv ths os cs) (sv : Save p c H2 H3) (fd : ∃ ks, FeedAt H3 p c ks y n3) : HSt H H3 p c T Oq C y n3 tv ths os cs := by
  obtain ⟨ks, F⟩ := h.fd
  exact ⟨fd, h.sv.trans sv, sv _ _ h.ht D.tp D.tc, h.tt.to (Save.tup F sv), sv _ _ h.oo D.op D.oc, sv _ _ h.cs_ D.cp D.cc⟩
theorem HSt.same (D : Dst H p c T Oq C) (h : HSt H H2 p c T Oq C y n2 tv ths os cs) (s : Same H2 H3) : HSt H H3 p c T Oq C y n2 tv ths os cs :=
  h.step D (Save.of s) (let ⟨ks, F⟩ := h.fd; ⟨ks, F.same s⟩)
theorem HSt.putT (D : Dst H p c T Oq C) (h : HSt H H2 p c T Oq C y n2 tv ths os cs) {b : Addr} {th : Th} (hb : TD H2 (.ref b) (thD th)) : HSt H (upd H2 T (.lst (tv ++ [.ref b]))) p c T Oq C y n2 (tv ++ [.ref b]) (ths ++ [th]) os cs := by
  obtain ⟨ks, F⟩ := h.fd
  have tp : Tup H2 (upd H2 T (.lst (tv ++ [.ref b]))) := Tup.at_ h.ht fun xs z => nomatch z
  refine ⟨⟨ks, F.wr D.tp D.tc⟩, h.sv.wr D.fT, upd_same, ?_, by rw [upd_ne (Ne.symm D.to)]; exact h.oo, by rw [upd_ne (Ne.symm D.tC)]; exact h.cs_⟩
  rw [List.map_append]
  exact TDs.snoc (hb.to tp) (h.tt.to tp)
theorem HSt.putO (D : Dst H p c T Oq C) (h : HSt H H2 p c T Oq C y n2 tv ths os cs) {os' : List Int} : HSt H (upd H2 Oq (.lst (os'.map V.int))) p c T Oq C y n2 tv ths os' cs := by
  obtain ⟨ks, F⟩ := h.fd
  have tp : Tup H2 (upd H2 Oq (.lst (os'.map V.int))) := Tup.at_ h.oo fun xs z => nomatch z
  exact ⟨⟨ks, F.wr D.op D.oc⟩, h.sv.wr D.fO, by rw [upd_ne D.to]; exact h.ht, h.tt.to tp, upd_same, by rw [upd_ne (Ne.symm D.oC)]; exact h.cs_⟩
theorem HSt.putC (D : Dst H p c T Oq C) (h : HSt H H2 p c T Oq C y n2 tv ths os cs) {cs' : List Int} : HSt H (upd H2 C (.lst (cs'.map V.int))) p c T Oq C y n2 tv ths os cs' := by
  obtain ⟨ks, F⟩ := h.fd
  have tp : Tup H2 (upd H2 C (.lst (cs'.map V.int))) := Tup.at_ h.cs_ fun xs z => nomatch z
  exact ⟨⟨ks, F.wr D.cp D.cc⟩, h.sv.wr D.fC, by rw [upd_ne D.tC]; exact h.ht, h.tt.to tp, by rw [upd_ne D.oC]; exact h.oo, upd_same⟩
end
theorem eqv_ints (os : List Int) : PyData.eqv (.list (os.map PyData.int)) (.list []) = os.isEmpty := by
  cases os with
  | nil => simp [PyData.eqv, PyData.eqvAll]
  | cons e es => simp [PyData.eqv, PyData.eqvAll]
theorem PT.wk {X : Cx} {e : Expr} {t u : TT} (h : PT X e t) (k : ∀ σ H Q, u σ H Q → t σ H Q) : PT X e u := ⟨fun pins s σ H Q I q => h.run pins s σ H Q I (k σ H Q q)⟩
theorem dec_int (x y : Int) : decide (V.int x = V.int y) = decide (x = y) := by
  by_cases h : x = y
  · rw [h, decide_eq_true rfl, decide_eq_true rfl]
  · rw [decide_eq_false h, decide_eq_false fun z => h (V.int.inj z)]
theorem PE.wk {X : Cx} {e : Expr} {t u : TE} (h : PE X e t) (k : ∀ σ H Q, u σ H Q → t σ H Q) : PE X e u := ⟨fun pins s σ H Q I q => h.run pins s σ H Q I (k σ H Q q)⟩
theorem new_ne {H : Hp} {a b : Addr} {o : HO} (h : upd H a o b = none) : b ≠ a ∧ H b = none := by
  have n : b ≠ a := fun z => by
    rw [z, upd_same] at h
    cases h
  exact ⟨n, by rwa [upd_ne n] at h⟩
theorem at_intZ {cs : List Int} {z : Int} (h0 : 0 ≤ z) (h1 : z < cs.length) : ∃ k, cs[z.toNat]? = some k ∧ atI (cs.map V.int) z = some (.int k) := by
  have lt : z.toNat < cs.length := by omega
  have e : (cs.map V.int)[z.toNat]? = some (.int cs[z.toNat]) := by rw [List.getElem?_map, List.getElem?_eq_getElem lt]; rfl
  have q := atI_nat e
  rw [Int.toNat_of_nonneg h0] at q
  exact ⟨_, List.getElem?_eq_getElem lt, q⟩
/-- the word of an end -/
def u4 : TE := fun σ H Q => ∃ (p c : Addr) (ks : List Int) (w n wy : Int), σ[0]? = some (some (.ref p)) ∧ σ[7]? = some (some (.int wy)) ∧ FeedAt H p c ks w n ∧ n < 999999 ∧
  ∀ (z : Str) (ks' : List Int) (n' : Int) (H' : Hp), (z = "commit" ∨ z = "abort") → FeedAt H' p c ks' w n' → n' ≤ n + 1 → Save p c H H' → Q (.str z) H'
/-- the first test -/
def u1 : TT := fun σ H Q => ∃ (C Oq : Addr) (cs os : List Int) (wy : Int), σ[5]? = some (some (.ref C)) ∧ σ[4]? = some (some (.ref Oq)) ∧ σ[7]? = some (some (.int wy)) ∧ H C = some (.lst (cs.map V.int)) ∧ H Oq = some (.lst (os.map V.int)) ∧
  (∀ H', Same H H' → cs.length < 10 → Q true H') ∧ ∀ H', Same H H' → Q false H'
def u2 : TT := fun σ H Q => ∃ (Oq : Addr) (os : List Int) (wy : Int), σ[4]? = some (some (.ref Oq)) ∧ σ[7]? = some (some (.int wy)) ∧ H Oq = some (.lst (os.map V.int)) ∧
  (∀ H', Same H H' → os ≠ [] → wy < 6 → Q true H') ∧ ∀ H', Same H H' → Q false H'
end My

-- ===== K13J =====
set_option Elab.async false
set_option linter.all false
set_option maxRecDepth 100000
set_option maxHeartbeats 4000000
namespace My
open PySem L2 PyProof.Rows PySem.Spec Kd TL StX ClX
abbrev sKev : Stmt := inClass sKind 5
abbrev sEo : Stmt := top 29
abbrev sIa : Stmt := top 30
theorem rows_evs2 {H : Hp} : ∀ M : List (Addr × List Key), (∀ q ∈ M, H q.1 = some (.tup (q.2.map kV)) ∧ ∃ e : Ev, q.2 = evK e) → ∃ es : List Ev, TDs H (M.map fun q => V.ref q.1) (es.map evD) ∧ M.map Prod.snd = es.map evK
  | [], _ => ⟨[], .nil, rfl⟩
  | q :: M, h => by
    obtain ⟨es, h1, h2⟩ := rows_evs2 M fun r m => h r (List.mem_cons_of_mem _ m)
    obtain ⟨a, e, ee⟩ := h q List.mem_cons_self
    refine ⟨e :: es, .cons (ev_new (by rw [ee] at a; exact a)) h1, by rw [List.map_cons, List.map_cons, ee, h2]⟩
def spKev (C : Addr) : Sp := fun vs H Q _ => ∃ (v : V) (ss : List (List Stp)), vs = [v] ∧ KindAt C H v ss ∧ KOk ss ∧ ∀ (R : Addr) (es : List Ev) (H' : Hp), Same H H' → TD H' (.ref R) (.tuple (es.map evD)) → (∀ e, e ∈ es ↔ EvIn ss e) → es.Nodup → es.length ≤ 24 → Q (.ref R) H'
/-- the events' dict -/
def evB (e : Ev) : List Key × V := (evK e, .bl true)
def EvTab (H : Hp) (R : Addr) (sss : List (List (List Stp))) : Prop := ∃ bs : List Addr, H R = some (.lst (bs.map V.ref)) ∧ bs.length = sss.length ∧ ∀ (i : Nat) (b : Addr) (ss : List (List Stp)), bs[i]? = some b → sss[i]? = some ss → ∃ es : List Ev, H b = some (.dT (es.map evB)) ∧ ∀ e, EvIn ss e ↔ e ∈ es
def HouseAt (C : Addr) (H : Hp) (hv : List V) (sss : List (List (List Stp))) : Prop := hv.length = sss.length ∧ ∀ (i : Nat) (v : V) (ss : List (List Stp)), hv[i]? = some v → sss[i]? = some ss → KindAt C H v ss
theorem HouseAt.same {C : Addr} {H H' : Hp} {hv : List V} {sss : List (List (List Stp))} (s : Same H H') (h : HouseAt C H hv sss) : HouseAt C H' hv sss := ⟨h.1, fun i v ss e1 e2 => (h.2 i v ss e1 e2).same s⟩
def spEo (C : Addr) : Sp := fun vs H Q _ => ∃ (sy : Addr) (hv : List V) (sss : List (List (List Stp))), vs = [.ref sy] ∧ H sy = some (.tup hv) ∧ HouseAt C H hv sss ∧ (∀ ss ∈ sss, KOk ss) ∧ sss.length ≤ 4 ∧ ∀ R H', Same H H' → H R = none → EvTab H' R sss → Q (.ref R) H'
theorem evd_dict {K : PySem.W.Frag} {o0 o1 : Option V} {b : Addr} {ys : List V} {es : List Ev} {H : Hp} (hb : H b = some (.tup ys)) (hy : TDs H ys (es.map evD)) (nd : es.Nodup) (few : es.length ≤ 24) {Q : VK}
    (q : ∀ D H', Same H H' → H' D = some (.dT (es.map evB)) → Q (.ref D) H') :
    DcW (gName 2) (tVar 2) (tC (.bl true)) [2] [o0, o1, none] Q (Itt K b) H := by
  intro D hD
  have len := hy.lenm
  refine ⟨fun i m H2 => m = ys.length - i ∧ i ≤ ys.length ∧ Same H H2 ∧ H2 D = some (.dT ((es.take i).map evB)), ⟨_, rfl, Nat.zero_le _, same_new hD, by simp [upd_same]⟩, fun i m H2 ⟨em, le, s2, d2⟩ => ?_⟩
  subst em
  have hb2 := s2 _ _ hb
  rcases Nat.lt_or_ge i ys.length with lt | ge
  · obtain ⟨y, ey⟩ : ∃ y, ys[i]? = some y := ⟨_, List.getElem?_eq_getElem lt⟩
    obtain ⟨e, ee, te⟩ := hy.at_ ey
    obtain ⟨c, rfl, hc⟩ := ev_of te
    refine .inr ⟨⟨ys, _, SqT.of hb2, ey⟩, fun H3 => Same H H3 ∧ H3 D = some (.dT ((es.take (i + 1)).map evB)), fun H3 ⟨s3, d3⟩ => ⟨_, by omega, rfl, lt, s3, d3⟩, fun v H3 yl => ?_⟩
    obtain ⟨eH, yv⟩ := yl
    subst eH
    have e0 : ys[i]? = some v := yv _ (SqT.of hb2)
    rw [ey] at e0
    cases e0
    refine ⟨rfl, _, rfl, (es.take i).map evB, evK e, c, rfl, s2 _ _ hc, d2, ?_, same_at s2 hD, ?_⟩
    · rw [List.length_map, List.length_take]
      exact small_lt (m := 24) (by omega)
    · rw [upd_same, putK_new, List.take_succ, ee, List.map_append]
      · rfl
      · intro p mp e2
        obtain ⟨x, mx, rfl⟩ := List.mem_map.mp mp
        have ex : x = e := evK_inj e2
        rw [ex] at mx
        obtain ⟨lt2, rfl⟩ := List.getElem?_eq_some_iff.mp ee
        obtain ⟨j, hj, e3⟩ := List.mem_take_iff_getElem.mp mx
        have := (List.getElem_inj nd).mp e3
        omega
  · have e : i = ys.length := by omega
    subst e
    rw [len, List.take_length] at d2
    exact .inl ⟨⟨ys, SqT.of hb2, Nat.le_refl _⟩, q D H2 s2 d2⟩
theorem val_in {es : List Ev} {e : Ev} (h : e ∈ es) : (valV (es.map evB) (evK e)).isSome = true := by
  unfold valV
  have ex : ∃ p, (es.map evB).find? (fun kv => decide (kv.1 = evK e)) = some p := by
    rw [← Option.isSome_iff_exists, List.find?_isSome]
    exact ⟨evB e, List.mem_map.mpr ⟨e, h, rfl⟩, by simp [evB]⟩
  obtain ⟨p, q⟩ := ex
  rw [q]
  rfl
section
variable {P : Program} {w : World} {K : PySem.W.Frag} {mg : Str → Option Value} {base : Heap} {C : Addr}
abbrev nKv : List Str := ["self", "state", "step"]
theorem scKv : FnScope nKv ["self"] (defScope sKev) := ⟨rfl, rfl, rfl, by decide +kernel, rfl, by decide +kernel, by decide +kernel⟩
theorem ok_kev {f : Addr} {fd : FuncData} (F : Fun K "events" "Kind.events" sKev f fd) (cl : Cls K C) (n1 : NoAttr K C "states") (mtup : mg "tuple" = none) (msorted : mg "sorted" = none) : FnOk P w K mg base CX0 1 f fd ["self"] (spKev C) := by
  refine F.ok scKv (fun vs H Q E h => ?_) (fun cdv A outer s H vs Q E hr h => ?_)
  · obtain ⟨v, ss, rfl, _⟩ := h
    rfl
  · obtain ⟨v, ss, rfl, hk, so, k⟩ := h
    have hu := hr.units
    have hu2 : (A.deeper (envOfC "Kind.events" (defScope sKev) s.heap.objs.size f cdv)).units + 2 < cLine := by omega
    refine ⟨_, pss_one (ps_ret (pe_callTy call_tuple_of (by rfl) mtup (by decide +kernel) (pa_cons (pe_callB (cr_sortS rfl hu) (by rfl) msorted PyProof.Rows.boot_sorted (pa_cons
      (pe_sc2 (own := [("state", 1), ("step", 2)]) (us := [2]) (wb := iTup K (tVar 1)) (te := tSl (rSlT K) (tVar 2) tNoPart (tPart (tC (V.int 2)))) rfl scKv.nd hu2 (pi_tup (pe_fld (pv 0) rfl)) (blkOk_by (N := nKv) (sc := defScope sKev) (by decide +kernel)) (by decide)
            (fun _ _ _ _ _ => pg_name (i := 1) scKv.nd rfl (Or.inl rfl)) (fun _ _ _ _ _ => pi_tup (pv 1)) (fun _ _ _ _ _ => pg_name (i := 2) scKv.nd rfl (Or.inl rfl)) (fun _ _ _ _ _ => pe_slice (r := rSlT K) sl_tup (pv 2) po_none (po_some pe_int))) pa_nil)) pa_nil))), ?_⟩
    obtain ⟨om, dx, a, m, rfl, ho, ht, hm⟩ := hk
    obtain ⟨xs, ha, hxs⟩ := ht.tup_of
    obtain ⟨es0, e1, e2⟩ := so.evs
    refine ⟨_, rfl, om, C, dx, _, _, rfl, ho, cl, n1, rfl, a, rfl, ⟨_, SqT.of ha⟩, ev_set (K := K) (P := P) (w := w) (o := some (V.ref om)) (Q := fun x H1 => rSortS K P w [x] H1 fun y H2 => rTupO K [y] H2 Q) ha hxs e1 e2 fun D2 H3 L s3 h1 h2 h3 h4 h5 => ?_⟩
    have ek : ∀ q ∈ L, ∃ e : Ev, q.2 = evK e := fun q mq => by
      obtain ⟨st, _, x, _, e⟩ := (h4 q.2).mp (List.mem_map.mpr ⟨q, mq, rfl⟩)
      exact ⟨evOf x, e⟩
    refine ⟨D2, L, rfl, h1, fun q mq => SqT.of (h2 q mq), ?_, ?_, fun L1 p pm l64 nd2 hp => ?_⟩
    · intro d hd d' hd'
      obtain ⟨q, mq, rfl⟩ := List.mem_map.mp hd
      obtain ⟨r, mr, rfl⟩ := List.mem_map.mp hd'
      obtain ⟨x, ex⟩ := ek q mq
      obtain ⟨y, ey⟩ := ek r mr
      rw [ex, ey]
      rfl
    · refine .inl fun d hd => ?_
      obtain ⟨q, mq, rfl⟩ := List.mem_map.mp hd
      obtain ⟨x, ex⟩ := ek q mq
      rw [ex]
      exact ⟨_, _, rfl⟩
    have pm2 : (L1.mergeSort (PySem.W.dataLe false fun q : Addr × List Key => tD q.2)).Perm L := (List.mergeSort_perm _ _).trans pm
    generalize L1.mergeSort (PySem.W.dataLe false fun q : Addr × List Key => tD q.2) = M at pm2 ⊢
    refine ⟨p, _, rfl, .inl ⟨SqL.of upd_same, fun r hr3 => ?_⟩⟩
    have sA := (same_new (o := .lst (M.map fun q => V.ref q.1)) hp).trans (same_new (o := .tup (M.map fun q => V.ref q.1)) hr3)
    obtain ⟨es, t1, t2⟩ := rows_evs2 (H := upd (upd H3 p (.lst (M.map fun q => V.ref q.1))) r (.tup (M.map fun q => V.ref q.1))) M fun q mq => ⟨sA _ _ (h2 q (pm2.mem_iff.mp mq)), ek q (pm2.mem_iff.mp mq)⟩
    have ndk : (es.map evK).Nodup := by
      rw [← t2]
      exact (pm2.map Prod.snd).nodup_iff.mpr h3
    have lm : es.length = L.length := by
      have z := congrArg List.length t2
      rw [List.length_map, List.length_map, pm2.length_eq] at z
      exact z.symm
    refine k r es _ (s3.trans sA) (.tup upd_same t1) (fun e => ?_) (List.Pairwise.of_map evK (fun x y n e => n (by rw [e])) ndk) (by omega)
    have q1 : e ∈ es ↔ evK e ∈ M.map Prod.snd := by
      rw [t2, List.mem_map]
      exact ⟨fun m => ⟨e, m, rfl⟩, fun ⟨x, mx, ex⟩ => by rw [← evK_inj ex]; exact mx⟩
    rw [q1, (pm2.map Prod.snd).mem_iff, h4]
    unfold EvIn
    constructor
    · rintro ⟨st, m1, x, m2, e3⟩
      exact ⟨st, m1, x, m2, (evK_inj e3).symm⟩
    · rintro ⟨st, m1, x, m2, e3⟩
      exact ⟨st, m1, x, m2, by rw [e3]⟩
abbrev nEo : List Str := ["system", "kind", "event"]
theorem scEo : FnScope nEo ["system"] (defScope sEo) := ⟨rfl, rfl, rfl, by decide +kernel, rfl, by decide +kernel, by decide +kernel⟩
theorem ok_eo {f p3 g3 : Addr} {fd fd3 : FuncData} (F : Fun K "events_of" "events_of" sEo f fd) (cl : Cls K C) (m3 : PropOf K C "events" p3 g3) (G3 : FnOk P w K mg base CX0 1 g3 fd3 ["self"] (spKev C)) (b3 : Binds K fd3 ["self"] []) : FnOk P w K mg base CX0 3 f fd ["system"] (spEo C) := by
  refine F.ok scEo (fun vs H Q E h => ?_) (fun cdv A outer s H vs Q E hr h => ?_)
  · obtain ⟨sy, hv, sss, rfl, _⟩ := h
    rfl
  · obtain ⟨sy, hv, sss, rfl, hs, hh, ko, l4, k⟩ := h
    have hu := hr.units
    have hu2 : (A.deeper (envOfC "events_of" (defScope sEo) s.heap.objs.size f cdv)).units + 2 < cLine := by omega
    refine ⟨_, pss_one (ps_ret (pe_lc (own := [("kind", 1)]) (g := gName 1) (tt := tYes) (te := tDcT (iTup K (tProp C (spKev C) [] E0 (tVar 1))) (gName 2) (tVar 2) (tC (.bl true)) [2]) rfl scEo.nd (pi_tup (pv 0)) (blkOk_by (N := nEo) (sc := defScope sEo) (by decide +kernel))
            (fun _ _ _ _ _ => pg_name (i := 1) scEo.nd rfl (Or.inl rfl)) (fun _ _ _ _ _ => pts_nil)
            (fun _ _ _ _ _ => pe_dcT (own := [("event", 2)]) rfl scEo.nd hu2 (pi_tup (pe_prop (pv 1) cl m3 G3 hr b3 .nil pass0 rfl)) (blkOk_by (N := nEo) (sc := relS (lcScope sEo) (defScope sEo)) (by decide +kernel))
              (fun _ _ _ _ _ => pg_name (i := 2) scEo.nd rfl (Or.inl rfl)) (fun _ _ _ _ _ => pv 2) (fun _ _ _ _ _ => pe_bl)))), ?_⟩
    have lh := hh.1
    refine ⟨_, rfl, sy, rfl, ⟨_, SqT.of hs⟩, fun D hD => lc_tup (K := K) (a := sy) (xs := hv) (fun i H2 => Same H H2 ∧ ∃ bs : List Addr, H2 D = some (.lst (bs.map V.ref)) ∧ bs.length = i ∧ ∀ (j : Nat) (b : Addr) (ss : List (List Stp)), bs[j]? = some b → sss[j]? = some ss → ∃ es : List Ev, H2 b = some (.dT (es.map evB)) ∧ ∀ e, EvIn ss e ↔ e ∈ es)
      ⟨same_new hD, [], upd_same, rfl, fun j b st e => by simp at e⟩ (fun i H2 _ ⟨s2, _⟩ => SqT.of (s2 _ _ hs)) (fun i x H2 ex ⟨s2, bs, d2, bl, hbs⟩ => ?_) fun H2 ⟨s2, bs, d2, bl, hbs⟩ => ?_⟩
    · have lt : i < hv.length := (List.getElem?_eq_some_iff.mp ex).1
      obtain ⟨ss, es_⟩ : ∃ ss, sss[i]? = some ss := ⟨sss[i]'(by omega), List.getElem?_eq_getElem _⟩
      have ka := (hh.2 i x ss ex es_).same s2
      have kss := ko ss (List.mem_of_getElem? es_)
      obtain ⟨om, dx, a0, m0, rfl, hom, _, _⟩ := id ka
      refine ⟨rfl, _, rfl, om, dx, _, rfl, hom, _, ss, rfl, ka, kss, fun R es H3 s3 tR iff nd few => ?_⟩
      obtain ⟨ys, hR, tys⟩ := tR.tup_of
      refine ⟨R, rfl, ⟨_, SqT.of hR⟩, evd_dict (K := K) (o0 := some (V.ref sy)) (o1 := some (V.ref om)) (Q := fun y H4 => ∃ acc, H4 D = some (.lst acc) ∧ acc.length < sizeLine ∧ Same H (upd H4 D (.lst (acc ++ [y]))) ∧ ∃ bs : List Addr, (upd H4 D (.lst (acc ++ [y]))) D = some (.lst (bs.map V.ref)) ∧ bs.length = i + 1 ∧ ∀ (j : Nat) (b : Addr) (ss : List (List Stp)), bs[j]? = some b → sss[j]? = some ss → ∃ es : List Ev, (upd H4 D (.lst (acc ++ [y]))) b = some (.dT (es.map evB)) ∧ ∀ e, EvIn ss e ↔ e ∈ es)
        hR tys nd few fun D2 H4 s4 d4 => ⟨_, s4 _ _ (s3 _ _ d2), ?_, same_at (s2.trans (s3.trans s4)) hD, bs ++ [D2], ?_, ?_, fun j c sj ec ej => ?_⟩⟩
      · rw [List.length_map]
        exact small_lt (m := 40) (by omega)
      · rw [upd_same, List.map_append]
        rfl
      · rw [List.length_append, bl]
        rfl
      · have at_ : ∃ es : List Ev, H4 c = some (.dT (es.map evB)) ∧ ∀ e, EvIn sj e ↔ e ∈ es := by
          rcases Nat.lt_or_ge j bs.length with l | g
          · rw [List.getElem?_append_left l] at ec
            obtain ⟨es', q1, q2⟩ := hbs j c sj ec ej
            exact ⟨es', s4 _ _ (s3 _ _ q1), q2⟩
          · rw [List.getElem?_append_right g] at ec
            have e0 : j - bs.length = 0 := by
              have z := (List.getElem?_eq_some_iff.mp ec).1
              simp at z
              omega
            have ej2 : j = i := by omega
            rw [e0] at ec
            have e2 : D2 = c := Option.some.inj ec
            rw [ej2, es_] at ej
            rw [← Option.some.inj ej, ← e2]
            exact ⟨es, d4, fun e => (iff e).symm⟩
        obtain ⟨es', q1, q2⟩ := at_
        refine ⟨es', ?_, q2⟩
        rw [upd_ne fun z => by rw [z, s4 _ _ (s3 _ _ d2)] at q1; cases q1]
        exact q1
    · exact k D H2 s2 hD ⟨bs, d2, by rw [bl, lh], hbs⟩
end
end My

-- ===== KX1 =====
set_option Elab.async false
set_option linter.all false
set_option maxRecDepth 100000
set_option maxHeartbeats 4000000
namespace PySem.SeqAt
open AutoSeq1 (wpAny_loadPart')
open MeetsSeq
theorem dict_eq_declines_str (l : Addr) (es : Array DictEntry) (n : Nat) (dd : Option Addr) (sl : Array (Option Value)) (b : Str) (u : Tok) :
    Meets (Builtin.«dict.__eq__» ⟨[.ref l, .str b u], []⟩) (fun _ R s => s.heap.get? l = some { cls := .type "dict", dict := dd, data := .dict es n, slots := sl } ∧ R (.ok (.ret .notImplemented)) s) :=
  .of_wp fun prog w A R s h => by obtain ⟨hp, g, d, tk, os⟩ := s; obtain ⟨hl, h⟩ := h; have f1 := F.sub_str_dict; wp_walk using wpAny_loadPart' hl; exact ⟨_, rfl, h⟩
theorem str_eq_declines_dict (b : Str) (u : Tok) (l : Addr) (es : Array DictEntry) (n : Nat) (dd : Option Addr) (sl : Array (Option Value)) :
    Meets (Builtin.«str.__eq__» ⟨[.str b u, .ref l], []⟩) (fun _ R s => s.heap.get? l = some { cls := .type "dict", dict := dd, data := .dict es n, slots := sl } ∧ R (.ok (.ret .notImplemented)) s) :=
  .of_wp fun prog w A R s h => by obtain ⟨hp, g, d, tk, os⟩ := s; obtain ⟨hl, h⟩ := h; wp_walk using wpAny_loadPart' hl, wpAny_load hl; exact ⟨_, rfl, h⟩
end PySem.SeqAt
namespace PySem.SeqAt
open MeetsSeq
theorem RcAt.dict_str {A : Around} {s : Shared} {l : Addr} {es : Array DictEntry} {n : Nat} {dd : Option Addr} {sl : Array (Option Value)} (b : Str) (u : Tok) (ho : s.heap.get? l = some { cls := .type "dict", dict := dd, data := .dict es n, slots := sl }) (hu : A.units < cLine) : RcAt A s (.ref l) (.str b u) false := fun prog w E Q h =>
  rc_eq_decline_or (k := false) ⟨_, ho, rfl⟩ (typeIs_str s b u) (by decide) F.sub_str_dict F.slot_dict_eq F.slot_str_eq_refl
    (fun _ hq => call_meets F.slot_dict_eq ⟨_, ho, rfl⟩ F.entry_dict_eq (F.args_dict_eq_2 _ _) (dict_eq_declines_str l es n dd sl b u) ⟨ho, hq⟩)
    (fun _ hq => call_meets F.slot_str_eq_refl (typeIs_str s b u) F.entry_str_eq (F.args_str_eq_2 _ _) (str_eq_declines_dict b u l es n dd sl) ⟨ho, hq⟩)
    (fun _ hq => wpAny_of_eq (rfl : isSame (.ref l) (.str b u) = pure false) hq) (.inr hu) h
end PySem.SeqAt
namespace Kd
open PySem L2 PyProof.Rows PySem.Spec
/-! ### values of any kind: lists are not looked into, dicts are empty; N of where the lists stand -/
mutual
inductive TZ (N : Addr → Prop) (H : Hp) : V → PyData → Prop
  | non : TZ N H .non .none
  | bl (b : Bool) : TZ N H (.bl b) (.bool b)
  | int (i : Int) : TZ N H (.int i) (.int i)
  | str (x : Str) : TZ N H (.str x) (.str x)
  | lst {a : Addr} {xs : List V} : N a → H a = some (.lst xs) → TZ N H (.ref a) (.list [])
  | tup {a : Addr} {xs : List V} {ds : List PyData} : H a = some (.tup xs) → TZs N H xs ds → TZ N H (.ref a) (.tuple ds)
  | dct {a : Addr} : H a = some (.dK []) → TZ N H (.ref a) (.dict [])
inductive TZs (N : Addr → Prop) (H : Hp) : List V → List PyData → Prop
  | nil : TZs N H [] []
  | cons {v : V} {vs : List V} {d : PyData} {ds : List PyData} : TZ N H v d → TZs N H vs ds → TZs N H (v :: vs) (d :: ds)
end
/-- what a value is made of stands in another heap, too -/
structure Zf (N : Addr → Prop) (H H' : Hp) : Prop where
  l : ∀ a xs, N a → H a = some (.lst xs) → H' a = some (.lst xs)
  t : ∀ a xs, H a = some (.tup xs) → H' a = some (.tup xs)
  d : ∀ a, H a = some (.dK []) → H' a = some (.dK [])
theorem Zf.of {N : Addr → Prop} {H H' : Hp} (s : ∀ a o, H a = some o → H' a = some o) : Zf N H H' := ⟨fun a _ _ e => s a _ e, fun a _ e => s a _ e, fun a e => s a _ e⟩
theorem Zf.trans {N : Addr → Prop} {H H' H2 : Hp} (f : Zf N H H') (g : Zf N H' H2) : Zf N H H2 := ⟨fun a xs n e => g.l a xs n (f.l a xs n e), fun a xs e => g.t a xs (f.t a xs e), fun a e => g.d a (f.d a e)⟩
mutual
theorem TZ.to {N : Addr → Prop} {H H' : Hp} (f : Zf N H H') : ∀ {v : V} {d : PyData}, TZ N H v d → TZ N H' v d
  | _, _, .non => .non
  | _, _, .bl b => .bl b
  | _, _, .int i => .int i
  | _, _, .str x => .str x
  | _, _, .lst n e => .lst n (f.l _ _ n e)
  | _, _, .tup e r => .tup (f.t _ _ e) (TZs.to f r)
  | _, _, .dct e => .dct (f.d _ e)
theorem TZs.to {N : Addr → Prop} {H H' : Hp} (f : Zf N H H') : ∀ {vs : List V} {ds : List PyData}, TZs N H vs ds → TZs N H' vs ds
  | _, _, .nil => .nil
  | _, _, .cons h r => .cons (TZ.to f h) (TZs.to f r)
end
theorem TZs.len {N : Addr → Prop} {H : Hp} : ∀ {vs : List V} {ds : List PyData}, TZs N H vs ds → vs.length = ds.length
  | _, _, .nil => rfl
  | _, _, .cons _ r => by rw [List.length_cons, List.length_cons, r.len]
theorem TZs.at_ {N : Addr → Prop} {H : Hp} : ∀ {vs : List V} {ds : List PyData}, TZs N H vs ds → ∀ {i : Nat} {v : V}, vs[i]? = some v → ∃ d, ds[i]? = some d ∧ TZ N H v d
  | _, _, .nil, i, v, e => by simp at e
  | _, _, .cons h r, 0, v, e => ⟨_, rfl, by rw [← Option.some.inj e]; exact h⟩
  | _, _, .cons h r, i + 1, v, e => r.at_ (i := i) e
theorem TZs.app {N : Addr → Prop} {H : Hp} : ∀ {vs : List V} {ds : List PyData} {us : List V} {es : List PyData}, TZs N H vs ds → TZs N H us es → TZs N H (vs ++ us) (ds ++ es)
  | _, _, _, _, .nil, g => g
  | _, _, _, _, .cons h r, g => .cons h (r.app g)
theorem TZs.take {N : Addr → Prop} {H : Hp} : ∀ {vs : List V} {ds : List PyData} (n : Nat), TZs N H vs ds → TZs N H (vs.take n) (ds.take n)
  | _, _, 0, _ => .nil
  | _, _, n + 1, .nil => .nil
  | _, _, n + 1, .cons h r => .cons h (r.take n)
theorem TZs.drop {N : Addr → Prop} {H : Hp} : ∀ {vs : List V} {ds : List PyData} (n : Nat), TZs N H vs ds → TZs N H (vs.drop n) (ds.drop n)
  | _, _, 0, h => h
  | _, _, n + 1, .nil => .nil
  | _, _, n + 1, .cons h r => r.drop n
/-- the name of a value's type -/
def tyN : PyData → String
  | .none => "NoneType"
  | .bool _ => "bool"
  | .int _ => "int"
  | .str _ => "str"
  | .list _ => "list"
  | .tuple _ => "tuple"
  | .dict _ => "dict"
def isTup : PyData → Bool
  | .tuple _ => true
  | _ => false
def isStr : PyData → Bool
  | .str _ => true
  | _ => false
def isInt : PyData → Bool
  | .int _ => true
  | .bool _ => true
  | _ => false
def isBl : PyData → Bool
  | .bool _ => true
  | _ => false
theorem TZ.ty {K : PySem.W.Frag} {N : Addr → Prop} {H : Hp} {v : V} {d : PyData} (h : TZ N H v d) : TyX K H v (.type (tyN d)) := by
  cases h with
  | non => exact .base .non
  | bl b => exact .base (.bl b)
  | int i => exact .base (.int i)
  | str x => exact .base (.str x)
  | lst _ e => exact .base (.lst e)
  | tup e _ => exact .base (.tup e)
  | dct e => exact .base (.dK e)
theorem kb_all : ([("NoneType", false, false, false, false), ("bool", false, false, true, true), ("int", false, false, true, false), ("str", false, true, false, false), ("list", false, false, false, false), ("tuple", true, false, false, false), ("dict", false, false, false, false)] : List (String × Bool × Bool × Bool × Bool)).all (fun x =>
    kitB x.1 "tuple" == some x.2.1 && kitB x.1 "str" == some x.2.2.1 && kitB x.1 "int" == some x.2.2.2.1 && kitB x.1 "bool" == some x.2.2.2.2) = true := by decide +kernel
theorem kb_of (d : PyData) : kitB (tyN d) "tuple" = some (isTup d) ∧ kitB (tyN d) "str" = some (isStr d) ∧ kitB (tyN d) "int" = some (isInt d) ∧ kitB (tyN d) "bool" = some (isBl d) := by
  have z := kb_all
  simp only [List.all_cons, List.all_nil, Bool.and_true, Bool.and_eq_true, beq_iff_eq] at z
  obtain ⟨z1, z2, z3, z4, z5, z6, z7⟩ := z
  cases d with
  | none => exact ⟨z1.1.1.1, z1.1.1.2, z1.1.2, z1.2⟩
  | bool _ => exact ⟨z2.1.1.1, z2.1.1.2, z2.1.2, z2.2⟩
  | int _ => exact ⟨z3.1.1.1, z3.1.1.2, z3.1.2, z3.2⟩
  | str _ => exact ⟨z4.1.1.1, z4.1.1.2, z4.1.2, z4.2⟩
  | list _ => exact ⟨z5.1.1.1, z5.1.1.2, z5.1.2, z5.2⟩
  | tuple _ => exact ⟨z6.1.1.1, z6.1.1.2, z6.1.2, z6.2⟩
  | dict _ => exact ⟨z7.1.1.1, z7.1.1.2, z7.1.2, z7.2⟩
section
variable {K : PySem.W.Frag} {N : Addr → Prop} {H : Hp} {v : V} {d : PyData} {Q : VK}
theorem TZ.isi_tup (h : TZ N H v d) (q : Q (.bl (isTup d)) H) : rIsi K [v, .ty "tuple"] H Q := ⟨v, .ty "tuple", _, _, _, rfl, .ty "tuple", h.ty, kit_ty (kb_of d).1, q⟩
theorem TZ.isi_str (h : TZ N H v d) (q : Q (.bl (isStr d)) H) : rIsi K [v, .ty "str"] H Q := ⟨v, .ty "str", _, _, _, rfl, .ty "str", h.ty, kit_ty (kb_of d).2.1, q⟩
theorem TZ.isi_int (h : TZ N H v d) (q : Q (.bl (isInt d)) H) : rIsi K [v, .ty "int"] H Q := ⟨v, .ty "int", _, _, _, rfl, .ty "int", h.ty, kit_ty (kb_of d).2.2.1, q⟩
theorem TZ.isi_bl (h : TZ N H v d) (q : Q (.bl (isBl d)) H) : rIsi K [v, .ty "bool"] H Q := ⟨v, .ty "bool", _, _, _, rfl, .ty "bool", h.ty, kit_ty (kb_of d).2.2.2, q⟩
end
/-! ### == of values of any kind -/
def isS (t : Str) : PyData → Bool
  | .str s => decide (s = t)
  | _ => false
def rEqS (N : Addr → Prop) : R2 := fun x y H Q => ∃ d t, TZ N H x d ∧ y = .str t ∧ Q (.bl (isS t d)) H
def rEqE : R2 := fun x y H Q => ∃ a b xs, x = .ref a ∧ y = .ref b ∧ H a = some (.tup xs) ∧ H b = some (.tup []) ∧ Q (.bl xs.isEmpty) H
def rNeE : R2 := fun x y H Q => ∃ a b xs, x = .ref a ∧ y = .ref b ∧ H a = some (.tup xs) ∧ H b = some (.tup []) ∧ Q (.bl (!xs.isEmpty)) H
def rNeL : R2 := fun x y H Q => ∃ a b xs, x = .ref a ∧ y = .ref b ∧ H a = some (.lst xs) ∧ H b = some (.lst []) ∧ Q (.bl (!xs.isEmpty)) H
def rEq1 : R2 := fun x y H Q => ∃ a b s t xs, x = .ref a ∧ y = .ref b ∧ H a = some (.tup (.str s :: xs)) ∧ H b = some (.tup [.str t]) ∧ Q (.bl (decide (s = t) && xs.isEmpty)) H
section
variable {X : Cx} {N : Addr → Prop}
theorem tup_is {pins : List (Addr × Obj)} {σ : L2.St} {H : Hp} {s : Shared} (I : Inv X pins σ H s) {a : Addr} {xs : List V} (e : H a = some (.tup xs)) : ∃ its : List Value, Vals xs its ∧ s.heap.IsTuple a its.toArray := by
  obtain ⟨_, its, rv, o, h1, h2, n, h3⟩ := (show ObjOk X.prog X.w H s.heap a (.tup xs) from I.hok a _ e)
  exact ⟨its, rv, o, h1, h2, n, h3⟩
theorem lst_is {pins : List (Addr × Obj)} {σ : L2.St} {H : Hp} {s : Shared} (I : Inv X pins σ H s) {a : Addr} {xs : List V} (e : H a = some (.lst xs)) : ∃ its : List Value, Vals xs its ∧ s.heap.IsList a its.toArray := by
  obtain ⟨_, its, n, rv, h1⟩ := (show ObjOk X.prog X.w H s.heap a (.lst xs) from I.hok a _ e)
  exact ⟨its, rv, _, h1, rfl, n, rfl⟩
theorem op_eqS (hu : X.A.units < cLine) : OpR X (compareOp .Eq) (rEqS N) := by
  intro pins s σ H x y v u Q I rx ry h
  obtain ⟨d, t, hd, rfl, q⟩ := h
  obtain ⟨tk, rfl⟩ : ∃ tk, u = Value.str t tk := ry
  have fin : ∀ {b : Bool}, SeqAt.RcAt X.A s v (.str t tk) b → Q (.bl b) H → PySem.wpAny (model X.prog X.w) X.A (compareOp .Eq v (.str t tk)) (EP X pins σ Q) X.xe s := fun {b} r q => r X.prog X.w _ _ ⟨.bl b, H, I, rfl, q⟩
  cases hd with
  | non =>
    cases (show v = Value.none from rx)
    exact fin (SeqAt.RcAt.none_str t tk) q
  | bl b =>
    cases (show v = Value.bool b from rx)
    exact fin (SeqAt.RcAt.bool_str b t tk) q
  | int i =>
    obtain ⟨t2, rfl⟩ : ∃ t2, v = Value.int i t2 := rx
    exact fin (SeqAt.RcAt.int_str i t2 t tk) q
  | str z =>
    obtain ⟨t2, rfl⟩ : ∃ t2, v = Value.str z t2 := rx
    refine fin (SeqAt.RcAt.str_str z t2 t tk) ?_
    have e : (z == t) = decide (z = t) := by
      by_cases h : z = t
      · rw [h, decide_eq_true rfl, beq_self_eq_true]
      · rw [decide_eq_false h]
        exact beq_eq_false_iff_ne.mpr h
    rw [e]
    exact q
  | lst _ e =>
    cases (show v = Value.ref _ from rx)
    obtain ⟨its, _, hl⟩ := lst_is I e
    exact fin (SeqAt.RcAt.list_str t tk hl hu) q
  | tup e _ =>
    cases (show v = Value.ref _ from rx)
    obtain ⟨its, _, hl⟩ := tup_is I e
    exact fin (SeqAt.RcAt.tuple_str t tk hl hu) q
  | dct e =>
    cases (show v = Value.ref _ from rx)
    obtain ⟨_, _, vs, _, o, es, ep, h1, h2, h3, _⟩ := (show ObjOk X.prog X.w H s.heap _ (.dK []) from I.hok _ _ e)
    obtain ⟨cls, dd, data, sl⟩ := o
    simp only at h3
    subst h3
    have hc : cls = .type "dict" := h2.1
    subst hc
    exact fin (SeqAt.RcAt.dict_str t tk h1 hu) q
theorem op_eqE (hu : X.A.units < cLine) : OpR X (compareOp .Eq) rEqE := by
  intro pins s σ H x y v u Q I rx ry h
  obtain ⟨a, b, xs, rfl, rfl, ha, hb, q⟩ := h
  cases (show v = Value.ref a from rx)
  cases (show u = Value.ref b from ry)
  obtain ⟨its, rv, hl⟩ := tup_is I ha
  obtain ⟨its2, rv2, hl2⟩ := tup_is I hb
  cases rv2
  have r := SeqAt.RcAt.tuples (A := X.A) (e := fun _ => true) hl hl2 hu (fun j _ h2 => absurd h2 (Nat.not_lt_zero _))
  refine r X.prog X.w _ _ ⟨.bl xs.isEmpty, H, I, ?_, q⟩
  show Value.bool _ = Value.bool _
  cases rv with
  | nil => rfl
  | cons _ _ => simp
theorem op_neE (hu : X.A.units < cLine) : OpR X (compareOp .NotEq) rNeE := by
  intro pins s σ H x y v u Q I rx ry h
  obtain ⟨a, b, xs, rfl, rfl, ha, hb, q⟩ := h
  cases (show v = Value.ref a from rx)
  cases (show u = Value.ref b from ry)
  obtain ⟨its, rv, hl⟩ := tup_is I ha
  obtain ⟨its2, rv2, hl2⟩ := tup_is I hb
  cases rv2
  have r := SeqAt.RcNeAt.tuples (A := X.A) (e := fun _ => true) hl hl2 hu (fun j _ h2 => absurd h2 (Nat.not_lt_zero _))
  refine r X.prog X.w _ _ ⟨.bl (!xs.isEmpty), H, I, ?_, q⟩
  show Value.bool _ = Value.bool _
  cases rv with
  | nil => rfl
  | cons _ _ => simp
theorem op_neL (hu : X.A.units < cLine) : OpR X (compareOp .NotEq) rNeL := by
  intro pins s σ H x y v u Q I rx ry h
  obtain ⟨a, b, xs, rfl, rfl, ha, hb, q⟩ := h
  cases (show v = Value.ref a from rx)
  cases (show u = Value.ref b from ry)
  obtain ⟨its, rv, hl⟩ := lst_is I ha
  obtain ⟨its2, rv2, hl2⟩ := lst_is I hb
  cases rv2
  cases rv with
  | nil => exact SeqAt.RcNeAt.lists (A := X.A) (e := fun _ => true) hl hl2 rfl hu (fun j _ h2 => absurd h2 (Nat.not_lt_zero _)) X.prog X.w _ _ ⟨.bl _, H, I, rfl, q⟩
  | cons _ _ => exact SeqAt.RcNeAt.lists_lengths (A := X.A) hl hl2 (by simp) hu X.prog X.w _ _ ⟨.bl _, H, I, rfl, q⟩
theorem op_eq1 (hu : X.A.units < cLine) : OpR X (compareOp .Eq) rEq1 := by
  intro pins s σ H x y v u Q I rx ry h
  obtain ⟨a, b, z, t, xs, rfl, rfl, ha, hb, q⟩ := h
  cases (show v = Value.ref a from rx)
  cases (show u = Value.ref b from ry)
  obtain ⟨its, rv, hl⟩ := tup_is I ha
  obtain ⟨its2, rv2, hl2⟩ := tup_is I hb
  cases rv2 with
  | cons r2 n2 =>
    cases n2
    cases rv with
    | cons r1 n1 =>
      rename_i u1 us1
      obtain ⟨t2, rfl⟩ := (show ∃ t2, _ = Value.str t t2 from r2)
      obtain ⟨t1, rfl⟩ := (show ∃ t1, u1 = Value.str z t1 from r1)
      have r := SeqAt.RcAt.tuples (A := X.A) (e := fun _ => z == t) hl hl2 hu (fun j h1 h2 => by
        have ej : j = 0 := Nat.lt_one_iff.mp h2
        subst ej
        exact SeqAt.EqAt.str_str z t1 t t2)
      refine r X.prog X.w _ _ ⟨.bl _, H, I, ?_, q⟩
      show Value.bool _ = Value.bool _
      have e : (z == t) = decide (z = t) := by
        by_cases h : z = t
        · rw [h, decide_eq_true rfl, beq_self_eq_true]
        · rw [decide_eq_false h]
          exact beq_eq_false_iff_ne.mpr h
      rw [e]
      have l : xs.length = us1.length := n1.length
      cases n1 with
      | nil => simp
      | cons _ _ => simp
end
end Kd

-- ===== KS10 =====
set_option Elab.async false
set_option linter.all false
set_option maxRecDepth 100000
set_option maxHeartbeats 4000000
namespace Kd
open PySem L2 PyProof.Rows PySem.Spec
/-! ### enumerate of a tuple -/
theorem meets_enum1 {v : Value} {o : Obj} {H : Heap → Prop} (B : Begins v o H) :
    Meets (Builtin.«enumerate.__new__» ⟨[.type "enumerate", v], []⟩) (fun _ R s => H s.heap ∧
      R (.ok (.ret (.ref (s.heap.push o).objs.size))) { s with heap := (s.heap.push o).push { cls := .type "enumerate", data := .fields #[.none, .bool false, .ref s.heap.objs.size, rawInt 0, .none, .none] } }) :=
  .of_wp fun prog w A R s h => by
    obtain ⟨hp, g, d, tk, os⟩ := s
    obtain ⟨h1, h⟩ := h
    have hsub := sub_enumerate
    have it : ∀ {A' : Around} {E : Value → Shared → Prop} {Q : Value → Shared → Prop}, Q (.ref hp.objs.size) ⟨hp.push o, g, d, tk, os⟩ → wpAny (model prog w) A' (pyIter v) Q E ⟨hp, g, d, tk, os⟩ :=
      fun q => B.iter prog w _ _ ⟨hp, g, d, tk, os⟩ _ h1 q
    wp_walk using it
    refine wpAny_stack_any fun st => wpAny_pure ?_
    split
    · rename_i c _ _ _ _ _
      cases (c == Value.type "enumerate") <;> (wp_walk using it; exact ⟨_, rfl, h⟩)
    · wp_walk using it
      exact ⟨_, rfl, h⟩
theorem enum_tuple {prog : Program} {w : World} {A : Around} {E : Value → Shared → Prop} {s : Shared} {t : Addr} {items : Array Value} {Q : Value → Shared → Prop} (ht : s.heap.IsTuple t items)
    (h : ∀ h', IsEnum h' (s.heap.objs.size + 1) s.heap.objs.size 0 .none → h'.IsTupleIter s.heap.objs.size t 0 → (∀ b o, s.heap.get? b = some o → h'.get? b = some o) → Q (.ref (s.heap.objs.size + 1)) { s with heap := h' }) :
    wpAny (model prog w) A (call (.type "enumerate") [.ref t]) Q E s := by
  refine callType_new F.called_enumerate (by decide) (F.typeCall_enumerate_1 _) (F.newCall_enumerate_1 _) (fun obj => F.args_object_init_2 obj _) F.entry_enumerate_new (meets_enum1 (begins_tuple t items)) ⟨ht, ?_⟩
  generalize ho : ({ cls := .type "tuple_iterator", data := .fields #[.ref t, .int 0 0] } : Obj) = o
  have sz : (s.heap.push o).objs.size = s.heap.objs.size + 1 := Heap.size_push ..
  have e1 : ((s.heap.push o).push { cls := .type "enumerate", data := .fields #[.none, .bool false, .ref s.heap.objs.size, rawInt 0, .none, .none] }).get? (s.heap.push o).objs.size = some _ := Heap.get?_push_size _ rfl
  rw [sz] at e1
  show _ ∧ _
  rw [sz]
  subst ho
  exact ⟨⟨_, e1, rfl⟩, h _ e1 ⟨_, Heap.get?_push_of_some _ (Heap.get?_push_size _ rfl), rfl, rfl⟩ fun b u x => Heap.get?_push_of_some _ (Heap.get?_push_of_some _ x)⟩
/-- the tuple at a, each item beside its place in a new pair -/
def IteT (K : PySem.W.Frag) (a : Addr) : It :=
  ⟨fun i H => ∃ (xs : List V) (x : V), SqT K H a xs ∧ xs[i]? = some x, fun i H v H' => ∃ T x, v = .ref T ∧ H T = none ∧ H' = upd H T (.tup [.int (i : Nat), x]) ∧ ∀ xs, SqT K H a xs → xs[i]? = some x, fun i H => ∃ xs : List V, SqT K H a xs ∧ xs.length = i⟩
theorem turn_enumT {P : Program} {w : World} {K : PySem.W.Frag} {elts : List Expr} {kk : Nat} {tpos : Pos} (a e it : Addr) :
    Turn P w K (.Tuple elts kk tpos) (IteT K a) [e, it] e (fun i h => (∃ old, IsEnum h e it ((i : Nat) : Int) old) ∧ h.IsTupleIter it a i ∧ e ≠ it ∧ a ≠ it ∧ a ≠ e) where
  mem := by simp
  obj := fun i h st b hb => by
    obtain ⟨⟨old, he⟩, ⟨o, ho, _, hd⟩, _⟩ := st
    rcases (show b = e ∨ b = it by simpa using hb) with z | z
    · rw [z]
      exact ⟨_, he, fun v q => nomatch q⟩
    · rw [z]
      exact ⟨o, ho, fun v q => by rw [hd] at q; cases q⟩
  keep := fun i h h' st k => let ⟨⟨old, he⟩, hi, ne⟩ := st; ⟨⟨old, k e (by simp) _ he⟩, hi.at fun o q => k it (by simp) o q, ne⟩
  item := by
    intro X hP hw hK hc i pins s σ H E I hf st hg
    subst hP hw hK
    obtain ⟨⟨old, he⟩, hit, ne, nai, nae⟩ := st
    obtain ⟨xs, x, hq, hx⟩ := hg
    obtain ⟨its, rv, p, _⟩ := I.tuple hq
    obtain ⟨u, hu, ru⟩ := rv.get hx
    have pt : s.heap.IsTuple a its.toArray := p
    have lt : i < its.toArray.size := by
      rw [List.size_toArray]
      exact (List.getElem?_eq_some_iff.mp hu).1
    have el : e < s.heap.objs.size := Heap.lt_size he
    have il : it < s.heap.objs.size := by obtain ⟨_, q, _⟩ := hit; exact Heap.lt_size q
    refine wpAny_pyNext_enum_itemD (n := its.toArray.size) (Draws.tuple (A := X.A.in1) (I.ok.hd hc) it a nai its.toArray) he ⟨hit, pt⟩ lt ne (by simp [ne, Ne.symm nae]) fun y h' tk hy ho hst hT hsz hk => ?_
    have ey : y = u := by
      have z : its.toArray[i]? = some y := hy
      rw [show its.toArray[i]? = some u by simpa using hu] at z
      exact (Option.some.inj z).symm
    subst ey
    refine ⟨_, rfl, wpAny_letOwnedTupleGo_enum (s := { s with heap := h', toks := tk + 1 }) ho fun h'' he' sb => ?_⟩
    have hT2 : h''.get? s.heap.objs.size = some { cls := .type "tuple", data := .seq #[.int i tk, y] } := (sb.2 _ (Nat.ne_of_gt el)).trans hT
    have new : ObjOk X.prog X.w (upd H s.heap.objs.size (.tup [.int (i : Nat), x])) h'' s.heap.objs.size (.tup [.int (i : Nat), x]) :=
      ⟨by show 2 ≤ sizeLine; decide, [.int i tk, y], .cons ⟨_, rfl⟩ (.cons ru .nil), ⟨_, hT2, rfl, _, rfl⟩⟩
    have I1 : Inv X pins σ (upd H s.heap.objs.size (.tup [.int (i : Nat), x])) { s with heap := h'', toks := tk + 1 } :=
      I.turnedNew (ch := [e, it]) (fun b ob hb q => (sb.2 b (fun z => hb (by simp [z]))).trans (hk b ob (fun z => hb (by simp [z])) (fun z => hb (by simp [z])) q)) hf (Nat.le_refl _) new
    refine ⟨.ref s.heap.objs.size, _, I1, rfl, ⟨_, x, rfl, I.hok.fresh (Nat.le_refl _), rfl, fun ys hy => by rw [I.tuple_inj hy hq]; exact hx⟩, ⟨⟨y, ?_⟩, hst.1.at fun o q => (sb.2 it (Ne.symm ne)).trans q, ne, nai, nae⟩, fun b hb => ?_⟩
    · rw [show ((i + 1 : Nat) : Int) = (i : Int) + 1 by omega]
      exact he'
    · have bl : b < s.heap.objs.size := by
        rcases (show b = e ∨ b = it by simpa using hb) with z | z
        · rw [z]; exact el
        · rw [z]; exact il
      rw [upd_ne (Nat.ne_of_lt bl)]
      exact (hf b hb).1
  done := by
    intro X hP hw hK hc i pins s σ H E I hf st hg
    subst hP hw hK
    obtain ⟨⟨old, he⟩, hit, ne, nai, nae⟩ := st
    obtain ⟨xs, hq, hx⟩ := hg
    obtain ⟨its, rv, p, _⟩ := I.tuple hq
    obtain ⟨f0, f1, f2, f3, f4, f5⟩ := hf it (by simp)
    have hl := rv.length
    have pt : s.heap.IsTuple a its.toArray := p
    have hst : s.heap.IsTupleIter it a its.toArray.size ∧ s.heap.IsTuple a its.toArray := ⟨by rw [show its.toArray.size = i by rw [List.size_toArray]; omega]; exact hit, pt⟩
    exact wpAny_pyNext_enum_endD (n := its.toArray.size) (Draws.tuple (A := X.A.in1) (I.ok.hd hc) it a nai its.toArray) he hst fun h' eb => ⟨rfl, I.turned (t' := s.toks) (fun b o hb q => eb b o hb q) f0 f1 f3 f4 f5⟩
  self := fun A i s Q E st h => let ⟨⟨_, he⟩, _⟩ := st; wpAny_pyIter_enum he h
def iEnumT (K : PySem.W.Frag) (ta : TA) : TI := fun σ H R => ta σ H fun vs H1 => ∃ a xs, vs = [.ref a] ∧ SqT K H1 a xs ∧ R (IteT K a) H1
theorem pi_enumT {X : Cx} {e : Expr} {ta : TA} {p pos tpos : Pos} {elts : List Expr} {kk : Nat} (hg : Gl X "enumerate") (hm : X.mg "enumerate" = none) (ha : PA X [e] ta) (hs : starEach [e] X.env = [(false, eval e X.env)] := by rfl) :
    PI X (.Tuple elts kk tpos) (.Call (.Name "enumerate" p) [e] [] pos) (iEnumT X.K ta) := by
  refine ⟨fun pins s σ H R I h => ?_⟩
  refine Call_ (ld_blt I hg hm boot_enumerate (PyProof.Rows.callWith_type1 (thn (ha.run pos pins s σ H _ I h) fun us s1 ⟨vs, H1, I1, r1, q1⟩ => ?_) hs rfl))
  obtain ⟨a, xs, ex, hq, q⟩ := q1
  subst ex
  cases r1 with
  | cons r rr =>
    cases rr
    cases r
    obtain ⟨its, rv, p', _⟩ := I1.tuple hq
    have pt : s1.heap.IsTuple a its.toArray := p'
    have al : a < s1.heap.objs.size := by obtain ⟨_, z, _⟩ := pt; exact Heap.lt_size z
    refine enum_tuple pt fun h' he hit hk => wpAny_pyIter_enum he ?_
    have I2 : Inv X pins σ H1 { s1 with heap := h' } := I1.kept (t' := s1.toks) hk
    refine ⟨s1.heap.objs.size + 1, [s1.heap.objs.size + 1, s1.heap.objs.size], _, _, H1, rfl, I2, turn_enumT a (s1.heap.objs.size + 1) s1.heap.objs.size, ⟨⟨.none, he⟩, hit, Nat.succ_ne_self _, Nat.ne_of_lt al, Nat.ne_of_lt (Nat.lt_succ_of_lt al)⟩, fun b hb => ?_, q⟩
    have le : s1.heap.objs.size ≤ b := by
      rcases (show b = s1.heap.objs.size + 1 ∨ b = s1.heap.objs.size by simpa using hb) with z | z
      · rw [z]; exact Nat.le_add_right _ _
      · rw [z]; exact Nat.le_refl _
    exact I1.fpOk le (I1.hok.fresh le)
end Kd

-- ===== KS11 =====
set_option Elab.async false
set_option linter.all false
set_option maxRecDepth 100000
set_option maxHeartbeats 4000000
namespace Kd
open PySem L2 PyProof.Rows PySem.Spec PySem.W Builtin
/-! ### x != y where the class has __eq__ alone -/
section
variable {prog : Program} {w : World} {A : Around} {E : Value → Shared → Prop} {s : Shared} {K : Frag} {x C f : Addr} {ox : Obj} {od : Option Obj}
theorem bound_slot {M : Model} {id : String} {name : Str} {args : List Value} {Q : Option Value → Shared → Prop} (X : K.In s.heap) (I : InstAt s.heap x ox C od) (hs : findIn K (.ref C) name = some (some (.builtin id)))
    (hb : bindSpecial (.builtin id) (.ref x) = pure (.builtin id, [.ref x])) (h : wpAny M A (call (.builtin id) (.ref x :: args)) (fun v => Q (some v)) E s) : wpAny M A (callSpecialIfBound? (.ref x) name args) Q E s := by
  simp only [callSpecialIfBound?, bindSpecialIfBound?]
  refine wpAny_holding (wpAny_bind (wpAny_bind (wpAny_bind (I.type.here ((looks_findIn X hs).here ?_)))))
  simp only [hb]
  have fin : wpAny M A (call (.builtin id) ([.ref x] ++ args) >>= fun v => pure (some v)) Q E s := wpAny_bind (wpAny_mono h (fun v s' h' => wpAny_pure h') fun _ _ h' => h')
  refine wpAny_bind (wpAny_askSetting (wpAny_ite ?_))
  split
  · exact wpAny_bind (wpAny_pure (wpAny_pure fin))
  · exact wpAny_tryCatch (wpAny_bind (wpAny_pure (wpAny_pure fin)))
theorem obj_ne {y : Addr} {Q : Fin → Shared → Prop} (X : K.In s.heap) (I : InstAt s.heap x ox C od) (hs : findIn K (.ref C) "__eq__" = some (some (.ref f))) (hf : isFn K (.ref f) = true) (hu : A.units < cLine)
    (h : wpAny (model prog w) A (call (.ref f) [.ref x, .ref y]) (fun v s' => ∃ b, v = .bool b ∧ Q (.done (.ret (.bool (!b)))) s') E s) : wpAny (model prog w) A (Builtin.«object.__ne__» ⟨[.ref x, .ref y], []⟩) Q E s := by
  unfold Builtin.«object.__ne__»
  repeat (first
    | with_reducible refine wpAny_cRoomFor hu ?_
    | (refine wpAny_bind (m := callSpecialIfBound? (.ref x) (Str.ofString "__eq__") [.ref y]) (ifBound_K X I hs hf (wpAny_mono h (fun r s' hr => by
          obtain ⟨b, rfl, hq⟩ := hr
          repeat (first | exact hq | exact wpAny_pure hq | exact wpAny_truthy_bool hq | (refine wpAny_bind (m := truthy (.bool _)) (wpAny_truthy_bool ?_)) | wp_step)) fun _ _ e => e)))
    | wp_step)
theorem try_ne {y : Addr} {Q : Option Value → Shared → Prop} (X : K.In s.heap) (I : InstAt s.heap x ox C od) (hs : findIn K (.ref C) "__eq__" = some (some (.ref f))) (hf : isFn K (.ref f) = true)
    (hn : findIn K (.ref C) "__ne__" = some (some (.builtin "object.__ne__"))) (ho : subIn K (.ref C) (.type "object") = some true) (hu : A.units + 1 < cLine)
    (h : wpAny (model prog w) A.in1 (call (.ref f) [.ref x, .ref y]) (fun v s' => ∃ b, v = .bool b ∧ Q (some (.bool (!b))) s') E s) : wpAny (model prog w) A (tryCompare (.ref x) "__ne__" (.ref y)) Q E s := by
  simp only [tryCompare]
  refine wpAny_bind (bound_slot X I hn (PySem.F.cmp_object.ne.bind _) (wpAny_call (codeAny_call_builtin PySem.F.cmp_object.ne.plain PySem.F.cmpEntry_ne
    (check_slot PySem.F.cmpKind_ne PySem.F.cmpSplit_ne (I.type.andThen (looks_subIn X ho)) (PySem.F.cmpArgs_ne _ _) (obj_ne (A := A.in1) X I hs hf hu (wpAny_mono h (fun v s' hv => ?_) fun _ _ e => e))))))
  obtain ⟨b, rfl, hq⟩ := hv
  first | exact ⟨b, rfl, wpAny_pure hq⟩ | exact ⟨b, rfl, wpAny_pure (wpAny_pure hq)⟩ | exact ⟨b, rfl, hq⟩
theorem ne_own {m : Str → Option Value} {h₀ : Heap} {L y : Addr} {oy : Obj} {ody : Option Obj} {Q : Value → Shared → Prop} (X₀ : K.In h₀) (F : Fr h₀ L s.heap m) (I : InstAt s.heap x ox C od) (J : InstAt s.heap y oy C ody) (hs : findIn K (.ref C) "__eq__" = some (some (.ref f))) (hf : isFn K (.ref f) = true)
    (hn : findIn K (.ref C) "__ne__" = some (some (.builtin "object.__ne__"))) (ho : subIn K (.ref C) (.type "object") = some true) (hu : A.units + 1 < cLine)
    (h : wpAny (model prog w) A.in1 (call (.ref f) [.ref x, .ref y]) (fun v s' => ∃ b, v = .bool b ∧ Q (.bool (!b)) s') E s) : wpAny (model prog w) A (compareOp .NotEq (.ref x) (.ref y)) Q E s := by
  have X := X₀.keeps F.keep
  show wpAny _ _ (richCompare .NotEq (.ref x) (.ref y)) Q E s
  unfold richCompare
  simp only [oneThing_ref]
  refine wpAny_holding (wpAny_bind (wpAny_cRoomFor (Nat.lt_of_succ_lt hu) ?_))
  rw [cmpInfo_NotEq]
  dsimp only
  refine wpAny_bind (I.type.here (wpAny_bind (J.type.here ?_)))
  rw [show (Value.ref C != Value.ref C) = false from by simp]
  simp only [Bool.false_eq_true, if_false]
  refine wpAny_bind (wpAny_pure ?_)
  simp only [Bool.false_eq_true, if_false]
  refine wpAny_bind (try_ne X I hs hf hn ho hu (wpAny_mono h (fun v s' hv => ?_) fun _ _ e => e))
  obtain ⟨b, rfl, hq⟩ := hv
  first | exact ⟨b, rfl, wpAny_pure hq⟩ | exact ⟨b, rfl, wpAny_pure (wpAny_pure hq)⟩
end
/-- x != y, both of the class at C, whose __eq__ is at g -/
def rNeIns (C : Addr) (sp : Sp) (E : XK) : R2 := fun x y H Q => ∃ a b dx dy fs gs, x = .ref a ∧ y = .ref b ∧ H a = some (.ins C dx fs) ∧ H b = some (.ins C dy gs) ∧ sp [x, y] H (fun v H' => ∃ k, v = .bl k ∧ Q (.bl (!k)) H') E
section
variable {X : Cx} {CX : CXT} {n : Nat} {C g : Addr} {sp : Sp} {E : XK}
theorem op_neIns (hs : findIn X.K (.ref C) "__eq__" = some (some (.ref g))) (hf : isFn X.K (.ref g) = true) (hn : findIn X.K (.ref C) "__ne__" = some (some (.builtin "object.__ne__"))) (ho : subIn X.K (.ref C) (.type "object") = some true)
    (F : FnR X.prog X.w X.K X.mg X.base CX n g sp) (hr : Room (n + 1) X.A) (hx : Passes CX X E) : OpR X (compareOp .NotEq) (rNeIns C sp E) := by
  intro pins s σ H x y v u Q I rx ry h
  obtain ⟨a, b, dx, dy, fs, gs, rfl, rfl, ha, hb, q⟩ := h
  cases (show v = Value.ref a from rx)
  cases (show u = Value.ref b from ry)
  obtain ⟨mA, J, _⟩ := ins_get I.hok ha
  obtain ⟨mB, J', _⟩ := ins_get I.hok hb
  obtain ⟨od, J, _⟩ := J.look
  obtain ⟨od', J', _⟩ := J'.look
  obtain ⟨m, hF⟩ := I.fr
  refine ne_own I.ok.mod.kin hF J J' hs hf hn ho (by have := hr.un; omega) ?_
  refine wpAny_mono (wpAny_call (SlX.run_at (us := [.ref a, .ref b]) (ws := [.ref a, .ref b]) F hr.in1 I.env0.in1 hx I (.cons rfl (.cons rfl .nil)) q)) (fun r s' z => ?_) fun _ _ x => x
  obtain ⟨z', H', I', rz, k, ek, qz⟩ := z
  subst ek
  cases (show r = Value.bool k from rz)
  exact ⟨k, rfl, .bl (!k), H', I', rfl, qz⟩
end
end Kd

-- ===== KN6 =====
set_option Elab.async false
set_option linter.all false
set_option maxRecDepth 100000
set_option maxHeartbeats 4000000
namespace Kd
open PySem L2 PyProof.Rows PySem.Spec PySem.W Builtin
/-! ### len(x), x of a class with a __len__ of its own -/
def rLenIns (C : Addr) (sp : Sp) (E : XK) : List V → Hp → VK → Prop := fun xs H Q => ∃ a dx fs, xs = [.ref a] ∧ H a = some (.ins C dx fs) ∧ sp [.ref a] H (fun v H' => ∃ k : Int, v = .int k ∧ (0 ≤ k ∧ k < 2 ^ 63) ∧ Q (.int k) H') E
section
variable {X : Cx} {CX : CXT} {n : Nat} {C g : Addr} {sp : Sp} {E : XK}
theorem cr_lenIns (hs : findIn X.K (.ref C) "__len__" = some (some (.ref g))) (hf : isFn X.K (.ref g) = true) (F : FnR X.prog X.w X.K X.mg X.base CX n g sp) (hr : Room (n + 1) X.A) (hx : Passes CX X E) : CallR X (.builtin "len") (rLenIns C sp E) := by
  intro pins s σ H xs us Q I r h
  obtain ⟨a, dx, fs, rfl, ha, q⟩ := h
  rw [Vals.ref1 r]
  obtain ⟨mA, J, _⟩ := ins_get I.hok ha
  obtain ⟨od, J, _⟩ := J.look
  obtain ⟨m, hF⟩ := I.fr
  refine len_K hF I.ok.mod.kin J hs hf ?_
  refine wpAny_mono (wpAny_call (SlX.run_at (us := [.ref a]) (ws := [.ref a]) F hr.in1 I.env0.in1 hx I (.cons rfl .nil) q)) (fun r s' z => ?_) fun _ _ x => x
  obtain ⟨z', H', I', rz, k, ek, kb, qz⟩ := z
  subst ek
  obtain ⟨t, rfl⟩ := rz
  exact ⟨kb, .int k, H', I'.tok _, ⟨_, rfl⟩, qz⟩
end
end Kd

-- ===== K13K0 =====
set_option Elab.async false
set_option linter.all false
set_option maxRecDepth 100000
set_option maxHeartbeats 4000000
namespace My
open PySem L2 PyProof.Rows PySem.Spec Kd StX ClX
def numB : PyData → Bool
  | .int i => decide (0 ≤ i)
  | _ => false
def evIn (ss : List (List Stp)) (e : Str × Str) : Bool := ss.any fun st => st.any fun x => decide (evOf x = e)
theorem evIn_iff {ss : List (List Stp)} {e : Str × Str} : evIn ss e = true ↔ EvIn ss e := by
  unfold evIn EvIn
  simp only [List.any_eq_true, decide_eq_true_eq]
def ansB (sss : List (List (List Stp))) : PyData → PyData → PyData → Bool
  | .int i, .str o, .str s => decide (0 ≤ i) && (match sss[i.toNat]? with
    | some ss => evIn ss (o, s)
    | none => false)
  | _, _, _ => false
theorem ans_num {sss : List (List (List Stp))} {a b c : PyData} (h : numB a = false) : ansB sss a b c = false := by
  cases a <;> cases b <;> cases c <;> simp_all [ansB, numB]
  intro h0
  omega
theorem ans_none {sss : List (List (List Stp))} {i : Int} {b c : PyData} (h : sss[i.toNat]? = none) : ansB sss (.int i) b c = false := by
  cases b <;> cases c <;> simp [ansB, h]
theorem ans_s1 {sss : List (List (List Stp))} {a b c : PyData} (h : isStr b = false) : ansB sss a b c = false := by
  unfold ansB
  split
  · cases h
  · rfl
theorem ans_s2 {sss : List (List (List Stp))} {a b c : PyData} (h : isStr c = false) : ansB sss a b c = false := by
  unfold ansB
  split
  · cases h
  · rfl
theorem num_int {N : Addr → Prop} {H : Hp} {v : V} {d : PyData} (h : TZ N H v d) (e : numB d = true) : ∃ i : Int, d = .int i ∧ v = .int i ∧ 0 ≤ i := by
  cases h with
  | int i => exact ⟨i, rfl, rfl, of_decide_eq_true e⟩
  | _ => cases e
theorem str_is {N : Addr → Prop} {H : Hp} {v : V} {d : PyData} (h : TZ N H v d) (e : isStr d = true) : ∃ z : Str, d = .str z ∧ v = .str z := by
  cases h with
  | str z => exact ⟨z, rfl, rfl⟩
  | _ => cases e
theorem tupz {N : Addr → Prop} {H : Hp} {v : V} {d : PyData} (h : TZ N H v d) (e : isTup d = true) : ∃ t xs ds, d = .tuple ds ∧ v = .ref t ∧ H t = some (.tup xs) ∧ TZs N H xs ds := by
  cases h with
  | tup ht hs => exact ⟨_, _, _, rfl, rfl, ht, hs⟩
  | _ => cases e
theorem isS_is {t : Str} {d : PyData} (e : isS t d = true) : d = .str t := by
  cases d with
  | str z => rw [of_decide_eq_true e]
  | _ => cases e
theorem val_iff {es : List Ev} {e : Ev} : (valV (es.map evB) (evK e)).isSome = decide (e ∈ es) := by
  by_cases h : e ∈ es
  · rw [val_in h, decide_eq_true h]
  · rw [decide_eq_false h]
    cases q : valV (es.map evB) (evK e) with
    | none => rfl
    | some v =>
      unfold valV at q
      obtain ⟨p, hp, _⟩ := Option.map_eq_some_iff.mp q
      have m := List.mem_of_find?_eq_some hp
      have e1 : p.1 = evK e := of_decide_eq_true (List.find?_some (p := fun kv : List Key × V => decide (kv.1 = evK e)) hp)
      obtain ⟨x, mx, rfl⟩ := List.mem_map.mp m
      exact absurd (by rw [← evK_inj (show evK x = evK e from e1)]; exact mx) h
theorem EvTab.same {H H' : Hp} {R : Addr} {sss : List (List (List Stp))} (h : EvTab H R sss) (s : Same H H') : EvTab H' R sss := by
  obtain ⟨bs, h1, h2, h3⟩ := h
  exact ⟨bs, s _ _ h1, h2, fun i c ss e1 e2 => let ⟨es, q1, q2⟩ := h3 i c ss e1 e2; ⟨es, s _ _ q1, q2⟩⟩
theorem _root_.Kd.TZ.same {N : Addr → Prop} {H H' : Hp} {v : V} {d : PyData} (h : TZ N H v d) (s : Same H H') : TZ N H' v d := h.to (.of s)
theorem _root_.Kd.TZs.same {N : Addr → Prop} {H H' : Hp} {v : List V} {d : List PyData} (h : TZs N H v d) (s : Same H H') : TZs N H' v d := h.to (.of s)
def spNum : Sp := fun vs H Q _ => ∃ (N : Addr → Prop) (v : V) (d : PyData), vs = [v] ∧ TZ N H v d ∧ Q (.bl (numB d)) H
def spAns : Sp := fun vs H Q _ => ∃ (N : Addr → Prop) (R : Addr) (v1 v2 v3 : V) (d1 d2 d3 : PyData) (sss : List (List (List Stp))), vs = [.ref R, v1, v2, v3] ∧ EvTab H R sss ∧ TZ N H v1 d1 ∧ TZ N H v2 d2 ∧ TZ N H v3 d3 ∧ ∀ H', Same H H' → Q (.bl (ansB sss d1 d2 d3)) H'
abbrev sKlen : Stmt := inClass sKind 4
def spKlen (C : Addr) : Sp := fun vs H Q _ => ∃ (v : V) (ss : List (List Stp)), vs = [v] ∧ KindAt C H v ss ∧ KOk ss ∧ ∀ H', Same H H' → Q (.int (ss.length : Int)) H'
section
variable {P : Program} {w : World} {K : PySem.W.Frag} {mg : Str → Option Value} {base : Heap} {C : Addr}
theorem ok_num {f : Addr} {fd : FuncData} (F : Fun K "is_number" "is_number" sNumber f fd) (G : Gs mg) : FnOk P w K mg base CX0 1 f fd ["thing"] spNum := by
  refine F.ok scNu (fun vs H Q E h => ?_) (fun cdv A outer s H vs Q E hr h => ?_)
  · obtain ⟨N, v, d, rfl, _⟩ := h
    rfl
  · obtain ⟨N, v, d, rfl, hz, k⟩ := h
    refine ⟨_, pss_one (ps_ret (pe_and (pe_callB call_isi (by rfl) G.isi boot_isinstance (pa_cons (pv 0) (pa_cons (pe_bltn (v := .ty "int") (by rfl) G.int PyProof.Rows.boot_int rfl) pa_nil)))
      (pe_and (pe_not (pe_callB call_isi (by rfl) G.isi boot_isinstance (pa_cons (pv 0) (pa_cons (pe_bltn (v := .ty "bool") (by rfl) G.bool PyProof.Rows.boot_bool rfl) pa_nil)))) (pe_one (pe_cmpR op_ge (pv 0) pe_int (nomark _)))))), ?_⟩
    refine ⟨_, rfl, _, _, _, _, _, rfl, .ty "int", (hz).ty, kit_ty (kb_of _).2.2.1, _, rfl, ?_⟩
    cases hz with
    | int i => exact ⟨_, rfl, _, _, _, _, _, rfl, .ty "bool", ((TZ.int (N := N) (H := H) i)).ty, kit_ty (kb_of _).2.2.2, _, rfl, ⟨_, rfl, iteT ⟨_, rfl, _, _, rfl, rfl, k⟩⟩⟩
    | bl b => exact ⟨_, rfl, _, _, _, _, _, rfl, .ty "bool", ((TZ.bl (N := N) (H := H) b)).ty, kit_ty (kb_of _).2.2.2, _, rfl, ⟨_, rfl, iteF k⟩⟩
    | _ => exact iteF k
theorem scIa : FnScope ["events", "place", "operation", "answer"] ["events", "place", "operation", "answer"] (defScope sIa) := ⟨rfl, rfl, rfl, by decide +kernel, rfl, by decide +kernel, by decide +kernel⟩
theorem ok_ans {f fN : Addr} {fd fdN : FuncData} (F : Fun K "is_answer" "is_answer" sIa f fd) (mlen : mg "len" = none) (misi : mg "isinstance" = none) (mstr : mg "str" = none)
    (GN : FnOk P w K mg base CX0 1 fN fdN ["thing"] spNum) (mN : mg "is_number" = some (.ref fN)) (kN : PySem.W.keepIn K (.ref fN) = true) (bN : Binds K fdN ["thing"] []) : FnOk P w K mg base CX0 2 f fd ["events", "place", "operation", "answer"] spAns := by
  refine F.ok scIa (fun vs H Q E h => ?_) (fun cdv A outer s H vs Q E hr h => ?_)
  · obtain ⟨N, R, v1, v2, v3, d1, d2, d3, sss, rfl, _⟩ := h
    rfl
  · obtain ⟨N, R, v1, v2, v3, d1, d2, d3, sss, rfl, et, z1, z2, z3, k⟩ := h
    have hu := hr.units
    have hu2 : (A.deeper (envOfC "is_answer" (defScope sIa) s.heap.objs.size f cdv)).units + 1 < cLine := by omega
    refine ⟨_, pss_cons (ps_if (PW.pt (pw_or (pt_not (pt_val (pe_call GN hr (by rfl) mN kN bN .nil pass0 (pa_cons (pv 1) pa_nil)))) (pw_or1 (pt_cmpR op_ge (pv 1) (pe_callB (r := rLenQ K) call_len_seq (by rfl) mlen PySem.boot_len (pa_cons (pv 0) pa_nil)) (nomark _))))) (pss_one (ps_ret pe_bl)) pss_nil)
      (pss_cons (ps_if (PW.pt (pw_or (pt_not (pt_val (pe_callB call_isi (by rfl) misi boot_isinstance (pa_cons (pv 2) (pa_cons (pe_bltn (v := .ty "str") (by rfl) mstr PyProof.Rows.boot_str rfl) pa_nil)))))
          (pw_or1 (pt_not (pt_val (pe_callB call_isi (by rfl) misi boot_isinstance (pa_cons (pv 3) (pa_cons (pe_bltn (v := .ty "str") (by rfl) mstr PyProof.Rows.boot_str rfl) pa_nil)))))))) (pss_one (ps_ret pe_bl)) pss_nil)
      (pss_one (ps_ret (pe_cmp (pc_din hu2 (pe_tup (pa_cons (pv 2) (pa_cons (pv 3) pa_nil))) (pe_ix ix_list (pv 0) (pv 1) (fun _ _ => rfl))))))), ?_⟩
    have no : ansB sss d1 d2 d3 = false → Q (.bl false) H := fun e => by
      have q := k H (Same.refl H)
      rwa [e] at q
    obtain ⟨bs, hR, bl, hbs⟩ := et
    refine ⟨_, rfl, N, v1, d1, rfl, z1, _, rfl, ?_⟩
    cases n1 : numB d1 with
    | false => exact iteT (iteT (no (ans_num n1)))
    | true =>
    obtain ⟨i, rfl, rfl, i0⟩ := num_int z1 n1
    refine iteF ⟨_, rfl, _, rfl, R, _, rfl, .inl (SqL.of hR), _, _, rfl, rfl, _, rfl, ?_⟩
    rw [List.length_map]
    by_cases ge : i ≥ (bs.length : Int)
    · rw [decide_eq_true ge]
      refine iteT (no ?_)
      exact ans_none (List.getElem?_eq_none (by omega))
    rw [decide_eq_false ge]
    refine iteF ?_
    refine ⟨_, rfl, _, _, _, _, _, rfl, .ty "str", (z2).ty, kit_ty (kb_of _).2.1, _, rfl, ?_⟩
    cases n2 : isStr d2 with
    | false => exact iteT (iteT (no (ans_s1 n2)))
    | true =>
    refine iteF ⟨_, rfl, _, _, _, _, _, rfl, .ty "str", (z3).ty, kit_ty (kb_of _).2.1, _, rfl, ?_⟩
    cases n3 : isStr d3 with
    | false => exact iteT (no (ans_s2 n3))
    | true =>
    obtain ⟨o, rfl, rfl⟩ := str_is z2 n2
    obtain ⟨u, rfl, rfl⟩ := str_is z3 n3
    have lt : i.toNat < sss.length := by omega
    obtain ⟨ss, es_⟩ : ∃ ss, sss[i.toNat]? = some ss := ⟨sss[i.toNat], List.getElem?_eq_getElem lt⟩
    obtain ⟨b, eb⟩ : ∃ b, bs[i.toNat]? = some b := ⟨bs[i.toNat]'(by omega), List.getElem?_eq_getElem _⟩
    obtain ⟨es, hb, mem⟩ := hbs _ _ _ eb es_
    refine iteF ⟨_, rfl, _, rfl, by show 2 ≤ sizeLine; decide, fun t ht => ?_⟩
    have s1 := same_new (o := .tup [V.str o, .str u]) ht
    have eat : atI (bs.map V.ref) i = some (.ref b) := by
      have q := atI_nat (xs := bs.map V.ref) (j := i.toNat) (v := .ref b) (by rw [List.getElem?_map, eb]; rfl)
      rwa [Int.toNat_of_nonneg i0] at q
    refine ⟨_, rfl, _, rfl, R, _, _, _, rfl, rfl, SqL.of (s1 _ _ hR), eat, b, _, rfl, .inr ⟨es.map evB, evK (o, u), t, .inl (s1 _ _ hb), rfl, upd_same, rfl⟩, ?_⟩
    have q := k _ s1
    have e : ansB sss (.int i) (.str o) (.str u) = (valV (es.map evB) (evK (o, u))).isSome := by
      rw [val_iff]
      show (decide (0 ≤ i) && (match sss[i.toNat]? with
        | some ss => evIn ss (o, u)
        | none => false)) = _
      rw [decide_eq_true i0, Bool.true_and, es_]
      refine Bool.eq_iff_iff.mpr ?_
      rw [decide_eq_true_eq]
      exact evIn_iff.trans (mem _)
    rw [e] at q
    exact q
theorem scKn : FnScope ["self"] ["self"] (defScope sKlen) := ⟨rfl, rfl, rfl, by decide +kernel, rfl, by decide +kernel, by decide +kernel⟩
theorem ok_klen {f : Addr} {fd : FuncData} (F : Fun K "__len__" "Kind.__len__" sKlen f fd) (cl : Cls K C) (n1 : NoAttr K C "states") (mlen : mg "len" = none) : FnOk P w K mg base CX0 1 f fd ["self"] (spKlen C) := by
  refine F.ok scKn (fun vs H Q E h => ?_) (fun cdv A outer s H vs Q E hr h => ?_)
  · obtain ⟨v, ss, rfl, _⟩ := h
    rfl
  · obtain ⟨v, ss, rfl, hk, so, k⟩ := h
    refine ⟨_, pss_one (ps_ret (pe_callB (r := rLenQ K) call_len_seq (by rfl) mlen PySem.boot_len (pa_cons (pe_fld (pv 0) rfl) pa_nil))), ?_⟩
    obtain ⟨o, dx, a, m, rfl, ho, ht, hm⟩ := hk
    obtain ⟨xs, ha, hxs⟩ := ht.tup_of
    have lxs : xs.length = ss.length := by
      have z := hxs.len
      rwa [List.length_map] at z
    refine ⟨_, rfl, o, C, dx, _, _, rfl, ho, cl, n1, rfl, a, xs, rfl, .inr (SqT.of ha), ?_⟩
    rw [lxs]
    exact k H (Same.refl H)
end
end My

-- ===== KM1 =====
set_option Elab.async false
set_option linter.all false
set_option maxRecDepth 100000
set_option maxHeartbeats 4000000
namespace Kd
open PySem PySem.Spec PyProof.Rows L2
/-! ### masks -/
def maskN (is : List Nat) : Nat := (is.map (2 ^ ·)).sum
theorem tb_add {m i : Nat} (h : m.testBit i = false) (j : Nat) : (2 ^ i + m).testBit j = (decide (j = i) || m.testBit j) := by
  have hm : m % 2 ^ (i + 1) < 2 ^ i := by
    rw [Nat.testBit_eq_decide_div_mod_eq] at h
    have h2 : m / 2 ^ i % 2 ≠ 1 := of_decide_eq_false h
    have h3 : m % 2 ^ (i + 1) = m % 2 ^ i + 2 ^ i * (m / 2 ^ i % 2) := by
      rw [Nat.pow_succ, Nat.mod_mul]
    have h4 : m / 2 ^ i % 2 = 0 := by omega
    rw [h3, h4, Nat.mul_zero, Nat.add_zero]
    exact Nat.mod_lt _ (Nat.two_pow_pos i)
  have e : 2 ^ i + m = 2 ^ (i + 1) * (m / 2 ^ (i + 1)) + (2 ^ i + m % 2 ^ (i + 1)) := by
    have := Nat.div_add_mod m (2 ^ (i + 1))
    omega
  have lt : 2 ^ i + m % 2 ^ (i + 1) < 2 ^ (i + 1) := by have z : 2 ^ (i + 1) = 2 ^ i * 2 := Nat.pow_succ ..; omega
  have em : m = 2 ^ (i + 1) * (m / 2 ^ (i + 1)) + m % 2 ^ (i + 1) := (Nat.div_add_mod m (2 ^ (i + 1))).symm
  have lt2 : m % 2 ^ (i + 1) < 2 ^ (i + 1) := Nat.mod_lt _ (Nat.two_pow_pos _)
  rw [e, Nat.testBit_two_pow_mul_add _ lt]
  have q : m.testBit j = if j < i + 1 then (m % 2 ^ (i + 1)).testBit j else (m / 2 ^ (i + 1)).testBit (j - (i + 1)) := by
    conv => lhs; rw [em]
    exact Nat.testBit_two_pow_mul_add _ lt2 _
  rw [q]
  by_cases c : j < i + 1
  · rw [if_pos c, if_pos c]
    by_cases d : j = i
    · subst d
      rw [Nat.testBit_two_pow_add_eq, Nat.testBit_lt_two_pow hm]
      simp
    · rw [Nat.testBit_two_pow_add_gt (by omega), decide_eq_false d, Bool.false_or]
  · rw [if_neg c, if_neg c, decide_eq_false (by omega), Bool.false_or]
theorem mask_bit : ∀ {is : List Nat}, is.Nodup → ∀ j, (maskN is).testBit j = decide (j ∈ is)
  | [], _, j => by simp [maskN]
  | i :: is, nd, j => by
    obtain ⟨n1, n2⟩ := List.nodup_cons.mp nd
    have ih := mask_bit n2
    have e : maskN (i :: is) = 2 ^ i + maskN is := rfl
    rw [e, tb_add (by rw [ih]; exact decide_eq_false n1), ih]
    simp [List.mem_cons]
theorem mask_sub {as bs : List Nat} (ha : as.Nodup) (hb : bs.Nodup) : maskN as &&& maskN bs = maskN as ↔ ∀ j ∈ as, j ∈ bs := by
  constructor
  · intro h j m
    have t := congrArg (Nat.testBit · j) h
    simp only [Nat.testBit_and, mask_bit ha, mask_bit hb, decide_eq_true m, Bool.true_and] at t
    exact of_decide_eq_true t
  · intro h
    refine Nat.eq_of_testBit_eq fun j => ?_
    rw [Nat.testBit_and, mask_bit ha, mask_bit hb]
    by_cases m : j ∈ as
    · rw [decide_eq_true m, decide_eq_true (h j m)]
      rfl
    · rw [decide_eq_false m]
      rfl
def ascL {α : Type} (lt : α → α → Bool) : List α → Bool
  | [] => true
  | [_] => true
  | x :: y :: r => lt x y && ascL lt (y :: r)
theorem asc_pw {α : Type} {lt : α → α → Bool} (tr : ∀ x y z, lt x y = true → lt y z = true → lt x z = true) : ∀ xs : List α, ascL lt xs = true ↔ xs.Pairwise fun x y => lt x y = true
  | [] => by simp [ascL]
  | [x] => by simp [ascL]
  | x :: y :: r => by
    have ih := asc_pw tr (y :: r)
    unfold ascL
    rw [Bool.and_eq_true, ih, List.pairwise_cons (a := x)]
    constructor
    · rintro ⟨h1, h2⟩
      refine ⟨fun z m => ?_, h2⟩
      rcases List.mem_cons.mp m with rfl | m
      · exact h1
      · exact tr _ _ _ h1 ((List.pairwise_cons.mp h2).1 z m)
    · rintro ⟨h1, h2⟩
      exact ⟨h1 y List.mem_cons_self, h2⟩
/-- what is sorted and has the same members is the list itself just where it ascends -/
theorem asc_same {α : Type} [DecidableEq α] {lt : α → α → Bool} (ir : ∀ x, lt x x = false) (tr : ∀ x y z, lt x y = true → lt y z = true → lt x z = true) {xs ms : List α} (hm : ms.Pairwise fun x y => lt x y = true) (mem : ∀ x, x ∈ ms ↔ x ∈ xs) : decide (xs = ms) = ascL lt xs := by
  have anti : ∀ a b : α, a ∈ xs → b ∈ ms → lt a b = true → lt b a = true → a = b := fun a b _ _ h1 h2 => by
    have := tr _ _ _ h1 h2
    rw [ir] at this
    cases this
  have nd : ∀ {l : List α}, l.Pairwise (fun x y => lt x y = true) → l.Nodup := fun h => h.imp fun {a b} h e => by
    rw [e, ir] at h
    cases h
  by_cases h : ascL lt xs = true
  · rw [h, decide_eq_true_eq]
    have hx := (asc_pw tr xs).mp h
    exact List.Perm.eq_of_pairwise anti hx hm ((List.perm_ext_iff_of_nodup (nd hx) (nd hm)).mpr fun x => (mem x).symm)
  · rw [Bool.not_eq_true] at h
    rw [h, decide_eq_false_iff_not]
    intro e
    rw [← e] at hm
    rw [(asc_pw tr xs).mpr hm] at h
    cases h
/-! ### lists of numbers before others -/
def lk (B : List (Int × List Int)) (k : Int) : Option (List Int) := (B.find? fun q => decide (q.1 = k)).map Prod.snd
theorem lk_app {B : List (Int × List Int)} {n k : Int} {e : List Int} : lk (B ++ [(n, e)]) k = match lk B k with
    | some f => some f
    | none => if k = n then some e else none := by
  unfold lk
  rw [List.find?_append]
  cases h : B.find? fun q => decide (q.1 = k) with
  | some q => rfl
  | none =>
    show Option.map Prod.snd ([(n, e)].find? fun q => decide (q.1 = k)) = _
    by_cases c : k = n
    · rw [if_pos c, List.find?_cons_of_pos (by simp [c])]
      rfl
    · rw [if_neg c, List.find?_cons_of_neg (by simp; exact fun z => c z.symm)]
      rfl
theorem lk_mem {B : List (Int × List Int)} {k : Int} {e : List Int} (h : lk B k = some e) : (k, e) ∈ B := by
  unfold lk at h
  obtain ⟨q, hq, rfl⟩ := Option.map_eq_some_iff.mp h
  have := List.find?_some hq
  have ek : q.1 = k := of_decide_eq_true this
  rw [← ek]
  exact List.mem_of_find?_eq_some hq
theorem lk_some (k : Int) : ∀ B : List (Int × List Int), (lk B k).isSome = decide (k ∈ B.map Prod.fst)
  | [] => rfl
  | (n, e) :: B => by
    have ih := lk_some k B
    unfold lk at ih ⊢
    by_cases c : n = k
    · rw [List.find?_cons_of_pos (by simp [c])]
      simp [c]
    · rw [List.find?_cons_of_neg (by simp [c]), ih]
      refine decide_eq_decide.mpr ⟨fun m => List.mem_cons_of_mem _ m, fun m => ?_⟩
      rcases List.mem_cons.mp m with z | z
      · exact absurd z.symm c
      · exact z
theorem lk_yes {B : List (Int × List Int)} {k : Int} (h : k ∈ B.map Prod.fst) : ∃ e, lk B k = some e := by
  have z := lk_some k B
  rw [decide_eq_true h] at z
  exact Option.isSome_iff_exists.mp z
theorem lk_no {B : List (Int × List Int)} {k : Int} (h : k ∉ B.map Prod.fst) : lk B k = none := by
  have z := lk_some k B
  rw [decide_eq_false h] at z
  simpa using z
/-- whether numbers may stand before an entry -/
def clo (B : List (Int × List Int)) (e : List Int) : Bool := e.all fun k => match lk B k with
  | some f => f.all fun j => decide (j ∈ e)
  | none => false
/-- what stands before committed entries -/
structure CI (B : List (Int × List Int)) : Prop where
  nd : (B.map Prod.fst).Nodup
  en : ∀ k e, (k, e) ∈ B → e.Nodup ∧ ∀ j ∈ e, j ∈ B.map Prod.fst
theorem CI.nil : CI [] := ⟨List.nodup_nil, fun _ _ m => nomatch m⟩
theorem CI.put {B : List (Int × List Int)} {n : Int} {e : List Int} (h : CI B) (hn : n ∉ B.map Prod.fst) (nd : e.Nodup) (sub : ∀ j ∈ e, j ∈ B.map Prod.fst) : CI (B ++ [(n, e)]) := by
  refine ⟨?_, fun k f m => ?_⟩
  · rw [List.map_append]
    refine List.nodup_append.mpr ⟨h.nd, by simp, fun a ma b mb z => ?_⟩
    rw [List.mem_singleton.mp mb] at z
    exact hn (by rw [show n = a from z.symm]; exact ma)
  · rw [List.map_append]
    rcases List.mem_append.mp m with m | m
    · exact ⟨(h.en k f m).1, fun j mj => List.mem_append_left _ ((h.en k f m).2 j mj)⟩
    · have z := List.mem_singleton.mp m
      injection z with z1 z2
      subst z1 z2
      exact ⟨nd, fun j mj => List.mem_append_left _ (sub j mj)⟩
theorem clo_sub {B : List (Int × List Int)} {e : List Int} (h : clo B e = true) : ∀ j ∈ e, j ∈ B.map Prod.fst := fun j m => by
  have z := List.all_eq_true.mp h j m
  cases q : lk B j with
  | none => rw [q] at z; cases z
  | some f => exact List.mem_map.mpr ⟨(j, f), lk_mem q, rfl⟩
def ix (B : List (Int × List Int)) (k : Int) : Nat := (B.map Prod.fst).idxOf k
def msk (B : List (Int × List Int)) (e : List Int) : Nat := maskN (e.map (ix B))
theorem ix_inj {B : List (Int × List Int)} {j k : Int} (hj : j ∈ B.map Prod.fst) (hk : k ∈ B.map Prod.fst) (e : ix B j = ix B k) : j = k := by
  unfold ix at e
  have l1 := List.idxOf_lt_length_of_mem hj
  have l2 := List.idxOf_lt_length_of_mem hk
  have g1 := List.getElem_idxOf l1
  have g2 := List.getElem_idxOf l2
  rw [← g1, ← g2]
  congr 1
theorem ix_app {B : List (Int × List Int)} {q : Int × List Int} {k : Int} (h : k ∈ B.map Prod.fst) : ix (B ++ [q]) k = ix B k := by
  unfold ix
  rw [List.map_append, List.idxOf_append, if_pos h]
theorem ix_new {B : List (Int × List Int)} {n : Int} {e : List Int} (h : n ∉ B.map Prod.fst) : ix (B ++ [(n, e)]) n = B.length := by
  unfold ix
  rw [List.map_append, List.idxOf_append, if_neg h]
  simp
theorem msk_app {B : List (Int × List Int)} {q : Int × List Int} {e : List Int} (h : ∀ j ∈ e, j ∈ B.map Prod.fst) : msk (B ++ [q]) e = msk B e := by
  unfold msk
  congr 1
  exact List.map_congr_left fun j m => ix_app (h j m)
theorem msk_nodup {B : List (Int × List Int)} {e : List Int} (nd : e.Nodup) (h : ∀ j ∈ e, j ∈ B.map Prod.fst) : (e.map (ix B)).Nodup := by
  induction e with
  | nil => exact List.nodup_nil
  | cons x e ih =>
    obtain ⟨n1, n2⟩ := List.nodup_cons.mp nd
    rw [List.map_cons]
    refine List.nodup_cons.mpr ⟨fun m => ?_, ih n2 fun j m => h j (List.mem_cons_of_mem _ m)⟩
    obtain ⟨y, my, ey⟩ := List.mem_map.mp m
    rw [ix_inj (h y (List.mem_cons_of_mem _ my)) (h x List.mem_cons_self) ey] at my
    exact n1 my
theorem msk_sub {B : List (Int × List Int)} {e f : List Int} (ne : e.Nodup) (nf : f.Nodup) (he : ∀ j ∈ e, j ∈ B.map Prod.fst) (hf : ∀ j ∈ f, j ∈ B.map Prod.fst) : decide (msk B f &&& msk B e = msk B f) = f.all fun j => decide (j ∈ e) := by
  have z := mask_sub (msk_nodup nf hf) (msk_nodup ne he)
  refine Bool.eq_iff_iff.mpr ?_
  rw [decide_eq_true_eq, List.all_eq_true]
  refine z.trans ⟨fun h j m => decide_eq_true ?_, fun h i m => ?_⟩
  · obtain ⟨y, my, ey⟩ := List.mem_map.mp (h _ (List.mem_map.mpr ⟨j, m, rfl⟩))
    rw [← ix_inj (he y my) (hf j m) ey]
    exact my
  · obtain ⟨j, m2, rfl⟩ := List.mem_map.mp m
    exact List.mem_map.mpr ⟨j, of_decide_eq_true (h j m2), rfl⟩
theorem msk_sum {B : List (Int × List Int)} (e : List Int) : (e.map fun k => ((2 ^ ix B k : Nat) : Int)).sum = ((msk B e : Nat) : Int) := by
  unfold msk maskN
  induction e with
  | nil => rfl
  | cons x e ih =>
    rw [List.map_cons, List.sum_cons, ih, List.map_cons, List.map_cons, List.sum_cons]
    omega
/-- all entries one after the other: what is before each -/
def closedX (B : List (Int × List Int)) : List (Int × Bool × List Int) → Bool
  | [] => true
  | (n, c, e) :: r => clo B e && closedX (if c = true then B ++ [(n, e)] else B) r
def ascF (last : Int) : List Int → Bool
  | [] => true
  | x :: r => decide (last < x) && ascF x r
def ltI (i j : Int) : Bool := decide (i < j)
theorem ascF_asc (x : Int) : ∀ r : List Int, ascF x r = ascL ltI (x :: r)
  | [] => rfl
  | y :: r => by
    show (decide (x < y) && ascF y r) = (ltI x y && ascL ltI (y :: r))
    rw [ascF_asc y r]
    rfl
theorem ascF_start : ∀ r : List Int, (∀ x ∈ r, 0 ≤ x) → ascF (-1) r = ascL ltI r
  | [], _ => rfl
  | x :: r, h => by
    have x0 := h x List.mem_cons_self
    show (decide (-1 < x) && ascF x r) = _
    rw [decide_eq_true (by omega), Bool.true_and, ascF_asc]
/-- one after the other, as the law does it -/
def runX {β : Type} (en : β → Option (Int × Bool × List Int)) (B : List (Int × List Int)) (last : Int) : List β → Bool
  | [] => true
  | d :: r => match en d with
    | none => false
    | some (n, c, e) => decide (last < n) && clo B e && runX en (if c = true then B ++ [(n, e)] else B) n r
theorem runX_all {β : Type} (en : β → Option (Int × Bool × List Int)) : ∀ (ds : List β) (B : List (Int × List Int)) (last : Int), runX en B last ds = (ds.all (fun d => (en d).isSome) && (ascF last ((ds.filterMap en).map Prod.fst) && closedX B (ds.filterMap en)))
  | [], _, _ => rfl
  | d :: r, B, last => by
    unfold runX
    rw [List.all_cons, List.filterMap_cons]
    cases h : en d with
    | none => rfl
    | some x =>
      obtain ⟨n, c, e⟩ := x
      show (decide (last < n) && clo B e && runX en _ n r) = (true && r.all _ && (decide (last < n) && ascF n ((r.filterMap en).map Prod.fst) && (clo B e && closedX _ (r.filterMap en))))
      rw [runX_all en r]
      cases decide (last < n) <;> cases clo B e <;> cases r.all (fun d => (en d).isSome) <;> simp
end Kd

-- ===== KX2 =====
set_option Elab.async false
set_option linter.all false
set_option maxRecDepth 100000
set_option maxHeartbeats 4000000
/-! list(zip(xs, ys)) of two lists -/
namespace Zx
open PySem PySem.Calls PyProof.Rows PyProof.V PySem.Spec PySem.W
theorem zip_len : typeLookup (.type "zip") "__len__" = pure none := am_miss_of_fast (by decide +kernel)
theorem zip_hint : typeLookup (.type "zip") "__length_hint__" = pure none := am_miss_of_fast (by decide +kernel)
/-- where a zip stands before turn i; T is the tuple that it gave out last -/
structure ZSt (z TI TO i1 i2 l1 l2 : Addr) (xs ys : Array Value) (S : Addr) (i : Nat) (h : Heap) : Prop where
  ti : IsPair h TI (.ref i1) (.ref i2)
  it1 : h.IsListIter i1 l1 i
  it2 : h.IsListIter i2 l2 i
  li1 : h.IsList l1 xs
  li2 : h.IsList l2 ys
  zz : (IsZip h z TI TO .none ∧ ∃ a b, IsPair h TO a b) ∨ ∃ T f oT, IsZipHeld h z TI TO T f ∧ h.get? T = some oT ∧ T ≠ z ∧ T ≠ i1 ∧ T ≠ i2 ∧ T ≠ S
structure Off (S z TI TO i1 i2 l1 l2 : Addr) : Prop where
  z : S ≠ z
  ti : S ≠ TI
  to : S ≠ TO
  i1 : S ≠ i1
  i2 : S ≠ i2
  l1 : S ≠ l1
  l2 : S ≠ l2
section
variable {z TI TO i1 i2 l1 l2 S : Addr} {xs ys : Array Value}
theorem ZSt.keep {h h' : Heap} {i : Nat} (x : ZSt z TI TO i1 i2 l1 l2 xs ys S i h) (o : Off S z TI TO i1 i2 l1 l2) (k : ∀ b u, b ≠ S → h.get? b = some u → h'.get? b = some u) : ZSt z TI TO i1 i2 l1 l2 xs ys S i h' := by
  refine ⟨k _ _ (Ne.symm o.ti) x.ti, x.it1.at fun u e => k _ u (Ne.symm o.i1) e, x.it2.at fun u e => k _ u (Ne.symm o.i2) e, x.li1.at fun u e => k _ u (Ne.symm o.l1) e, x.li2.at fun u e => k _ u (Ne.symm o.l2) e, ?_⟩
  rcases x.zz with ⟨q, a, b, q2⟩ | ⟨T, f, oT, q, q2, r1, r2, r3, r4⟩
  · exact .inl ⟨k _ _ (Ne.symm o.z) q, a, b, k _ _ (Ne.symm o.to) q2⟩
  · exact .inr ⟨T, f, oT, k _ _ (Ne.symm o.z) q, k _ _ r4 q2, r1, r2, r3, r4⟩
variable {prog : Program} {w : World} {A : Around} {E : Value → Shared → Prop} {s : Shared}
theorem zst_item {i : Nat} {x y : Value} {Q : Option Value → Shared → Prop} (D : ZipApart z TI TO i1 i2 l1 l2) (st : ZSt z TI TO i1 i2 l1 l2 xs ys S i s.heap) (hS : S < s.heap.objs.size) (ex : xs[i]? = some x) (ey : ys[i]? = some y)
    (k : ∀ h', ZSt z TI TO i1 i2 l1 l2 xs ys S (i + 1) h' → IsPair h' s.heap.objs.size x y → (∀ c o, c ≠ z → c ≠ TO → c ≠ i1 → c ≠ i2 → s.heap.get? c = some o → h'.get? c = some o) → Q (some (.ref s.heap.objs.size)) { s with heap := h' }) :
    wpAny (model prog w) A (pyNext (.ref z)) Q E s := by
  obtain ⟨ti, it1, it2, li1, li2, zz⟩ := st
  have lt : ∀ {c : Addr} {o : Obj}, s.heap.get? c = some o → s.heap.objs.size ≠ c := fun e => Nat.ne_of_gt (Heap.lt_size e)
  have n1 : s.heap.objs.size ≠ i1 := let ⟨_, e, _⟩ := it1; lt e
  have n2 : s.heap.objs.size ≠ i2 := let ⟨_, e, _⟩ := it2; lt e
  rcases zz with ⟨q, a, b, q2⟩ | ⟨T, f, oT, q, q2, r1, r2, r3, r4⟩
  · refine wpAny_pyNext_zip_item D q ti q2 it1 it2 li1 li2 ex ey fun h' a1 _ a3 a4 a5 _ hk => k h' ⟨hk _ _ D.TIz D.TITO D.TIi1 D.TIi2 ti, a3, a4, ?_, ?_, ?_⟩ a5 hk
    · exact li1.at fun o e => hk _ o D.l1z D.l1TO D.l1i1 D.l1i2 e
    · exact li2.at fun o e => hk _ o D.l2z D.l2TO D.l2i1 D.l2i2 e
    · exact .inr ⟨_, false, _, a1, a5, lt q, n1, n2, Nat.ne_of_gt hS⟩
  · refine wpAny_pyNext_zip_item_held D q q2 ti it1 it2 li1 li2 ex ey fun h' a1 a3 a4 a5 _ hk => k h' ⟨hk _ _ D.TIz D.TIi1 D.TIi2 ti, a3, a4, ?_, ?_, ?_⟩ a5 fun c o c1 _ c3 c4 e => hk c o c1 c3 c4 e
    · exact li1.at fun o e => hk _ o D.l1z D.l1i1 D.l1i2 e
    · exact li2.at fun o e => hk _ o D.l2z D.l2i1 D.l2i2 e
    · exact .inr ⟨T, true, oT, a1, hk _ _ r1 r2 r3 q2, r1, r2, r3, r4⟩
theorem zst_done {i : Nat} {Q : Option Value → Shared → Prop} (hh : A.handled = none) (D : ZipApart z TI TO i1 i2 l1 l2) (st : ZSt z TI TO i1 i2 l1 l2 xs ys S i s.heap) (ex : xs[i]? = none ∨ ys[i]? = none)
    (k : ∀ h', (∀ c o, c ≠ z → c ≠ TO → c ≠ i1 → c ≠ i2 → s.heap.get? c = some o → h'.get? c = some o) → Q none { s with heap := h' }) :
    wpAny (model prog w) A (pyNext (.ref z)) Q E s := by
  obtain ⟨ti, it1, it2, li1, li2, zz⟩ := st
  rcases zz with ⟨q, a, b, q2⟩ | ⟨T, f, oT, q, q2, r1, r2, r3, r4⟩
  · exact wpAny_pyNext_zip_end hh D q ti q2 it1 it2 li1 li2 ex k
  · exact wpAny_pyNext_zip_end_held hh D q q2 ti it1 it2 li1 li2 ex fun h' hk => k h' fun c o c1 _ c3 c4 e => hk c o c1 c3 c4 e
theorem gtne {a b c : Addr} (h : a < b) (g : b < c) : c ≠ a := Nat.ne_of_gt (Nat.lt_trans h g)
/-- the tuples made so far -/
structure ZG (xs ys : Array Value) (S : Addr) (h : Heap) (as : List Addr) : Prop where
  up : as.Pairwise (· < ·)
  lo : ∀ a ∈ as, S < a
  at_ : ∀ (j : Nat) (a : Addr), as[j]? = some a → ∃ x y, xs[j]? = some x ∧ ys[j]? = some y ∧ IsPair h a x y
variable {R : Result → Shared → Prop}
theorem zip_loop (hh : A.handled = none) (D : ZipApart z TI TO i1 i2 l1 l2) (of : Off S z TI TO i1 i2 l1 l2) (zlt : z < S ∧ TO < S ∧ i1 < S ∧ i2 < S) {n : Nat} (lx : xs.size = n) (ly : ys.size = n) (hn : n ≤ sizeLine) (res : Value) {h₁ : Heap}
    (hR : ∀ h' tk acc c as, (∀ b o, b ≠ S → b ≠ z → b ≠ TO → b ≠ i1 → b ≠ i2 → h₁.get? b = some o → h'.get? b = some o) → h'.get? S = some { cls := .type "list", dict := none, data := .seq acc c, slots := #[] } → as.length = n → ZG xs ys S h' as → acc.toList = as.map Value.ref → R (.ok (.ret res)) { s with heap := h', toks := tk }) :
    ∀ (k i : Nat) (h : Heap) (tk c : Nat) (acc : Array Value) (as : List Addr), n - i = k → i ≤ n → ZSt z TI TO i1 i2 l1 l2 xs ys S i h → (∀ b o, b ≠ S → b ≠ z → b ≠ TO → b ≠ i1 → b ≠ i2 → h₁.get? b = some o → h.get? b = some o) →
      h.get? S = some { cls := .type "list", dict := none, data := .seq acc c, slots := #[] } → acc.toList = as.map Value.ref → as.length = i → ZG xs ys S h as →
      codeAny (model prog w) A (.builtin "list.extend.loop" ⟨[.ref S, .ref z, res], []⟩) R { s with heap := h, toks := tk } := by
  intro k
  induction k with
  | zero =>
    intro i h tk c acc as ek hi st kp hS ha hl hG
    have ei : i = n := by omega
    refine codeAny_builtin PySem.F.entry_extend_loop ?_
    rw [Around.under_plainId PySem.F.plain_extend_loop _]
    show wpAny _ A.in1 (pyNext (.ref z) >>= _) _ _ _
    refine wpAny_bind (zst_done (s := { s with heap := h, toks := tk }) (A := A.in1) hh D st (.inl (Array.getElem?_eq_none (by omega))) fun h' hk => ?_)
    refine wpAny_pure (hR h' tk acc c as (fun b o b0 b1 b2 b3 b4 e => hk b o b1 b2 b3 b4 (kp b o b0 b1 b2 b3 b4 e)) (hk S _ of.z of.to of.i1 of.i2 hS) (by omega) ⟨hG.up, hG.lo, fun j a ej => ?_⟩ ha)
    obtain ⟨x, y, e1, e2, e3⟩ := hG.at_ j a ej
    have la := hG.lo a (List.mem_of_getElem? ej)
    exact ⟨x, y, e1, e2, hk a _ (gtne zlt.1 la) (gtne zlt.2.1 la) (gtne zlt.2.2.1 la) (gtne zlt.2.2.2 la) e3⟩
  | succ k ih =>
    intro i h tk c acc as ek hi st kp hS ha hl hG
    have lt : i < n := by omega
    obtain ⟨x, ex⟩ : ∃ x, xs[i]? = some x := ⟨_, Array.getElem?_eq_getElem (by omega)⟩
    obtain ⟨y, ey⟩ : ∃ y, ys[i]? = some y := ⟨_, Array.getElem?_eq_getElem (by omega)⟩
    have sz : acc.size = i := by rw [← Array.length_toList, ha, List.length_map, hl]
    have Sl : S < h.objs.size := Heap.lt_size hS
    refine codeAny_builtin PySem.F.entry_extend_loop ?_
    rw [Around.under_plainId PySem.F.plain_extend_loop _]
    show wpAny _ A.in1 (pyNext (.ref z) >>= _) _ _ _
    refine wpAny_bind (zst_item (s := { s with heap := h, toks := tk }) (A := A.in1) D st Sl ex ey fun h' st' hp hk => ?_)
    dsimp only at hp hk ⊢
    have hS' := hk S _ of.z of.to of.i1 of.i2 hS
    have up : ∀ b o, b ≠ S → h'.get? b = some o → (h'.update S (Obj.mapSeq (·.push (Value.ref h.objs.size)))).get? b = some o := fun b o hb e => (Heap.get?_update_other _ _ (Ne.symm hb)).trans e
    show wpAny _ A.in1 (updateSeq S (·.push (Value.ref h.objs.size)) >>= _) _ _ _
    refine wpAny_bind ?_
    refine wpAny_updateSeq hS' rfl (wpAny_pure ⟨plainId_quiet PySem.F.plain_extend_loop _, ih (i + 1) _ tk _ (acc.push (Value.ref h.objs.size)) (as ++ [h.objs.size]) (by omega) lt (st'.keep of fun b u b0 e => up b u b0 e)
      (fun b o b0 b1 b2 b3 b4 e => up b o b0 (hk b o b1 b2 b3 b4 (kp b o b0 b1 b2 b3 b4 e))) (Heap.get?_update_self _ hS' rfl) (by rw [Array.toList_push, ha, List.map_append]; rfl) (by rw [List.length_append, hl]; rfl) ⟨?_, ?_, ?_⟩⟩) (by rw [sz]; omega) (by show (acc.push (Value.ref h.objs.size)).size ≤ sizeLine + 1; rw [Array.size_push, sz]; omega)
    · refine List.pairwise_append.mpr ⟨hG.up, List.pairwise_singleton _ _, fun a ma b mb => ?_⟩
      rw [List.mem_singleton.mp mb]
      obtain ⟨j, ej⟩ := List.mem_iff_getElem?.mp ma
      obtain ⟨_, _, _, _, e⟩ := hG.at_ j a ej
      exact Heap.lt_size e
    · intro a ma
      rcases List.mem_append.mp ma with m | m
      · exact hG.lo a m
      · rw [List.mem_singleton.mp m]
        exact Sl
    · intro j b ej
      rcases Nat.lt_or_ge j as.length with l | g
      · rw [List.getElem?_append_left l] at ej
        obtain ⟨x', y', e1, e2, e3⟩ := hG.at_ j b ej
        have lb := hG.lo b (List.mem_of_getElem? ej)
        exact ⟨x', y', e1, e2, up b _ (Nat.ne_of_gt lb) (hk b _ (gtne zlt.1 lb) (gtne zlt.2.1 lb) (gtne zlt.2.2.1 lb) (gtne zlt.2.2.2 lb) e3)⟩
      · rw [List.getElem?_append_right g] at ej
        have e0 : j - as.length = 0 := by
          have := (List.getElem?_eq_some_iff.mp ej).1
          simp at this
          omega
        rw [e0] at ej
        have eb : h.objs.size = b := Option.some.inj ej
        have ej2 : j = i := by omega
        subst eb
        rw [ej2]
        exact ⟨x, y, ex, ey, up _ _ (Nat.ne_of_gt Sl) hp⟩
theorem zip_extend (hh : A.handled = none) (D : ZipApart z TI TO i1 i2 l1 l2) (of : Off S z TI TO i1 i2 l1 l2) (zlt : z < S ∧ TO < S ∧ i1 < S ∧ i2 < S) {n : Nat} (lx : xs.size = n) (ly : ys.size = n) (hn : n ≤ sizeLine) (res : Value) (c₀ : Nat)
    (hz : IsZip s.heap z TI TO .none) (st : ZSt z TI TO i1 i2 l1 l2 xs ys S 0 s.heap) (hS : s.heap.get? S = some { cls := .type "list", data := .seq #[] c₀ }) 
    (hR : ∀ h' tk acc c as, (∀ b o, b ≠ S → b ≠ z → b ≠ TO → b ≠ i1 → b ≠ i2 → s.heap.get? b = some o → h'.get? b = some o) → h'.get? S = some { cls := .type "list", dict := none, data := .seq acc c, slots := #[] } → as.length = n → ZG xs ys S h' as → acc.toList = as.map Value.ref → R (.ok (.ret res)) { s with heap := h', toks := tk }) :
    wpAny (model prog w) A.in1 (Builtin.List.listExtendWith (.ref S) (.ref z) res)
      (fun fin s' => match fin with | .done f => R (.ok f) s' | .again c' => c'.quiet = true ∧ codeAny (model prog w) A c' R s') (fun e s' => R (.error e) s') s := by
  have key : ∀ (h : Heap) (c₁ tk : Nat), (∀ b o, b ≠ S → s.heap.get? b = some o → h.get? b = some o) → h.get? S = some { cls := .type "list", data := .seq #[] c₁ } → codeAny (model prog w) A (.builtin "list.extend.loop" ⟨[.ref S, .ref z, res], []⟩) R { s with heap := h, toks := tk } := by
    intro h c₁ tk hk hS₁
    exact zip_loop (s := s) (h₁ := s.heap) hh D of zlt lx ly hn res hR n 0 h tk c₁ #[] [] (Nat.sub_zero _) (Nat.zero_le _) (st.keep of hk) (fun b o b0 _ _ _ _ e => hk b o b0 e) hS₁ rfl rfl ⟨List.Pairwise.nil, (fun _ m => nomatch m), fun j a ej => by simp at ej⟩
  unfold Builtin.List.listExtendWith
  refine wpAny_bind (wpAny_typeOf (T := "zip") ⟨_, hz, rfl⟩ ?_)
  have g1 : Builtin.List.listSameRef (.ref S) (.ref z) = false := by simp [Builtin.List.listSameRef, of.z]
  have g2 : (Value.type "zip" == Value.type "list") = false := by decide
  have g3 : (Value.type "zip" == Value.type "tuple") = false := by decide
  simp only [g1, g2, g3, Bool.or_false, Bool.false_eq_true, if_false]
  refine wpAny_bind (wpAny_pyIter_zip hz ?_)
  refine wpAny_bind (wpAny_holding ?_)
  unfold Builtin.List.listLengthHint
  refine wpAny_bind (wpAny_specialOf (T := "zip") ⟨_, hz, rfl⟩ zip_len ?_)
  show wpAny _ A.in1 (specialOf (Value.ref z) (Str.ofString "__length_hint__") >>= _) _ _ _
  refine wpAny_bind (wpAny_specialOf (T := "zip") ⟨_, hz, rfl⟩ zip_hint ?_)
  refine wpAny_pure ?_
  show wpAny _ A.in1 (rule "list.extend.makes-room" >>= fun _ => Builtin.List.listTouch (.ref S) >>= fun _ => again (.builtin "list.extend.loop" ⟨[.ref S, .ref z, res], []⟩)) _ _ _
  refine wpAny_bind (wpAny_rule ?_)
  refine wpAny_bind ?_
  show wpAny _ A.in1 (updateSeq S (·.push .none) >>= fun _ => updateSeq S (·.pop)) _ _ _
  refine wpAny_bind (wpAny_updateSeq hS rfl ?_)
  have hS₂ := Heap.get?_update_self (Obj.mapSeq (·.push Value.none)) hS rfl
  refine wpAny_updateSeq (hz := by seq_fits) hS₂ rfl ?_
  have hS₃ := Heap.get?_update_self (Obj.mapSeq (·.pop)) hS₂ rfl
  refine wpAny_pure ⟨plainId_quiet PySem.F.plain_extend_loop _, key _ _ _ (fun b o hb e => ?_) hS₃⟩
  exact (Heap.get?_update_other _ _ (Ne.symm hb)).trans ((Heap.get?_update_other _ _ (Ne.symm hb)).trans e)
theorem zip_list (hh : A.handled = none) (D : ZipApart z TI TO i1 i2 l1 l2) {n : Nat} (lx : xs.size = n) (ly : ys.size = n) (hn : n ≤ sizeLine) (lts : z < s.heap.objs.size ∧ TI < s.heap.objs.size ∧ TO < s.heap.objs.size ∧ i1 < s.heap.objs.size ∧ i2 < s.heap.objs.size ∧ l1 < s.heap.objs.size ∧ l2 < s.heap.objs.size)
    (hz : IsZip s.heap z TI TO .none) {a b : Value} (hTI : IsPair s.heap TI (.ref i1) (.ref i2)) (hTO : IsPair s.heap TO a b) (h1 : s.heap.IsListIter i1 l1 0) (h2 : s.heap.IsListIter i2 l2 0) (hl1 : s.heap.IsList l1 xs) (hl2 : s.heap.IsList l2 ys) {Q : Value → Shared → Prop}
    (k : ∀ h' tk acc c as, (∀ b o, b ≠ z → b ≠ TO → b ≠ i1 → b ≠ i2 → s.heap.get? b = some o → h'.get? b = some o) → h'.get? s.heap.objs.size = some { cls := .type "list", dict := none, data := .seq acc c, slots := #[] } → as.length = n → ZG xs ys s.heap.objs.size h' as → acc.toList = as.map Value.ref → Q (.ref s.heap.objs.size) { s with heap := h', toks := tk }) :
    wpAny (model prog w) A (call (.type "list") [.ref z]) Q E s := by
  refine callType_codes (Q₁ := fun obj s₁ => obj = .ref s.heap.objs.size ∧ s₁ = { s with heap := s.heap.push { cls := .type "list", data := .seq #[] } }) PySem.F.called_list (PySem.F.typeCall_list_1 _) PySem.F.entry_list_init (code_list_new _ ⟨rfl, rfl⟩) fun obj s₁ e₁ => ?_
  obtain ⟨rfl, rfl⟩ := e₁
  have hS : (s.heap.push { cls := .type "list", data := .seq #[] }).get? s.heap.objs.size = some { cls := .type "list", data := .seq #[] } := Heap.get?_push_size _ rfl
  have up0 : ∀ b o, s.heap.get? b = some o → (s.heap.push { cls := .type "list", data := .seq #[] }).get? b = some o := fun b o e => Heap.get?_push_of_some _ e
  obtain ⟨g1, g2, g3, g4, g5, g6, g7⟩ := lts
  have of : Off s.heap.objs.size z TI TO i1 i2 l1 l2 := ⟨Nat.ne_of_gt g1, Nat.ne_of_gt g2, Nat.ne_of_gt g3, Nat.ne_of_gt g4, Nat.ne_of_gt g5, Nat.ne_of_gt g6, Nat.ne_of_gt g7⟩
  refine ⟨⟨_, hS, rfl⟩, PySem.F.args_list_init_2 _ _, ?_⟩
  show wpAny _ _ (do let old ← Builtin.List.listItems (.ref s.heap.objs.size); Builtin.List.listUpdate (.ref s.heap.objs.size) (fun _ => #[]); letGo old.toList.reverse; Builtin.List.listExtendWith (.ref s.heap.objs.size) (.ref z) .none) _ _ _
  refine wpAny_bind ?_
  unfold Builtin.List.listItems
  refine wpAny_bind (wpAny_seqItems hS rfl (wpAny_pure ?_))
  show wpAny _ _ (updateSeq s.heap.objs.size (fun _ => #[]) >>= fun _ => letGo (#[] : Array Value).toList.reverse >>= fun _ => Builtin.List.listExtendWith (.ref s.heap.objs.size) (.ref z) .none) _ _ _
  refine wpAny_bind (wpAny_updateSeq hS rfl ?_)
  have hS₂ := Heap.get?_update_self (Obj.mapSeq (fun _ => (#[] : Array Value))) hS rfl
  have oth : ∀ b o, b ≠ s.heap.objs.size → s.heap.get? b = some o → ((s.heap.push { cls := .type "list", data := .seq #[] }).update s.heap.objs.size (Obj.mapSeq (fun _ => (#[] : Array Value)))).get? b = some o := fun b o hb e => (Heap.get?_update_other _ _ (Ne.symm hb)).trans (up0 b o e)
  refine wpAny_bind (wpAny_letGo ?_)
  refine zip_extend (A := A.in1) hh D of ⟨g1, g3, g4, g5⟩ lx ly hn .none _ (oth _ _ (Ne.symm of.z) hz) ⟨oth _ _ (Ne.symm of.ti) hTI, h1.at fun o e => oth _ o (Ne.symm of.i1) e, h2.at fun o e => oth _ o (Ne.symm of.i2) e, hl1.at fun o e => oth _ o (Ne.symm of.l1) e, hl2.at fun o e => oth _ o (Ne.symm of.l2) e, .inl ⟨oth _ _ (Ne.symm of.z) hz, a, b, oth _ _ (Ne.symm of.to) hTO⟩⟩ hS₂ fun h' tk acc c as hk hS' hl hG ha => ?_
  exact ⟨rfl, k h' tk acc c as (fun b o b1 b2 b3 b4 e => hk b o (Nat.ne_of_lt (Heap.lt_size e)) b1 b2 b3 b4 (oth b o (Nat.ne_of_lt (Heap.lt_size e)) e)) hS' hl hG ha⟩
end
end Zx
namespace Kd
open PySem PySem.Spec PyProof.Rows L2 Zx
section
variable {X : Cx} {pins : List (Addr × Obj)} {σ : L2.St} {H H' : Hp} {s : Shared} {h' : Heap}
/-- many new objects at once -/
theorem inv_many {tk : Nat} (I : Inv X pins σ H s) (k : ∀ b u, s.heap.get? b = some u → h'.get? b = some u) (kp : ∀ b u, H b = some u → H' b = some u) (old : ∀ b, b < s.heap.objs.size → H' b = H b)
    (new : ∀ b u, s.heap.objs.size ≤ b → H' b = some u → ObjOk X.prog X.w H' h' b u) : Inv X pins σ H' { s with heap := h', toks := tk } := by
  refine I.call' (ch := []) rfl ⟨fun b o q _ _ _ => k b o q, fun b o q _ _ _ => ⟨o.slots, k b o q⟩, fun b o q n _ => by rw [old b (Heap.lt_size q)]; exact n, fun b o q _ => ⟨o, k b o q⟩, fun b xs q => kp b _ q, fun b o u q => kp b _ q, fun b ps q => ⟨#[], by rw [kp b _ q]; simp⟩⟩ (fun b u q => ?_) I.bare fun b z => by simp at z
  rcases Nat.lt_or_ge b s.heap.objs.size with l | g
  · rw [old b l] at q
    exact (I.hok b u q).stay (fun d v _ y => k d v y) (fun d y => kp d _ y) fun d xs y => kp d _ y
  · exact new b u g q
end
/-- list(zip(xs, ys)), of two lists of one length -/
def tZipL (ta : TA) : TE := fun σ H Q => ta σ H fun vs H1 => ∃ (a b : Addr) (xs ys : List V), vs = [.ref a, .ref b] ∧ H1 a = some (.lst xs) ∧ H1 b = some (.lst ys) ∧ xs.length = ys.length ∧
  ∀ (H' : Hp) (p : Addr) (ts : List Addr), (∀ b o, H1 b = some o → H' b = some o) → H1 p = none → H' p = some (.lst (ts.map V.ref)) → ts.length = xs.length → (∀ (j : Nat) (t : Addr), ts[j]? = some t → H1 t = none ∧ ∃ x y, xs[j]? = some x ∧ ys[j]? = some y ∧ H' t = some (.tup [x, y])) → Q (.ref p) H'
section
variable {X : Cx} {e e2 : Expr} {ta : TA} {p p2 pos pos2 : Pos}
theorem pe_zipL (hc : X.calm = true) (hg : Gl X "list") (hm : X.mg "list" = none) (hg2 : Gl X "zip") (hm2 : X.mg "zip" = none) (ha : PA X [e, e2] ta)
    (h0 : starEach [.Call (.Name "zip" p2) [e, e2] [] pos2] X.env = (false, eval (.Call (.Name "zip" p2) [e, e2] [] pos2) X.env) :: starEach [] X.env := by rfl)
    (hs : starEach [e, e2] X.env = (false, eval e X.env) :: starEach [e2] X.env := by rfl) (hpl : (backTo pos2 (starEach [e2] X.env)).any (·.1) = false := by rfl) :
    PE X (.Call (.Name "list" p) [.Call (.Name "zip" p2) [e, e2] [] pos2] [] pos) (tZipL ta) := by
  refine ⟨fun pins s σ H Q I h => ?_⟩
  refine wpAny_Call_Name_kw (ld_blt I hg hm (show bootBuiltins "list" = some (.type "list") from by decide +kernel) ?_)
  refine PyProof.Rows.callWith_type1 ?_ h0 rfl
  rw [h0]
  show wpAny _ _ (spliced ((false, eval (.Call (.Name "zip" p2) [e, e2] [] pos2) X.env) :: backTo pos (starEach [] X.env))) _ _ s
  refine Calls.spliced_cons ?_
  refine wpAny_Call_Name_kw (ld_blt I hg2 hm2 PyProof.Rows.boot_zip (PyProof.Rows.callWith_type1 (thn (ha.run pos2 pins s σ H _ I h) fun us s1 ⟨vs, H1, I1, r1, q1⟩ => ?_) hs hpl))
  obtain ⟨a, b, xs, ys, ex, hx, hy, hl, q⟩ := q1
  subst ex
  cases r1 with
  | cons r rr =>
    cases rr with
    | cons r' rr =>
      cases rr
      cases r
      cases r'
      obtain ⟨zx, its, n1, rv, g1⟩ := I1.hok a _ hx
      obtain ⟨zy, its2, n2, rv2, g2⟩ := I1.hok b _ hy
      have L1 : s1.heap.IsList a its.toArray := ⟨_, g1, rfl, n1, rfl⟩
      have L2' : s1.heap.IsList b its2.toArray := ⟨_, g2, rfl, n2, rfl⟩
      have la : a < s1.heap.objs.size := Heap.lt_size g1
      have lb : b < s1.heap.objs.size := Heap.lt_size g2
      refine call_zip_2 L1 L2' fun h' hz hTI hTO i1 i2 hsz hk => ?_
      refine Calls.spliced_nil ?_
      have D := PySem.W.ktu_apart s1.heap.objs.size a b la lb
      have lx : its.toArray.size = xs.length := by rw [List.size_toArray]; exact rv.length.symm
      have ly : its2.toArray.size = xs.length := by rw [List.size_toArray, ← rv2.length]; exact hl.symm
      refine zip_list (s := { s1 with heap := h' }) (A := X.A) (I1.ok.hd hc) D lx ly zx (by show _ < h'.objs.size ∧ _; dsimp only; rw [hsz]; refine ⟨?_, ?_, ?_, ?_, ?_, ?_, ?_⟩ <;> (show (_ : Nat) < _; simp only [Addr] at *; omega)) hz hTI hTO i1 i2 (L1.at fun o e => hk _ o e) (L2'.at fun o e => hk _ o e) fun h2 tk acc c as hk2 hS hal hG hacc => ?_
      have nd : as.Nodup := hG.up.imp fun l => Nat.ne_of_lt l
      have Sn : h'.objs.size ∉ as := fun m => Nat.lt_irrefl _ (hG.lo _ m)
      have top : s1.heap.objs.size ≤ h'.objs.size := by rw [hsz]; exact Nat.le_add_right _ _
      have big : ∀ t ∈ as, s1.heap.objs.size ≤ t := fun t m => Nat.le_trans top (Nat.le_of_lt (hG.lo t m))
      have ix : ∀ (j : Nat) (t : Addr), as[j]? = some t → as.idxOf t = j := fun j t ej => by
        obtain ⟨l, e⟩ := List.getElem?_eq_some_iff.mp ej
        rw [← e]
        exact nd.idxOf_getElem j l
      have at_ : ∀ (j : Nat) (t : Addr), as[j]? = some t → ∃ (x y : V) (u u2 : Value), xs[j]? = some x ∧ ys[j]? = some y ∧ RelV x u ∧ RelV y u2 ∧ IsPair h2 t u u2 := fun j t ej => by
        obtain ⟨u, u2, e1, e2, e3⟩ := hG.at_ j t ej
        have lj := (List.getElem?_eq_some_iff.mp ej).1
        have ljx : j < xs.length := by omega
        have ljy : j < ys.length := by omega
        obtain ⟨v, hv, rvv⟩ := rv.get (List.getElem?_eq_getElem ljx)
        obtain ⟨v2, hv2, rvv2⟩ := rv2.get (List.getElem?_eq_getElem ljy)
        have f1 : its[j]? = some u := by simpa using e1
        have f2 : its2[j]? = some u2 := by simpa using e2
        rw [hv] at f1
        rw [hv2] at f2
        cases f1
        cases f2
        exact ⟨_, _, _, _, List.getElem?_eq_getElem ljx, List.getElem?_eq_getElem ljy, rvv, rvv2, e3⟩
      let HH : Hp := fun b => if b = h'.objs.size then some (.lst (as.map V.ref)) else if b ∈ as then some (.tup [xs.getD (as.idxOf b) .non, ys.getD (as.idxOf b) .non]) else H1 b
      have eS : HH h'.objs.size = some (.lst (as.map V.ref)) := if_pos rfl
      have eT : ∀ (j : Nat) (t : Addr) (x y : V), as[j]? = some t → xs[j]? = some x → ys[j]? = some y → HH t = some (.tup [x, y]) := fun j t x y ej ex ey => by
        have m := List.mem_of_getElem? ej
        show (if t = h'.objs.size then _ else if t ∈ as then _ else H1 t) = _
        rw [if_neg (fun z => Sn (by rw [← z]; exact m)), if_pos m, ix j t ej, List.getD_eq_getElem?_getD, List.getD_eq_getElem?_getD, ex, ey]
        rfl
      have eO : ∀ b, b < s1.heap.objs.size → HH b = H1 b := fun b l => by
        show (if b = h'.objs.size then _ else if b ∈ as then _ else H1 b) = _
        rw [if_neg (show ¬ b = h'.objs.size from fun z => absurd (show h'.objs.size < s1.heap.objs.size by rw [← z]; exact l) (Nat.not_lt.mpr top)), if_neg (fun m => absurd l (Nat.not_lt.mpr (big b m)))]
      have kp : ∀ b o, H1 b = some o → HH b = some o := fun b o e => by
        rw [eO b (I1.hok b o e).lt]
        exact e
      have keep2 : ∀ b u, s1.heap.get? b = some u → h2.get? b = some u := fun b u e => by
        have l := Heap.lt_size e
        exact hk2 b u (Nat.ne_of_lt (Nat.lt_of_lt_of_le l (Nat.le_add_right _ _))) (Nat.ne_of_lt (Nat.lt_of_lt_of_le l (Nat.le_add_right _ _))) (Nat.ne_of_lt l) (Nat.ne_of_lt (Nat.lt_of_lt_of_le l (Nat.le_add_right _ _))) (hk b u e)
      have J : L2.Inv X pins σ HH { s1 with heap := h2, toks := tk } := by
        refine inv_many I1 keep2 kp eO fun b u g e => ?_
        by_cases hS2 : b = h'.objs.size
        · subst hS2
          rw [eS] at e
          cases e
          refine ⟨by rw [List.length_map, hal]; exact zx, acc.toList, c, by rw [hacc]; exact LiI.vals_refs as, ?_⟩
          rw [Array.toArray_toList]
          exact hS
        · by_cases hb : b ∈ as
          · obtain ⟨j, ej⟩ := List.mem_iff_getElem?.mp hb
            obtain ⟨x, y, v, v2, e1, e2, r1, r2, e3⟩ := at_ j b ej
            rw [eT j b x y ej e1 e2] at e
            cases e
            exact ⟨by show 2 ≤ sizeLine; decide, [v, v2], .cons r1 (.cons r2 .nil), ⟨_, e3, rfl, _, rfl⟩⟩
          · have e4 : H1 b = some u := by
              have z : (if b = h'.objs.size then some (HO.lst (as.map V.ref)) else if b ∈ as then some (.tup [xs.getD (as.idxOf b) .non, ys.getD (as.idxOf b) .non]) else H1 b) = some u := e
              rwa [if_neg hS2, if_neg hb] at z
            exact absurd (I1.hok b u e4).lt (Nat.not_lt.mpr g)
      refine ⟨.ref _, HH, J, rfl, q HH _ as kp (I1.hok.fresh top) eS hal fun j t ej => ⟨I1.hok.fresh (big t (List.mem_of_getElem? ej)), ?_⟩⟩
      obtain ⟨x, y, _, _, e1, e2, _⟩ := at_ j t ej
      exact ⟨x, y, e1, e2, eT j t x y ej e1 e2⟩
end
end Kd

-- ===== KX3 =====
set_option Elab.async false
set_option linter.all false
set_option maxRecDepth 100000
set_option maxHeartbeats 4000000
namespace Kd
open PySem PySem.Spec PyProof.Rows L2
/-- an int or a bool, plus an int -/
def rAddN : R2 := fun x y H Q => ((∃ i, x = .int i) ∨ ∃ b, x = .bl b) ∧ (∃ j, y = .int j) ∧ ∀ r : Int, Q (.int r) H
theorem op_addN' {X : Cx} : OpR X (binaryOp .Add) rAddN := by
  intro pins s σ H x y v u Q I rx ry h
  obtain ⟨h1, ⟨j, rfl⟩, q⟩ := h
  obtain ⟨t2, rfl⟩ : ∃ t2, u = Value.int j t2 := ry
  rcases h1 with ⟨i, rfl⟩ | ⟨b, rfl⟩
  · obtain ⟨t, rfl⟩ : ∃ t, v = Value.int i t := rx
    exact add_int ⟨.int (i + j), H, I.tok _, ⟨_, rfl⟩, q _⟩
  · cases (show v = Value.bool b from rx)
    exact PySem.IntBool.add_bool_int ⟨.int _, H, I.tok _, ⟨_, rfl⟩, q _⟩
/-! ### values with bounds: of at most k levels, each tuple of at most n parts, texts in order -/
def Nice (n : Nat) : Nat → PyData → Prop
  | _, .str z => PyData.strOk z = true
  | 0, .tuple ds => ds = []
  | k + 1, .tuple ds => ds.length ≤ n ∧ ∀ d ∈ ds, Nice n k d
  | _, _ => True
theorem Nice.mono {n m : Nat} (h : n ≤ m) : ∀ {k l : Nat} {d : PyData}, Nice n k d → k ≤ l → Nice m l d
  | 0, l, .tuple ds, c, _ => by
    have e : ds = [] := c
    subst e
    cases l with
    | zero => exact rfl
    | succ l => exact ⟨Nat.zero_le _, fun d m => nomatch m⟩
  | k + 1, 0, .tuple ds, _, g => absurd g (Nat.not_succ_le_zero _)
  | k + 1, l + 1, .tuple ds, c, g => ⟨Nat.le_trans c.1 h, fun d md => Nice.mono h (c.2 d md) (Nat.le_of_succ_le_succ g)⟩
  | k, l, .str z, c, _ => by
    have e : PyData.strOk z = true := by cases k <;> exact c
    cases l <;> exact e
  | k, l, .none, _, _ => by cases l <;> exact True.intro
  | k, l, .bool _, _, _ => by cases l <;> exact True.intro
  | k, l, .int _, _, _ => by cases l <;> exact True.intro
  | k, l, .list _, _, _ => by cases l <;> exact True.intro
  | k, l, .dict _, _, _ => by cases l <;> exact True.intro
theorem Nice.non {n k : Nat} : Nice n k .none := by cases k <;> exact True.intro
theorem Nice.bool {n k : Nat} {b : Bool} : Nice n k (.bool b) := by cases k <;> exact True.intro
theorem Nice.int {n k : Nat} {b : Int} : Nice n k (.int b) := by cases k <;> exact True.intro
theorem Nice.lst {n k : Nat} {b : List PyData} : Nice n k (.list b) := by cases k <;> exact True.intro
theorem Nice.dct {n k : Nat} {b : List (PyData × PyData)} : Nice n k (.dict b) := by cases k <;> exact True.intro
theorem Nice.str {n k : Nat} {z : Str} (h : PyData.strOk z = true) : Nice n k (.str z) := by cases k <;> exact h
theorem Nice.len {n k : Nat} {ds : List PyData} (h : Nice n k (.tuple ds)) : ds.length ≤ n := by
  cases k with
  | zero => rw [show ds = [] from h]; exact Nat.zero_le _
  | succ k => exact h.1
theorem Nice.part {n k : Nat} {ds : List PyData} {d : PyData} (h : Nice n k (.tuple ds)) (m : d ∈ ds) : ∃ l, k = l + 1 ∧ Nice n l d := by
  cases k with
  | zero => rw [show ds = [] from h] at m; cases m
  | succ k => exact ⟨k, rfl, h.2 d m⟩
/-! ### slices -/
theorem cut_to (xs : List V) {i : Int} (h : 0 ≤ i) : cutV xs none (some i) = xs.take i.toNat := by
  obtain ⟨n, rfl⟩ := Int.eq_ofNat_of_zero_le h
  unfold cutV
  rw [HT.sIx_nat, HT.sIx_none, List.drop_zero, Nat.sub_zero, Int.toNat_natCast, List.take_eq_take_iff]
  omega
theorem cut_from (xs : List V) {i : Int} (h : 0 ≤ i) : cutV xs (some i) none = xs.drop i.toNat := by
  obtain ⟨n, rfl⟩ := Int.eq_ofNat_of_zero_le h
  unfold cutV
  rw [HT.sIx_nat, HT.sIx_none, Int.toNat_natCast, ← List.length_drop, List.take_length]
  rcases Nat.le_total n xs.length with l | g
  · rw [Nat.min_eq_left l]
  · rw [Nat.min_eq_right g, List.drop_length, List.drop_eq_nil_of_le g]
theorem not_whole_to {n : Nat} {i : Int} (h0 : 0 ≤ i) (h : i < n) : ¬ (HT.sIx n 0 none = 0 ∧ HT.sIx n n (some i) = n) := fun z => by
  obtain ⟨k, rfl⟩ := Int.eq_ofNat_of_zero_le h0
  have e := z.2
  rw [HT.sIx_nat] at e
  omega
theorem not_whole_from {n : Nat} {i : Int} (h0 : 0 < i) (h : 0 < n) : ¬ (HT.sIx n 0 (some i) = 0 ∧ HT.sIx n n none = n) := fun z => by
  obtain ⟨k, rfl⟩ := Int.eq_ofNat_of_zero_le (Int.le_of_lt h0)
  have e := z.1
  rw [HT.sIx_nat] at e
  omega
end Kd

-- ===== KS12 =====
set_option Elab.async false
set_option linter.all false
set_option maxRecDepth 100000
set_option maxHeartbeats 4000000
namespace Kd
open PySem L2 PyProof.Rows PySem.Spec PySem.W PySem.Calls
/-! ### sorted(d), the keys being tuples -/
theorem walk_raw {prog : Program} {w : World} {A : Around} {it d : Addr} {od : Obj} {es : Array DictEntry} {ep : Nat} (hh : A.handled = none) (ne : d ≠ it) (hd : od.data = .dict es ep) :
    Walks prog w A it [it, d] [it] es.size (fun i v => ∃ en, es[i]? = some en ∧ v = en.key) (fun i h => h.IsKeyIter it d i es.size ep ∧ h.get? d = some od) where
  sub := fun b hb => by simp at hb; simp [hb]
  frame := fun _ _ _ st hk => ⟨st.1.at fun o e => hk it (by simp) o e, hk d (by simp) _ st.2⟩
  item := fun i s Q E hi st hQ => by
    obtain ⟨en, hx⟩ : ∃ en, es[i]? = some en := ⟨es[i], by simp [hi]⟩
    refine next_key_item st.1 st.2 hd rfl hx fun h' st' sb => hQ en.key h' s.toks ⟨en, hx, rfl⟩ ⟨st', (sb.2 d ne).trans st.2⟩ fun b o hb e => (sb.2 b fun z => hb (by simp [z])).trans e
  done := fun s Q E st hQ => next_key_end hh st.1 st.2 hd rfl (Nat.le_refl _) fun h' eb => hQ h' s.toks fun b o hb e => eb b o (fun z => hb (by simp [z])) e
  self := fun _ _ _ _ st hQ => wpAny_pyIter_keyiter st.1 hQ
theorem src_raw {prog : Program} {w : World} {d : Addr} {od : Obj} {es : Array DictEntry} {ep : Nat} (lo : (d == sysModules) = false) (ex : od.ExactDict) (hd : od.data = .dict es ep) :
    KdlSrc prog w "dict" d d es.size (fun i v => ∃ en, es[i]? = some en ∧ v = en.key) (fun h => h.get? d = some od) where
  type := fun _ hm => ⟨od, hm, ex.1⟩
  there := fun _ hm => ⟨Heap.lt_size hm, Heap.lt_size hm⟩
  keep := fun _ _ hm hk => hk d (.inl rfl) _ hm
  notList := by decide
  notTuple := by decide
  hint := fun _ _ _ _ hm hq => kdl_hint_dict ⟨od, hm, ex.1⟩ hq
  iter := fun _ _ hh hm => ⟨_, _, (fun _ _ hq => iter_keys lo hm ex hd hq), walk_raw hh (Nat.ne_of_lt (Heap.lt_size hm)) hd, ⟨⟨_, Heap.get?_push_size _ rfl, rfl, rfl⟩, Heap.get?_push_of_some _ hm⟩⟩
/-- one for each place -/
theorem pick_each {α : Type} (R : Nat → α → Prop) : ∀ n : Nat, (∀ i, i < n → ∃ x, R i x) → ∃ L : List α, L.length = n ∧ ∀ i x, L[i]? = some x → R i x
  | 0, _ => ⟨[], rfl, fun i x e => by simp at e⟩
  | n + 1, h => by
    obtain ⟨L, l, g⟩ := pick_each R n fun i hi => h i (by omega)
    obtain ⟨y, hy⟩ := h n (by omega)
    refine ⟨L ++ [y], by rw [List.length_append, l]; rfl, fun i x e => ?_⟩
    rcases Nat.lt_or_ge i L.length with lt | ge
    · rw [List.getElem?_append_left lt] at e
      exact g i x e
    · rw [List.getElem?_append_right ge] at e
      have ei : i - L.length = 0 := by
        have z := (List.getElem?_eq_some_iff.mp e).1
        simp at z
        omega
      rw [ei] at e
      have e2 : y = x := Option.some.inj e
      rw [← e2, show i = n by omega]
      exact hy
def rSortD : List V → Hp → VK → Prop := fun vs H Q => ∃ (a : Addr) (kvs : List (List Key × V)), vs = [V.ref a] ∧ H a = some (.dT kvs) ∧ kvs.length < 64 ∧ AllAlike (kvs.map fun p => tD p.1) ∧ Sortable (kvs.map fun p => tD p.1) ∧
  ∀ (L : List (Addr × List Key)) p, L.map Prod.snd = kvs.map Prod.fst → (∀ q ∈ L, H q.1 = some (.tup (q.2.map kV))) → H p = none → Q (.ref p) (upd H p (.lst ((L.mergeSort (dataLe false fun q => tD q.2)).map fun q => V.ref q.1)))
section
variable {X : Cx}
theorem cr_sortD (hc : X.calm = true) (hu : X.A.units + 64 < cLine) : CallR X (.builtin "sorted") rSortD := by
  intro pins s σ H vs us Q I r h
  obtain ⟨a, kvs, rfl, ha, less, al, so, q⟩ := h
  rw [Vals.ref1 r]
  obtain ⟨od, J⟩ := I.lock ha trivial
  obtain ⟨lo, hod, hex, es, ep, hdt, hsz, ent⟩ := J.frzT upd_same
  obtain ⟨L, ll, hL⟩ := pick_each (fun i (q : Addr × List Key) => (∃ v, kvs[i]? = some (q.2, v)) ∧ (∃ en, es[i]? = some en ∧ en.key = Value.ref q.1) ∧ H q.1 = some (.tup (q.2.map kV))) kvs.length fun i hi => by
    obtain ⟨⟨k, v⟩, hkv⟩ : ∃ p, kvs[i]? = some p := ⟨kvs[i], List.getElem?_eq_getElem hi⟩
    obtain ⟨en, b, hen, hkey, hb⟩ := ent i k v hkv
    refine ⟨(b, k), ⟨v, hkv⟩, ⟨en, hen, hkey⟩, ?_⟩
    rw [upd_ne fun z => by rw [z, upd_same] at hb; cases hb] at hb
    exact hb
  have keys : L.map Prod.snd = kvs.map Prod.fst := by
    refine List.ext_getElem? fun i => ?_
    rw [List.getElem?_map, List.getElem?_map]
    rcases Nat.lt_or_ge i L.length with lt | ge
    · obtain ⟨⟨v, e⟩, _⟩ := hL i L[i] (List.getElem?_eq_getElem lt)
      rw [List.getElem?_eq_getElem lt, e]
      rfl
    · rw [List.getElem?_eq_none ge, List.getElem?_eq_none (by omega)]
      rfl
  have tups : ∀ q ∈ L, H q.1 = some (.tup (q.2.map kV)) := fun q m => by
    obtain ⟨i, e⟩ := List.mem_iff_getElem?.mp m
    exact (hL i q e).2.2
  have en2 : (L.map fun q => tD q.2) = kvs.map fun p => tD p.1 := by
    have z := congrArg (List.map tD) keys
    rw [List.map_map, List.map_map] at z
    exact z
  refine Calls.call_function_entry kind_sorted plain_sorted entry_sorted (args_sorted1 _) ?_
  unfold Builtin.«sorted»
  refine wpAny_bind (m := checkCount "sorted" 1 1 _) (wpAny_pure ?_)
  refine wpAny_bind (kdu_collect (A := X.A.in1) (src_raw lo hex hdt) (I.ok.hd hc) hod (by rw [hsz, sizeLine_eq]; omega) fun h' tk acc hk hacc => ?_)
  have I1 : Inv X pins σ H { s with heap := h', toks := tk } := I.kept hk
  have ev : acc.toList = L.map fun q => Value.ref q.1 := by
    refine List.ext_getElem? fun i => ?_
    rw [List.getElem?_map]
    have al : acc.size = L.length := by rw [hacc.1, hsz, ll]
    rcases Nat.lt_or_ge i L.length with lt | ge
    · obtain ⟨v, hv⟩ : ∃ v, acc[i]? = some v := ⟨acc[i]'(by omega), by simp [al, lt]⟩
      obtain ⟨en, h1, rfl⟩ := hacc.2 i v hv
      obtain ⟨_, ⟨en', h2, h3⟩, _⟩ := hL i L[i] (List.getElem?_eq_getElem lt)
      rw [h1] at h2
      cases h2
      rw [Array.getElem?_toList, hv, h3, List.getElem?_eq_getElem lt]
      rfl
    · rw [List.getElem?_eq_none ge, List.getElem?_eq_none (by rw [Array.length_toList]; omega)]
      rfl
  rw [ev]
  refine wpAny_bind (wpAny_newList ?_ (by rw [List.length_map, sizeLine_eq]; omega))
  have oL : (h'.push (seqObj "list" (L.map fun q => Value.ref q.1).toArray 0)).get? h'.objs.size = some (seqObj "list" (L.map fun q => Value.ref q.1).toArray 0) := Heap.get?_push_size _ rfl
  have each : ∀ (R : Value → Addr × List Key → Prop) (M : List (Addr × List Key)), (∀ q ∈ M, R (.ref q.1) q) → EachIs R (M.map fun q => Value.ref q.1) M := by
    intro R M
    induction M with
    | nil => exact fun _ => .nil
    | cons x M ih => exact fun g => .cons (g x List.mem_cons_self) (ih fun y m => g y (List.mem_cons_of_mem _ m))
  refine wpAny_bind (wpAny_holding (list_sort_data (s := { s with heap := h'.push (seqObj "list" (L.map fun q => Value.ref q.1).toArray 0), toks := tk }) (R := fun v q => v = Value.ref q.1) (enc := fun q : Addr × List Key => tD q.2) (bs := L) oL (each _ L fun q _ => rfl)
    (each _ L fun q m => ⟨[], PyProof.Rows.Reads.keeps (fun b u e => Heap.get?_push_of_some _ e) (key_raw I1 (SqT.of (tups q m))).2, fun z => nomatch z⟩)
    (by rw [en2]; exact al) ?_ (by rw [sizeLine_eq]; omega) (fun b _ => by have z := tD_depth b.2; have y : X.A.in1.units ≤ X.A.units + 32 := (by simp only [Around.in1]; omega); omega) fun out lo2 eo => ?_))
  · rw [← en2] at so
    rcases so with g | g
    · exact .inl fun d m => g d m
    · exact .inr fun d m => g d m
  · have eout : ∀ {o : List Value} {M : List (Addr × List Key)}, EachIs (fun v q => v = Value.ref q.1) o M → o = M.map fun q => Value.ref q.1 := by
      intro o M z
      induction z with
      | nil => rfl
      | cons e _ ih => rw [e, ih]; rfl
    have eo' := eout eo
    subst eo'
    obtain ⟨c, hc2⟩ := sortedHeap_at (vs := L.map fun q => Value.ref q.1) (out := (List.toArray ((L.mergeSort (dataLe false fun q => tD q.2)).map fun q => Value.ref q.1))) oL
    have kp2 : ∀ b u, h'.get? b = some u → (sortedHeap (h'.push (seqObj "list" (L.map fun q => Value.ref q.1).toArray 0)) h'.objs.size (L.map fun q => Value.ref q.1) (List.toArray ((L.mergeSort (dataLe false fun q => tD q.2)).map fun q => Value.ref q.1))).get? b = some u := fun b u z => by
      have lt := Heap.lt_size z
      rw [sortedHeap_old (Nat.ne_of_lt lt) (by rw [size_push']; exact Nat.lt_succ_of_lt lt)]
      exact Heap.get?_push_of_some _ z
    have lz : ((L.mergeSort (dataLe false fun q => tD q.2)).map fun q => V.ref q.1).length ≤ sizeLine := by
      rw [List.length_map, List.length_mergeSort, sizeLine_eq]
      omega
    refine wpAny_pure ⟨_, rfl, ?_⟩
    exact ⟨.ref h'.objs.size, upd H h'.objs.size (.lst ((L.mergeSort (dataLe false fun q => tD q.2)).map fun q => V.ref q.1)), I1.laid (t' := tk) kp2 (Nat.le_refl _) ⟨lz, _, c, refs_vals Prod.fst _, hc2⟩, rfl, q L _ keys tups (I1.hok.fresh (Nat.le_refl _))⟩
end
end Kd

-- ===== KS13 =====
set_option Elab.async false
set_option linter.all false
set_option maxRecDepth 100000
set_option maxHeartbeats 4000000
namespace Kd
open PySem L2 PyProof.Rows PySem.Spec ClX
/-! ### C.m(k = v), m a classmethod -/
def tCMethK (C : Addr) (sp : Sp) (gV : List V → List V → List V) (E : XK) (ta : TE) (tk : TA) : TE := fun σ H Q => ta σ H fun x H1 => x = .ref C ∧ tk σ H1 fun zs H2 => sp (gV [.ref C] zs) H2 Q E
section
variable {X : Cx} {CX : CXT} {k : Nat} {C p g : Addr} {mc : Value} {fd : FuncData} {ps ks : List Str} {sp : Sp} {E : XK} {o : Expr} {kws : List Keyword} {m : Str} {pos apos : Pos} {ta : TE} {tk : TA} {pl : Sem Bool} {gg : List Value → List Value → List Value} {gV : List V → List V → List V}
theorem pe_cmethK (he : PE X o ta) (r : CRead X.K C mc) (c : CMet X.K C mc m p g) (F : FnOk X.prog X.w X.K X.mg X.base CX k g fd ps sp) (hr : Room k X.A) (hb : KBinds X.K fd ps ks gg gV) (hx : Passes CX X E) (hkw : PK X kws tk)
    (hall : (backToKw pos (keywordEach kws X.env)).all (·.1.isSome) = true := by rfl) (hks : (backToKw pos (keywordEach kws X.env)).filterMap (·.1) = ks := by rfl)
    (hpl : ((backTo pos (starEach [] X.env)).any (·.1) || (backToKw pos (keywordEach kws X.env)).any (·.1.isNone)) = false := by rfl)
    (ht : eval (.Call (.Attribute o m apos) [] kws pos) X.env = (do
      let ov ← eval o X.env
      standAt apos.atName
      let (f, first) ← holding [ov] (getMethod ov m pl)
      callWith pos f first (backTo pos (starEach [] X.env)) (backToKw pos (keywordEach kws X.env))) := by rfl) :
    PE X (.Call (.Attribute o m apos) [] kws pos) (tCMethK C sp gV E ta tk) := by
  refine ⟨fun pins s σ H Q I h => ?_⟩
  refine PySem.W.methodCall_KW (pl := pl) (thn (he.run pins s σ H _ I h) fun u s1 ⟨x, H1, I1, rx, ex, q⟩ => ?_) ht
  subst ex
  obtain rfl : u = Value.ref C := rx
  refine getmethcm_ok I1 r c fun s2 I2 => ?_
  refine PySem.W.callWith_of hpl (PySem.W.keeps_M c.fi) (evalArgs_kw2_nil hall (thn (hkw.run pos _ s2 σ H1 _ I2 q) fun ws s3 ⟨zs, H2, I3, rz, q2⟩ => ⟨⟨pin_at I3, I3.kIn⟩, ?_⟩))
  rw [hks]
  have r2 := hb.rel (.cons (show RelV (.ref C) (.ref C) from rfl) .nil : Vals [.ref C] [.ref C]) rz
  have hl : (gg [.ref C] ws).length = ps.length := by rw [← r2.length]; exact F.len _ _ _ _ q2
  have z : wpAny (model X.prog X.w) X.A (call (.ref s1.heap.objs.size) [] (ks.zip ws)) (EP X ((s1.heap.objs.size, PySem.W.methodObj (.ref g) (.ref C)) :: pins) σ Q) X.xe s3 := by
    refine wpAny_call (PySem.W.method_call (pin_at I3) (codeAny_mono (F.run X.A X.stack s3 H2 ⟨[.ref C], ks.zip ws⟩ (gg [.ref C] ws) (gV [.ref C] zs) Q E hr I3.env0 (hb.to s3 [.ref C] ws I3.kIn hl) r2 q2) fun r s' hq => ?_))
    cases r with
    | error e => exact (hx _ σ H2 s3 e s' I3 hq)
    | ok fl =>
      cases fl with
      | ret u => exact I3.after hq
      | next => exact False.elim hq
      | brk => exact False.elim hq
      | cont => exact False.elim hq
  exact thn z fun _ _ y => unpinE y
end
end Kd

-- ===== KS14 =====
set_option Elab.async false
set_option linter.all false
set_option maxRecDepth 100000
set_option maxHeartbeats 4000000
namespace Kd
open PySem L2 PyProof.Rows PySem.Spec ClX
/-! ### o.m(k = v, ..), m a def of o's class -/
def tMethK (C : Addr) (m : Str) (sp : Sp) (gV : List V → List V → List V) (E : XK) (ta : TE) (tk : TA) : TE := fun σ H Q => ta σ H fun x H1 => ∃ a dx fs, x = .ref a ∧ H1 a = some (.ins C dx fs) ∧ fs.lookup m = none ∧ tk σ H1 fun zs H2 => sp (gV [.ref a] zs) H2 Q E
section
variable {X : Cx} {CX : CXT} {k : Nat} {C g : Addr} {fd : FuncData} {ps ks : List Str} {sp : Sp} {E : XK} {o : Expr} {kws : List Keyword} {m : Str} {pos apos : Pos} {ta : TE} {tk : TA} {pl : Sem Bool} {gg : List Value → List Value → List Value} {gV : List V → List V → List V}
theorem pe_methK (he : PE X o ta) (c : Cls X.K C) (hm : Meth X.K C m g) (F : FnOk X.prog X.w X.K X.mg X.base CX k g fd ps sp) (hr : Room k X.A) (hb : KBinds X.K fd ps ks gg gV) (hx : Passes CX X E) (hkw : PK X kws tk)
    (hall : (backToKw pos (keywordEach kws X.env)).all (·.1.isSome) = true := by rfl) (hks : (backToKw pos (keywordEach kws X.env)).filterMap (·.1) = ks := by rfl)
    (hpl : ((backTo pos (starEach [] X.env)).any (·.1) || (backToKw pos (keywordEach kws X.env)).any (·.1.isNone)) = false := by rfl)
    (ht : eval (.Call (.Attribute o m apos) [] kws pos) X.env = (do
      let ov ← eval o X.env
      standAt apos.atName
      let (f, first) ← holding [ov] (getMethod ov m pl)
      callWith pos f first (backTo pos (starEach [] X.env)) (backToKw pos (keywordEach kws X.env))) := by rfl) :
    PE X (.Call (.Attribute o m apos) [] kws pos) (tMethK C m sp gV E ta tk) := by
  refine ⟨fun pins s σ H Q I h => ?_⟩
  refine PySem.W.methodCall_KW (pl := pl) (thn (he.run pins s σ H _ I h) fun u s1 ⟨x, H1, I1, rx, a, dx, fs, ex, ea, l, q⟩ => ?_) ht
  subst ex
  obtain rfl : u = Value.ref a := rx
  refine getmeth_ok I1 ea c hm l ?_
  refine PySem.W.callWith_KW0 (first := [.ref a]) (h₀ := X.base) I.ok.mod.kin hm.kp hall (thn (hkw.run pos pins s1 σ H1 _ I1 q) fun ws s2 ⟨zs, H2, I2, rz, q2⟩ => ⟨I2.kIn, ?_⟩) hpl
  rw [hks]
  exact run_fnk (us := [.ref a]) (vs := [.ref a]) F hr hb hx I2 (.cons rfl .nil) rz q2
end
end Kd

-- ===== KS15 =====
set_option Elab.async false
set_option linter.all false
set_option maxRecDepth 100000
set_option maxHeartbeats 4000000
namespace Kd
open PySem L2 PyProof.Rows PySem.Spec
/-! ### dict(xs) of pairs whose keys are tuples -/
/-- pairs one behind the other into a dict -/
def pour (kvs : List (List Key × V)) (ps : List (Addr × List Key × V)) : List (List Key × V) := ps.foldl (fun acc q => putK acc q.2.1 q.2.2) kvs
theorem pour_le : ∀ (ps : List (Addr × List Key × V)) (kvs : List (List Key × V)), (pour kvs ps).length ≤ kvs.length + ps.length
  | [], kvs => Nat.le_refl _
  | q :: ps, kvs => by
    have h := pour_le ps (putK kvs q.2.1 q.2.2)
    have h2 := length_putK kvs q.2.1 q.2.2
    show (pour (putK kvs q.2.1 q.2.2) ps).length ≤ _
    rw [List.length_cons]
    omega
/-- the pair at b -/
def PairAt (H : Hp) (q : Addr × List Key × V) : Prop := ∃ kb, H q.1 = some (.tup [.ref kb, q.2.2]) ∧ H kb = some (.tup (q.2.1.map kV))
section
variable {X : Cx} {pins : List (Addr × Obj)} {σ : L2.St} {H : Hp} {A : Around}
theorem pour_loop {R : Result → Shared → Prop} {S I l : Addr} {all : List (Addr × List Key × V)} {res : Value} (hh : A.handled = none) (hu : A.units + 40 < cLine) (hl : H l = some (.lst (all.map fun q => V.ref q.1))) (hS : H S = none) (fI : FpOk X pins H I) (nSI : S ≠ I) (ok : ∀ q ∈ all, PairAt H q) :
    ∀ (rest : List (Addr × List Key × V)) (i : Nat) (acc : List (List Key × V)) (ix : Int) (t : Tok) (s : Shared), all.drop i = rest → acc.length + rest.length ≤ 1000 → Inv X pins σ (upd H S (.dT acc)) s → s.heap.IsListIter I l i →
      (∀ s', Inv X pins σ (upd H S (.dT (pour acc rest))) s' → R (.ok (.ret res)) s') → codeAny (model X.prog X.w) A (.builtin "dict.update.loop" ⟨[.ref S, .ref I, .int ix t, res], []⟩) R s := by
  intro rest
  induction rest with
  | nil =>
    intro i acc ix t s ed hln J hit hR
    have nlS : l ≠ S := fun z => by rw [z, hS] at hl; cases hl
    have hl2 : (upd H S (.dT acc)) l = some (.lst (all.map fun q => V.ref q.1)) := by rw [upd_ne nlS]; exact hl
    obtain ⟨its, rv, pl, hz⟩ := J.list (SqL.of hl2)
    refine codeAny_builtin ud_entry ?_
    rw [Around.under_plainId ud_plain _]
    show wpAny _ A.in1 (pyNext (.ref I) >>= _) _ _ s
    have le : all.length ≤ i := List.drop_eq_nil_iff.mp ed
    have lz := rv.length
    rw [List.length_map] at lz
    refine wpAny_bind (wpAny_pyNext_list_end (A := A.in1) hh hit pl.isList (by simp; omega) fun h' he => ?_)
    show wpAny _ A.in1 (Builtin.Dict.addKeywords S [] >>= _) _ _ _
    refine wpAny_bind (wpAny_pure (wpAny_pure ?_))
    have f2 : FpOk X pins (upd H S (.dT acc)) I := ⟨by rw [upd_ne (Ne.symm nSI)]; exact fI.1, fI.2.1, fI.2.2.1, fI.2.2.2.1, fI.2.2.2.2.1, fI.2.2.2.2.2⟩
    obtain ⟨f0, f1, _, f3, f4, f5⟩ := f2
    exact hR _ (J.turned (t' := s.toks) (fun b o hb e => he b o hb e) f0 f1 f3 f4 f5)
  | cons q rest ih =>
    intro i acc ix t s ed hln J hit hR
    rw [List.length_cons] at hln
    have ei : all[i]? = some q := by
      have z : (all.drop i)[0]? = some q := by rw [ed]; rfl
      rwa [List.getElem?_drop, Nat.add_zero] at z
    have ed2 : all.drop (i + 1) = rest := by rw [← List.tail_drop, ed]; rfl
    have nlS : l ≠ S := fun z => by rw [z, hS] at hl; cases hl
    have hl2 : (upd H S (.dT acc)) l = some (.lst (all.map fun q => V.ref q.1)) := by rw [upd_ne nlS]; exact hl
    obtain ⟨its, rv, pl, hz⟩ := J.list (SqL.of hl2)
    have eits := refs_raw (fun q : Addr × List Key × V => q.1) rv
    subst eits
    obtain ⟨kb, e1, e2⟩ := ok q (List.mem_of_getElem? ei)
    have n1 : q.1 ≠ S := ne_of_none e1 hS
    have n2 : kb ≠ S := ne_of_none e2 hS
    have e1' : (upd H S (.dT acc)) q.1 = some (.tup [.ref kb, q.2.2]) := by rw [upd_ne n1]; exact e1
    have e2' : (upd H S (.dT acc)) kb = some (.tup (q.2.1.map kV)) := by rw [upd_ne n2]; exact e2
    have f2 : FpOk X pins (upd H S (.dT acc)) I := ⟨by rw [upd_ne (Ne.symm nSI)]; exact fI.1, fI.2.1, fI.2.2.1, fI.2.2.2.1, fI.2.2.2.2.1, fI.2.2.2.2.2⟩
    obtain ⟨f0, f1, _, f3, f4, f5⟩ := f2
    refine codeAny_builtin ud_entry ?_
    rw [Around.under_plainId ud_plain _]
    show wpAny _ A.in1 (pyNext (.ref I) >>= _) _ _ s
    refine wpAny_bind (wpAny_pyNext_list_item (x := .ref q.1) hit pl.isList (by simp [ei]) fun h1 hit1 hs1 => ?_)
    have J1 : Inv X pins σ (upd H S (.dT acc)) { s with heap := h1 } := J.turned (t' := s.toks) (fun b o hb e => (hs1.2 b hb).trans e) f0 f1 f3 f4 f5
    obtain ⟨its2, rv2, ⟨o, ho, hc, n, hd⟩, _⟩ := J1.tuple (SqT.of e1')
    obtain ⟨u, y, ex, ru, ry⟩ := vals2 rv2
    subst ex
    cases (show u = Value.ref kb from ru)
    show wpAny _ A.in1 (holding [Value.ref q.1] _ >>= _) _ _ _
    refine wpAny_bind (wpAny_holding ?_)
    refine wpAny_bind (wpAny_tryCatch ?_)
    unfold Builtin.Dict.pairItems
    refine wpAny_bind (wpAny_typeOf (T := "tuple") ⟨o, ho, hc⟩ ?_)
    rw [if_pos (by first | decide | rfl | simp)]
    refine wpAny_bind (wpAny_seqItems ho hd (wpAny_pure ?_))
    show wpAny _ A.in1 (holding [Value.ref kb, y] (dictSet S (.ref kb) y)) _ _ _
    obtain ⟨z, nsys, xs, rel, dd⟩ := dt_of J1.hok (upd_same (H := H) (a := S) (o := .dT acc))
    have xz : xs.length ≤ sizeLine := by rw [← Paired.length rel]; exact z
    have big := sizeLine_eq
    have pz : (putK acc q.2.1 q.2.2).length ≤ sizeLine := by have := length_putK acc q.2.1 q.2.2; omega
    refine wpAny_holding (wpAny_dictSet_heap (hsz := xz) (show A.in1.units < cLine by simp only [Around.in1]; omega) (key_of J1.hok e2') dd fun h2 dd2 sb => ?_)
    obtain ⟨o2, es, ep, g1, g2, g3, g4, _, g5⟩ := dd2
    have J2 : ∀ t2, Inv X pins σ (upd (upd H S (.dT acc)) S (.dT (putK acc q.2.1 q.2.2))) { s with heap := h2, toks := t2 } := fun t2 => by
      refine d_write (s := { s with heap := h1 }) (t' := t2) J1 (by rw [upd_same]; exact True.intro) sb ⟨o2, g1⟩ ⟨pz, nsys, _, (rel.put q.2.1 e2' ry).keeps fun c ys e => ?_, o2, es, ep, g1, g2, g3, g4, g5⟩
      rw [upd_ne (ne_of e upd_same (fun z => nomatch z))]
      exact e
    rw [L2.upd_upd] at J2
    refine wpAny_pure ⟨plainId_quiet ud_plain _, ih (i + 1) (putK acc q.2.1 q.2.2) (ix + 1) 0 _ ed2 (by have := length_putK acc q.2.1 q.2.2; omega) (J2 _) (hit1.at fun o e => (sb.2 I (Ne.symm nSI)).trans e) hR⟩
/-- dict(xs), xs a list of pairs -/
theorem call_dictT (hc : X.calm = true) (hu : X.A.units + 200 < cLine) : CallR X (.type "dict") (fun xs H Q => ∃ (a : Addr) (all : List (Addr × List Key × V)), xs = [.ref a] ∧ H a = some (.lst (all.map fun q => V.ref q.1)) ∧ (∀ q ∈ all, PairAt H q) ∧ all.length ≤ 1000 ∧
    ∀ p, H p = none → Q (.ref p) (upd H p (.dT (pour [] all)))) := by
  intro pins s σ H xs us Q I r h
  obtain ⟨a, all, rfl, ha, ok, few, q⟩ := h
  rw [Vals.ref1 r]
  have hh : X.A.handled = none := I.ok.hd hc
  have hS : H s.heap.objs.size = none := I.hok.fresh (Nat.le_refl _)
  refine callType_codes (Q₁ := fun obj s₁ => obj = .ref s.heap.objs.size ∧ s₁ = { s with heap := s.heap.push { cls := .type "dict", data := .dict #[] } }) PySem.F.kt_called_dict (PySem.F.kt_typeCall_dict_1 _) PySem.F.entry_dict_init (kt_code_dict_new _ ⟨rfl, rfl⟩) ?_
  rintro obj s₁ ⟨rfl, rfl⟩
  have I1 : Inv X pins σ (upd H s.heap.objs.size (.dT [])) { s with heap := s.heap.push { cls := .type "dict", data := .dict #[] } } := I.laid (t' := s.toks) (fun _ _ z => Heap.get?_push_of_some _ z) (Nat.le_refl _) (dt_empty s.heap I.big)
  have oS : (s.heap.push { cls := .type "dict", data := .dict #[] }).get? s.heap.objs.size = some { cls := .type "dict", data := .dict #[] } := Heap.get?_push_size _ rfl
  have tS : Shared.TypeIs { s with heap := s.heap.push { cls := .type "dict", data := .dict #[] } } (.ref s.heap.objs.size) "dict" := ⟨_, oS, rfl⟩
  have nS : a ≠ s.heap.objs.size := ne_of_none ha hS
  obtain ⟨its, rv, ⟨ol, n, hol, hcl, hdn, hdat⟩, hz⟩ := I1.list (SqL.of (show (upd H s.heap.objs.size (.dT [])) a = some (.lst (all.map fun q => V.ref q.1)) by rw [upd_ne nS]; exact ha))
  refine ⟨tS, PySem.F.args_dict_init_2 _ _, ?_⟩
  unfold Builtin.«dict.__init__»
  refine wpAny_bind ?_
  unfold Builtin.Dict.selfAndRest
  refine wpAny_bind (wpAny_notOrdered_dict tS ?_)
  show wpAny _ _ (pure (s.heap.objs.size, [Value.ref a])) _ _ _
  refine wpAny_pure ?_
  show wpAny _ _ (Builtin.Dict.updateFrom "dict.__init__" s.heap.objs.size (.ref a) [] .none) _ _ _
  unfold Builtin.Dict.updateFrom
  refine wpAny_bind (wpAny_typeOf (T := "list") ⟨ol, hol, hcl⟩ ?_)
  rw [if_pos (by first | decide | rfl | simp)]
  refine wpAny_bind (miss_list hol hcl hdat hdn hh fun h1 tk1 hk1 => ?_)
  rw [if_pos (show (none : Option Value).isNone = true from rfl)]
  refine wpAny_bind (wpAny_rule ?_)
  have I2 : Inv X pins σ (upd H s.heap.objs.size (.dT [])) { s with heap := h1, toks := tk1 } := I1.kept hk1
  have l1 : h1.IsList a its.toArray := ⟨ol, hk1 _ _ hol, hcl, n, hdat⟩
  have lS : s.heap.objs.size < h1.objs.size := Heap.lt_size (hk1 _ _ oS)
  refine wpAny_bind (wpAny_pyIter_list l1 ?_)
  have I3 : Inv X pins σ (upd H s.heap.objs.size (.dT [])) { s with heap := h1.push { cls := .type "list_iterator", data := .fields #[.ref a, .int 0 0] }, toks := tk1 } := I2.kept (t' := tk1) fun b o e => Heap.get?_push_of_some _ e
  have fI : FpOk X pins H h1.objs.size := I2.fpOk (Nat.le_refl _) (I.hok.fresh (Nat.le_of_lt lS))
  have key := pour_loop (X := X) (A := X.A.in1) (R := wants (fun r s₂ => r = .none ∧ EP X pins σ Q (.ref s.heap.objs.size) s₂) X.xe) (res := Value.none) hh (by simp only [Around.in1]; omega) ha hS fI (Nat.ne_of_lt lS) ok all 0 [] 0 0
    { s with heap := h1.push { cls := .type "list_iterator", data := .fields #[.ref a, .int 0 0] }, toks := tk1 } rfl (by rw [List.length_nil]; omega) I3 ⟨_, Heap.get?_push_size _ rfl, rfl, rfl⟩ (fun s' J => ⟨rfl, .ref _, _, J, rfl, q _ hS⟩)
  first
    | exact wpAny_pure ⟨plainId_quiet ud_plain _, key⟩
    | exact wpAny_bind (wpAny_pure (wpAny_pure ⟨plainId_quiet ud_plain _, key⟩))
end
end Kd

-- ===== KS16 =====
set_option Elab.async false
set_option linter.all false
set_option maxRecDepth 100000
set_option maxHeartbeats 4000000
namespace Kd
open PySem L2 PyProof.Rows PySem.Spec PySem.W
/-! ### for v in d.values(), the keys being tuples -/
section
variable {X : Cx} {pins : List (Addr × Obj)} {σ : L2.St} {H : Hp} {s : Shared} {d : Addr} {o : Obj}
theorem frz_vals {kvs : List (List Key × V)} (I : Inv X pins σ H s) (h : H d = some (.frz o (.dT kvs))) :
    s.heap.get? d = some o ∧ o.ExactDict ∧ ∃ (es : Array DictEntry) (ep : Nat), o.data = .dict es ep ∧ es.size = kvs.length ∧ ∀ (i : Nat) (k : List Key) (v : V), kvs[i]? = some (k, v) → ∃ en : DictEntry, es[i]? = some en ∧ RelV v en.val := by
  obtain ⟨hd, z, hs, xs, pr, o', es, ep, ho, hx, hdt, he, _⟩ := I.hok d _ h
  rw [hd] at ho
  cases ho
  refine ⟨hd, hx, es, ep, hdt, ?_, fun i k v e => ?_⟩
  · have l1 : es.size = xs.length := size_of_entries he
    have l2 : kvs.length = xs.length := Paired.length pr
    omega
  · obtain ⟨b, hb, _, _, e3⟩ := paired_get pr e
    have q := entry_at he i
    rw [hb] at q
    exact ⟨_, q, e3⟩
end
/-- the values, in their order -/
def ItdT (d : Addr) (o : Obj) (kvs : List (List Key × V)) : It :=
  ⟨fun i H => H d = some (.frz o (.dT kvs)) ∧ i < kvs.length, fun i H x H' => H' = H ∧ ∃ k, kvs[i]? = some (k, x), fun i H => H d = some (.frz o (.dT kvs)) ∧ kvs.length = i⟩
theorem turn_valsT {P : Program} {w : World} {K : Frag} {tg : Expr} {d : Addr} {o : Obj} {es : Array DictEntry} {ep : Nat} {kvs : List (List Key × V)} (it : Addr) (ni : d ≠ it) (hod : o.data = .dict es ep) (hz : es.size = kvs.length) :
    Turn P w K tg (ItdT d o kvs) [it] it (fun i h => h.IsValIter it d i es.size ep) where
  mem := by simp
  obj := fun i h st b hb => by
    have e : b = it := by simpa using hb
    subst e
    obtain ⟨oi, e, _, dd⟩ := st
    exact ⟨oi, e, fun v z => by rw [dd] at z; cases z⟩
  keep := fun i h h' st k => st.at fun oi e => k it (by simp) oi e
  item := by
    intro X hP hw hK hc i pins s σ H E I hf st hg
    subst hP hw hK
    obtain ⟨hd, hi⟩ := hg
    obtain ⟨f0, f1, f2, f3, f4, f5⟩ := hf it (by simp)
    obtain ⟨hgd, hx, es', ep', hdt, hsz, ent⟩ := frz_vals I hd
    obtain ⟨rfl, rfl⟩ := dict_ep hod hdt
    obtain ⟨⟨k, v⟩, hkv⟩ : ∃ p, kvs[i]? = some p := ⟨kvs[i], List.getElem?_eq_getElem hi⟩
    obtain ⟨en, hen, rv⟩ := ent i k v hkv
    have W := Walks.rawValues (prog := X.prog) (w := X.w) (I.ok.hd hc) it d ni es' ep'
    refine W.item i s _ _ (by omega) ⟨st, o, hgd, hx, hdt⟩ fun u h' tk hu st' kk => ?_
    obtain ⟨lt, rfl⟩ := hu
    have eu : en = es'[i] := by
      rw [Array.getElem?_eq_getElem lt] at hen
      exact (Option.some.inj hen).symm
    subst eu
    have I1 : Inv X pins σ H { s with heap := h', toks := tk } := I.turned (fun b o hb e => kk b o (by simpa using hb) e) f0 f1 f3 f4 f5
    obtain ⟨oi, e, c, dd⟩ := id st'.1
    exact ⟨_, rfl, go_of (s := { s with heap := h', toks := tk }) e c dd (by decide) ⟨v, H, I1, rv, ⟨rfl, k, hkv⟩, st'.1, fun b hb => (hf b hb).1⟩⟩
  done := by
    intro X hP hw hK hc i pins s σ H E I hf st hg
    subst hP hw hK
    obtain ⟨hd, hi⟩ := hg
    obtain ⟨f0, f1, f2, f3, f4, f5⟩ := hf it (by simp)
    obtain ⟨hgd, hx, es', ep', hdt, hsz, ent⟩ := frz_vals I hd
    obtain ⟨rfl, rfl⟩ := dict_ep hod hdt
    have W := Walks.rawValues (prog := X.prog) (w := X.w) (I.ok.hd hc) it d ni es' ep'
    have e : i = es'.size := by omega
    subst e
    exact W.done s _ _ ⟨st, o, hgd, hx, hdt⟩ fun h' tk eb => ⟨rfl, I.turned (fun b o hb q => eb b o (by simpa using hb) q) f0 f1 f3 f4 f5⟩
  self := fun A i s Q E st h => wpAny_pyIter_valiter st h
/-- the dict is locked (tLock, or by the caller) -/
def iValsT (td : TE) : TI := fun σ H R => td σ H fun x H1 => ∃ d o kvs, x = .ref d ∧ H1 d = some (.frz o (.dT kvs)) ∧ R (ItdT d o kvs) H1
theorem walk_valsT {d : Addr} {o : Obj} {kvs : List (List Key × V)} : Walk (ItdT d o kvs) kvs.length (fun H => H d = some (.frz o (.dT kvs))) (fun i H x H' => H' = H ∧ ∃ k, kvs[i]? = some (k, x)) :=
  ⟨fun _ _ hi q => ⟨q, hi⟩, fun _ q => ⟨q, rfl⟩, fun _ _ _ _ _ _ y => y⟩
section
variable {X : Cx} {tg e : Expr} {td : TE} {apos cpos : Pos}
theorem pi_valuesT (he : PE X e td) (hbase : attributeBase e "values" X.env (eval e X.env) = eval e X.env := by rfl) (hline : (apos.endLine == cpos.line) = true := by rfl) : PI X tg (.Call (.Attribute e "values" apos) [] [] cpos) (iValsT td) := by
  refine ⟨fun pins s σ H R I h => ?_⟩
  refine wpAny_Call_method (T := "dict") (id := "dict.values") hbase rfl hline F.plainAttrs_dict F.slot_dict_values F.type_dict_values (thn (he.run pins s σ H _ I h) fun u s1 ⟨x, H1, I1, rx, d, o, kvs, ex, hd, q⟩ => ?_)
  subst ex
  obtain rfl : u = Value.ref d := rx
  have lo := (I1.frzT hd).1
  obtain ⟨hgd, hx, es, ep, hdt, hsz, ent⟩ := frz_vals I1 hd
  have raw : s1.heap.DictRaw d es ep := ⟨o, hgd, hx, hdt⟩
  have ty : s1.TypeIs (.ref d) "dict" := ⟨o, hgd, hx.1⟩
  refine ⟨ty, (fun b z => by cases z; exact ⟨o, hgd, hx.2.1⟩), ?_⟩
  have I2 : Inv X pins σ H1 { s1 with heap := s1.heap.push { cls := .type "dict_values", data := .fields #[.ref d] } } := I1.kept (t' := s1.toks) fun b ob z => Heap.get?_push_of_some _ z
  have lt : d < s1.heap.objs.size := Heap.lt_size hgd
  have fin : wpAny (model X.prog X.w) X.A (pyIter (.ref s1.heap.objs.size)) (PIE X pins σ tg R) X.xe { s1 with heap := s1.heap.push { cls := .type "dict_values", data := .fields #[.ref d] } } := by
    refine wpAny_pyIter_values_raw (d := d) ⟨_, Heap.get?_push_size _ rfl, rfl, rfl⟩ (raw.push _) (pi_one (tk := s1.toks) I2 _ (turn_valsT _ (Nat.ne_of_lt (by show d < (s1.heap.push _).objs.size; rw [Heap.size_push]; exact Nat.lt_succ_of_lt lt)) hdt hsz) ⟨_, Heap.get?_push_size _ rfl, rfl, rfl⟩ q)
  show wpAny _ _ (callWith cpos (.builtin "dict.values") [.ref d] [] []) _ X.xe s1
  exact method_meetsIn F.slot_dict_values F.entry_dict_values rfl (PySem.evalArgs_none ⟨rfl, ty, F.args_dict_values_1 _, _, meets_dict_values_raw d lo, ⟨es, ep, raw⟩, fin⟩)
end
end Kd

-- ===== KS17 =====
set_option Elab.async false
set_option linter.all false
set_option maxRecDepth 100000
set_option maxHeartbeats 4000000
namespace Kd
open PySem L2 PyProof.Rows PySem.Spec
/-! ### dicts whose keys are nested tuples, their values whole numbers -/
mutual
/-- v is the key k -/
inductive NkV (H : Hp) : V → NestedKey → Prop
  | num (i : Int) : NkV H (.int i) (.num i)
  | text (x : Str) : NkV H (.str x) (.text x)
  | tup {a : Addr} {vs : List V} {ks : List NestedKey} : H a = some (.tup vs) → NkVs H vs ks → NkV H (.ref a) (.tup ks)
inductive NkVs (H : Hp) : List V → List NestedKey → Prop
  | nil : NkVs H [] []
  | cons {v : V} {vs : List V} {k : NestedKey} {ks : List NestedKey} : NkV H v k → NkVs H vs ks → NkVs H (v :: vs) (k :: ks)
end
mutual
theorem NkV.to {H H' : Hp} (s : ∀ a xs, H a = some (.tup xs) → H' a = some (.tup xs)) : ∀ {v : V} {k : NestedKey}, NkV H v k → NkV H' v k
  | _, _, .num i => .num i
  | _, _, .text x => .text x
  | _, _, .tup h1 h2 => .tup (s _ _ h1) (NkVs.to s h2)
theorem NkVs.to {H H' : Hp} (s : ∀ a xs, H a = some (.tup xs) → H' a = some (.tup xs)) : ∀ {vs : List V} {ks : List NestedKey}, NkVs H vs ks → NkVs H' vs ks
  | _, _, .nil => .nil
  | _, _, .cons h1 h2 => .cons (NkV.to s h1) (NkVs.to s h2)
end
section
variable {X : Cx} {pins : List (Addr × Obj)} {σ : L2.St} {H : Hp} {s : Shared}
mutual
theorem nk_is (I : Inv X pins σ H s) : ∀ (k : NestedKey) {v : V} {u : Value}, NkV H v k → RelV v u → NestedIs s.heap k u
  | .none, _, _, h, _ => by cases h
  | .num i, _, _, h, r => by
    cases h
    obtain ⟨t, rfl⟩ := r
    exact .int i t
  | .text x, _, _, h, r => by
    cases h
    obtain ⟨t, rfl⟩ := r
    exact .text x t
  | .tup ks, _, _, h, r => by
    cases h with
    | tup h1 h2 =>
      cases r
      obtain ⟨_, its, rv, o, ho, hc, n, hd⟩ := (show ObjOk X.prog X.w H s.heap _ (.tup _) from I.hok _ _ h1)
      exact .tup ho hc hd (by simpa using nks_are I ks h2 rv)
theorem nks_are (I : Inv X pins σ H s) : ∀ (ks : List NestedKey) {vs : List V} {us : List Value}, NkVs H vs ks → Vals vs us → NestedAll s.heap ks us
  | [], _, _, h, r => by
    cases h
    cases r
    exact .nil
  | k :: ks, _, _, h, r => by
    cases h with
    | cons h1 h2 =>
      cases r with
      | cons r1 r2 => exact .cons (nk_is I k h1 r1) (nks_are I ks h2 r2)
end
end
/-- a key, where its tuple stands, its number -/
abbrev NRow := NestedKey × Addr × Int
def NRows (L : List NRow) (xs : List (NestedKey × Addr × Value)) : Prop := Paired (fun (p : NRow) x => p.1 = x.1 ∧ p.2.1 = x.2.1 ∧ ∃ t, x.2.2 = Value.int p.2.2 t) L xs
theorem paired_snoc {α β : Type} {R : α → β → Prop} {l : List α} {m : List β} {a : α} {b : β} (r : Paired R l m) (h : R a b) : Paired R (l ++ [a]) (m ++ [b]) := by
  induction r with
  | nil => exact .cons h .nil
  | cons x _ ih => exact .cons x ih
def NHeld (P : Program) (w : World) (a : Addr) (L : List NRow) (h : Heap) : Prop := ∃ (xs : List (NestedKey × Addr × Value)) (o : Obj) (es : Array DictEntry) (ep : Nat), h.get? a = some o ∧ o.ExactDict ∧ o.data = .dict es ep ∧ es.toList = xs.map (entryOfKey (nestedKind P w)) ∧ (xs.map (·.1)).Nodup ∧ NRows L xs ∧ (a == sysModules) = false ∧ L.length ≤ 1000
def NDict (P : Program) (w : World) (a : Addr) (L : List NRow) : HO := .ext (NHeld P w a L)
theorem ndict_ok {P : Program} {w : World} {H : Hp} {h : Heap} {a : Addr} {L : List NRow} (x : NHeld P w a L h) : ObjOk P w H h a (NDict P w a L) := by
  refine ⟨x, ?_, fun h1 h2 y k => ?_⟩
  · obtain ⟨_, o, _, _, ho, _⟩ := x
    exact ⟨o, ho⟩
  · obtain ⟨xs, o, es, ep, ho, r⟩ := y
    exact ⟨xs, o, es, ep, k o ho, r⟩
/-- the keys' tuples stand -/
def NKeys (H : Hp) (L : List NRow) : Prop := ∀ p ∈ L, NkV H (.ref p.2.1) p.1 ∧ p.1.depth ≤ 8
def valN (L : List NRow) (k : NestedKey) : Option Int := (L.find? fun p => decide (p.1 = k)).map (·.2.2)
theorem rows_at {L : List NRow} {xs : List (NestedKey × Addr × Value)} (r : NRows L xs) (k : NestedKey) : (∀ i, valN L k = some i → ∃ b t, atKey xs k = some (b, .int i t)) ∧ (valN L k = none → atKey xs k = none) := by
  unfold NRows at r
  induction r with
  | nil => exact ⟨fun i e => (nomatch (show (none : Option Int) = some i from e)), fun _ => rfl⟩
  | @cons p x ps xs h t ih =>
    obtain ⟨h1, h2, tk, h3⟩ := h
    unfold valN atKey at ih ⊢
    rw [List.find?_cons, List.find?_cons, ← h1]
    by_cases e : p.1 = k
    · rw [decide_eq_true e]
      refine ⟨fun i q => ?_, fun q => by cases q⟩
      have q2 : p.2.2 = i := Option.some.inj q
      exact ⟨x.2.1, tk, by rw [← q2, ← h3]; rfl⟩
    · rw [decide_eq_false e]
      exact ih
section
variable {X : Cx} {pins : List (Addr × Obj)} {σ : L2.St} {H : Hp} {s : Shared}
theorem ndict_rd {a : Addr} {L : List NRow} (I : Inv X pins σ H s) (ha : H a = some (NDict X.prog X.w a L)) (ks : NKeys H L) : ∃ xs, s.heap.DictOfH (nestedKind X.prog X.w) a xs ∧ NRows L xs ∧ (a == sysModules) = false ∧ L.length ≤ 1000 := by
  obtain ⟨xs, o, es, ep, ho, hx, hd, he, hn, r, lo, few⟩ := (show NHeld X.prog X.w a L s.heap from (I.hok a _ ha).1)
  refine ⟨xs, ⟨o, es, ep, ho, hx, hd, he, fun x hx => ?_, hn⟩, r, lo, few⟩
  have all : ∀ {L : List NRow} {xs : List (NestedKey × Addr × Value)}, NRows L xs → NKeys H L → ∀ x ∈ xs, NestedIs s.heap x.1 (.ref x.2.1) ∧ x.1.depth ≤ 8 := by
    intro L xs r
    unfold NRows at r
    induction r with
    | nil => exact fun _ x m => nomatch m
    | @cons p y ps ys h t ih =>
      intro k x m
      rcases List.mem_cons.mp m with rfl | m
      · obtain ⟨h1, h2, _⟩ := h
        rw [← h1, ← h2]
        have q := k p List.mem_cons_self
        exact ⟨nk_is I _ q.1 rfl, q.2⟩
      · exact ih (fun q mq => k q (List.mem_cons_of_mem _ mq)) x m
  exact all r ks x hx
end
/-- {}, to be such a dict -/
def tDNewN (P : Program) (w : World) : TE := fun _ H Q => ∀ p, H p = none → Q (.ref p) (upd H p (NDict P w p []))
/-- row not in d -/
def rNotN (P : Program) (w : World) : R2 := fun x y H Q => ∃ b a k L, x = .ref b ∧ y = .ref a ∧ NkV H (.ref b) k ∧ k.depth ≤ 8 ∧ H a = some (NDict P w a L) ∧ NKeys H L ∧ Q (.bl (!(valN L k).isSome)) H
/-- d[row] -/
def tGetN (P : Program) (w : World) (td ty : TE) : TE := fun σ H Q => td σ H fun x H1 => ty σ H1 fun y H2 => ∃ a b k L i, x = .ref a ∧ y = .ref b ∧ NkV H2 (.ref b) k ∧ k.depth ≤ 8 ∧ H2 a = some (NDict P w a L) ∧ NKeys H2 L ∧ valN L k = some i ∧ Q (.int i) H2
/-- d[row] = i, the row being new there -/
def sPutN (P : Program) (w : World) (td ty tv : TE) : TS := fun D σ H => tv σ H fun v H1 => td σ H1 fun x H2 => ty σ H2 fun y H3 => ∃ a b k L i, v = .int i ∧ x = .ref a ∧ y = .ref b ∧ NkV H3 (.ref b) k ∧ k.depth ≤ 8 ∧ H3 a = some (NDict P w a L) ∧ NKeys H3 L ∧ valN L k = none ∧ L.length < 1000 ∧
  D.nx σ (upd H3 a (NDict P w a (L ++ [(k, b, i)])))
/-- len(d) -/
def rLenN (P : Program) (w : World) : List V → Hp → VK → Prop := fun xs H Q => ∃ a L, xs = [.ref a] ∧ H a = some (NDict P w a L) ∧ NKeys H L ∧ Q (.int L.length) H
section
variable {X : Cx} {o i e value : Expr} {pos pos' : Pos} {td ty tv : TE}
theorem pe_dnewN : PE X (.Dict [] [] pos) (tDNewN X.prog X.w) := ⟨fun pins s σ H Q I h =>
  wpAny_Dict_empty ⟨.ref s.heap.objs.size, _, I.laid (a := s.heap.objs.size) (t' := s.toks) (fun _ _ q => Heap.get?_push_of_some _ q) (Nat.le_refl _)
    (ndict_ok ⟨[], _, #[], 0, Heap.get?_push_size _ rfl, ⟨rfl, rfl, rfl⟩, rfl, rfl, List.nodup_nil, .nil, beq_eq_false_iff_ne.mpr (Ne.symm (Nat.ne_of_lt I.big)), Nat.zero_le _⟩), rfl, h _ (I.hok.fresh (Nat.le_refl _))⟩⟩
theorem op_notN (hu : X.A.units + 64 < cLine) : OpR X (compareOp .NotIn) (rNotN X.prog X.w) := by
  intro pins s σ H x y v u Q I rx ry h
  obtain ⟨b, a, k, L, rfl, rfl, hk, hd, ha, ks, q⟩ := h
  cases (show v = Value.ref b from rx)
  cases (show u = Value.ref a from ry)
  obtain ⟨xs, D, r, lo, few⟩ := ndict_rd I ha ks
  have room : (nestedKind X.prog X.w).room X.A.in1 := (show X.A.in1.units + 8 < cLine by simp only [Around.in1]; omega)
  refine wpAny_notIn_heap room ⟨nk_is I k hk rfl, hd⟩ lo D ⟨.bl (!(valN L k).isSome), H, I.tok _, ?_, q⟩
  have z := rows_at r k
  cases e : valN L k with
  | none => rw [z.2 e]; rfl
  | some i =>
    obtain ⟨c, t, q⟩ := z.1 i e
    rw [q]
    rfl
theorem pe_getN (hu : X.A.units + 64 < cLine) (ho : PE X o td) (hi : PE X i ty) (hs : NoSl i) : PE X (.Subscript o i pos) (tGetN X.prog X.w td ty) := by
  refine ⟨fun pins s σ H Q I h => ?_⟩
  refine subD_of PySem.F.slot_dict_getitem.lookup hs (thn (ho.run pins s σ H _ I h) fun u s1 ⟨x, H1, I1, rx, q1⟩ => thn (hi.run pins s1 σ H1 _ I1 q1) fun iv s2 ⟨y, H2, I2, ry, a, b, k, L, j, ex, ey, hk, hd, ha, ks, hv, q2⟩ => ?_)
  subst ex ey
  obtain rfl : u = Value.ref a := rx
  obtain rfl : iv = Value.ref b := ry
  obtain ⟨xs, D, r, lo, few⟩ := ndict_rd I2 ha ks
  obtain ⟨c, t, q⟩ := (rows_at r k).1 j hv
  have room : (nestedKind X.prog X.w).room X.A.in1 := (show X.A.in1.units + 8 < cLine by simp only [Around.in1]; omega)
  exact ⟨D.typeIs, wpAny_getItem_heap room ⟨nk_is I2 k hk rfl, hd⟩ D q ⟨.int j, H2, I2.tok _, ⟨t, rfl⟩, q2⟩⟩
theorem ps_putN (hu : X.A.units + 64 < cLine) (ho : PE X o td) (hi : PE X i ty) (hv : PE X value tv) (hs : swapsWith value (some (.Subscript o i pos')) pos.line X.env = pure false) :
    PS X (.Assign [.Subscript o i pos'] value pos) (sPutN X.prog X.w td ty tv) := by
  refine ⟨fun pins s σ H D I h => ?_⟩
  refine wpAny_Assign_Subscript (thn (hv.run pins s σ H _ I h) fun r s1 ⟨v, H1, I1, rv, q1⟩ => thn (ho.run pins s1 σ H1 _ I1 q1) fun u s2 ⟨x, H2, I2, rx, q2⟩ => thn (hi.run pins s2 σ H2 _ I2 q2) fun iv s3 ⟨y, H3, I3, ry, a, b, k, L, j, ev, ex, ey, hk, hd, ha, ks, hn, few, q3⟩ => ?_) hs
  subst ex ey ev
  obtain rfl : u = Value.ref a := rx
  obtain rfl : iv = Value.ref b := ry
  obtain ⟨t, rfl⟩ := (show ∃ t, r = Value.int j t from rv)
  obtain ⟨xs, Dd, rr, lo, _⟩ := ndict_rd I3 ha ks
  have lx : L.length = xs.length := Paired.length rr
  have big := sizeLine_eq
  have room : (nestedKind X.prog X.w).room X.A.in1 := (show X.A.in1.units + 8 < cLine by simp only [Around.in1]; omega)
  refine wpAny_setItem_heap (hsz := by omega) room ⟨nk_is I3 k hk rfl, hd⟩ Dd fun h' D2 sb => ?_
  rw [storedH_new ((rows_at rr k).2 hn)] at D2
  obtain ⟨o2, es, ep, g1, g2, g3, g4, _, g5⟩ := D2
  refine ⟨σ, _, d_write I3 (by rw [ha]; exact True.intro) sb ⟨o2, g1⟩ (ndict_ok ⟨xs ++ [(k, b, .int j t)], o2, es, ep, g1, g2, g3, g4, g5, ?_, lo, by rw [List.length_append]; exact few⟩), q3⟩
  exact paired_snoc rr ⟨rfl, rfl, t, rfl⟩
theorem call_lenN : CallR X (.builtin "len") (rLenN X.prog X.w) := by
  intro pins s σ H vs us Q I r h
  obtain ⟨a, L, rfl, ha, ks, q⟩ := h
  rw [Vals.ref1 r]
  obtain ⟨xs, D, rr, lo, few⟩ := ndict_rd I ha ks
  have lx : L.length = xs.length := Paired.length rr
  refine call_len_dictH lo D (by omega) ?_
  rw [← lx]
  exact ⟨.int ((L.length : Nat) : Int), H, I.tok _, ⟨_, rfl⟩, q⟩
end
end Kd

-- ===== KS18 =====
set_option Elab.async false
set_option linter.all false
set_option maxRecDepth 100000
set_option maxHeartbeats 3200000
namespace Kd
open PySem PySem.Spec PyProof.Rows L2
/-! ### set(xs), xs a list or a tuple of whole numbers -/
section
variable {P : Program} {w : World} {A : Around} {E : Value → Shared → Prop} {s : Shared}
def IntsMade (w : World) (s : Shared) (ns : List Int) (s2 : Shared) : Prop :=
  ∃ h' tk c, s2 = { s with heap := h', toks := tk } ∧ L2.SetR w h' s.heap.objs.size (fun j => decide (j ∈ ns)) c ∧ c ≤ ns.length ∧ ∀ b o, s.heap.get? b = some o → h'.get? b = some o
theorem call_set_ints {l : Addr} {its : Array Value} (ns : List Int) {Q : Value → Shared → Prop} (calm : A.handled = none) (il : s.heap.IsList l its) (ev : IntsAre its.toList ns)
    (less : ns.length + 1 < scanBound) (q : ∀ s2, IntsMade w s ns s2 → Q (.ref s.heap.objs.size) s2) : wpAny (model P w) A (call (.type "set") [.ref l]) Q E s := by
  have isz : its.size = ns.length := by rw [← Array.length_toList]; exact IntsAre.length ev
  obtain ⟨c, tl, mro⟩ := F.called_set.mro
  have made := F.called_set.made
  have sub := F.called_set.sub
  refine wpAny_call (codeAny_of_tree ?_)
  show wpAny _ _ (callAny (.type "set") _) _ _ _
  refine wpAny_pure ⟨Code.quiet_builtin _ (by decide +kernel), codeAny_builtin F.entry_type_call ?_⟩
  rw [Around.under_plain (weight_type_call_type "set" [.ref l] []) rfl]
  have z1 := F.called_set.notType
  have z2 := F.called_set.canCreate
  have z3 := F.typeCall_set_1 (.ref l)
  repeat (any_goals (first | assumption | wp_step))
  refine codeAny_mono (code_set_led1 (.ref l) (E := E) (Q₁ := fun v s1 => v = .ref s.heap.objs.size ∧ s1 = { s with heap := s.heap.push (newO w) }) ⟨rfl, rfl⟩) fun r s1 hr => ?_
  rcases r with e | fl
  · exact hr
  cases fl with
  | ret obj =>
    obtain ⟨rfl, rfl⟩ := hr
    have at0 : (s.heap.push (newO w)).get? s.heap.objs.size = some (newO w) := Heap.get?_push_size _ rfl
    have T0 : Shared.TypeIs { s with heap := s.heap.push (newO w) } (.ref s.heap.objs.size) "set" := ⟨_, at0, rfl⟩
    have li := F.called_set.init.lookup
    have bi := F.called_set.init.bind (.ref s.heap.objs.size)
    repeat (any_goals (first | assumption | wp_step))
    refine codeAny_mono (codeAny_call_builtin (R := wants (fun r s2 => r = .none ∧ IntsMade w s ns s2) E) F.called_set.init.plain F.entry_set_init (check_set_init_1 T0 ?_)) fun r s2 hr => ?_
    · obtain ⟨⟨oc, od, ob, os⟩, ol, oc', on, ob'⟩ := il
      simp only at oc' ob'
      subst oc'
      subst ob'
      have ol2 := Heap.get?_push_of_some (newO w) ol
      have y1 := F.sub_list_set
      have y2 := F.sub_list_frozenset
      have y3 : (Value.type "list" == Value.type "dict") = false := by decide
      have il2 : (s.heap.push (newO w)).IsList l its := ⟨_, ol2, rfl, on, rfl⟩
      unfold Builtin.«set.__init__» noKeywords Builtin.Frozenset.updateFrom
      generalize hPI : pyIter = PI
      wp_walk
      subst hPI
      refine wpAny_pyIter_list il2 (wpAny_bind (wpAny_runValue ?_))
      have lS : l < s.heap.objs.size := Heap.lt_size ol
      have calm3 : A.in1.in1.in1.handled = none := by simp [calm]
      have szp : (s.heap.push (newO w)).objs.size = s.heap.objs.size + 1 := Heap.size_push ..
      have lI : l ≠ (s.heap.push (newO w)).objs.size := by
        rw [szp]
        exact Nat.ne_of_lt (Nat.lt_succ_of_lt lS)
      refine L2.set_update_ints ((Walks.list calm3 _ l lI its).toS) s.heap.objs.size (fun m => ?_) ns isz less (fun i v e => ?_) (its.size - 0) 0 _ rfl (Nat.zero_le _)
        ⟨⟨_, Heap.get?_push_size _ rfl, rfl, rfl⟩, il2.push _⟩ ⟨0, Nat.le_refl 0, L2.setR_new_at (Heap.get?_push_of_some _ at0)⟩ fun s' c' mv le Z => ?_
      · rcases List.mem_cons.mp m with e | m
        · rw [szp] at e
          exact absurd e (Nat.ne_of_lt (Nat.lt_succ_self _))
        · have e := List.mem_singleton.mp m
          rw [← e] at lS
          exact absurd lS (Nat.lt_irrefl _)
      · have lt : i < ns.length := by rw [← isz]; exact (Array.getElem?_eq_some_iff.mp e).1
        obtain ⟨t, e2⟩ := IntsAre.int_at ev i v (by rw [Array.getElem?_toList]; exact e)
        exact ⟨ns[i], t, List.getElem?_eq_getElem lt, by rw [e2, List.getD_eq_getElem?_getD, List.getElem?_eq_getElem lt]; rfl⟩
      · obtain ⟨h', g', d', tk, os'⟩ := s'
        obtain rfl : g' = s.gens := mv.gens
        obtain rfl : d' = s.drawn := mv.drawn
        obtain rfl : os' = s.os := mv.os
        show wpAny _ _ _ _ _ _
        refine wpAny_pure ?_
        show wpAny _ _ (ret Value.none) _ _ _
        rw [isz] at le
        refine wpAny_pure ⟨rfl, h', tk, c', rfl, Z, le, fun b o e => ?_⟩
        have lb : b < s.heap.objs.size := Heap.lt_size e
        refine mv.heap b o (fun m => ?_) (Heap.get?_push_of_some _ (Heap.get?_push_of_some _ e))
        rcases List.mem_cons.mp m with z | m
        · exact absurd z (Nat.ne_of_lt lb)
        · have z := List.mem_singleton.mp m
          have y : b = s.heap.objs.size + 1 := z.trans szp
          rw [y] at lb
          exact absurd lb (Nat.not_lt.mpr (Nat.le_succ _))
    · rcases r with e | fl
      · exact hr
      cases fl with
      | ret r =>
        obtain ⟨rfl, mk⟩ := hr
        repeat (any_goals (first | assumption | wp_step))
        exact q _ mk
      | _ => exact hr.elim
  | _ => exact hr.elim
end
section

variable {X : Cx}
/-- set(xs), xs whole numbers -/
def rSetZ (K : PySem.W.Frag) (w : World) : List V → Hp → VK → Prop := fun vs H Q => ∃ (l : Addr) (ns : List Int), vs = [V.ref l] ∧ (SqL K H l (ns.map V.int) ∨ SqT K H l (ns.map V.int)) ∧ ns.length < 64 ∧
  ∀ a c, H a = none → c ≤ ns.length → Q (.ref a) (upd H a (L2.SetO w a (fun j => decide (j ∈ ns)) c))
theorem cr_setZ (hc : X.calm = true) : CallR X (.type "set") (rSetZ X.K X.w) := by
  intro pins s σ H vs us Q I r h
  obtain ⟨l, ns, rfl, hl, hf, q⟩ := h
  rw [Vals.ref1 r]
  have small : ns.length + 1 < scanBound := by unfold scanBound; omega
  have fin : ∀ s2, IntsMade X.w s ns s2 → EP X pins σ Q (.ref s.heap.objs.size) s2 := fun s2 mk => by
    obtain ⟨h', tk, c, rfl, Z, le, kp⟩ := mk
    exact ⟨.ref s.heap.objs.size, _, I.laid (t' := tk) kp (Nat.le_refl _) (setO_new Z), rfl, q _ c (I.hok.fresh (Nat.le_refl _)) le⟩
  rcases hl with hl | hl
  · obtain ⟨its, rv, il, _⟩ := I.list hl
    exact call_set_ints ns (I.ok.hd hc) il.isList (by simpa using ints_of_vals rv) small fin
  · obtain ⟨its, rv, il, _⟩ := I.tuple hl
    refine call_set_tupI ns (I.ok.hd hc) (show s.heap.IsTuple l its.toArray from il) (by simpa using ints_of_vals rv) small fun h' tk c Z le kp => fin _ ⟨h', tk, c, rfl, Z, le, kp⟩
end
end Kd

-- ===== KX5 =====
set_option Elab.async false
set_option linter.all false
set_option maxRecDepth 100000
set_option maxHeartbeats 4000000
namespace Kd
open PySem PySem.Spec PyProof.Rows L2
/-! ### zip of a tuple and a list -/
structure Src (P : Program) (w : World) (j c : Addr) (us : Array Value) (St : Nat → Heap → Prop) : Prop where
  stay : ∀ {k : Nat} {h h' : Heap}, St k h → (∀ b o, b = j ∨ b = c → h.get? b = some o → h'.get? b = some o) → St k h'
  item : ∀ {A : Around} {E : Value → Shared → Prop} {s : Shared} {k : Nat} {u : Value} {Q : Value → Shared → Prop}, St k s.heap → us[k]? = some u → (∀ h', St (k + 1) h' → Heap.SameBut j s.heap h' → Q u { s with heap := h' }) → wpAny (model P w) A (Builtin.SmallTypes.nextOf (.ref j)) Q E s
  stop : ∀ {A : Around} {E : Value → Shared → Prop} {s : Shared} {k : Nat} {Q : Value → Shared → Prop}, A.handled = none → St k s.heap → us[k]? = none → (∀ h' e, Heap.ExtBut j s.heap h' → (∃ o, h'.get? e = some o ∧ o.cls = .type "StopIteration") → E (.ref e) { s with heap := h' }) → wpAny (model P w) A (Builtin.SmallTypes.nextOf (.ref j)) Q E s
theorem srcT {P : Program} {w : World} {j c : Addr} {us : Array Value} (ne : c ≠ j) : Src P w j c us fun k h => h.IsTupleIter j c k ∧ h.IsTuple c us where
  stay := fun ⟨x, y⟩ g => ⟨x.at fun o e => g j o (.inl rfl) e, let ⟨o, e, r⟩ := y; ⟨o, g c o (.inr rfl) e, r⟩⟩
  item := fun ⟨x, y⟩ e q => RZ.nextOf_tuple_item x y e fun h' x' sb => q h' ⟨x', y.extBut sb.extBut ne⟩ sb
  stop := fun hh ⟨x, y⟩ e q => RZ.nextOf_tuple_end hh x y e q
theorem srcL {P : Program} {w : World} {j c : Addr} {us : Array Value} (ne : c ≠ j) : Src P w j c us fun k h => h.IsListIter j c k ∧ h.IsList c us where
  stay := fun ⟨x, y⟩ g => ⟨x.at fun o e => g j o (.inl rfl) e, let ⟨o, e, r⟩ := y; ⟨o, g c o (.inr rfl) e, r⟩⟩
  item := fun ⟨x, y⟩ e q => wpAny_nextOf_list_item x y e fun h' x' sb => q h' ⟨x', y.extBut sb.extBut ne⟩ sb
  stop := fun hh ⟨x, y⟩ e q => wpAny_nextOf_list_end hh x y e q
section
variable {P : Program} {w : World} {A : Around} {E : Value → Shared → Prop} {s : Shared} {j0 jp jr j1 j2 c1 c2 : Addr} {us vs : Array Value} {S1 S2 : Nat → Heap → Prop}
/-- the zip's next pair, whatever its two sources are -/
theorem zs_item (Z : ZipApart j0 jp jr j1 j2 c1 c2) (X1 : Src P w j1 c1 us S1) (X2 : Src P w j2 c2 vs S2) {k1 k2 : Nat} {u v a b : Value} {Q : Value → Shared → Prop}
    (gz : IsZip s.heap j0 jp jr .none) (gp : IsPair s.heap jp (.ref j1) (.ref j2)) (gr : IsPair s.heap jr a b) (g1 : S1 k1 s.heap) (g2 : S2 k2 s.heap) (e1 : us[k1]? = some u) (e2 : vs[k2]? = some v)
    (q : ∀ h', IsZip h' j0 jp jr (rawInt s.heap.objs.size) → IsPair h' jr u v → S1 (k1 + 1) h' → S2 (k2 + 1) h' → IsPair h' s.heap.objs.size u v → h'.objs.size = s.heap.objs.size + 1 →
      (∀ c o, c ≠ j0 → c ≠ jr → c ≠ j1 → c ≠ j2 → s.heap.get? c = some o → h'.get? c = some o) → Q (.ref s.heap.objs.size) { s with heap := h' }) :
    wpAny (model P w) A (Builtin.«zip.__next__» ⟨[.ref j0], []⟩) (fun fin s' => ∃ v, fin = .done (.ret v) ∧ Q v s') E s := by
  show wpAny _ _ (field (.ref j0) 2 >>= _) _ _ _
  refine wpAny_bind (wpAny_field gz rfl (x := .bool false) rfl ?_)
  show wpAny _ _ (field (.ref j0) 3 >>= _) _ _ _
  refine wpAny_bind (wpAny_field gz rfl (x := .ref jp) rfl ?_)
  refine wpAny_bind (wpAny_seqItems gp rfl ?_)
  show wpAny _ _ (Builtin.SmallTypes.ownedTupleIsFree (.ref j0) >>= _) _ _ _
  refine wpAny_bind ?_
  unfold Builtin.SmallTypes.ownedTupleIsFree
  refine wpAny_bind (wpAny_field gz rfl (x := .none) rfl (wpAny_pure ?_))
  simp only [if_true]
  refine wpAny_bind (wpAny_rule ?_)
  refine wpAny_bind (wpAny_field gz rfl (x := .ref jr) rfl ?_)
  refine wpAny_bind (wpAny_setField_rec gz (by simp) fun ha za sa => ?_)
  replace za : IsZip ha j0 jp jr .ellipsis := za
  refine wpAny_bind ?_
  simp only [List.zipIdx_cons, List.zipIdx_nil, List.forIn_cons, List.forIn_nil]
  have n1 : ∀ b, b = j1 ∨ b = c1 → b ≠ j0 := fun b m => m.elim (fun e => e ▸ Z.i1z) fun e => e ▸ Z.l1z
  have n2 : ∀ b, b = j2 ∨ b = c2 → b ≠ j0 ∧ b ≠ j1 ∧ b ≠ jr := fun b m => m.elim (fun e => e ▸ ⟨Z.i2z, Z.i12.symm, Z.TOi2.symm⟩) fun e => e ▸ ⟨Z.l2z, Z.l2i1, Z.l2TO⟩
  refine wpAny_bind (wpAny_bind (wpAny_onRaise ?_))
  show wpAny _ _ (Builtin.SmallTypes.nextOf (.ref j1) >>= _) _ _ _
  refine wpAny_bind (X1.item (X1.stay g1 fun b o m e => sa.extBut b o (n1 b m) e) e1 fun hb x1 sb => wpAny_pure ?_)
  have rb : IsPair hb jr a b := sb.extBut _ _ Z.TOi1 (sa.extBut _ _ Z.TOz gr)
  refine wpAny_bind (wpAny_seqItems rb rfl ?_)
  refine wpAny_bind (wpAny_updateSeq_pair rb fun hc rc sc => ?_)
  replace rc : IsPair hc jr u b := rc
  refine wpAny_bind (wpAny_letGo (wpAny_pure ?_))
  refine wpAny_bind (wpAny_bind (wpAny_onRaise ?_))
  show wpAny _ _ (Builtin.SmallTypes.nextOf (.ref j2) >>= _) _ _ _
  refine wpAny_bind (X2.item (X2.stay g2 fun b o m e => sc.extBut b o (n2 b m).2.2 (sb.extBut b o (n2 b m).2.1 (sa.extBut b o (n2 b m).1 e))) e2 fun hd x2 sd => wpAny_pure ?_)
  have rd : IsPair hd jr u b := sd.extBut _ _ Z.TOi2 rc
  refine wpAny_bind (wpAny_seqItems rd rfl ?_)
  refine wpAny_bind (wpAny_updateSeq_pair rd fun he re se => ?_)
  replace re : IsPair he jr u v := re
  refine wpAny_bind (wpAny_letGo (wpAny_pure (wpAny_pure ?_)))
  refine wpAny_bind (wpAny_seqItems re rfl ?_)
  refine wpAny_bind (wpAny_newTuple ?_)
  have top : he.objs.size = s.heap.objs.size := by rw [se.1, sd.1, sc.1, sb.1, sa.1]
  have ze : IsZip he j0 jp jr .ellipsis := se.extBut _ _ Z.TOz.symm (sd.extBut _ _ Z.i2z.symm (sc.extBut _ _ Z.TOz.symm (sb.extBut _ _ Z.i1z.symm za)))
  have ke : ∀ c o, c ≠ j0 → c ≠ jr → c ≠ j1 → c ≠ j2 → s.heap.get? c = some o → he.get? c = some o := fun c o m1 m2 m3 m4 e =>
    se.extBut _ _ m2 (sd.extBut _ _ m4 (sc.extBut _ _ m2 (sb.extBut _ _ m3 (sa.extBut _ _ m1 e))))
  have n1' : ∀ b, b = j1 ∨ b = c1 → b ≠ j0 ∧ b ≠ jr ∧ b ≠ j2 := fun b m => m.elim (fun e => e ▸ ⟨Z.i1z, Z.TOi1.symm, Z.i12⟩) fun e => e ▸ ⟨Z.l1z, Z.l1TO, Z.l1i2⟩
  have x1e : S1 (k1 + 1) he := X1.stay x1 fun b o m e => se.extBut b o (n1' b m).2.1 (sd.extBut b o (n1' b m).2.2 (sc.extBut b o (n1' b m).2.1 e))
  have x2e : S2 (k2 + 1) he := X2.stay x2 fun b o m e => se.extBut b o (n2 b m).2.2 e
  have lz : j0 < he.objs.size := Heap.lt_size ze
  show wpAny _ _ (Builtin.SmallTypes.ownedTupleHandOut (.ref j0) (.ref he.objs.size) >>= _) _ _ _
  refine wpAny_bind ?_
  unfold Builtin.SmallTypes.ownedTupleHandOut
  have zf : IsZip (he.push { cls := .type "tuple", data := .seq #[u, v] }) j0 jp jr .ellipsis := Heap.get?_push_of_some _ ze
  refine wpAny_bind (wpAny_setField_rec zf (by simp) fun hg zg sg => ?_)
  replace zg : IsZip hg j0 jp jr (rawInt he.objs.size) := zg
  refine wpAny_setField_rec zg (by simp) fun hi zi si => ?_
  replace zi : IsZip hi j0 jp jr (rawInt he.objs.size) := zi
  have up : ∀ c o, c ≠ j0 → he.get? c = some o → hi.get? c = some o := fun c o m e => si.extBut _ _ m (sg.extBut _ _ m (Heap.get?_push_of_some _ e))
  have pi_ : IsPair hi he.objs.size u v := si.extBut _ _ (Nat.ne_of_gt lz) (sg.extBut _ _ (Nat.ne_of_gt lz) (Heap.get?_push_size _ rfl))
  have ti : hi.objs.size = he.objs.size + 1 := by rw [si.1, sg.1, Heap.size_push]
  rw [top] at zi pi_ ti
  refine wpAny_pure ⟨_, rfl, ?_⟩
  show Q (.ref he.objs.size) _
  rw [top]
  exact q hi zi (up _ _ Z.TOz re) (X1.stay x1e fun b o m e => up b o (n1 b m) e) (X2.stay x2e fun b o m e => up b o (n2 b m).1 e) pi_ ti fun c o m1 m2 m3 m4 e => up c o m1 (ke c o m1 m2 m3 m4 e)
theorem zs_stop (hh : A.handled = none) (Z : ZipApart j0 jp jr j1 j2 c1 c2) (X1 : Src P w j1 c1 us S1) (X2 : Src P w j2 c2 vs S2) {k1 k2 : Nat} {a b : Value} {Q : Fin → Shared → Prop}
    (gz : IsZip s.heap j0 jp jr .none) (gp : IsPair s.heap jp (.ref j1) (.ref j2)) (gr : IsPair s.heap jr a b) (g1 : S1 k1 s.heap) (g2 : S2 k2 s.heap) (e12 : us[k1]? = none ∨ vs[k2]? = none)
    (q : ∀ h' e, (∀ c o, c ≠ j0 → c ≠ jr → c ≠ j1 → c ≠ j2 → s.heap.get? c = some o → h'.get? c = some o) → (∃ o, h'.get? e = some o ∧ o.cls = .type "StopIteration") → E (.ref e) { s with heap := h' }) :
    wpAny (model P w) A (Builtin.«zip.__next__» ⟨[.ref j0], []⟩) Q E s := by
  show wpAny _ _ (field (.ref j0) 2 >>= _) _ _ _
  refine wpAny_bind (wpAny_field gz rfl (x := .bool false) rfl ?_)
  show wpAny _ _ (field (.ref j0) 3 >>= _) _ _ _
  refine wpAny_bind (wpAny_field gz rfl (x := .ref jp) rfl ?_)
  refine wpAny_bind (wpAny_seqItems gp rfl ?_)
  show wpAny _ _ (Builtin.SmallTypes.ownedTupleIsFree (.ref j0) >>= _) _ _ _
  refine wpAny_bind ?_
  unfold Builtin.SmallTypes.ownedTupleIsFree
  refine wpAny_bind (wpAny_field gz rfl (x := .none) rfl (wpAny_pure ?_))
  simp only [if_true]
  refine wpAny_bind (wpAny_rule ?_)
  refine wpAny_bind (wpAny_field gz rfl (x := .ref jr) rfl ?_)
  refine wpAny_bind (wpAny_setField_rec gz (by simp) fun ha za sa => ?_)
  replace za : IsZip ha j0 jp jr .ellipsis := za
  refine wpAny_bind ?_
  simp only [List.zipIdx_cons, List.zipIdx_nil, List.forIn_cons, List.forIn_nil]
  have n1 : ∀ b, b = j1 ∨ b = c1 → b ≠ j0 := fun b m => m.elim (fun e => e ▸ Z.i1z) fun e => e ▸ Z.l1z
  have n2 : ∀ b, b = j2 ∨ b = c2 → b ≠ j0 ∧ b ≠ j1 ∧ b ≠ jr := fun b m => m.elim (fun e => e ▸ ⟨Z.i2z, Z.i12.symm, Z.TOi2.symm⟩) fun e => e ▸ ⟨Z.l2z, Z.l2i1, Z.l2TO⟩
  have g1a := X1.stay g1 fun b o m e => sa.extBut b o (n1 b m) e
  refine wpAny_bind (wpAny_bind (wpAny_onRaise ?_))
  show wpAny _ _ (Builtin.SmallTypes.nextOf (.ref j1) >>= _) _ _ _
  cases e1 : us[k1]? with
  | none =>
    refine wpAny_bind (X1.stop hh g1a e1 fun hb e xb ⟨oe, ge, ce⟩ => ?_)
    have zb : IsZip hb j0 jp jr .ellipsis := xb _ _ Z.i1z.symm za
    have en : e ≠ j0 := fun x => by subst x; rw [zb] at ge; cases ge; simp at ce
    exact wpAny_setField_rec zb (by simp) fun hc _ sc => q hc e (fun c o m1 _ m3 _ x => sc.extBut _ _ m1 (xb _ _ m3 (sa.extBut _ _ m1 x))) ⟨oe, sc.extBut _ _ en ge, ce⟩
  | some u =>
    have e2 : vs[k2]? = none := e12.resolve_left fun z => by rw [e1] at z; cases z
    refine wpAny_bind (X1.item g1a e1 fun hb x1 sb => wpAny_pure ?_)
    have rb : IsPair hb jr a b := sb.extBut _ _ Z.TOi1 (sa.extBut _ _ Z.TOz gr)
    refine wpAny_bind (wpAny_seqItems rb rfl ?_)
    refine wpAny_bind (wpAny_updateSeq_pair rb fun hc rc sc => ?_)
    refine wpAny_bind (wpAny_letGo (wpAny_pure ?_))
    refine wpAny_bind (wpAny_bind (wpAny_onRaise ?_))
    show wpAny _ _ (Builtin.SmallTypes.nextOf (.ref j2) >>= _) _ _ _
    refine wpAny_bind (X2.stop hh (X2.stay g2 fun b o m e => sc.extBut b o (n2 b m).2.2 (sb.extBut b o (n2 b m).2.1 (sa.extBut b o (n2 b m).1 e))) e2 fun hd e xd ⟨oe, ge, ce⟩ => ?_)
    have zd : IsZip hd j0 jp jr .ellipsis := xd _ _ Z.i2z.symm (sc.extBut _ _ Z.TOz.symm (sb.extBut _ _ Z.i1z.symm za))
    have en : e ≠ j0 := fun x => by subst x; rw [zd] at ge; cases ge; simp at ce
    exact wpAny_setField_rec zd (by simp) fun hf _ sf => q hf e (fun c o m1 m2 m3 m4 x => sf.extBut _ _ m1 (xd _ _ m4 (sc.extBut _ _ m2 (sb.extBut _ _ m3 (sa.extBut _ _ m1 x))))) ⟨oe, sf.extBut _ _ en ge, ce⟩
theorem zs_next (Z : ZipApart j0 jp jr j1 j2 c1 c2) (X1 : Src P w j1 c1 us S1) (X2 : Src P w j2 c2 vs S2) {k1 k2 : Nat} {u v a b : Value} {Q : Option Value → Shared → Prop}
    (gz : IsZip s.heap j0 jp jr .none) (gp : IsPair s.heap jp (.ref j1) (.ref j2)) (gr : IsPair s.heap jr a b) (g1 : S1 k1 s.heap) (g2 : S2 k2 s.heap) (e1 : us[k1]? = some u) (e2 : vs[k2]? = some v)
    (q : ∀ h', IsZip h' j0 jp jr (rawInt s.heap.objs.size) → IsPair h' jr u v → S1 (k1 + 1) h' → S2 (k2 + 1) h' → IsPair h' s.heap.objs.size u v → h'.objs.size = s.heap.objs.size + 1 →
      (∀ c o, c ≠ j0 → c ≠ jr → c ≠ j1 → c ≠ j2 → s.heap.get? c = some o → h'.get? c = some o) → Q (some (.ref s.heap.objs.size)) { s with heap := h' }) :
    wpAny (model P w) A (pyNext (.ref j0)) Q E s := by
  have ty : s.TypeIs (.ref j0) "zip" := ⟨_, gz, rfl⟩
  unfold pyNext
  exact wpAny_bind (wpAny_attempt (wpAny_callSpecial?_slot (name := Str.ofString "__next__") ty F.slot_zip_next (wpAny_call_entry F.slot_zip_next ty F.entry_zip_next
    (zs_item Z X1 X2 gz gp gr g1 g2 e1 e2 fun h' a1 a2 a3 a4 a5 a6 a7 => wpAny_pure (q h' a1 a2 a3 a4 a5 a6 a7)) (F.args_zip_next_1 _))))
theorem zs_over (hh : A.handled = none) (Z : ZipApart j0 jp jr j1 j2 c1 c2) (X1 : Src P w j1 c1 us S1) (X2 : Src P w j2 c2 vs S2) {k1 k2 : Nat} {a b : Value} {Q : Option Value → Shared → Prop}
    (gz : IsZip s.heap j0 jp jr .none) (gp : IsPair s.heap jp (.ref j1) (.ref j2)) (gr : IsPair s.heap jr a b) (g1 : S1 k1 s.heap) (g2 : S2 k2 s.heap) (e12 : us[k1]? = none ∨ vs[k2]? = none)
    (q : ∀ h', (∀ c o, c ≠ j0 → c ≠ jr → c ≠ j1 → c ≠ j2 → s.heap.get? c = some o → h'.get? c = some o) → Q none { s with heap := h' }) : wpAny (model P w) A (pyNext (.ref j0)) Q E s := by
  have ty : s.TypeIs (.ref j0) "zip" := ⟨_, gz, rfl⟩
  unfold pyNext
  refine wpAny_bind (wpAny_attempt (wpAny_callSpecial?_slot (name := Str.ofString "__next__") ty F.slot_zip_next (wpAny_call_entry F.slot_zip_next ty F.entry_zip_next
    (zs_stop (A := A.in1) hh Z X1 X2 gz gp gr g1 g2 e12 fun h' e kp st => ?_) (F.args_zip_next_1 _))))
  obtain ⟨o, ho, hc⟩ := st
  refine wpAny_bind (wpAny_isInstance (T := "StopIteration") (b := true) ⟨o, ho, hc⟩ isSubtype_stop ?_)
  exact wpAny_pure (q _ kp)
end
end Kd

-- ===== KX6 =====
set_option Elab.async false
set_option linter.all false
set_option maxRecDepth 100000
set_option maxHeartbeats 4000000
namespace Kd
open PySem PySem.Spec PyProof.Rows L2
abbrev zm1 (h : Heap) (c : Addr) : Heap := h.push { cls := .type "tuple_iterator", data := .fields #[.ref c, .int 0 0] }
abbrev zm2 (h : Heap) (c d : Addr) : Heap := (zm1 h c).push { cls := .type "list_iterator", data := .fields #[.ref d, .int 0 0] }
abbrev zm3 (h : Heap) (c d : Addr) : Heap := (zm2 h c d).push { cls := .type "tuple", data := .seq #[.ref h.objs.size, .ref (zm1 h c).objs.size] }
abbrev zm4 (h : Heap) (c d : Addr) : Heap := (zm3 h c d).push { cls := .type "tuple", data := .seq #[.none, .none] }
abbrev zm5 (h : Heap) (c d : Addr) : Heap := (zm4 h c d).push { cls := .type "zip", data := .fields #[.none, .bool false, .bool false, .ref (zm2 h c d).objs.size, .ref (zm3 h c d).objs.size] }
theorem zm_new (c d : Addr) (us vs : Array Value) :
    Meets (Builtin.«zip.__new__» ⟨[.type "zip", .ref c, .ref d], []⟩) (fun _ R s => s.heap.IsTuple c us ∧ s.heap.IsList d vs ∧ R (.ok (.ret (.ref (zm4 s.heap c d).objs.size))) { s with heap := zm5 s.heap c d }) :=
  .of_wp fun prog w A R s q => by
    obtain ⟨hp, g, dr, tk, os⟩ := s
    obtain ⟨g1, g2, q⟩ := q
    have zsub := sub_zip
    have t1 : Heap.IsTuple (Shared.heap ⟨hp, g, dr, tk, os⟩) c us := g1
    have t2 : Heap.IsList (Shared.heap ⟨hp.push { cls := .type "tuple_iterator", data := .fields #[.ref c, .int 0 0] }, g, dr, tk, os⟩) d vs := Heap.IsList.push g2 _
    wp_walk using wpAny_pyIter_tuple t1, wpAny_pyIter_list t2
    exact ⟨_, rfl, q⟩
theorem call_zm {prog : Program} {w : World} {A : Around} {E : Value → Shared → Prop} {s : Shared} {c d : Addr} {us vs : Array Value} {Q : Value → Shared → Prop} (g1 : s.heap.IsTuple c us) (g2 : s.heap.IsList d vs)
    (q : ∀ h', IsZip h' (s.heap.objs.size + 4) (s.heap.objs.size + 2) (s.heap.objs.size + 3) .none → IsPair h' (s.heap.objs.size + 2) (.ref s.heap.objs.size) (.ref (s.heap.objs.size + 1)) → IsPair h' (s.heap.objs.size + 3) .none .none →
      h'.IsTupleIter s.heap.objs.size c 0 → h'.IsListIter (s.heap.objs.size + 1) d 0 → (∀ b o, s.heap.get? b = some o → h'.get? b = some o) → Q (.ref (s.heap.objs.size + 4)) { s with heap := h' }) :
    wpAny (model prog w) A (call (.type "zip") [.ref c, .ref d]) Q E s := by
  refine callType_new F.called_zip (by decide) (F.typeCall_zip_2 _ _) (F.newCall_zip_2 _ _) (fun o => F.args_object_init_3 o _ _) F.entry_zip_new (zm_new c d us vs) ⟨g1, g2, ?_⟩
  have n1 : (zm1 s.heap c).objs.size = s.heap.objs.size + 1 := Heap.size_push ..
  have n2 : (zm2 s.heap c d).objs.size = s.heap.objs.size + 2 := by rw [Heap.size_push, n1]
  have n3 : (zm3 s.heap c d).objs.size = s.heap.objs.size + 3 := by rw [Heap.size_push, n2]
  have n4 : (zm4 s.heap c d).objs.size = s.heap.objs.size + 4 := by rw [Heap.size_push, n3]
  have o5 : (zm5 s.heap c d).get? (zm4 s.heap c d).objs.size = some _ := Heap.get?_push_size _ rfl
  have o4 : (zm5 s.heap c d).get? (zm3 s.heap c d).objs.size = some _ := Heap.get?_push_of_some _ (Heap.get?_push_size _ rfl)
  have o3 : (zm5 s.heap c d).get? (zm2 s.heap c d).objs.size = some _ := Heap.get?_push_of_some _ (Heap.get?_push_of_some _ (Heap.get?_push_size _ rfl))
  have o2 : (zm5 s.heap c d).get? (zm1 s.heap c).objs.size = some _ := Heap.get?_push_of_some _ (Heap.get?_push_of_some _ (Heap.get?_push_of_some _ (Heap.get?_push_size _ rfl)))
  have o1 : (zm5 s.heap c d).get? s.heap.objs.size = some _ := Heap.get?_push_of_some _ (Heap.get?_push_of_some _ (Heap.get?_push_of_some _ (Heap.get?_push_of_some _ (Heap.get?_push_size _ rfl))))
  have kp : ∀ b o, s.heap.get? b = some o → (zm5 s.heap c d).get? b = some o := fun b o x => Heap.get?_push_of_some _ (Heap.get?_push_of_some _ (Heap.get?_push_of_some _ (Heap.get?_push_of_some _ (Heap.get?_push_of_some _ x))))
  show _ ∧ _
  rw [n2, n3, n4] at o5
  rw [n1, n2] at o3
  rw [n3] at o4
  rw [n1] at o2
  rw [n4]
  exact ⟨⟨_, o5, rfl⟩, q _ o5 o3 o4 ⟨_, o1, rfl, rfl⟩ ⟨_, o2, rfl, rfl⟩ kp⟩
/-- the tuple at a and the list at b as they stand at each turn -/
def ItzM (K : PySem.W.Frag) (a b : Addr) : It :=
  ⟨fun i H => ∃ (xs ys : List V) (x y : V), SqT K H a xs ∧ SqL K H b ys ∧ xs[i]? = some x ∧ ys[i]? = some y,
    fun i H v H' => ∃ T x y, v = .ref T ∧ H T = none ∧ H' = upd H T (.tup [x, y]) ∧ (∀ xs, SqT K H a xs → xs[i]? = some x) ∧ ∀ ys, SqL K H b ys → ys[i]? = some y,
    fun i H => ∃ xs ys : List V, SqT K H a xs ∧ SqL K H b ys ∧ (xs.length ≤ i ∨ ys.length ≤ i)⟩
theorem five {j0 jp jr j1 j2 c : Addr} (m : c ∈ [j0, jp, jr, j1, j2]) : c = j0 ∨ c = jp ∨ c = jr ∨ c = j1 ∨ c = j2 := by simpa using m
theorem turn_zm {P : Program} {w : World} {K : PySem.W.Frag} {elts : List Expr} {kk : Nat} {tp : Pos} {a b j0 jp jr j1 j2 : Addr} (Z : ZipApart j0 jp jr j1 j2 a b) :
    Turn P w K (.Tuple elts kk tp) (ItzM K a b) [j0, jp, jr, j1, j2] j0 (fun i h => IsZip h j0 jp jr .none ∧ IsPair h jp (.ref j1) (.ref j2) ∧ (∃ x y, IsPair h jr x y) ∧ h.IsTupleIter j1 a i ∧ h.IsListIter j2 b i) where
  mem := by simp
  obj := fun i h ⟨gz, gp, ⟨x, y, gr⟩, ⟨o1, e1, _, d1⟩, ⟨o2, e2, _, d2⟩⟩ c m => by
    rcases five m with rfl | rfl | rfl | rfl | rfl
    · exact ⟨_, gz, fun _ q => nomatch q⟩
    · exact ⟨_, gp, fun _ q => nomatch q⟩
    · exact ⟨_, gr, fun _ q => nomatch q⟩
    · exact ⟨o1, e1, fun _ q => by rw [d1] at q; cases q⟩
    · exact ⟨o2, e2, fun _ q => by rw [d2] at q; cases q⟩
  keep := fun i h h' ⟨gz, gp, ⟨x, y, gr⟩, g1, g2⟩ k => ⟨k j0 (by simp) _ gz, k jp (by simp) _ gp, ⟨x, y, k jr (by simp) _ gr⟩, g1.at fun o q => k j1 (by simp) o q, g2.at fun o q => k j2 (by simp) o q⟩
  item := by
    intro X hP hw hK hc i pins s σ H E I hf ⟨gz, gp, ⟨x0, y0, gr⟩, g1, g2⟩ ⟨xs, ys, x, y, qx, qy, ex, ey⟩
    subst hP hw hK
    obtain ⟨its, rv, p1, _⟩ := I.tuple qx
    obtain ⟨its2, rv2, p2, _⟩ := I.list qy
    obtain ⟨u, hu, ru⟩ := rv.get ex
    obtain ⟨u2, hu2, ru2⟩ := rv2.get ey
    have lz : j0 < s.heap.objs.size := Heap.lt_size gz
    refine zs_next Z (srcT (us := its.toArray) Z.l1i1) (srcL (us := its2.toArray) Z.l2i2) gz gp gr ⟨g1, p1⟩ ⟨g2, p2.isList⟩ (by simpa using hu) (by simpa using hu2) fun h' z' r' s1' s2' hT hsz kp => ?_
    refine ⟨_, rfl, wpAny_letOwnedTupleGo_zip (s := { s with heap := h' }) z' fun h2 z2 sb => ?_⟩
    have hT2 : h2.get? s.heap.objs.size = some { cls := .type "tuple", data := .seq #[u, u2] } := (sb.2 _ (Nat.ne_of_gt lz)).trans hT
    have new : ObjOk X.prog X.w (upd H s.heap.objs.size (.tup [x, y])) h2 s.heap.objs.size (.tup [x, y]) := ⟨by show 2 ≤ sizeLine; decide, [u, u2], .cons ru (.cons ru2 .nil), ⟨_, hT2, rfl, _, rfl⟩⟩
    have J : Inv X pins σ (upd H s.heap.objs.size (.tup [x, y])) { s with heap := h2 } :=
      I.turnedNew (t' := s.toks) (ch := [j0, jp, jr, j1, j2]) (fun c o hb q => (sb.2 c fun e => hb (by simp [e])).trans (kp c o (fun e => hb (by simp [e])) (fun e => hb (by simp [e])) (fun e => hb (by simp [e])) (fun e => hb (by simp [e])) q)) hf (Nat.le_refl _) new
    refine ⟨.ref s.heap.objs.size, _, J, rfl, ⟨_, x, y, rfl, I.hok.fresh (Nat.le_refl _), rfl, fun l hl => by rw [I.tuple_inj hl qx]; exact ex, fun l hl => by rw [I.list_inj hl qy]; exact ey⟩, ⟨z2, ?_, ⟨u, u2, ?_⟩, ?_, ?_⟩, fun c m => ?_⟩
    · exact (sb.2 _ Z.TIz).trans (kp _ _ Z.TIz Z.TITO Z.TIi1 Z.TIi2 gp)
    · exact (sb.2 _ Z.TOz).trans r'
    · exact s1'.1.at fun o q => (sb.2 _ Z.i1z).trans q
    · exact s2'.1.at fun o q => (sb.2 _ Z.i2z).trans q
    · have lt : c < s.heap.objs.size := by
        rcases five m with e | e | e | e | e
        · rw [e]; exact lz
        · rw [e]; exact Heap.lt_size gp
        · rw [e]; exact Heap.lt_size gr
        · rw [e]; obtain ⟨_, q, _⟩ := g1; exact Heap.lt_size q
        · rw [e]; obtain ⟨_, q, _⟩ := g2; exact Heap.lt_size q
      rw [upd_ne (Nat.ne_of_lt lt)]
      exact (hf c m).1
  done := by
    intro X hP hw hK hc i pins s σ H E I hf ⟨gz, gp, ⟨x0, y0, gr⟩, g1, g2⟩ ⟨xs, ys, qx, qy, over⟩
    subst hP hw hK
    obtain ⟨its, rv, p1, _⟩ := I.tuple qx
    obtain ⟨its2, rv2, p2, _⟩ := I.list qy
    have l1 := rv.length
    have l2 := rv2.length
    have e12 : its.toArray[i]? = none ∨ its2.toArray[i]? = none := over.imp (fun q => by simp; omega) fun q => by simp; omega
    exact zs_over (I.ok.hd hc) Z (srcT (us := its.toArray) Z.l1i1) (srcL (us := its2.toArray) Z.l2i2) gz gp gr ⟨g1, p1⟩ ⟨g2, p2.isList⟩ e12 fun h' kp => ⟨rfl, I.turnedL (t' := s.toks) (ch := [j0, jp, jr, j1, j2]) (fun c o hb q =>
      kp c o (fun e => hb (by simp [e])) (fun e => hb (by simp [e])) (fun e => hb (by simp [e])) (fun e => hb (by simp [e])) q) hf⟩
  self := fun A i s Q E st q => wpAny_pyIter_zip st.1 q
def iZipM (K : PySem.W.Frag) (ta : TA) : TI := fun σ H R => ta σ H fun vs H1 => ∃ a b xs ys, vs = [.ref a, .ref b] ∧ SqT K H1 a xs ∧ SqL K H1 b ys ∧ R (ItzM K a b) H1
theorem pi_zipM {X : Cx} {e e2 : Expr} {ta : TA} {p pos tp : Pos} {elts : List Expr} {kk : Nat} (hg : Gl X "zip") (hm : X.mg "zip" = none) (ha : PA X [e, e2] ta)
    (hs : starEach [e, e2] X.env = (false, eval e X.env) :: starEach [e2] X.env := by rfl) (hpl : (backTo pos (starEach [e2] X.env)).any (·.1) = false := by rfl) :
    PI X (.Tuple elts kk tp) (.Call (.Name "zip" p) [e, e2] [] pos) (iZipM X.K ta) := by
  refine ⟨fun pins s σ H R I h => ?_⟩
  refine Call_ (ld_blt I hg hm PyProof.Rows.boot_zip (PyProof.Rows.callWith_type1 (thn (ha.run pos pins s σ H _ I h) fun us s1 ⟨vs, H1, I1, r1, q1⟩ => ?_) hs hpl))
  obtain ⟨a, b, xs, ys, rfl, qx, qy, q⟩ := q1
  cases r1 with
  | cons ra rr =>
    cases rr with
    | cons rb rr =>
      cases rr
      cases ra
      cases rb
      obtain ⟨its, rv, p1, _⟩ := I1.tuple qx
      obtain ⟨its2, rv2, p2, _⟩ := I1.list qy
      obtain ⟨o1, ho1, _⟩ := id p1
      have top : ∀ c, c ∈ [s1.heap.objs.size + 4, s1.heap.objs.size + 2, s1.heap.objs.size + 3, s1.heap.objs.size, s1.heap.objs.size + 1] → FpOk X pins H1 c := fun c m => by
        have le : s1.heap.objs.size ≤ c := by
          rcases five m with e | e | e | e | e <;> rw [e] <;> first | exact Nat.le_refl _ | exact Nat.le_add_right _ _
        exact I1.fpOk le (I1.hok.fresh le)
      refine call_zm (us := its.toArray) p1 p2.isList fun h' z gp gr g1 g2 kp => wpAny_pyIter_zip z ?_
      exact ⟨s1.heap.objs.size + 4, [s1.heap.objs.size + 4, s1.heap.objs.size + 2, s1.heap.objs.size + 3, s1.heap.objs.size, s1.heap.objs.size + 1], _, _, H1, rfl, I1.kept (t' := s1.toks) kp, turn_zm (PySem.W.ktu_apart s1.heap.objs.size a b (Heap.lt_size ho1) p2.lt), ⟨z, gp, ⟨_, _, gr⟩, g1, g2⟩, top, q⟩
/-- a loop over zip of a tuple and a list of one length -/
theorem for_zipM {K : PySem.W.Frag} {a b : Addr} {xs ys : List V} {g : TG} {tb : TS} {D : Ends} {σ : L2.St} {H : Hp} (len : xs.length = ys.length) (J : Nat → L2.St → Hp → Prop) (j0 : J 0 σ H) (stay : ∀ i σ H, J i σ H → SqT K H a xs ∧ SqL K H b ys)
    (turn : ∀ (i : Nat) (x y : V) (T : Addr) (σ : L2.St) (H : Hp), xs[i]? = some x → ys[i]? = some y → J i σ H → H T = none → g (.ref T) σ (upd H T (.tup [x, y])) fun σ2 H2 => tb { D with nx := J (i + 1), ct := J (i + 1), bk := D.nx } σ2 H2) (over : ∀ σ H, J xs.length σ H → D.nx σ H) :
    ∃ W : Nat → Nat → L2.St → Hp → Prop, (∃ m, W 0 m σ H) ∧ ∀ i m σ H, W i m σ H →
      ((ItzM K a b).stop i H ∧ D.nx σ H) ∨ ((ItzM K a b).go i H ∧ ∃ N : L2.St → Hp → Prop, (∀ σ' H', N σ' H' → ∃ m', m' < m ∧ W (i + 1) m' σ' H') ∧ ∀ v H', (ItzM K a b).yld i H v H' → g v σ H' fun σ2 H2 => tb { D with nx := N, ct := N, bk := D.nx } σ2 H2) := by
  refine ⟨fun i m σ H => m = xs.length - i ∧ i ≤ xs.length ∧ J i σ H, ⟨xs.length, rfl, Nat.zero_le _, j0⟩, ?_⟩
  rintro i m σ H ⟨rfl, hi, p⟩
  obtain ⟨qx, qy⟩ := stay i σ H p
  rcases Nat.lt_or_ge i xs.length with lt | ge
  · have ex : xs[i]? = some xs[i] := List.getElem?_eq_getElem lt
    have ey : ys[i]? = some (ys[i]'(len ▸ lt)) := List.getElem?_eq_getElem _
    refine .inr ⟨⟨xs, ys, _, _, qx, qy, ex, ey⟩, J (i + 1), fun σ' H' p' => ⟨xs.length - (i + 1), by omega, rfl, lt, p'⟩, fun v H' ⟨T, x', y', e1, hT, e2, f1, f2⟩ => ?_⟩
    subst e1 e2
    exact turn i x' y' T σ H (f1 xs qx) (f2 ys qy) p hT
  · have e : i = xs.length := Nat.le_antisymm hi ge
    subst e
    exact .inl ⟨⟨xs, ys, qx, qy, .inl (Nat.le_refl _)⟩, over σ H p⟩
/-- a comprehension over zip of two tuples -/
theorem lc_zipT {K : PySem.W.Frag} {a b : Addr} {xs ys : List V} {g : TG} {tt : TT} {te : TE} {vs : List Nat} {σ : L2.St} {H1 : Hp} {D : Addr} {Qd : Hp → Prop} (n : Nat) (hn : n = min xs.length ys.length) (J : Nat → Hp → Prop) (j0 : J 0 (upd H1 D (.lst []))) (stay : ∀ i H, i ≤ n → J i H → SqT K H a xs ∧ SqT K H b ys)
    (turn : ∀ (i : Nat) (x y : V) (T : Addr) (H : Hp), xs[i]? = some x → ys[i]? = some y → J i H → H T = none → g (.ref T) (wipe σ vs) (upd H T (.tup [x, y])) fun σ2 H2 => wipe σ2 vs = wipe σ vs ∧ tt σ2 H2 fun b H3 =>
      if b = true then te σ2 H3 fun y H4 => ∃ acc, H4 D = some (.lst acc) ∧ acc.length < sizeLine ∧ J (i + 1) (upd H4 D (.lst (acc ++ [y]))) else J (i + 1) H3) (over : ∀ H, J n H → Qd H) :
    ∃ W : Nat → Nat → Hp → Prop, (∃ m, W 0 m (upd H1 D (.lst []))) ∧ ∀ i m H, W i m H →
      ((RZ.ItzT K a b).stop i H ∧ Qd H) ∨ ((RZ.ItzT K a b).go i H ∧ ∃ Nx : Hp → Prop, (∀ H', Nx H' → ∃ m', m' < m ∧ W (i + 1) m' H') ∧ ∀ x H', (RZ.ItzT K a b).yld i H x H' → g x (wipe σ vs) H' fun σ2 H2 => wipe σ2 vs = wipe σ vs ∧ tt σ2 H2 fun b H3 =>
        if b = true then te σ2 H3 fun y H4 => ∃ acc, H4 D = some (.lst acc) ∧ acc.length < sizeLine ∧ Nx (upd H4 D (.lst (acc ++ [y]))) else Nx H3) := by
  refine ⟨fun i m H => m = n - i ∧ i ≤ n ∧ J i H, ⟨n, rfl, Nat.zero_le _, j0⟩, ?_⟩
  rintro i m H ⟨rfl, hi, p⟩
  obtain ⟨qx, qy⟩ := stay i H hi p
  rcases Nat.lt_or_ge i n with lt | ge
  · have ex : xs[i]? = some (xs[i]'(by omega)) := List.getElem?_eq_getElem _
    have ey : ys[i]? = some (ys[i]'(by omega)) := List.getElem?_eq_getElem _
    refine .inr ⟨⟨xs, ys, _, _, qx, qy, ex, ey⟩, J (i + 1), fun H' p' => ⟨n - (i + 1), by omega, rfl, lt, p'⟩, fun v H' ⟨T, x', y', e1, hT, e2, f1, f2⟩ => ?_⟩
    subst e1 e2
    exact turn i x' y' T H (f1 xs qx) (f2 ys qy) p hT
  · have e : i = n := Nat.le_antisymm hi ge
    subst e
    exact .inl ⟨⟨xs, ys, qx, qy, by omega⟩, over H p⟩
/-! ### the whole of a tuple as a slice is the tuple itself -/
section
variable {prog : Program} {w : World} {A : Around} {E : Value → Shared → Prop} {s : Shared}
theorem tup_all {b z : Addr} {us : Array Value} {v1 v2 : Value} {i j : Option Int} {Q : Value → Shared → Prop} (gt : IsTup s.heap b us) (gs : s.heap.IsSliceOf z v1 v2 .none) (p1 : IsPart v1 i) (p2 : IsPart v2 j)
    (all : HT.sIx us.size 0 i = 0 ∧ HT.sIx us.size us.size j = us.size) (q : Q (.ref b) s) : wpAny (model prog w) A (getItem (.ref b) (.ref z)) Q E s := by
  obtain ⟨oz, hz, cz, dz⟩ := id gs
  have tz : s.TypeIs (.ref z) "slice" := ⟨oz, hz, cz⟩
  unfold getItem
  try with_reducible refine wpAny_holding ?_
  refine wpAny_bind (wpAny_sequenceKey gt.typeIs (by decide) ?_)
  refine wpAny_bind (wpAny_callSpecial?_slot (name := Str.ofString "__getitem__") gt.typeIs PyProof.Rows.slot_tuple_getitem (wpAny_call_entry PyProof.Rows.slot_tuple_getitem gt.typeIs entry_tuple_getitem ?_ (args_tuple_getitem _ _)))
  show wpAny _ _ (Builtin.Tuple.tupleItemsOf (.ref b) >>= _) _ _ s
  refine wpAny_bind (tupleItemsOf_ gt ?_)
  refine wpAny_bind (wpAny_typeOf tz ?_)
  rw [if_pos (by decide)]
  refine wpAny_bind (HT.sliceApplied_gen gs p1 p2 ?_)
  have yes : (((HT.sIx us.size 0 i : Nat) : Int) == 0 && (1 : Int) == 1 && (HT.sIx us.size us.size j - HT.sIx us.size 0 i) == us.size) = true := by
    rw [all.1, all.2]
    simp
  show wpAny _ _ (if (((HT.sIx us.size 0 i : Nat) : Int) == 0 && (1 : Int) == 1 && (HT.sIx us.size us.size j - HT.sIx us.size 0 i) == us.size) = true then _ else _) _ _ s
  rw [if_pos yes]
  show wpAny _ _ (Builtin.Tuple.tupleIsExact (.ref b) >>= _) _ _ s
  refine wpAny_bind ?_
  unfold Builtin.Tuple.tupleIsExact
  refine wpAny_bind (wpAny_typeOf gt.typeIs (wpAny_pure ?_))
  rw [if_pos (by decide)]
  exact wpAny_bind (wpAny_rule (wpAny_pure ⟨_, rfl, wpAny_pure q⟩))
end
/-- t[lo:hi], any part of it -/
def rSlW (K : PySem.W.Frag) : V → Option Int → Option Int → Hp → VK → Prop := fun x lo hi H Q => ∃ a xs, x = .ref a ∧ SqT K H a xs ∧ HT.sIx xs.length 0 lo = 0 ∧ HT.sIx xs.length xs.length hi = xs.length ∧ Q (.ref a) H
theorem sl_tupW {X : Cx} : SlR X (rSlW X.K) := by
  intro pins s σ H x v vl vu lo hi sl Q I rx hs pl pu h
  obtain ⟨a, xs, rfl, hx, w1, w2, q⟩ := h
  cases rx
  obtain ⟨its, r, gt, hz⟩ := I.tuple hx
  have hlen : its.toArray.size = xs.length := by rw [List.size_toArray]; exact r.length.symm
  refine ⟨"tuple", _, PyProof.Rows.slot_tuple_getitem.lookup, gt.typeIs, ?_⟩
  exact tup_all gt hs pl pu (by rw [hlen]; exact ⟨w1, w2⟩) ⟨.ref a, H, I, rfl, q⟩
def rOr (r r' : R2) : R2 := fun x y H Q => r x y H Q ∨ r' x y H Q
theorem op_or {X : Cx} {f : Value → Value → Sem Value} {r r' : R2} (h : OpR X f r) (h' : OpR X f r') : OpR X f (rOr r r') := by
  intro pins s σ H x y v u Q I rx ry q
  rcases q with q | q
  · exact h pins s σ H x y v u Q I rx ry q
  · exact h' pins s σ H x y v u Q I rx ry q
end Kd

-- ===== K13K =====
set_option Elab.async false
set_option linter.all false
set_option maxRecDepth 100000
set_option maxHeartbeats 4000000
namespace My
open PySem L2 PyProof.Rows PySem.Spec Kd StX ClX
abbrev sAsc : Stmt := top 25
abbrev sNums : Stmt := top 26
abbrev sSt : Stmt := top 27
abbrev sStart : Stmt := top 28
abbrev sRow : Stmt := top 31
abbrev sPart : Stmt := top 32
abbrev sIsLog : Stmt := top 34
abbrev sStarts : Stmt := top 35
abbrev sEnts : Stmt := top 36
abbrev sEnt : Stmt := top 37
abbrev sClosed : Stmt := top 38
/-! ### what a log is, of any value: as mathematics -/
def stB (ss : List (List Stp)) : PyData → Bool
  | .int i => decide (0 ≤ i) && decide (i < (ss.length : Int))
  | _ => false
def allZ (f : List (List Stp) → PyData → Bool) (sss : List (List (List Stp))) (ds : List PyData) : Bool := (sss.zip ds).all fun p => f p.1 p.2
def startB (sss : List (List (List Stp))) : PyData → Bool
  | .tuple ds => decide (ds.length = sss.length) && allZ stB sss ds
  | _ => false
def iOf : PyData → Int
  | .int i => i
  | _ => 0
def rowI : PyData → List Int
  | .tuple ds => ds.map iOf
  | _ => []
def startsB (sss : List (List (List Stp))) : PyData → Bool
  | .tuple ds => !ds.isEmpty && (ds.all (startB sss) && ascL HT.lexLt (ds.map rowI))
  | _ => false
def numsB : PyData → Bool
  | .tuple ds => ds.all numB && ascL ltI (ds.map iOf)
  | _ => false
def partB (sss : List (List (List Stp))) : PyData → Bool
  | .tuple [a, b, c] => ansB sss a b c
  | _ => false
def rowB (sss : List (List (List Stp))) : PyData → Bool
  | .tuple ds => ds.all (partB sss)
  | _ => false
def enO (sss : List (List (List Stp))) : PyData → Option (Int × Bool × List Int)
  | .tuple [.int n, .bool c, e, r] => if (decide (0 ≤ n) && (numsB e && rowB sss r)) = true then some (n, c, rowI e) else none
  | _ => none
def logB (sss : List (List (List Stp))) : PyData → Bool
  | .tuple [s, .tuple es] => startsB sss s && runX (enO sss) [] (-1) es
  | _ => false
def adj {β : Type} (lt : β → β → Bool) : List β → List Bool
  | [] => []
  | [_] => []
  | x :: y :: r => lt x y :: adj lt (y :: r)
theorem adj_all {β : Type} (lt : β → β → Bool) : ∀ ys : List β, (adj lt ys).all id = ascL lt ys
  | [] => rfl
  | [_] => rfl
  | x :: y :: r => by
    show (lt x y && (adj lt (y :: r)).all id) = _
    rw [adj_all lt (y :: r)]
    rfl
theorem adj_len {β : Type} (lt : β → β → Bool) : ∀ ys : List β, (adj lt ys).length = ys.length - 1
  | [] => rfl
  | [_] => rfl
  | x :: y :: r => by
    show (adj lt (y :: r)).length + 1 = _
    rw [adj_len lt (y :: r)]
    rfl
theorem adj_at {β : Type} (lt : β → β → Bool) : ∀ (ys : List β) (i : Nat) (u v : β), ys[i]? = some u → ys[i + 1]? = some v → (adj lt ys)[i]? = some (lt u v)
  | [], i, u, v, e, _ => by simp at e
  | [_], i, u, v, _, e => by simp at e
  | x :: y :: r, 0, u, v, e, f => by
    cases Option.some.inj e
    cases Option.some.inj f
    rfl
  | x :: y :: r, i + 1, u, v, e, f => adj_at lt (y :: r) i u v e f
def rLtA (K : PySem.W.Frag) : R2 := rOr (fun x y H Q => ∃ i j : Int, x = .int i ∧ y = .int j ∧ Q (.bl (decide (i < j))) H) (rLtT K)
def spAsc (K : PySem.W.Frag) : Sp := fun vs H Q _ => ∃ (t : Addr) (xs : List V) (β : Type) (lt : β → β → Bool) (ys : List β), vs = [.ref t] ∧ H t = some (.tup xs) ∧ xs.length = ys.length ∧ xs.length ≤ 900 ∧
  (∀ (i : Nat) (x y : V) (u v : β) (H' : Hp) (Q' : VK), xs[i]? = some x → ys[i]? = some u → xs[i + 1]? = some y → ys[i + 1]? = some v → Same H H' → Q' (.bl (lt u v)) H' → rLtA K x y H' Q') ∧ ∀ H', Same H H' → Q (.bl (ascL lt ys)) H'
def spNums : Sp := fun vs H Q _ => ∃ (N : Addr → Prop) (v : V) (d : PyData), vs = [v] ∧ TZ N H v d ∧ (∀ ds, d = .tuple ds → ds.length ≤ 900) ∧ ∀ H', Same H H' → Q (.bl (numsB d)) H'
def spSt (C : Addr) : Sp := fun vs H Q _ => ∃ (N : Addr → Prop) (k v : V) (d : PyData) (ss : List (List Stp)), vs = [k, v] ∧ KindAt C H k ss ∧ KOk ss ∧ TZ N H v d ∧ ∀ H', Same H H' → Q (.bl (stB ss d)) H'
def spStart (C : Addr) : Sp := fun vs H Q _ => ∃ (N : Addr → Prop) (sy : Addr) (v : V) (d : PyData) (hv : List V) (sss : List (List (List Stp))), vs = [.ref sy, v] ∧ H sy = some (.tup hv) ∧ HouseAt C H hv sss ∧ (∀ ss ∈ sss, KOk ss) ∧ sss.length ≤ 4 ∧ TZ N H v d ∧ ∀ H', Same H H' → Q (.bl (startB sss d)) H'
def spStarts (C : Addr) : Sp := fun vs H Q _ => ∃ (N : Addr → Prop) (sy : Addr) (v : V) (d : PyData) (hv : List V) (sss : List (List (List Stp))), vs = [.ref sy, v] ∧ H sy = some (.tup hv) ∧ HouseAt C H hv sss ∧ (∀ ss ∈ sss, KOk ss) ∧ sss.length ≤ 4 ∧ TZ N H v d ∧ (∀ ds, d = .tuple ds → ds.length ≤ 900) ∧ ∀ H', Same H H' → Q (.bl (startsB sss d)) H'
def spPart : Sp := fun vs H Q _ => ∃ (N : Addr → Prop) (R : Addr) (v : V) (d : PyData) (sss : List (List (List Stp))), vs = [.ref R, v] ∧ EvTab H R sss ∧ TZ N H v d ∧ ∀ H', Same H H' → Q (.bl (partB sss d)) H'
def spRow : Sp := fun vs H Q _ => ∃ (N : Addr → Prop) (R : Addr) (v : V) (d : PyData) (sss : List (List (List Stp))), vs = [.ref R, v] ∧ EvTab H R sss ∧ TZ N H v d ∧ (∀ ds, d = .tuple ds → ds.length ≤ 900) ∧ ∀ H', Same H H' → Q (.bl (rowB sss d)) H'
/-- all tuples in it are short -/
def Wid (d : PyData) : Prop := ∀ ds, d = .tuple ds → ds.length ≤ 900
theorem num_row {N : Addr → Prop} {H : Hp} : ∀ {xs : List V} {ds : List PyData}, TZs N H xs ds → ds.all numB = true → xs = (ds.map iOf).map V.int
  | _, _, .nil, _ => rfl
  | _, _, .cons h r, e => by
    rw [List.all_cons, Bool.and_eq_true] at e
    obtain ⟨i, rfl, rfl, _⟩ := num_int h e.1
    rw [num_row r e.2]
    rfl
theorem st_int {N : Addr → Prop} {H : Hp} {v : V} {d : PyData} {ss : List (List Stp)} (h : TZ N H v d) (e : stB ss d = true) : ∃ i : Int, d = .int i ∧ v = .int i ∧ 0 ≤ i ∧ i < (ss.length : Int) := by
  cases h with
  | int i =>
    have z := Bool.and_eq_true_iff.mp e
    exact ⟨i, rfl, rfl, of_decide_eq_true z.1, of_decide_eq_true z.2⟩
  | _ => cases e
theorem allZ_row {N : Addr → Prop} {H : Hp} : ∀ {sss : List (List (List Stp))} {xs : List V} {ds : List PyData}, TZs N H xs ds → ds.length = sss.length → allZ stB sss ds = true → xs = (ds.map iOf).map V.int
  | [], _, _, .nil, _, _ => rfl
  | [], _, _, .cons _ _, l, _ => by simp at l
  | _ :: _, _, _, .nil, l, _ => by simp at l
  | ss :: sss, _, _, .cons h r, l, e => by
    have e2 : (stB ss _ && allZ stB sss _) = true := e
    rw [Bool.and_eq_true] at e2
    obtain ⟨i, rfl, rfl, _⟩ := st_int h e2.1
    rw [allZ_row r (by simpa using l) e2.2]
    rfl
theorem start_row {N : Addr → Prop} {H : Hp} {v : V} {d : PyData} {sss : List (List (List Stp))} (h : TZ N H v d) (e : startB sss d = true) : ∃ t, v = .ref t ∧ H t = some (.tup ((rowI d).map V.int)) ∧ (rowI d).length = sss.length := by
  cases h with
  | tup ht hs =>
    have z := Bool.and_eq_true_iff.mp e
    have l := of_decide_eq_true z.1
    refine ⟨_, rfl, ?_, ?_⟩
    · rw [ht, allZ_row hs l z.2]
      rfl
    · show (List.map iOf _).length = _
      rw [List.length_map]
      exact l
  | _ => cases e
theorem allZ_at {sss : List (List (List Stp))} {ds : List PyData} {f : List (List Stp) → PyData → Bool} {i : Nat} {ss : List (List Stp)} {d : PyData} (e1 : sss[i]? = some ss) (e2 : ds[i]? = some d) : ((sss.zip ds).map fun p => f p.1 p.2)[i]? = some (f ss d) := by
  rw [List.getElem?_map, List.getElem?_zip_eq_some (z := (ss, d)) |>.mpr ⟨e1, e2⟩]
  rfl
theorem slice1 {K : PySem.W.Frag} {H : Hp} {t : Addr} {xs : List V} {Q : VK} (ht : H t = some (.tup xs)) (few : xs.length ≤ 900) (q : ∀ (b : Addr) (H1 : Hp) (zs : List V), Same H H1 → H1 b = some (.tup zs) → (∀ i, zs[i]? = xs[i + 1]?) ∨ (xs = [] ∧ zs = []) → zs.length ≤ 900 → Q (.ref b) H1) :
    rSlT K (.ref t) (some 1) none H Q ∨ rSlW K (.ref t) (some 1) none H Q := by
  cases xs with
  | nil => exact .inr ⟨t, [], rfl, SqT.of ht, rfl, rfl, q t H [] (Same.refl H) ht (.inr ⟨rfl, rfl⟩) (Nat.zero_le _)⟩
  | cons x xs =>
    refine .inl ⟨t, _, rfl, SqT.of ht, not_whole_from (by decide) (by simp), fun b hb => ?_⟩
    have e : cutV (x :: xs) (some 1) none = xs := by
      rw [cut_from _ (by decide)]
      rfl
    exact q b _ xs (same_new hb) (by rw [upd_same, e]) (.inl fun i => rfl) (by rw [List.length_cons] at few; omega)
section
variable {P : Program} {w : World} {K : PySem.W.Frag} {mg : Str → Option Value} {base : Heap} {C : Addr}
abbrev nAsc : List Str := ["parts", "one", "other"]
theorem scAsc : FnScope nAsc ["parts"] (defScope sAsc) := ⟨rfl, rfl, rfl, by decide +kernel, rfl, by decide +kernel, by decide +kernel⟩
theorem op_ltA {X : Cx} (hu : X.A.units < cLine) : OpR X (compareOp .Lt) (rLtA X.K) := op_or (fun pins s σ H x y v u Q I rx ry ⟨i, j, e1, e2, q⟩ => op_lt pins s σ H x y v u Q I rx ry ⟨i, j, e1, e2, q⟩) (op_ltT hu)
theorem ok_asc {f : Addr} {fd : FuncData} (F : Fun K "ascends" "ascends" sAsc f fd) (mall : mg "all" = none) (mzip : mg "zip" = none) : FnOk P w K mg base CX0 1 f fd ["parts"] (spAsc K) := by
  refine F.ok scAsc (fun vs H Q E h => ?_) (fun cdv A outer s H vs Q E hr h => ?_)
  · obtain ⟨t, xs, β, lt, ys, rfl, _⟩ := h
    rfl
  · obtain ⟨t, xs, β, lt, ys, rfl, ht, len, few, cmp, k⟩ := h
    have hu := hr.units
    have hu1 : (A.deeper (envOfC "ascends" (defScope sAsc) s.heap.objs.size f cdv)).units < cLine := by omega
    refine ⟨_, (pss_one (ps_ret (pe_callB (cr_all rfl) (by rfl) mall PyProof.Rows.boot_all (pa_cons (pe_lc (own := [("one", 1), ("other", 2)]) (g := (gTup K 2 (gCons (gName 1) (gCons (gName 2) gNil)))) (tt := tYes) rfl scAsc.nd (RZ.pi_zipA (by rfl) mzip (pa_cons (pv 0) (pa_cons (pe_slice (SlR.or sl_tup sl_tupW) (pv 0) (po_some pe_int) po_none) pa_nil))) (blkOk_by (N := nAsc) (sc := defScope sAsc) (by decide +kernel)) (fun _ _ _ _ _ => pg_tup (by rfl) (pgs_cons (pg_name (i := 1) scAsc.nd rfl (Or.inl rfl)) (pgs_cons (pg_name (i := 2) scAsc.nd rfl (Or.inl rfl)) pgs_nil))) (fun _ _ _ _ _ => pts_nil) (fun _ _ _ _ _ => (pe_cmpR (r := rLtA K) (op_ltA hu1) (pv 1) (pv 2) (nomark _)))) pa_nil)))), ?_⟩
    refine ⟨_, rfl, _, rfl, 1, rfl, slice1 ht few fun b H1 zs s1 hb sh lz => ?_⟩
    have ht1 := s1 _ _ ht
    have n_ : xs.length - 1 = min xs.length zs.length := by
      rcases sh with sh | ⟨rfl, rfl⟩
      · have e : zs = xs.drop 1 := List.ext_getElem? fun i => by rw [sh, List.getElem?_drop, Nat.add_comm]
        rw [e, List.length_drop]
        omega
      · rfl
    refine ⟨t, b, xs, zs, rfl, .inr ⟨SqT.of ht1, SqT.of hb, fun D hD => lc_zipT (K := K) (a := t) (b := b) (xs := xs) (ys := zs) (xs.length - 1) n_ (fun i H2 => Same H1 H2 ∧ H2 D = some (.lst (((adj lt ys).take i).map V.bl))) ⟨same_new hD, by rw [List.take_zero]; exact upd_same⟩ (fun i H2 _ ⟨s2, _⟩ => ⟨SqT.of (s2 _ _ ht1), SqT.of (s2 _ _ hb)⟩) (fun i x y T H2 ex ey ⟨s2, d2⟩ hT => ?_) fun H2 ⟨s2, d2⟩ => ?_⟩⟩
    · have ey2 : xs[i + 1]? = some y := by
        rcases sh with sh | ⟨rfl, rfl⟩
        · rw [← sh]; exact ey
        · simp at ey
      have l1 := (List.getElem?_eq_some_iff.mp ex).1
      have l2 := (List.getElem?_eq_some_iff.mp ey2).1
      obtain ⟨u, eu⟩ : ∃ u, ys[i]? = some u := ⟨_, List.getElem?_eq_getElem (by omega)⟩
      obtain ⟨v, ev⟩ : ∃ v, ys[i + 1]? = some v := ⟨_, List.getElem?_eq_getElem (by omega)⟩
      have sT := same_new (o := .tup [x, y]) hT
      refine ⟨T, _, rfl, SqT.of upd_same, rfl, _, _, rfl, _, _, rfl, rfl, rfl, _, rfl, _, rfl, ?_⟩
      refine cmp i x y u v _ _ ex eu ey2 ev (s1.trans (s2.trans sT)) ⟨_, sT _ _ d2, ?_, ?_, ?_⟩
      · rw [List.length_map, List.length_take]
        exact small_lt (m := 900) (by omega)
      · exact same_at (s2.trans sT) hD
      · rw [upd_same, List.take_add_one, adj_at lt ys i u v eu ev, List.map_append]
        rfl
    · have e : (adj lt ys).take (xs.length - 1) = adj lt ys := List.take_of_length_le (by rw [adj_len]; omega)
      rw [e] at d2
      refine ⟨D, _, rfl, SqL.of d2, ?_⟩
      rw [adj_all]
      exact k H2 (s1.trans s2)
theorem scNums : FnScope ["thing", "part"] ["thing"] (defScope sNums) := ⟨rfl, rfl, rfl, by decide +kernel, rfl, by decide +kernel, by decide +kernel⟩
theorem ok_nums {f fN fA : Addr} {fd fdN fdA : FuncData} (F : Fun K "is_numbers" "is_numbers" sNums f fd) (misi : mg "isinstance" = none) (mtup : mg "tuple" = none) (mall : mg "all" = none)
    (GN : FnOk P w K mg base CX0 1 fN fdN ["thing"] spNum) (mN : mg "is_number" = some (.ref fN)) (kN : PySem.W.keepIn K (.ref fN) = true) (bN : Binds K fdN ["thing"] [])
    (GA : FnOk P w K mg base CX0 1 fA fdA ["parts"] (spAsc K)) (mA : mg "ascends" = some (.ref fA)) (kA : PySem.W.keepIn K (.ref fA) = true) (bA : Binds K fdA ["parts"] []) : FnOk P w K mg base CX0 2 f fd ["thing"] spNums := by
  refine F.ok scNums (fun vs H Q E h => ?_) (fun cdv A outer s H vs Q E hr h => ?_)
  · obtain ⟨N, v, d, rfl, _⟩ := h
    rfl
  · obtain ⟨N, v, d, rfl, hz, wid, k⟩ := h
    refine ⟨_, (pss_cons (ps_if (PW.pt (pw_or (pt_not (pt_val (pe_callB call_isi (by rfl) misi boot_isinstance (pa_cons (pv 0) (pa_cons (pe_bltn (v := .ty "tuple") (by rfl) mtup PyProof.Rows.boot_tuple rfl) pa_nil))))) (pw_or1 (pt_not (pt_val (pe_callB (cr_all rfl) (by rfl) mall PyProof.Rows.boot_all (pa_cons (pe_lc (own := [("part", 1)]) (g := (gName 1)) (tt := tYes) rfl scNums.nd (pi_tup (pv 0)) (blkOk_by (N := ["thing", "part"]) (sc := defScope sNums) (by decide +kernel)) (fun _ _ _ _ _ => pg_name (i := 1) scNums.nd rfl (Or.inl rfl)) (fun _ _ _ _ _ => pts_nil) (fun _ _ _ _ _ => (pe_call GN hr (by rfl) mN kN bN .nil pass0 (pa_cons (pv 1) pa_nil)))) pa_nil))))))) (pss_one (ps_ret pe_bl)) pss_nil) (pss_one (ps_ret (pe_call GA hr (by rfl) mA kA bA .nil pass0 (pa_cons (pv 0) pa_nil))))), ?_⟩
    refine ⟨_, rfl, _, _, _, _, _, rfl, .ty "tuple", (hz).ty, kit_ty (kb_of _).1, _, rfl, ?_⟩
    cases et : isTup d with
    | false =>
      refine iteT (iteT ?_)
      have q := k H (Same.refl H)
      rwa [show numsB d = false from by cases d <;> first | rfl | cases et] at q
    | true =>
    obtain ⟨t, xs, ds, rfl, rfl, ht, hs⟩ := tupz hz et
    have l9 := wid ds rfl
    have lx := hs.len
    refine iteF ⟨_, rfl, t, rfl, ⟨_, SqT.of ht⟩, fun D hD => lc_tup (K := K) (a := t) (xs := xs) (fun i H2 => Same H H2 ∧ H2 D = some (.lst (((ds.map numB).take i).map V.bl))) ⟨same_new hD, by rw [List.take_zero]; exact upd_same⟩ (fun i H2 _ ⟨s2, _⟩ => SqT.of (s2 _ _ ht)) (fun i x H2 ex ⟨s2, d2⟩ => ?_) fun H2 ⟨s2, d2⟩ => ?_⟩
    · obtain ⟨d0, ed, zd⟩ := hs.at_ ex
      refine ⟨rfl, _, rfl, N, x, d0, rfl, zd.same s2, _, d2, ?_, same_at s2 hD, ?_⟩
      · rw [List.length_map, List.length_take, List.length_map]
        exact small_lt (m := 900) (by omega)
      · rw [upd_same, List.take_add_one, List.getElem?_map, ed, List.map_append]
        rfl
    · have e : (ds.map numB).take xs.length = ds.map numB := List.take_of_length_le (by rw [List.length_map]; omega)
      rw [e] at d2
      refine ⟨D, _, rfl, SqL.of d2, _, rfl, ?_⟩
      rw [List.all_map, show (id ∘ numB) = numB from rfl]
      cases c : ds.all numB with
      | false =>
        refine iteT ?_
        have q := k H2 s2
        rwa [show numsB (.tuple ds) = false from by show (ds.all numB && _) = false; rw [c]; rfl] at q
      | true =>
        refine iteF ?_
        have ex := num_row hs c
        refine ⟨_, rfl, t, xs, Int, ltI, ds.map iOf, rfl, s2 _ _ ht, by rw [ex, List.length_map], by omega, fun i x y u v H' Q' e1 e2 e3 e4 _ q => .inl ⟨u, v, ?_, ?_, q⟩, fun H' s' => ?_⟩
        · rw [ex, List.getElem?_map, e2] at e1
          exact (Option.some.inj e1).symm
        · rw [ex, List.getElem?_map, e4] at e3
          exact (Option.some.inj e3).symm
        · have q := k H' (s2.trans s')
          rwa [show numsB (.tuple ds) = ascL ltI (ds.map iOf) from by show (ds.all numB && _) = _; rw [c]; rfl] at q
theorem scStt : FnScope ["kind", "thing"] ["kind", "thing"] (defScope sSt) := ⟨rfl, rfl, rfl, by decide +kernel, rfl, by decide +kernel, by decide +kernel⟩
theorem ok_st {f fN gN : Addr} {fd fdN : FuncData} (F : Fun K "is_state" "is_state" sSt f fd) (mlen : mg "len" = none)
    (GN : FnOk P w K mg base CX0 1 fN fdN ["thing"] spNum) (mN : mg "is_number" = some (.ref fN)) (kN : PySem.W.keepIn K (.ref fN) = true) (bN : Binds K fdN ["thing"] [])
    (hLs : PySem.W.findIn K (.ref C) "__len__" = some (some (.ref gN))) (hLf : PySem.W.isFn K (.ref gN) = true) (GL : FnR P w K mg base CX0 1 gN (spKlen C)) : FnOk P w K mg base CX0 3 f fd ["kind", "thing"] (spSt C) := by
  refine F.ok scStt (fun vs H Q E h => ?_) (fun cdv A outer s H vs Q E hr h => ?_)
  · obtain ⟨N, kk, v, d, ss, rfl, _⟩ := h
    rfl
  · obtain ⟨N, kk, v, d, ss, rfl, hk, so, hz, k⟩ := h
    have hr1 := hr.mono (show 1 ≤ 2 by omega)
    refine ⟨_, (pss_one (ps_ret (pe_and (pe_call GN hr1 (by rfl) mN kN bN .nil pass0 (pa_cons (pv 1) pa_nil)) (pe_one (pe_cmpR op_lt (pv 1) (pe_callB (cr_lenIns hLs hLf GL hr pass0) (by rfl) mlen PySem.boot_len (pa_cons (pv 0) pa_nil)) (nomark _)))))), ?_⟩
    refine ⟨_, rfl, N, v, d, rfl, hz, _, rfl, ?_⟩
    cases n1 : numB d with
    | false =>
      refine iteF ?_
      have q := k H (Same.refl H)
      rwa [show stB ss d = false from by
        cases d with
        | int i =>
          have z : decide (0 ≤ i) = false := n1
          show (decide (0 ≤ i) && _) = false
          rw [z]
          rfl
        | _ => rfl] at q
    | true =>
    obtain ⟨i, rfl, rfl, i0⟩ := num_int hz n1
    obtain ⟨o, dx, a, m, rfl, ho, _⟩ := id hk
    refine iteT ⟨_, rfl, _, rfl, o, dx, _, rfl, ho, .ref o, ss, rfl, hk, so, fun H' s' => ⟨_, rfl, ⟨by omega, ?_⟩, _, _, rfl, rfl, ?_⟩⟩
    · have := so.most
      omega
    · have q := k H' s'
      rwa [show stB ss (.int i) = decide (i < (ss.length : Int)) from by show (decide (0 ≤ i) && _) = _; rw [decide_eq_true i0, Bool.true_and]] at q
end
end My

-- ===== K13R =====
set_option Elab.async false
set_option linter.all false
set_option maxRecDepth 100000
set_option maxHeartbeats 4000000
namespace My
open PySem L2 PyProof.Rows PySem.Spec Kd StX ClX
/-- all tuples in it have at most 60 parts -/
def Sht (d : PyData) : Prop := ∃ k, Nice 60 k d
theorem Sht.len {ds : List PyData} (h : Sht (.tuple ds)) : ds.length ≤ 60 := let ⟨_, c⟩ := h; c.len
theorem Sht.part {ds : List PyData} {d : PyData} (h : Sht (.tuple ds)) (m : d ∈ ds) : Sht d := by
  obtain ⟨k, c⟩ := h
  obtain ⟨l, _, c2⟩ := c.part m
  exact ⟨l, c2⟩
theorem Sht.wid {d : PyData} (h : Sht d) : ∀ ds, d = .tuple ds → ds.length ≤ 900 := fun ds e => by
  have z := Sht.len (e ▸ h)
  omega
theorem rows_at {N : Addr → Prop} {H : Hp} {xs : List V} {ds : List PyData} {sss : List (List (List Stp))} (hs : TZs N H xs ds) (c : ds.all (startB sss) = true) {i : Nat} {x : V} {u : List Int} (e1 : xs[i]? = some x) (e2 : (ds.map rowI)[i]? = some u) : ∃ a, x = .ref a ∧ H a = some (.tup (u.map V.int)) := by
  obtain ⟨d, ed, zd⟩ := hs.at_ e1
  rw [List.getElem?_map, ed] at e2
  cases e2
  obtain ⟨t, e, ht, _⟩ := start_row zd (List.all_eq_true.mp c d (List.mem_of_getElem? ed))
  exact ⟨t, e, ht⟩
/-- an entry taken apart -/
structure EnAt (H : Hp) (v : V) (n : Int) (c : Bool) (e : List Int) : Prop where
  ex : ∃ (t te : Addr) (vr : V), v = .ref t ∧ H t = some (.tup [.int n, .bl c, .ref te, vr]) ∧ H te = some (.tup (e.map V.int))
  n0 : 0 ≤ n
  asc : e.Pairwise fun i j => ltI i j = true
  pos : ∀ k ∈ e, 0 ≤ k
theorem ltI_tr (x y z : Int) (h : ltI x y = true) (g : ltI y z = true) : ltI x z = true := decide_eq_true (Int.lt_trans (of_decide_eq_true h) (of_decide_eq_true g))
theorem nums_at {N : Addr → Prop} {H : Hp} {v : V} {d : PyData} (h : TZ N H v d) (e : numsB d = true) : ∃ t, v = .ref t ∧ H t = some (.tup ((rowI d).map V.int)) ∧ (rowI d).Pairwise (fun i j => ltI i j = true) ∧ ∀ k ∈ rowI d, 0 ≤ k := by
  cases h with
  | @tup t xs ds ht hs =>
    have z := Bool.and_eq_true_iff.mp e
    refine ⟨_, rfl, by rw [ht, num_row hs z.1]; rfl, (asc_pw ltI_tr _).mp z.2, fun k m => ?_⟩
    obtain ⟨x, mx, rfl⟩ := List.mem_map.mp m
    have q := List.all_eq_true.mp z.1 x mx
    cases x with
    | int i => exact of_decide_eq_true q
    | _ => cases q
  | _ => cases e
theorem en_at {N : Addr → Prop} {H : Hp} {v : V} {d : PyData} {sss : List (List (List Stp))} {n : Int} {c : Bool} {e : List Int} (h : TZ N H v d) (q : enO sss d = some (n, c, e)) : EnAt H v n c e := by
  unfold enO at q
  split at q
  · rename_i n' c' de dr
    split at q
    · rename_i cond
      have z := Bool.and_eq_true_iff.mp cond
      have z2 := Bool.and_eq_true_iff.mp z.2
      cases q
      cases h with
      | tup ht hs =>
        cases hs with
        | cons y1 hs =>
          cases hs with
          | cons y2 hs =>
            cases hs with
            | cons y3 hs =>
              cases hs with
              | cons y4 hs =>
                cases hs
                cases y1
                cases y2
                obtain ⟨te, rfl, hte, asc, pos⟩ := nums_at y3 z2.1
                exact ⟨⟨_, te, _, rfl, ht, hte⟩, of_decide_eq_true z.1, asc, pos⟩
    · cases q
  · cases q
theorem EnAt.same {H H' : Hp} {v : V} {n : Int} {c : Bool} {e : List Int} (h : EnAt H v n c e) (s : Same H H') : EnAt H' v n c e := by
  obtain ⟨⟨t, te, vr, e1, e2, e3⟩, q⟩ := h
  exact ⟨⟨t, te, vr, e1, s _ _ e2, s _ _ e3⟩, ‹_›, ‹_›, ‹_›⟩
theorem EnAt.nodup {H : Hp} {v : V} {n : Int} {c : Bool} {e : List Int} (h : EnAt H v n c e) : e.Nodup := h.asc.imp fun {a b} q z => by
  rw [z] at q
  exact absurd (of_decide_eq_true q) (Int.lt_irrefl _)
def spEnt : Sp := fun vs H Q _ => ∃ (N : Addr → Prop) (R : Addr) (v : V) (d : PyData) (sss : List (List (List Stp))), vs = [.ref R, v] ∧ EvTab H R sss ∧ TZ N H v d ∧ Sht d ∧ ∀ H', Same H H' → Q (.bl ((enO sss d).isSome)) H'
/-- the entries' list and what they say -/
structure Ens (H : Hp) (xs : List V) (es : List (Int × Bool × List Int)) : Prop where
  len : xs.length = es.length
  at_ : ∀ (i : Nat) (x : V), xs[i]? = some x → ∃ n c e, es[i]? = some (n, c, e) ∧ EnAt H x n c e
theorem Ens.same {H H' : Hp} {xs : List V} {es : List (Int × Bool × List Int)} (h : Ens H xs es) (s : Same H H') : Ens H' xs es :=
  ⟨h.len, fun i x e => let ⟨n, c, e', q1, q2⟩ := h.at_ i x e; ⟨n, c, e', q1, q2.same s⟩⟩
theorem ens_of {N : Addr → Prop} {H : Hp} {sss : List (List (List Stp))} : ∀ {xs : List V} {ds : List PyData}, TZs N H xs ds → ds.all (fun d => (enO sss d).isSome) = true → Ens H xs (ds.filterMap (enO sss))
  | _, _, .nil, _ => ⟨rfl, fun i x e => by simp at e⟩
  | _, _, .cons h r, c => by
    rw [List.all_cons, Bool.and_eq_true] at c
    obtain ⟨⟨n, b, e⟩, q⟩ := Option.isSome_iff_exists.mp c.1
    have ih := ens_of r c.2
    rw [List.filterMap_cons, q]
    refine ⟨by rw [List.length_cons, List.length_cons, ih.len], fun i x ex => ?_⟩
    cases i with
    | zero => exact ⟨n, b, e, rfl, by rw [← Option.some.inj ex]; exact en_at h q⟩
    | succ i => exact ih.at_ i x ex
def spClosed : Sp := fun vs H Q _ => ∃ (t : Addr) (xs : List V) (es : List (Int × Bool × List Int)), vs = [.ref t] ∧ H t = some (.tup xs) ∧ xs.length ≤ 60 ∧ Ens H xs es ∧ ascL ltI (es.map Prod.fst) = true ∧ (∀ x ∈ es, x.2.2.length ≤ 60) ∧ ∀ H', Same H H' → Q (.bl (closedX [] es)) H'
/-- the two dicts -/
structure MI (B : List (Int × List Int)) (kb km : List (Key × V)) : Prop where
  len : kb.length = B.length
  len2 : km.length = B.length
  b : ∀ k, valV kb (Sum.inl k) = if k ∈ B.map Prod.fst then some (.int ((2 ^ ix B k : Nat) : Int)) else none
  m : ∀ k, valV km (Sum.inl k) = (lk B k).map fun f => V.int ((msk B f : Nat) : Int)
theorem MI.nil : MI [] [] [] := ⟨rfl, rfl, fun k => rfl, fun k => rfl⟩
theorem MI.put {B : List (Int × List Int)} {kb km : List (Key × V)} {n : Int} {e : List Int} (h : MI B kb km) (ci : CI B) (hn : n ∉ B.map Prod.fst) (sub : ∀ j ∈ e, j ∈ B.map Prod.fst) :
    MI (B ++ [(n, e)]) (putK kb (Sum.inl n) (.int ((2 ^ B.length : Nat) : Int))) (putK km (Sum.inl n) (.int ((msk B e : Nat) : Int))) := by
  have n1 : valV kb (Sum.inl n) = none := by rw [h.b, if_neg hn]
  have n2 : valV km (Sum.inl n) = none := by rw [h.m, lk_no hn]; rfl
  have inj : ∀ k : Int, ((Sum.inl k : Key) = Sum.inl n) ↔ k = n := fun k => ⟨fun z => by injection z, fun z => by rw [z]⟩
  refine ⟨?_, ?_, fun k => ?_, fun k => ?_⟩
  · rw [L2.putK_new _ n1, List.length_append, List.length_append, h.len]
    rfl
  · rw [L2.putK_new _ n2, List.length_append, List.length_append, h.len2]
    rfl
  · rw [valV_put, h.b]
    by_cases c : k = n
    · subst c
      rw [if_pos rfl, if_pos (by rw [List.map_append]; exact List.mem_append_right _ List.mem_cons_self), ix_new hn]
    · rw [if_neg (fun z => c ((inj k).mp z))]
      by_cases m : k ∈ B.map Prod.fst
      · rw [if_pos m, if_pos (by rw [List.map_append]; exact List.mem_append_left _ m), ix_app m]
      · rw [if_neg m, if_neg]
        rw [List.map_append]
        intro z
        rcases List.mem_append.mp z with z | z
        · exact m z
        · exact c (List.mem_singleton.mp z)
  · rw [valV_put, h.m, lk_app]
    by_cases c : k = n
    · subst c
      rw [if_pos rfl, lk_no hn, if_pos rfl]
      exact congrArg (fun z : Nat => some (V.int (z : Int))) (msk_app sub).symm
    · rw [if_neg (fun z => c ((inj k).mp z))]
      cases q : lk B k with
      | none => rw [if_neg c]; rfl
      | some f =>
        exact congrArg (fun z : Nat => some (V.int (z : Int))) (msk_app (ci.en k f (lk_mem q)).2).symm
section
variable {P : Program} {w : World} {K : PySem.W.Frag} {mg : Str → Option Value} {base : Heap} {C : Addr}
abbrev nStart : List Str := ["system", "thing", "kind", "state"]
theorem scStart : FnScope nStart ["system", "thing"] (defScope sStart) := ⟨rfl, rfl, rfl, by decide +kernel, rfl, by decide +kernel, by decide +kernel⟩
theorem ok_start {f fS : Addr} {fd fdS : FuncData} (F : Fun K "is_start" "is_start" sStart f fd) (misi : mg "isinstance" = none) (mtup : mg "tuple" = none) (mall : mg "all" = none) (mzip : mg "zip" = none) (mlen : mg "len" = none)
    (GS : FnOk P w K mg base CX0 3 fS fdS ["kind", "thing"] (spSt C)) (mS : mg "is_state" = some (.ref fS)) (kS : PySem.W.keepIn K (.ref fS) = true) (bS : Binds K fdS ["kind", "thing"] []) : FnOk P w K mg base CX0 4 f fd ["system", "thing"] (spStart C) := by
  refine F.ok scStart (fun vs H Q E h => ?_) (fun cdv A outer s H vs Q E hr h => ?_)
  · obtain ⟨N, sy, v, d, hv, sss, rfl, _⟩ := h
    rfl
  · obtain ⟨N, sy, v, d, hv, sss, rfl, hs, hh, ko, l4, hz, k⟩ := h
    refine ⟨_, (pss_cons (ps_if (PW.pt (pw_or (pt_not (pt_val (pe_callB call_isi (by rfl) misi boot_isinstance (pa_cons (pv 1) (pa_cons (pe_bltn (v := .ty "tuple") (by rfl) mtup PyProof.Rows.boot_tuple rfl) pa_nil))))) (pw_or1 (pt_cmpR op_ne (pe_callB (r := rLenQ K) call_len_seq (by rfl) mlen PySem.boot_len (pa_cons (pv 1) pa_nil)) (pe_callB (r := rLenQ K) call_len_seq (by rfl) mlen PySem.boot_len (pa_cons (pv 0) pa_nil)) (nomark _))))) (pss_one (ps_ret pe_bl)) pss_nil) (pss_one (ps_ret (pe_callB (cr_all rfl) (by rfl) mall PyProof.Rows.boot_all (pa_cons (pe_lc (own := [("kind", 2), ("state", 3)]) (g := (gTup K 2 (gCons (gName 2) (gCons (gName 3) gNil)))) (tt := tYes) rfl scStart.nd (RZ.pi_zipA (by rfl) mzip (pa_cons (pv 0) (pa_cons (pv 1) pa_nil))) (blkOk_by (N := nStart) (sc := defScope sStart) (by decide +kernel)) (fun _ _ _ _ _ => pg_tup (by rfl) (pgs_cons (pg_name (i := 2) scStart.nd rfl (Or.inl rfl)) (pgs_cons (pg_name (i := 3) scStart.nd rfl (Or.inl rfl)) pgs_nil))) (fun _ _ _ _ _ => pts_nil) (fun _ _ _ _ _ => (pe_call GS hr (by rfl) mS kS bS .nil pass0 (pa_cons (pv 2) (pa_cons (pv 3) pa_nil))))) pa_nil))))), ?_⟩
    have no : startB sss d = false → Q (.bl false) H := fun e => by
      have q := k H (Same.refl H)
      rwa [e] at q
    refine ⟨_, rfl, _, _, _, _, _, rfl, .ty "tuple", (hz).ty, kit_ty (kb_of _).1, _, rfl, ?_⟩
    cases et : isTup d with
    | false => exact iteT (iteT (no (by cases d <;> first | rfl | cases et)))
    | true =>
    obtain ⟨t, xs, ds, rfl, rfl, ht, tz⟩ := tupz hz et
    have lx := tz.len
    have lh := hh.1
    refine iteF ⟨_, rfl, t, _, rfl, .inr (SqT.of ht), _, rfl, sy, _, rfl, .inr (SqT.of hs), rfl, _, rfl, ?_⟩
    by_cases c : ds.length = sss.length
    · have ne : (!decide (V.int (xs.length : Int) = V.int (hv.length : Int))) = false := by
        rw [lx, lh, c]
        simp
      rw [ne]
      refine iteF ⟨_, rfl, _, rfl, sy, t, hv, xs, rfl, .inr ⟨SqT.of hs, SqT.of ht, fun D hD => lc_zipT (K := K) (a := sy) (b := t) (xs := hv) (ys := xs) xs.length (by omega) (fun i H2 => Same H H2 ∧ H2 D = some (.lst ((((sss.zip ds).map fun p => stB p.1 p.2).take i).map V.bl))) ⟨same_new hD, by rw [List.take_zero]; exact upd_same⟩ (fun i H2 _ ⟨s2, _⟩ => ⟨SqT.of (s2 _ _ hs), SqT.of (s2 _ _ ht)⟩) (fun i x y T H2 ex ey ⟨s2, d2⟩ hT => ?_) fun H2 ⟨s2, d2⟩ => ?_⟩⟩
      · obtain ⟨d0, ed, zd⟩ := tz.at_ ey
        have l1 := (List.getElem?_eq_some_iff.mp ex).1
        obtain ⟨ss, es⟩ : ∃ ss, sss[i]? = some ss := ⟨_, List.getElem?_eq_getElem (by omega)⟩
        have sT := same_new (o := .tup [x, y]) hT
        have s3 := s2.trans sT
        refine ⟨T, _, rfl, SqT.of upd_same, rfl, _, _, rfl, _, _, rfl, rfl, rfl, _, rfl, _, rfl, N, x, y, d0, ss, rfl, (hh.2 i x ss ex es).same s3, ko ss (List.mem_of_getElem? es), zd.same s3, fun H3 s4 => ⟨_, s4 _ _ (sT _ _ d2), ?_, same_at (s3.trans s4) hD, ?_⟩⟩
        · rw [List.length_map, List.length_take]
          exact small_lt (m := 4) (by omega)
        · rw [upd_same, List.take_add_one, allZ_at es ed, List.map_append]
          rfl
      · have e : ((sss.zip ds).map fun p => stB p.1 p.2).take xs.length = (sss.zip ds).map fun p => stB p.1 p.2 := List.take_of_length_le (by rw [List.length_map, List.length_zip]; omega)
        rw [e] at d2
        refine ⟨D, _, rfl, SqL.of d2, ?_⟩
        have q := k H2 s2
        rw [show startB sss (.tuple ds) = (decide (ds.length = sss.length) && allZ stB sss ds) from rfl, decide_eq_true c, Bool.true_and] at q
        rw [List.all_map]
        exact q
    · have ne : (!decide (V.int (xs.length : Int) = V.int (hv.length : Int))) = true := by
        rw [decide_eq_false fun z => c (by have z2 := V.int.inj z; omega)]
        rfl
      rw [ne]
      exact iteT (no (by show (decide (ds.length = sss.length) && _) = false; rw [decide_eq_false c]; rfl))
theorem scStarts : FnScope ["system", "thing", "start"] ["system", "thing"] (defScope sStarts) := ⟨rfl, rfl, rfl, by decide +kernel, rfl, by decide +kernel, by decide +kernel⟩
theorem ok_starts {f fS fA : Addr} {fd fdS fdA : FuncData} (F : Fun K "_is_starts" "_is_starts" sStarts f fd) (misi : mg "isinstance" = none) (mtup : mg "tuple" = none) (mall : mg "all" = none)
    (GS : FnOk P w K mg base CX0 4 fS fdS ["system", "thing"] (spStart C)) (mS : mg "is_start" = some (.ref fS)) (kS : PySem.W.keepIn K (.ref fS) = true) (bS : Binds K fdS ["system", "thing"] [])
    (GA : FnOk P w K mg base CX0 1 fA fdA ["parts"] (spAsc K)) (mA : mg "ascends" = some (.ref fA)) (kA : PySem.W.keepIn K (.ref fA) = true) (bA : Binds K fdA ["parts"] []) : FnOk P w K mg base CX0 5 f fd ["system", "thing"] (spStarts C) := by
  refine F.ok scStarts (fun vs H Q E h => ?_) (fun cdv A outer s H vs Q E hr h => ?_)
  · obtain ⟨N, sy, v, d, hv, sss, rfl, _⟩ := h
    rfl
  · obtain ⟨N, sy, v, d, hv, sss, rfl, hs, hh, ko, l4, hz, wid, k⟩ := h
    have hu := hr.units
    have hu1 : (A.deeper (envOfC "_is_starts" (defScope sStarts) s.heap.objs.size f cdv)).units < cLine := by omega
    have hr1 := hr.mono (show 1 ≤ 4 by omega)
    refine ⟨_, (pss_cons (ps_if (PW.pt (pw_or (pt_not (pt_val (pe_callB call_isi (by rfl) misi boot_isinstance (pa_cons (pv 1) (pa_cons (pe_bltn (v := .ty "tuple") (by rfl) mtup PyProof.Rows.boot_tuple rfl) pa_nil))))) (pw_or1 (pt_cmpR (op_eqE hu1) (pv 1) (pe_tup pa_nil) (nomark _))))) (pss_one (ps_ret pe_bl)) pss_nil) (pss_one (ps_ret (pe_and (pe_callB (cr_all rfl) (by rfl) mall PyProof.Rows.boot_all (pa_cons (pe_lc (own := [("start", 2)]) (g := (gName 2)) (tt := tYes) rfl scStarts.nd (pi_tup (pv 1)) (blkOk_by (N := ["system", "thing", "start"]) (sc := defScope sStarts) (by decide +kernel)) (fun _ _ _ _ _ => pg_name (i := 2) scStarts.nd rfl (Or.inl rfl)) (fun _ _ _ _ _ => pts_nil) (fun _ _ _ _ _ => (pe_call GS hr (by rfl) mS kS bS .nil pass0 (pa_cons (pv 0) (pa_cons (pv 2) pa_nil))))) pa_nil)) (pe_one (pe_call GA hr1 (by rfl) mA kA bA .nil pass0 (pa_cons (pv 1) pa_nil))))))), ?_⟩
    refine ⟨_, rfl, _, _, _, _, _, rfl, .ty "tuple", (hz).ty, kit_ty (kb_of _).1, _, rfl, ?_⟩
    cases et : isTup d with
    | false =>
      have q := k H (Same.refl H)
      rw [show startsB sss d = false from by cases d <;> first | rfl | cases et] at q
      exact iteT (iteT q)
    | true =>
    obtain ⟨t, xs, ds, rfl, rfl, ht, tz⟩ := tupz hz et
    have l9 := wid ds rfl
    have lx := tz.len
    refine iteF ⟨_, rfl, by show 0 ≤ sizeLine; decide, fun e he => ?_⟩
    have s1 := same_new (o := .tup []) he
    have he1 : (upd H e (.tup [])) e = some (.tup []) := upd_same
    generalize upd H e (.tup []) = H1 at s1 he1 ⊢
    refine ⟨t, e, xs, rfl, rfl, s1 _ _ ht, he1, _, rfl, ?_⟩
    cases tz with
    | nil => exact iteT (k H1 s1)
    | @cons v0 vr d0 dr z0 zr =>
    have tz : TZs N H (v0 :: vr) (d0 :: dr) := .cons z0 zr
    generalize hx : v0 :: vr = xs at ht lx tz ⊢
    generalize hd : d0 :: dr = ds at l9 lx k tz ⊢
    have ne : ds.isEmpty = false := by rw [← hd]; rfl
    rw [show xs.isEmpty = false from by rw [← hx]; rfl]
    have ht1 := s1 _ _ ht
    refine iteF ⟨_, rfl, t, rfl, ⟨_, SqT.of ht1⟩, fun D hD => lc_tup (K := K) (a := t) (xs := xs) (fun i H2 => Same H1 H2 ∧ H2 D = some (.lst (((ds.map (startB sss)).take i).map V.bl))) ⟨same_new hD, by rw [List.take_zero]; exact upd_same⟩ (fun i H2 _ ⟨s2, _⟩ => SqT.of (s2 _ _ ht1)) (fun i x H2 ex ⟨s2, d2⟩ => ?_) fun H2 ⟨s2, d2⟩ => ?_⟩
    · obtain ⟨d1, ed, zd⟩ := tz.at_ ex
      have s3 := s1.trans s2
      refine ⟨rfl, _, rfl, _, rfl, N, sy, x, d1, hv, sss, rfl, s3 _ _ hs, hh.same s3, ko, l4, zd.same s3, fun H3 s4 => ⟨_, s4 _ _ d2, ?_, same_at (s2.trans s4) hD, ?_⟩⟩
      · rw [List.length_map, List.length_take, List.length_map]
        exact small_lt (m := 900) (by omega)
      · rw [upd_same, List.take_add_one, List.getElem?_map, ed, List.map_append]
        rfl
    · have e2 : (ds.map (startB sss)).take xs.length = ds.map (startB sss) := List.take_of_length_le (by rw [List.length_map]; omega)
      rw [e2] at d2
      refine ⟨D, _, rfl, SqL.of d2, _, rfl, ?_⟩
      rw [List.all_map, show (id ∘ startB sss) = startB sss from rfl]
      have fin : startsB sss (.tuple ds) = (ds.all (startB sss) && ascL HT.lexLt (ds.map rowI)) := by
        show (!ds.isEmpty && _) = _
        rw [ne]
        rfl
      rw [fin] at k
      cases c : ds.all (startB sss) with
      | false =>
        have q := k H2 (s1.trans s2)
        rw [c, Bool.false_and] at q
        exact iteF q
      | true =>
        have tz2 := tz.same (s1.trans s2)
        refine iteT ⟨_, rfl, t, xs, List Int, HT.lexLt, ds.map rowI, rfl, s2 _ _ ht1, by rw [List.length_map, lx], by omega, fun i x y u v H' Q' e1 e2 e3 e4 s' q => .inr ?_, fun H' s' => ?_⟩
        · obtain ⟨a, rfl, ha⟩ := rows_at tz2 c e1 e2
          obtain ⟨b, rfl, hb⟩ := rows_at tz2 c e3 e4
          exact ⟨a, b, u, v, rfl, rfl, SqT.of (s' _ _ ha), SqT.of (s' _ _ hb), q⟩
        · have q := k H' ((s1.trans s2).trans s')
          rw [c, Bool.true_and] at q
          exact q
theorem scPart : FnScope ["events", "thing"] ["events", "thing"] (defScope sPart) := ⟨rfl, rfl, rfl, by decide +kernel, rfl, by decide +kernel, by decide +kernel⟩
theorem ok_part {f fA : Addr} {fd fdA : FuncData} (F : Fun K "_is_part" "_is_part" sPart f fd) (misi : mg "isinstance" = none) (mtup : mg "tuple" = none) (mlen : mg "len" = none)
    (GA : FnOk P w K mg base CX0 2 fA fdA ["events", "place", "operation", "answer"] spAns) (mA : mg "is_answer" = some (.ref fA)) (kA : PySem.W.keepIn K (.ref fA) = true) (bA : Binds K fdA ["events", "place", "operation", "answer"] []) : FnOk P w K mg base CX0 3 f fd ["events", "thing"] spPart := by
  refine F.ok scPart (fun vs H Q E h => ?_) (fun cdv A outer s H vs Q E hr h => ?_)
  · obtain ⟨N, R, v, d, sss, rfl, _⟩ := h
    rfl
  · obtain ⟨N, R, v, d, sss, rfl, et, hz, k⟩ := h
    refine ⟨_, (pss_one (ps_ret (pe_and (pe_callB call_isi (by rfl) misi boot_isinstance (pa_cons (pv 1) (pa_cons (pe_bltn (v := .ty "tuple") (by rfl) mtup PyProof.Rows.boot_tuple rfl) pa_nil))) (pe_and (pe_cmpR op_eq (pe_callB (r := rLenQ K) call_len_seq (by rfl) mlen PySem.boot_len (pa_cons (pv 1) pa_nil)) pe_int (nomark _)) (pe_one (pe_call GA hr (by rfl) mA kA bA .nil pass0 (pa_cons (pv 0) (pa_cons (pe_ix ix_tup (pv 1) pe_int (fun _ _ => rfl)) (pa_cons (pe_ix ix_tup (pv 1) pe_int (fun _ _ => rfl)) (pa_cons (pe_ix ix_tup (pv 1) pe_int (fun _ _ => rfl)) pa_nil)))))))))), ?_⟩
    have q0 := k H (Same.refl H)
    refine ⟨_, rfl, _, _, _, _, _, rfl, .ty "tuple", (hz).ty, kit_ty (kb_of _).1, _, rfl, ?_⟩
    cases e0 : isTup d with
    | false =>
      rw [show partB sss d = false from by cases d <;> first | rfl | cases e0] at q0
      exact iteF q0
    | true =>
    obtain ⟨t, xs, ds, rfl, rfl, ht, hs⟩ := tupz hz e0
    refine iteT ⟨_, rfl, t, _, rfl, .inr (SqT.of ht), rfl, _, rfl, ?_⟩
    have three : ∀ l : List V, l.length ≠ 3 → decide (V.int (l.length : Int) = V.int 3) = false := fun l h => decide_eq_false fun z => h (by have q := V.int.inj z; omega)
    cases hs with
    | nil => exact iteF q0
    | @cons v0 vr d0 dr z0 zr =>
    cases zr with
    | nil => exact iteF q0
    | @cons v1 vr d1 dr z1 zr =>
    cases zr with
    | nil => exact iteF q0
    | @cons v2 vr d2 dr z2 zr =>
    cases zr with
    | @cons v3 vr d3 dr z3 zr =>
      rw [three _ (by simp only [List.length_cons]; omega)]
      exact iteF q0
    | nil =>
    refine iteT ⟨_, rfl, _, rfl, t, _, 0, _, rfl, rfl, SqT.of ht, atI_nat (xs := [v0, v1, v2]) (j := 0) rfl, _, rfl, t, _, 1, _, rfl, rfl, SqT.of ht, atI_nat (xs := [v0, v1, v2]) (j := 1) rfl, _, rfl, t, _, 2, _, rfl, rfl, SqT.of ht, atI_nat (xs := [v0, v1, v2]) (j := 2) rfl, ?_⟩
    exact ⟨N, R, v0, v1, v2, d0, d1, d2, sss, rfl, et, z0, z1, z2, fun H' s' => k H' s'⟩
theorem scRow : FnScope ["events", "thing", "part"] ["events", "thing"] (defScope sRow) := ⟨rfl, rfl, rfl, by decide +kernel, rfl, by decide +kernel, by decide +kernel⟩
theorem ok_row {f fP : Addr} {fd fdP : FuncData} (F : Fun K "is_row" "is_row" sRow f fd) (misi : mg "isinstance" = none) (mtup : mg "tuple" = none) (mall : mg "all" = none)
    (GP : FnOk P w K mg base CX0 3 fP fdP ["events", "thing"] spPart) (mP : mg "_is_part" = some (.ref fP)) (kP : PySem.W.keepIn K (.ref fP) = true) (bP : Binds K fdP ["events", "thing"] []) : FnOk P w K mg base CX0 4 f fd ["events", "thing"] spRow := by
  refine F.ok scRow (fun vs H Q E h => ?_) (fun cdv A outer s H vs Q E hr h => ?_)
  · obtain ⟨N, R, v, d, sss, rfl, _⟩ := h
    rfl
  · obtain ⟨N, R, v, d, sss, rfl, et, hz, wid, k⟩ := h
    refine ⟨_, (pss_one (ps_ret (pe_and (pe_callB call_isi (by rfl) misi boot_isinstance (pa_cons (pv 1) (pa_cons (pe_bltn (v := .ty "tuple") (by rfl) mtup PyProof.Rows.boot_tuple rfl) pa_nil))) (pe_one (pe_callB (cr_all rfl) (by rfl) mall PyProof.Rows.boot_all (pa_cons (pe_lc (own := [("part", 2)]) (g := (gName 2)) (tt := tYes) rfl scRow.nd (pi_tup (pv 1)) (blkOk_by (N := ["events", "thing", "part"]) (sc := defScope sRow) (by decide +kernel)) (fun _ _ _ _ _ => pg_name (i := 2) scRow.nd rfl (Or.inl rfl)) (fun _ _ _ _ _ => pts_nil) (fun _ _ _ _ _ => (pe_call GP hr (by rfl) mP kP bP .nil pass0 (pa_cons (pv 0) (pa_cons (pv 2) pa_nil))))) pa_nil)))))), ?_⟩
    have q0 := k H (Same.refl H)
    refine ⟨_, rfl, _, _, _, _, _, rfl, .ty "tuple", (hz).ty, kit_ty (kb_of _).1, _, rfl, ?_⟩
    cases e0 : isTup d with
    | false =>
      rw [show rowB sss d = false from by cases d <;> first | rfl | cases e0] at q0
      exact iteF q0
    | true =>
    obtain ⟨t, xs, ds, rfl, rfl, ht, hs⟩ := tupz hz e0
    have l9 := wid ds rfl
    have lx := hs.len
    refine iteT ⟨_, rfl, t, rfl, ⟨_, SqT.of ht⟩, fun D hD => lc_tup (K := K) (a := t) (xs := xs) (fun i H2 => Same H H2 ∧ H2 D = some (.lst (((ds.map (partB sss)).take i).map V.bl))) ⟨same_new hD, by rw [List.take_zero]; exact upd_same⟩ (fun i H2 _ ⟨s2, _⟩ => SqT.of (s2 _ _ ht)) (fun i x H2 ex ⟨s2, d2⟩ => ?_) fun H2 ⟨s2, d2⟩ => ?_⟩
    · obtain ⟨d1, ed, zd⟩ := hs.at_ ex
      refine ⟨rfl, _, rfl, _, rfl, N, R, x, d1, sss, rfl, et.same s2, zd.same s2, fun H3 s4 => ⟨_, s4 _ _ d2, ?_, same_at (s2.trans s4) hD, ?_⟩⟩
      · rw [List.length_map, List.length_take, List.length_map]
        exact small_lt (m := 900) (by omega)
      · rw [upd_same, List.take_add_one, List.getElem?_map, ed, List.map_append]
        rfl
    · have e2 : (ds.map (partB sss)).take xs.length = ds.map (partB sss) := List.take_of_length_le (by rw [List.length_map]; omega)
      rw [e2] at d2
      refine ⟨D, _, rfl, SqL.of d2, ?_⟩
      rw [List.all_map]
      exact k H2 s2
abbrev nEnt : List Str := ["events", "thing", "number", "committed", "earlier", "row"]
theorem scEnt : FnScope nEnt ["events", "thing"] (defScope sEnt) := ⟨rfl, rfl, rfl, by decide +kernel, rfl, by decide +kernel, by decide +kernel⟩
theorem ok_ent {f fN fS fR : Addr} {fd fdN fdS fdR : FuncData} (F : Fun K "_is_entry" "_is_entry" sEnt f fd) (misi : mg "isinstance" = none) (mtup : mg "tuple" = none) (mlen : mg "len" = none) (mbool : mg "bool" = none)
    (GN : FnOk P w K mg base CX0 1 fN fdN ["thing"] spNum) (mN : mg "is_number" = some (.ref fN)) (kN : PySem.W.keepIn K (.ref fN) = true) (bN : Binds K fdN ["thing"] [])
    (GS : FnOk P w K mg base CX0 2 fS fdS ["thing"] spNums) (mS : mg "is_numbers" = some (.ref fS)) (kS : PySem.W.keepIn K (.ref fS) = true) (bS : Binds K fdS ["thing"] [])
    (GR : FnOk P w K mg base CX0 4 fR fdR ["events", "thing"] spRow) (mR : mg "is_row" = some (.ref fR)) (kR : PySem.W.keepIn K (.ref fR) = true) (bR : Binds K fdR ["events", "thing"] []) : FnOk P w K mg base CX0 5 f fd ["events", "thing"] spEnt := by
  refine F.ok scEnt (fun vs H Q E h => ?_) (fun cdv A outer s H vs Q E hr h => ?_)
  · obtain ⟨N, R, v, d, sss, rfl, _⟩ := h
    rfl
  · obtain ⟨N, R, v, d, sss, rfl, et, hz, sh, k⟩ := h
    have hr1 := hr.mono (show 1 ≤ 4 by omega)
    have hr2 := hr.mono (show 2 ≤ 4 by omega)
    refine ⟨_, (pss_cons (ps_if (PW.pt (pw_or (pt_not (pt_val (pe_callB call_isi (by rfl) misi boot_isinstance (pa_cons (pv 1) (pa_cons (pe_bltn (v := .ty "tuple") (by rfl) mtup PyProof.Rows.boot_tuple rfl) pa_nil))))) (pw_or1 (pt_cmpR op_ne (pe_callB (r := rLenQ K) call_len_seq (by rfl) mlen PySem.boot_len (pa_cons (pv 1) pa_nil)) pe_int (nomark _))))) (pss_one (ps_ret pe_bl)) pss_nil) (pss_cons (ps_asg (pv 1) (pg_tup (by rfl) (pgs_cons (pg_name (i := 2) scEnt.nd rfl (Or.inl rfl)) (pgs_cons (pg_name (i := 3) scEnt.nd rfl (Or.inl rfl)) (pgs_cons (pg_name (i := 4) scEnt.nd rfl (Or.inl rfl)) (pgs_cons (pg_name (i := 5) scEnt.nd rfl (Or.inl rfl)) pgs_nil)))))) (pss_cons (ps_if (PW.pt (pw_or (pt_not (pt_val (pe_call GN hr1 (by rfl) mN kN bN .nil pass0 (pa_cons (pv 2) pa_nil)))) (pw_or1 (pt_not (pt_val (pe_callB call_isi (by rfl) misi boot_isinstance (pa_cons (pv 3) (pa_cons (pe_bltn (v := .ty "bool") (by rfl) mbool PyProof.Rows.boot_bool rfl) pa_nil)))))))) (pss_one (ps_ret pe_bl)) pss_nil) (pss_one (ps_ret (pe_and (pe_call GS hr2 (by rfl) mS kS bS .nil pass0 (pa_cons (pv 4) pa_nil)) (pe_one (pe_call GR hr (by rfl) mR kR bR .nil pass0 (pa_cons (pv 0) (pa_cons (pv 5) pa_nil)))))))))), ?_⟩
    have q0 := k H (Same.refl H)
    refine ⟨_, rfl, _, _, _, _, _, rfl, .ty "tuple", (hz).ty, kit_ty (kb_of _).1, _, rfl, ?_⟩
    cases e0 : isTup d with
    | false =>
      rw [show enO sss d = none from by cases d <;> first | rfl | cases e0] at q0
      exact iteT (iteT q0)
    | true =>
    obtain ⟨t, xs, ds, rfl, rfl, ht, hs⟩ := tupz hz e0
    refine iteF ⟨_, rfl, t, _, rfl, .inr (SqT.of ht), rfl, _, rfl, ?_⟩
    have four : ∀ l : List V, l.length ≠ 4 → (!decide (V.int (l.length : Int) = V.int 4)) = true := fun l h => by
      rw [decide_eq_false fun z => h (by have q := V.int.inj z; omega)]
      rfl
    cases hs with
    | nil => exact iteT q0
    | @cons v0 vr d0 dr z0 zr =>
    cases zr with
    | nil => rw [show enO sss (.tuple [d0]) = none from by unfold enO; split <;> first | rfl | (rename_i e; simp at e)] at q0; exact iteT q0
    | @cons v1 vr d1 dr z1 zr =>
    cases zr with
    | nil => rw [show enO sss (.tuple [d0, d1]) = none from by unfold enO; split <;> first | rfl | (rename_i e; simp at e)] at q0; exact iteT q0
    | @cons v2 vr d2 dr z2 zr =>
    cases zr with
    | nil => rw [show enO sss (.tuple [d0, d1, d2]) = none from by unfold enO; split <;> first | rfl | (rename_i e; simp at e)] at q0; exact iteT q0
    | @cons v3 vr d3 dr z3 zr =>
    cases zr with
    | @cons v4 vr d4 dr z4 zr =>
      rw [four _ (by simp only [List.length_cons]; omega)]
      rw [show enO sss (.tuple (d0 :: d1 :: d2 :: d3 :: d4 :: dr)) = none from by unfold enO; split <;> first | rfl | (rename_i e; simp at e)] at q0
      exact iteT q0
    | nil =>
    refine iteF ⟨_, rfl, t, _, rfl, SqT.of ht, rfl, _, _, rfl, _, _, rfl, _, _, rfl, _, _, rfl, rfl, ?_⟩
    have none_ : (∀ n c, d0 = .int n → d1 = .bool c → (decide (0 ≤ n) && (numsB d2 && rowB sss d3)) = false) → enO sss (.tuple [d0, d1, d2, d3]) = none := fun g => by
      unfold enO
      split
      · rename_i e
        injection e with e
        injection e with e1 e
        injection e with e2 e
        injection e with e3 e
        injection e with e4 _
        subst e1 e2 e3 e4
        rw [g _ _ rfl rfl]
        rfl
      · rfl
    refine ⟨_, rfl, N, v0, d0, rfl, z0, _, rfl, ?_⟩
    cases n1 : numB d0 with
    | false =>
      rw [none_ fun n c e1 e2 => by rw [e1] at n1; rw [show decide (0 ≤ n) = false from n1]; rfl] at q0
      exact iteT (iteT q0)
    | true =>
    obtain ⟨n, rfl, rfl, n0⟩ := num_int z0 n1
    refine iteF ⟨_, rfl, _, _, _, _, _, rfl, .ty "bool", (z1).ty, kit_ty (kb_of _).2.2.2, _, rfl, ?_⟩
    cases n2 : isBl d1 with
    | false =>
      rw [none_ fun n c e1 e2 => by rw [e2] at n2; cases n2] at q0
      exact iteT q0
    | true =>
    obtain ⟨c, rfl⟩ : ∃ c, d1 = .bool c := by
      cases d1 with
      | bool c => exact ⟨c, rfl⟩
      | _ => cases n2
    refine iteF ⟨_, rfl, N, v2, d2, rfl, z2, (sh.part (List.mem_cons_of_mem _ (List.mem_cons_of_mem _ List.mem_cons_self))).wid, fun H1 s1 => ⟨_, rfl, ?_⟩⟩
    have isS : (enO sss (.tuple [.int n, .bool c, d2, d3])).isSome = (numsB d2 && rowB sss d3) := by
      show (if (decide (0 ≤ n) && (numsB d2 && rowB sss d3)) = true then some (n, c, rowI d2) else none).isSome = _
      rw [decide_eq_true n0, Bool.true_and]
      cases numsB d2 && rowB sss d3 <;> rfl
    rw [isS] at k
    cases c2 : numsB d2 with
    | false =>
      have q := k H1 s1
      rw [c2, Bool.false_and] at q
      exact iteF q
    | true =>
      refine iteT ⟨_, rfl, _, rfl, N, R, v3, d3, sss, rfl, et.same s1, z3.same s1, (sh.part (List.mem_cons_of_mem _ (List.mem_cons_of_mem _ (List.mem_cons_of_mem _ List.mem_cons_self)))).wid, fun H2 s2 => ?_⟩
      have q := k H2 (s1.trans s2)
      rw [c2, Bool.true_and] at q
      exact q
end
end My

-- ===== K13C2 =====
set_option Elab.async false
set_option linter.all false
set_option maxRecDepth 100000
set_option maxHeartbeats 4000000
namespace My
open PySem L2 PyProof.Rows PySem.Spec Kd StX ClX
def entsB (sss : List (List (List Stp))) : PyData → Bool
  | .tuple es => runX (enO sss) [] (-1) es
  | _ => false
def spEnts : Sp := fun vs H Q _ => ∃ (N : Addr → Prop) (R : Addr) (v : V) (d : PyData) (sss : List (List (List Stp))), vs = [.ref R, v] ∧ EvTab H R sss ∧ TZ N H v d ∧ Sht d ∧ ∀ H', Same H H' → Q (.bl (entsB sss d)) H'
def spIsLog (C : Addr) : Sp := fun vs H Q _ => ∃ (N : Addr → Prop) (sy : Addr) (v : V) (d : PyData) (hv : List V) (sss : List (List (List Stp))), vs = [.ref sy, v] ∧ H sy = some (.tup hv) ∧ HouseAt C H hv sss ∧ (∀ ss ∈ sss, KOk ss) ∧ sss.length ≤ 4 ∧ TZ N H v d ∧ Sht d ∧ ∀ H', Same H H' → Q (.bl (logB sss d)) H'
theorem enO_len {sss : List (List (List Stp))} {d : PyData} {n : Int} {c : Bool} {e : List Int} (h : Sht d) (q : enO sss d = some (n, c, e)) : e.length ≤ 60 := by
  unfold enO at q
  split at q
  · rename_i n' c' de dr
    split at q
    · cases q
      have s := h.part (d := de) (List.mem_cons_of_mem _ (List.mem_cons_of_mem _ List.mem_cons_self))
      cases de with
      | tuple ds =>
        show (ds.map iOf).length ≤ 60
        rw [List.length_map]
        exact s.len
      | _ => exact Nat.zero_le _
    · cases q
  · cases q
theorem enO_first {N : Addr → Prop} {H : Hp} {v : V} {d : PyData} {sss : List (List (List Stp))} (h : TZ N H v d) (q : (enO sss d).isSome = true) : ∃ (t : Addr) (n : Int) (xs : List V) (x : Int × Bool × List Int), v = .ref t ∧ H t = some (.tup (.int n :: xs)) ∧ 0 ≤ n ∧ enO sss d = some x ∧ x.1 = n := by
  obtain ⟨⟨n, c, e⟩, q⟩ := Option.isSome_iff_exists.mp q
  obtain ⟨⟨t, te, vr, e1, e2, _⟩, n0, _, _⟩ := en_at h q
  exact ⟨t, n, _, _, e1, e2, n0, q, rfl⟩
theorem fm_at {sss : List (List (List Stp))} : ∀ {ds : List PyData}, ds.all (fun d => (enO sss d).isSome) = true → (ds.filterMap (enO sss)).length = ds.length ∧ ∀ (i : Nat) (d : PyData) (x : Int × Bool × List Int), ds[i]? = some d → enO sss d = some x → (ds.filterMap (enO sss))[i]? = some x
  | [], _ => ⟨rfl, fun i d x e => by simp at e⟩
  | d0 :: ds, c => by
    rw [List.all_cons, Bool.and_eq_true] at c
    obtain ⟨y, q⟩ := Option.isSome_iff_exists.mp c.1
    obtain ⟨ih1, ih2⟩ := fm_at c.2
    rw [List.filterMap_cons, q]
    refine ⟨by rw [List.length_cons, List.length_cons, ih1], fun i d x e1 e2 => ?_⟩
    cases i with
    | zero =>
      cases Option.some.inj e1
      rw [q] at e2
      exact e2
    | succ i => exact ih2 i d x e1 e2
theorem and_mask {a b : Nat} : Builtin.bitAnd (a : Int) (b : Int) = ((a &&& b : Nat) : Int) := PySem.W.os_band a b
section
variable {P : Program} {w : World} {K : PySem.W.Frag} {mg : Str → Option Value} {base : Heap} {C : Addr}
abbrev nCl : List Str := ["entries", "bits", "before", "number", "committed", "earlier", "_", "other", "mask"]
theorem scCl : FnScope nCl ["entries"] (defScope sClosed) := ⟨rfl, rfl, rfl, by decide +kernel, rfl, by decide +kernel, by decide +kernel⟩
theorem ok_closed {f : Addr} {fd : FuncData} (F : Fun K "_is_closed" "_is_closed" sClosed f fd) (mall : mg "all" = none) (msum : mg "sum" = none) (mlen : mg "len" = none) : FnOk P w K mg base CX0 1 f fd ["entries"] spClosed := by
  refine F.ok scCl (fun vs H Q E h => ?_) (fun cdv A outer s H vs Q E hr h => ?_)
  · obtain ⟨t, xs, es, rfl, _⟩ := h
    rfl
  · obtain ⟨t, xs, es, rfl, ht, l60, en, asc, sml, k⟩ := h
    have hu := hr.units
    have hu1 : (A.deeper (envOfC "_is_closed" (defScope sClosed) s.heap.objs.size f cdv)).units + 1 < cLine := by omega
    have hu0 : (A.deeper (envOfC "_is_closed" (defScope sClosed) s.heap.objs.size f cdv)).units < cLine := by omega
    refine ⟨_, (pss_cons (ps_set (i := 1) scCl.nd rfl (Or.inr rfl) pe_dnewK) (pss_cons (ps_set (i := 2) scCl.nd rfl (Or.inr rfl) pe_dnewK) (pss_cons (ps_for PassesOwn.never rfl (pi_tup (pv 0)) (pg_tup (by rfl) (pgs_cons (pg_name (i := 3) scCl.nd rfl (Or.inl rfl)) (pgs_cons (pg_name (i := 4) scCl.nd rfl (Or.inl rfl)) (pgs_cons (pg_name (i := 5) scCl.nd rfl (Or.inl rfl)) (pgs_cons (pg_name (i := 6) scCl.nd rfl (Or.inl rfl)) pgs_nil))))) (pss_cons (ps_if (pt_not (pt_val (pe_callB (cr_all rfl) (by rfl) mall PyProof.Rows.boot_all (pa_cons (pe_lc (own := [("other", 7)]) (g := (gName 7)) (tt := tYes) rfl scCl.nd (pi_tup (pv 5)) (blkOk_by (N := nCl) (sc := defScope sClosed) (by decide +kernel)) (fun _ _ _ _ _ => pg_name (i := 7) scCl.nd rfl (Or.inl rfl)) (fun _ _ _ _ _ => pts_nil) (fun _ _ _ _ _ => (pe_cmp (pc_din hu1 (pv 7) (pv 1))))) pa_nil)))) (pss_one (ps_ret pe_bl)) pss_nil) (pss_cons (ps_set (i := 8) scCl.nd rfl (Or.inr rfl) (pe_callB (cr_sum rfl) (by rfl) msum PyProof.Rows.boot_sum (pa_cons (pe_lc (own := [("other", 7)]) (g := (gName 7)) (tt := tYes) rfl scCl.nd (pi_tup (pv 5)) (blkOk_by (N := nCl) (sc := defScope sClosed) (by decide +kernel)) (fun _ _ _ _ _ => pg_name (i := 7) scCl.nd rfl (Or.inl rfl)) (fun _ _ _ _ _ => pts_nil) (fun _ _ _ _ _ => (pe_dget hu1 (pv 1) (pv 7) (fun _ _ => rfl)))) pa_nil))) (pss_cons (ps_if (pt_not (pt_val (pe_callB (cr_all rfl) (by rfl) mall PyProof.Rows.boot_all (pa_cons (pe_lc (own := [("other", 7)]) (g := (gName 7)) (tt := tYes) rfl scCl.nd (pi_tup (pv 5)) (blkOk_by (N := nCl) (sc := defScope sClosed) (by decide +kernel)) (fun _ _ _ _ _ => pg_name (i := 7) scCl.nd rfl (Or.inl rfl)) (fun _ _ _ _ _ => pts_nil) (fun _ _ _ _ _ => (pe_cmpR op_eq (pe_op op_and (pe_dget hu1 (pv 2) (pv 7) (fun _ _ => rfl)) (pv 8)) (pe_dget hu1 (pv 2) (pv 7) (fun _ _ => rfl)) (nomark _)))) pa_nil)))) (pss_one (ps_ret pe_bl)) pss_nil) (pss_one (ps_if (pt_val (pv 4)) (pss_cons (ps_dput hu1 (pv 1) (pv 3) (pe_op op_shl pe_int (pe_callB call_lenD (by rfl) mlen PySem.boot_len (pa_cons (pv 1) pa_nil))) (by rfl)) (pss_one (ps_dput hu1 (pv 2) (pv 3) (pv 8) (by rfl)))) pss_nil)))))) (pss_one (ps_ret pe_bl))))), ?_⟩
    have lz := en.len
    have pw := (asc_pw ltI_tr _).mp asc
    intro b hb
    intro m hm
    have s1 := same_new (o := .dK []) hb
    have s2 := same_new (o := .dK []) hm
    have nb : m ≠ b := fun z => by rw [z, upd_same] at hm; cases hm
    have fm : H m = none := s1.free hm
    have hb0 : (upd (upd H b (.dK [])) m (.dK [])) b = some (.dK []) := s2 _ _ upd_same
    have hm0 : (upd (upd H b (.dK [])) m (.dK [])) m = some (.dK []) := upd_same
    have s12 := s1.trans s2
    generalize upd (upd H b (.dK [])) m (.dK []) = H0 at s12 hb0 hm0 ⊢
    refine ⟨_, rfl, t, rfl, ⟨_, SqT.of (s12 _ _ ht)⟩, for_tup (K := K) (a := t) (xs := xs) (fun i σ H3 => ∃ (o3 o4 o5 o6 o8 : Option V) (B : List (Int × List Int)) (kb km : List (Key × V)), σ = [some (.ref t), some (.ref b), some (.ref m), o3, o4, o5, o6, none, o8] ∧ Same H H3 ∧ H3 b = some (.dK kb) ∧ H3 m = some (.dK km) ∧ CI B ∧ MI B kb km ∧ B.length ≤ i ∧
        (∀ (j : Nat) (x : Int × Bool × List Int) (k : Int), i ≤ j → es[j]? = some x → k ∈ B.map Prod.fst → k < x.1) ∧ closedX B (es.drop i) = closedX [] es)
      ⟨none, none, none, none, none, [], [], [], rfl, s12, hb0, hm0, CI.nil, MI.nil, Nat.le_refl _, (fun j x k _ _ z => nomatch z), by rw [List.drop_zero]⟩ (fun i σ H3 _ ⟨_, _, _, _, _, _, _, _, _, s3, _⟩ => SqT.of (s3 _ _ ht)) ?_ ?_⟩
    · rintro i x σ H3 ex ⟨o3, o4, o5, o6, o8, B, kb, km, rfl, s3, b3, m3, ci, mi, Bl, below, run⟩
      have lt := (List.getElem?_eq_some_iff.mp ex).1
      obtain ⟨n, c, e, ee, en_⟩ := (en.same s3).at_ i x ex
      have nde := en_.nodup
      have le60 : e.length ≤ 60 := sml _ (List.mem_of_getElem? ee)
      obtain ⟨⟨tx, te, vr, rfl, htx, hte⟩, n0, _, _⟩ := en_
      have dr : es.drop i = (n, c, e) :: es.drop (i + 1) := by
        have l2 := (List.getElem?_eq_some_iff.mp ee).1
        rw [List.drop_eq_getElem_cons l2, (List.getElem?_eq_some_iff.mp ee).2]
      rw [dr] at run
      have run2 : (clo B e && closedX (if c = true then B ++ [(n, e)] else B) (es.drop (i + 1))) = closedX [] es := run
      have no : clo B e = false → ∀ H4, Same H3 H4 → Q (.bl false) H4 := fun z H4 s4 => by
        have q := k H4 (s3.trans s4)
        rw [z, Bool.false_and] at run2
        rwa [← run2] at q
      have hn : n ∉ B.map Prod.fst := fun z => absurd (below i _ n (Nat.le_refl _) ee z) (Int.lt_irrefl _)
      refine ⟨tx, _, rfl, SqT.of htx, rfl, _, _, rfl, _, _, rfl, _, _, rfl, _, _, rfl, rfl, ?_⟩
      have le : (e.map V.int).length = e.length := List.length_map ..
      -- all in bits
      refine ⟨_, rfl, te, rfl, ⟨_, SqT.of hte⟩, fun D hD => lc_tup (K := K) (a := te) (xs := e.map V.int) (fun j H4 => Same H3 H4 ∧ H4 D = some (.lst (((e.map fun k => decide (k ∈ B.map Prod.fst)).take j).map V.bl))) ⟨same_new hD, by rw [List.take_zero]; exact upd_same⟩ (fun j H4 _ ⟨s4, _⟩ => SqT.of (s4 _ _ hte)) (fun j y H4 ey ⟨s4, d4⟩ => ?_) fun H4 ⟨s4, d4⟩ => ?_⟩
      · rw [List.getElem?_map] at ey
        obtain ⟨ky, ek, rfl⟩ := Option.map_eq_some_iff.mp ey
        have lj := (List.getElem?_eq_some_iff.mp ek).1
        refine ⟨rfl, _, rfl, _, rfl, b, _, rfl, DGet.k (k := Sum.inl ky) (s4 _ _ b3), _, d4, ?_, same_at s4 hD, ?_⟩
        · rw [List.length_map, List.length_take]
          exact small_lt (m := 60) (by omega)
        · rw [upd_same, List.take_add_one, List.getElem?_map, ek, List.map_append, mi.b]
          by_cases z : ky ∈ B.map Prod.fst
          · rw [if_pos z]
            show _ = some (HO.lst (_ ++ [V.bl (decide (ky ∈ B.map Prod.fst))]))
            rw [decide_eq_true z]
            rfl
          · rw [if_neg z]
            show _ = some (HO.lst (_ ++ [V.bl (decide (ky ∈ B.map Prod.fst))]))
            rw [decide_eq_false z]
            rfl
      have e2 : (e.map fun k => decide (k ∈ B.map Prod.fst)).take (e.map V.int).length = e.map fun k => decide (k ∈ B.map Prod.fst) := List.take_of_length_le (by rw [List.length_map, List.length_map]; exact Nat.le_refl _)
      rw [e2] at d4
      refine ⟨D, _, rfl, SqL.of d4, _, rfl, ?_⟩
      rw [List.all_map]
      cases c1 : e.all (id ∘ fun k => decide (k ∈ B.map Prod.fst)) with
      | false =>
        refine iteT (no ?_ H4 s4)
        refine Bool.eq_false_iff.mpr fun z => ?_
        have c1 : (e.all fun k => decide (k ∈ B.map Prod.fst)) = false := c1
        rw [List.all_eq_true.mpr fun k m => decide_eq_true (clo_sub z k m)] at c1
        cases c1
      | true =>
      have sub : ∀ j ∈ e, j ∈ B.map Prod.fst := fun j mj => of_decide_eq_true (List.all_eq_true.mp c1 j mj)
      have hte4 := s4 _ _ hte
      -- the mask
      refine iteF ⟨_, rfl, te, rfl, ⟨_, SqT.of hte4⟩, fun D2 hD2 => lc_tup (K := K) (a := te) (xs := e.map V.int) (fun j H5 => Same H4 H5 ∧ H5 D2 = some (.lst (((e.map fun k => ((2 ^ ix B k : Nat) : Int)).take j).map V.int))) ⟨same_new hD2, by rw [List.take_zero]; exact upd_same⟩ (fun j H5 _ ⟨s5, _⟩ => SqT.of (s5 _ _ hte4)) (fun j y H5 ey ⟨s5, d5⟩ => ?_) fun H5 ⟨s5, d5⟩ => ?_⟩
      · rw [List.getElem?_map] at ey
        obtain ⟨ky, ek, rfl⟩ := Option.map_eq_some_iff.mp ey
        have lj := (List.getElem?_eq_some_iff.mp ek).1
        have at_ : DGet H5 b (.int ky) (some (.int ((2 ^ ix B ky : Nat) : Int))) := by
          have z := DGet.k (k := Sum.inl ky) (s5 _ _ (s4 _ _ b3))
          rw [mi.b, if_pos (sub ky (List.mem_of_getElem? ek))] at z
          exact z
        refine ⟨rfl, _, rfl, _, rfl, b, _, rfl, at_, _, d5, ?_, same_at s5 hD2, ?_⟩
        · rw [List.length_map, List.length_take]
          exact small_lt (m := 60) (by omega)
        · rw [upd_same, List.take_add_one, List.getElem?_map, ek, List.map_append]
          rfl
      have e3 : (e.map fun k => ((2 ^ ix B k : Nat) : Int)).take (e.map V.int).length = e.map fun k => ((2 ^ ix B k : Nat) : Int) := List.take_of_length_le (by rw [List.length_map, List.length_map]; exact Nat.le_refl _)
      rw [e3] at d5
      refine ⟨D2, _, rfl, SqL.of d5, ?_⟩
      rw [msk_sum]
      have s45 := s4.trans s5
      have hte5 := s45 _ _ hte
      have b5 := s45 _ _ b3
      have m5 := s45 _ _ m3
      -- all within
      refine ⟨_, rfl, te, rfl, ⟨_, SqT.of hte5⟩, fun D3 hD3 => lc_tup (K := K) (a := te) (xs := e.map V.int) (fun j H6 => Same H5 H6 ∧ H6 D3 = some (.lst (((e.map fun k => match lk B k with
          | some f => f.all fun j => decide (j ∈ e)
          | none => false).take j).map V.bl))) ⟨same_new hD3, by rw [List.take_zero]; exact upd_same⟩ (fun j H6 _ ⟨s6, _⟩ => SqT.of (s6 _ _ hte5)) (fun j y H6 ey ⟨s6, d6⟩ => ?_) fun H6 ⟨s6, d6⟩ => ?_⟩
      · rw [List.getElem?_map] at ey
        obtain ⟨ky, ek, rfl⟩ := Option.map_eq_some_iff.mp ey
        have lj := (List.getElem?_eq_some_iff.mp ek).1
        obtain ⟨g, eg⟩ := lk_yes (sub ky (List.mem_of_getElem? ek))
        have at_ : DGet H6 m (.int ky) (some (.int ((msk B g : Nat) : Int))) := by
          have z := DGet.k (k := Sum.inl ky) (s6 _ _ m5)
          rw [mi.m, eg] at z
          exact z
        obtain ⟨ndg, subg⟩ := ci.en ky g (lk_mem eg)
        refine ⟨rfl, _, rfl, _, rfl, m, _, rfl, at_, _, rfl, _, _, rfl, rfl, _, rfl, _, rfl, m, _, rfl, at_, rfl, _, d6, ?_, same_at s6 hD3, ?_⟩
        · rw [List.length_map, List.length_take]
          exact small_lt (m := 60) (by omega)
        · rw [upd_same, List.take_add_one, List.getElem?_map, ek, List.map_append]
          show some (HO.lst (_ ++ [V.bl (decide (V.int (Builtin.bitAnd ((msk B g : Nat) : Int) ((msk B e : Nat) : Int)) = V.int ((msk B g : Nat) : Int)))])) = some (HO.lst (_ ++ [V.bl (match lk B ky with
            | some f => f.all fun j => decide (j ∈ e)
            | none => false)]))
          rw [and_mask]
          have z : decide (V.int ((msk B g &&& msk B e : Nat) : Int) = V.int ((msk B g : Nat) : Int)) = decide (msk B g &&& msk B e = msk B g) := decide_eq_decide.mpr ⟨fun z => by have q := V.int.inj z; omega, fun z => by rw [z]⟩
          rw [eg, z, msk_sub nde ndg sub subg]
      have e4 : (e.map fun k => match lk B k with
          | some f => f.all fun j => decide (j ∈ e)
          | none => false).take (e.map V.int).length = e.map fun k => match lk B k with
          | some f => f.all fun j => decide (j ∈ e)
          | none => false := List.take_of_length_le (by rw [List.length_map, List.length_map]; exact Nat.le_refl _)
      rw [e4] at d6
      have s36 := s45.trans s6
      refine ⟨D3, _, rfl, SqL.of d6, _, rfl, ?_⟩
      rw [List.all_map, show (e.all (id ∘ fun k => match lk B k with
          | some f => f.all fun j => decide (j ∈ e)
          | none => false)) = clo B e from rfl]
      cases c2 : clo B e with
      | false => exact iteT (no c2 H6 s36)
      | true =>
      rw [c2, Bool.true_and] at run2
      have b6 := s36 _ _ b3
      have m6 := s36 _ _ m3
      refine iteF ⟨_, rfl, _, rfl, ?_⟩
      cases c with
      | false =>
        refine iteF ⟨_, _, _, _, _, B, kb, km, rfl, s3.trans s36, b6, m6, ci, mi, by omega, fun j x k ij => below j x k (by omega), ?_⟩
        exact run2
      | true =>
        refine iteT ⟨_, rfl, b, kb, rfl, b6, _, _, rfl, rfl, ⟨by omega, ?_, by decide⟩, _, rfl, _, rfl, b, _, rfl, DPut.k (k := Sum.inl n) b6 ?_, ?_⟩
        · have := mi.len
          omega
        · have := mi.len
          exact small_lt (m := 60) (by omega)
        have m7 : (upd H6 b (.dK (putK kb (Sum.inl n) (.int (1 * 2 ^ ((kb.length : Int)).toNat))))) m = some (.dK km) := by rw [upd_ne nb]; exact m6
        refine ⟨_, rfl, _, rfl, _, rfl, m, _, rfl, DPut.k (k := Sum.inl n) m7 ?_, ?_⟩
        · have := mi.len2
          exact small_lt (m := 60) (by omega)
        have mi2 := mi.put ci hn sub
        rw [← mi.len] at mi2
        have ev : (1 * 2 ^ ((kb.length : Int)).toNat : Int) = ((2 ^ kb.length : Nat) : Int) := by
          rw [Int.one_mul, Int.toNat_natCast]
          simp
        dsimp only
        rw [ev]
        refine ⟨_, _, _, _, _, B ++ [(n, e)], _, _, rfl, fun a o q => ?_, by rw [upd_ne (Ne.symm nb)]; exact upd_same, upd_same, ci.put hn nde sub, mi2, by rw [List.length_append, List.length_singleton]; omega, fun j x k ij ej mk => ?_, run2⟩
        · have na : a ≠ b := fun z => by rw [z, hb] at q; cases q
          have nm : a ≠ m := fun z => by rw [z, fm] at q; cases q
          rw [upd_ne nm, upd_ne na]
          exact s36 _ _ (s3 _ _ q)
        · rw [List.map_append] at mk
          rcases List.mem_append.mp mk with mk | mk
          · exact below j x k (by omega) ej mk
          · rw [List.mem_singleton.mp mk]
            have f1 : (es.map Prod.fst)[i]? = some n := by rw [List.getElem?_map, ee]; rfl
            have f2 : (es.map Prod.fst)[j]? = some x.1 := by rw [List.getElem?_map, ej]; rfl
            obtain ⟨l1, g1⟩ := List.getElem?_eq_some_iff.mp f1
            obtain ⟨l2, g2⟩ := List.getElem?_eq_some_iff.mp f2
            have q := List.pairwise_iff_getElem.mp pw i j l1 l2 (by omega)
            rw [g1, g2] at q
            exact of_decide_eq_true q
    · rintro σ H3 ⟨o3, o4, o5, o6, o8, B, kb, km, rfl, s3, b3, m3, ci, mi, Bl, below, run⟩
      rw [lz, List.drop_length] at run
      have q := k H3 s3
      rw [← run] at q
      exact q
theorem scEnts : FnScope ["events", "thing", "entry"] ["events", "thing"] (defScope sEnts) := ⟨rfl, rfl, rfl, by decide +kernel, rfl, by decide +kernel, by decide +kernel⟩
theorem ok_ents {f fE fS fC : Addr} {fd fdE fdS fdC : FuncData} (F : Fun K "_is_entries" "_is_entries" sEnts f fd) (misi : mg "isinstance" = none) (mtup : mg "tuple" = none) (mall : mg "all" = none)
    (GE : FnOk P w K mg base CX0 5 fE fdE ["events", "thing"] spEnt) (mE : mg "_is_entry" = some (.ref fE)) (kE : PySem.W.keepIn K (.ref fE) = true) (bE : Binds K fdE ["events", "thing"] [])
    (GS : FnOk P w K mg base CX0 2 fS fdS ["thing"] spNums) (mS : mg "is_numbers" = some (.ref fS)) (kS : PySem.W.keepIn K (.ref fS) = true) (bS : Binds K fdS ["thing"] [])
    (GC : FnOk P w K mg base CX0 1 fC fdC ["entries"] spClosed) (mC : mg "_is_closed" = some (.ref fC)) (kC : PySem.W.keepIn K (.ref fC) = true) (bC : Binds K fdC ["entries"] []) : FnOk P w K mg base CX0 6 f fd ["events", "thing"] spEnts := by
  refine F.ok scEnts (fun vs H Q E h => ?_) (fun cdv A outer s H vs Q E hr h => ?_)
  · obtain ⟨N, R, v, d, sss, rfl, _⟩ := h
    rfl
  · obtain ⟨N, R, v, d, sss, rfl, et, hz, sh, k⟩ := h
    have hr1 := hr.mono (show 1 ≤ 5 by omega)
    have hr2 := hr.mono (show 2 ≤ 5 by omega)
    refine ⟨_, (pss_cons (ps_if (PW.pt (pw_or (pt_not (pt_val (pe_callB call_isi (by rfl) misi boot_isinstance (pa_cons (pv 1) (pa_cons (pe_bltn (v := .ty "tuple") (by rfl) mtup PyProof.Rows.boot_tuple rfl) pa_nil))))) (pw_or1 (pt_not (pt_val (pe_callB (cr_all rfl) (by rfl) mall PyProof.Rows.boot_all (pa_cons (pe_lc (own := [("entry", 2)]) (g := (gName 2)) (tt := tYes) rfl scEnts.nd (pi_tup (pv 1)) (blkOk_by (N := ["events", "thing", "entry"]) (sc := defScope sEnts) (by decide +kernel)) (fun _ _ _ _ _ => pg_name (i := 2) scEnts.nd rfl (Or.inl rfl)) (fun _ _ _ _ _ => pts_nil) (fun _ _ _ _ _ => (pe_call GE hr (by rfl) mE kE bE .nil pass0 (pa_cons (pv 0) (pa_cons (pv 2) pa_nil))))) pa_nil))))))) (pss_one (ps_ret pe_bl)) pss_nil) (pss_one (ps_ret (pe_and (pe_call GS hr2 (by rfl) mS kS bS .nil pass0 (pa_cons (pe_callTy call_tuple_of (by rfl) mtup (by decide +kernel) (pa_cons (pe_lc (own := [("entry", 2)]) (g := (gName 2)) (tt := tYes) rfl scEnts.nd (pi_tup (pv 1)) (blkOk_by (N := ["events", "thing", "entry"]) (sc := defScope sEnts) (by decide +kernel)) (fun _ _ _ _ _ => pg_name (i := 2) scEnts.nd rfl (Or.inl rfl)) (fun _ _ _ _ _ => pts_nil) (fun _ _ _ _ _ => (pe_ix (r := rIxT K) ix_tup (pv 2) pe_int (fun _ _ => rfl)))) pa_nil)) pa_nil)) (pe_one (pe_call GC hr1 (by rfl) mC kC bC .nil pass0 (pa_cons (pv 1) pa_nil))))))), ?_⟩
    refine ⟨_, rfl, _, _, _, _, _, rfl, .ty "tuple", (hz).ty, kit_ty (kb_of _).1, _, rfl, ?_⟩
    cases e0 : isTup d with
    | false =>
      refine iteT (iteT ?_)
      cases d with
      | tuple _ => cases e0
      | _ => exact k H (Same.refl H)
    | true =>
    obtain ⟨t, xs, ds, rfl, rfl, ht, tz⟩ := tupz hz e0
    have l9 := sh.len
    have lx := tz.len
    have k : ∀ H', Same H H' → Q (.bl (ds.all (fun d => (enO sss d).isSome) && (ascF (-1) ((ds.filterMap (enO sss)).map Prod.fst) && closedX [] (ds.filterMap (enO sss))))) H' := fun H' s => by
      rw [← runX_all]
      exact k H' s
    refine iteF ⟨_, rfl, t, rfl, ⟨_, SqT.of ht⟩, fun D hD => lc_tup (K := K) (a := t) (xs := xs) (fun i H2 => Same H H2 ∧ H2 D = some (.lst (((ds.map fun d => (enO sss d).isSome).take i).map V.bl))) ⟨same_new hD, by rw [List.take_zero]; exact upd_same⟩ (fun i H2 _ ⟨s2, _⟩ => SqT.of (s2 _ _ ht)) (fun i x H2 ex ⟨s2, d2⟩ => ?_) fun H2 ⟨s2, d2⟩ => ?_⟩
    · obtain ⟨d1, ed, zd⟩ := tz.at_ ex
      refine ⟨rfl, _, rfl, _, rfl, N, R, x, d1, sss, rfl, et.same s2, zd.same s2, sh.part (List.mem_of_getElem? ed), fun H3 s4 => ⟨_, s4 _ _ d2, ?_, same_at (s2.trans s4) hD, ?_⟩⟩
      · rw [List.length_map, List.length_take, List.length_map]
        exact small_lt (m := 60) (by omega)
      · rw [upd_same, List.take_add_one, List.getElem?_map, ed, List.map_append]
        rfl
    have e2 : (ds.map fun d => (enO sss d).isSome).take xs.length = ds.map fun d => (enO sss d).isSome := List.take_of_length_le (by rw [List.length_map]; omega)
    rw [e2] at d2
    refine ⟨D, _, rfl, SqL.of d2, _, rfl, ?_⟩
    rw [List.all_map]
    cases c : ds.all (id ∘ fun d => (enO sss d).isSome) with
    | false =>
      have q := k H2 s2
      rw [show ds.all (fun d => (enO sss d).isSome) = false from c, Bool.false_and] at q
      exact iteT q
    | true =>
    have c' : ds.all (fun d => (enO sss d).isSome) = true := c
    rw [c', Bool.true_and] at k
    obtain ⟨fl, fa⟩ := fm_at c'
    have ht2 := s2 _ _ ht
    have tz2 := tz.same s2
    refine iteF ⟨_, rfl, t, rfl, ⟨_, SqT.of ht2⟩, fun D2 hD2 => lc_tup (K := K) (a := t) (xs := xs) (fun i H3 => Same H2 H3 ∧ H3 D2 = some (.lst ((((ds.filterMap (enO sss)).map Prod.fst).take i).map V.int))) ⟨same_new hD2, by rw [List.take_zero]; exact upd_same⟩ (fun i H3 _ ⟨s3, _⟩ => SqT.of (s3 _ _ ht2)) (fun i x H3 ex ⟨s3, d3⟩ => ?_) fun H3 ⟨s3, d3⟩ => ?_⟩
    · obtain ⟨d1, ed, zd⟩ := (tz2.same s3).at_ ex
      obtain ⟨tx, n, ys, y, rfl, htx, _, q, rfl⟩ := enO_first zd (List.all_eq_true.mp c' d1 (List.mem_of_getElem? ed))
      have ey := fa i d1 y ed q
      refine ⟨rfl, _, rfl, tx, _, 0, _, rfl, rfl, SqT.of htx, atI_nat (xs := V.int y.1 :: ys) (j := 0) rfl, _, d3, ?_, same_at s3 hD2, ?_⟩
      · rw [List.length_map, List.length_take, List.length_map]
        exact small_lt (m := 60) (by omega)
      · rw [upd_same, List.take_add_one, List.getElem?_map, ey, List.map_append]
        rfl
    have e3 : ((ds.filterMap (enO sss)).map Prod.fst).take xs.length = (ds.filterMap (enO sss)).map Prod.fst := List.take_of_length_le (by rw [List.length_map]; omega)
    rw [e3] at d3
    refine ⟨D2, _, rfl, .inl ⟨SqL.of d3, fun q hq => ?_⟩⟩
    have sq := same_new (o := .tup (((ds.filterMap (enO sss)).map Prod.fst).map V.int)) hq
    have hq2 : (upd H3 q (.tup (((ds.filterMap (enO sss)).map Prod.fst).map V.int))) q = some (.tup (((ds.filterMap (enO sss)).map Prod.fst).map V.int)) := upd_same
    generalize upd H3 q (.tup (((ds.filterMap (enO sss)).map Prod.fst).map V.int)) = H4 at sq hq2 ⊢
    have pos : ∀ x ∈ (ds.filterMap (enO sss)).map Prod.fst, 0 ≤ x := fun x mx => by
      obtain ⟨y, my, rfl⟩ := List.mem_map.mp mx
      obtain ⟨i, ei⟩ := List.mem_iff_getElem?.mp my
      have li := (List.getElem?_eq_some_iff.mp ei).1
      obtain ⟨d1, ed⟩ : ∃ d1, ds[i]? = some d1 := ⟨_, List.getElem?_eq_getElem (by omega)⟩
      obtain ⟨x1, ex1⟩ : ∃ x1, xs[i]? = some x1 := ⟨_, List.getElem?_eq_getElem (by omega)⟩
      obtain ⟨d2, ed2, zd⟩ := tz.at_ ex1
      rw [ed] at ed2
      cases ed2
      obtain ⟨_, n, _, y2, _, _, n0, q2, e⟩ := enO_first zd (List.all_eq_true.mp c' d1 (List.mem_of_getElem? ed))
      have z := fa i d1 y2 ed q2
      rw [ei] at z
      rw [Option.some.inj z, e]
      exact n0
    rw [ascF_start _ pos] at k
    have zn : TZs N H4 (((ds.filterMap (enO sss)).map Prod.fst).map V.int) (((ds.filterMap (enO sss)).map Prod.fst).map PyData.int) := by
      generalize (ds.filterMap (enO sss)).map Prod.fst = l
      induction l with
      | nil => exact .nil
      | cons a l ih => exact .cons (.int a) ih
    have nb : numsB (.tuple (((ds.filterMap (enO sss)).map Prod.fst).map PyData.int)) = ascL ltI ((ds.filterMap (enO sss)).map Prod.fst) := by
      show ((((ds.filterMap (enO sss)).map Prod.fst).map PyData.int).all numB && ascL ltI ((((ds.filterMap (enO sss)).map Prod.fst).map PyData.int).map iOf)) = _
      rw [show (((ds.filterMap (enO sss)).map Prod.fst).map PyData.int).all numB = true from List.all_eq_true.mpr fun x mx => by
        obtain ⟨i, mi, rfl⟩ := List.mem_map.mp mx
        exact decide_eq_true (pos i mi), Bool.true_and, List.map_map]
      congr 1
      exact (List.map_congr_left fun i _ => rfl).trans (List.map_id _)
    refine ⟨N, .ref q, _, rfl, .tup hq2 zn, fun ds' e' => ?_, fun H5 s5 => ⟨_, rfl, ?_⟩⟩
    · injection e' with e'
      rw [← e', List.length_map, List.length_map]
      omega
    rw [nb]
    have s35 := s3.trans (sq.trans s5)
    cases c3 : ascL ltI ((ds.filterMap (enO sss)).map Prod.fst) with
    | false =>
      have q := k H5 (s2.trans s35)
      rw [c3, Bool.false_and] at q
      exact iteF q
    | true =>
      rw [c3, Bool.true_and] at k
      refine iteT ⟨_, rfl, t, xs, _, rfl, s35 _ _ ht2, by omega, ens_of (tz2.same s35) c', c3, fun x mx => ?_, fun H6 s6 => k H6 (s2.trans (s35.trans s6))⟩
      obtain ⟨d1, md, e1⟩ := List.mem_filterMap.mp mx
      obtain ⟨a1, a2, a3⟩ := x
      exact enO_len (sh.part md) e1
theorem scIl : FnScope ["system", "thing"] ["system", "thing"] (defScope sIsLog) := ⟨rfl, rfl, rfl, by decide +kernel, rfl, by decide +kernel, by decide +kernel⟩
theorem ok_islog {f fS fV fE : Addr} {fd fdS fdV fdE : FuncData} (F : Fun K "is_log" "is_log" sIsLog f fd) (misi : mg "isinstance" = none) (mtup : mg "tuple" = none) (mlen : mg "len" = none)
    (GS : FnOk P w K mg base CX0 5 fS fdS ["system", "thing"] (spStarts C)) (mS : mg "_is_starts" = some (.ref fS)) (kS : PySem.W.keepIn K (.ref fS) = true) (bS : Binds K fdS ["system", "thing"] [])
    (GE : FnOk P w K mg base CX0 6 fE fdE ["events", "thing"] spEnts) (mE : mg "_is_entries" = some (.ref fE)) (kE : PySem.W.keepIn K (.ref fE) = true) (bE : Binds K fdE ["events", "thing"] [])
    (GV : FnOk P w K mg base CX0 3 fV fdV ["system"] (spEo C)) (mV : mg "events_of" = some (.ref fV)) (kV : PySem.W.keepIn K (.ref fV) = true) (bV : Binds K fdV ["system"] []) : FnOk P w K mg base CX0 7 f fd ["system", "thing"] (spIsLog C) := by
  refine F.ok scIl (fun vs H Q E h => ?_) (fun cdv A outer s H vs Q E hr h => ?_)
  · obtain ⟨N, sy, v, d, hv, sss, rfl, _⟩ := h
    rfl
  · obtain ⟨N, sy, v, d, hv, sss, rfl, hs, hh, ko, l4, hz, sh, k⟩ := h
    have hr5 := hr.mono (show 5 ≤ 6 by omega)
    have hr3 := hr.mono (show 3 ≤ 6 by omega)
    refine ⟨_, (pss_cons (ps_if (PW.pt (pw_or (pt_not (pt_val (pe_callB call_isi (by rfl) misi boot_isinstance (pa_cons (pv 1) (pa_cons (pe_bltn (v := .ty "tuple") (by rfl) mtup PyProof.Rows.boot_tuple rfl) pa_nil))))) (pw_or1 (pt_cmpR op_ne (pe_callB (r := rLenQ K) call_len_seq (by rfl) mlen PySem.boot_len (pa_cons (pv 1) pa_nil)) pe_int (nomark _))))) (pss_one (ps_ret pe_bl)) pss_nil) (pss_one (ps_ret (pe_and (pe_call GS hr5 (by rfl) mS kS bS .nil pass0 (pa_cons (pv 0) (pa_cons (pe_ix ix_tup (pv 1) pe_int (fun _ _ => rfl)) pa_nil))) (pe_one (pe_call GE hr (by rfl) mE kE bE .nil pass0 (pa_cons (pe_call GV hr3 (by rfl) mV kV bV .nil pass0 (pa_cons (pv 0) pa_nil)) (pa_cons (pe_ix ix_tup (pv 1) pe_int (fun _ _ => rfl)) pa_nil)))))))), ?_⟩
    have no : logB sss d = false → Q (.bl false) H := fun e => by
      have q := k H (Same.refl H)
      rwa [e] at q
    refine ⟨_, rfl, _, _, _, _, _, rfl, .ty "tuple", (hz).ty, kit_ty (kb_of _).1, _, rfl, ?_⟩
    cases e0 : isTup d with
    | false => exact iteT (iteT (no (by cases d <;> first | rfl | cases e0)))
    | true =>
    obtain ⟨t, xs, ds, rfl, rfl, ht, tz⟩ := tupz hz e0
    refine iteF ⟨_, rfl, t, _, rfl, .inr (SqT.of ht), rfl, _, rfl, ?_⟩
    have two : ∀ l : List V, l.length ≠ 2 → (!decide (V.int (l.length : Int) = V.int 2)) = true := fun l h => by
      rw [decide_eq_false fun z => h (by have q := V.int.inj z; omega)]
      rfl
    cases tz with
    | nil => exact iteT (no rfl)
    | @cons v0 vr d0 dr z0 zr =>
    cases zr with
    | nil => exact iteT (no (by unfold logB; split <;> first | rfl | (rename_i e; simp at e)))
    | @cons v1 vr d1 dr z1 zr =>
    cases zr with
    | @cons v2 vr d2 dr z2 zr =>
      rw [two _ (by simp only [List.length_cons]; omega)]
      exact iteT (no (by unfold logB; split <;> first | rfl | (rename_i e; simp at e)))
    | nil =>
    have sh0 := sh.part (d := d0) List.mem_cons_self
    have sh1 := sh.part (d := d1) (List.mem_cons_of_mem _ List.mem_cons_self)
    have lb : logB sss (.tuple [d0, d1]) = (startsB sss d0 && entsB sss d1) := by
      cases d1 with
      | tuple es => rfl
      | _ => exact (Bool.and_false _).symm
    rw [lb] at k
    refine iteF ⟨_, rfl, _, rfl, t, _, 0, _, rfl, rfl, SqT.of ht, atI_nat (xs := [v0, v1]) (j := 0) rfl, N, sy, v0, d0, hv, sss, rfl, hs, hh, ko, l4, z0, sh0.wid, fun H1 s1 => ⟨_, rfl, ?_⟩⟩
    cases c : startsB sss d0 with
    | false =>
      have q := k H1 s1
      rw [c, Bool.false_and] at q
      exact iteF q
    | true =>
      rw [c, Bool.true_and] at k
      refine iteT ⟨_, rfl, sy, hv, sss, rfl, s1 _ _ hs, hh.same s1, ko, l4, fun R H2 s2 fR et => ⟨_, rfl, t, _, 1, _, rfl, rfl, SqT.of (s2 _ _ (s1 _ _ ht)), atI_nat (xs := [v0, v1]) (j := 1) rfl, N, R, v1, d1, sss, rfl, et, z1.same (s1.trans s2), sh1, fun H3 s3 => k H3 ((s1.trans s2).trans s3)⟩⟩
end
end My

-- ===== K13Q0 =====
set_option Elab.async false
set_option linter.all false
set_option maxRecDepth 100000
set_option maxHeartbeats 4000000
namespace My
open PySem L2 PyProof.Rows PySem.Spec Kd StX ClX
abbrev sNum : Stmt := top 51
abbrev sLe : Stmt := top 52
def lnumB : PyData → Bool
  | .int _ => true
  | _ => false
def strOk' (d : PyData) : Prop := ∀ z, d = .str z → PyData.strOk z = true
theorem ans_lnum {sss : List (List (List Stp))} {a b c : PyData} (h : lnumB a = false) : ansB sss a b c = false := by
  cases a <;> cases b <;> cases c <;> simp_all [ansB, lnumB]
theorem ans_neg {sss : List (List (List Stp))} {i : Int} {b c : PyData} (h : i < 0) : ansB sss (.int i) b c = false := ans_num (decide_eq_false (by omega))
theorem lnum_int {N : Addr → Prop} {H : Hp} {v : V} {d : PyData} (h : TZ N H v d) (e : lnumB d = true) : ∃ i : Int, d = .int i ∧ v = .int i := by
  cases h with
  | int i => exact ⟨i, rfl, rfl⟩
  | _ => cases e
theorem any_ev (e : Ev) : ∀ es : List Ev, (es.map evD).any (fun z => PyData.eqv z (evD e)) = decide (e ∈ es)
  | [] => by simp
  | x :: es => by
    have h : PyData.eqv (evD x) (evD e) = decide (x = e) := by
      obtain ⟨x1, x2⟩ := x
      obtain ⟨e1, e2⟩ := e
      simp [evD, PyData.eqv, PyData.eqvAll, Prod.ext_iff]
      refine Bool.eq_iff_iff.mpr ?_
      simp
    rw [List.map_cons, List.any_cons, any_ev e es, h]
    by_cases q : x = e
    · rw [decide_eq_true q, Bool.true_or]
      exact (decide_eq_true (by rw [q]; exact List.mem_cons_self)).symm
    · rw [decide_eq_false q, Bool.false_or]
      refine decide_eq_decide.mpr ⟨List.mem_cons_of_mem _, fun m => ?_⟩
      rcases List.mem_cons.mp m with z | z
      · exact absurd z.symm q
      · exact z
theorem ev_shaped {o u : Str} (h1 : PyData.strOk o = true) (h2 : PyData.strOk u = true) : SeqAt.shaped (evD (o, u)) = true := by
  unfold SeqAt.shaped
  simp [evD, PyData.canLay0, PyData.canLayAll0, h1, h2, PyData.depth, PyData.depthAll]
theorem in_ints (n : Int) : ∀ xs : List Int, inV (.int n) (xs.map V.int) = decide (n ∈ xs)
  | [] => rfl
  | x :: xs => by
    have ih := in_ints n xs
    unfold inV at ih ⊢
    rw [List.map_cons, List.any_cons, ih]
    have e : eqV (V.int x) (V.int n) = decide (x = n) := by
      show (x == n) = _
      by_cases h : x = n
      · rw [h, decide_eq_true rfl, beq_self_eq_true]
      · rw [decide_eq_false h]
        exact beq_eq_false_iff_ne.mpr h
    rw [e]
    by_cases h : x = n
    · rw [decide_eq_true h, Bool.true_or]
      exact (decide_eq_true (by rw [h]; exact List.mem_cons_self)).symm
    · rw [decide_eq_false h, Bool.false_or]
      refine decide_eq_decide.mpr ⟨List.mem_cons_of_mem _, fun m => ?_⟩
      rcases List.mem_cons.mp m with z | z
      · exact absurd z.symm h
      · exact z
theorem flat_nums : ∀ xs : List Int, (xs.map V.int).all flatV = true
  | [] => rfl
  | x :: xs => by
    rw [List.map_cons, List.all_cons, flat_nums xs]
    rfl
def spLnum : Sp := fun vs H Q _ => ∃ (N : Addr → Prop) (v : V) (d : PyData), vs = [v] ∧ TZ N H v d ∧ Q (.bl (lnumB d)) H
def spLe : Sp := fun vs H Q _ => ∃ (N : Addr → Prop) (O t : Addr) (v1 v2 v3 : V) (d1 d2 d3 : PyData) (ov : List V) (sss : List (List (List Stp))), vs = [.ref O, .ref t] ∧ H O = some (.lst ov) ∧ TDs H ov (sss.map statesD) ∧ (∀ ss ∈ sss, KOk ss) ∧ sss.length ≤ 4 ∧ H t = some (.tup [v1, v2, v3]) ∧ TZ N H v1 d1 ∧ TZ N H v2 d2 ∧ TZ N H v3 d3 ∧ strOk' d2 ∧ strOk' d3 ∧ ∀ H', Same H H' → Q (.bl (ansB sss d1 d2 d3)) H'
section
variable {P : Program} {w : World} {K : PySem.W.Frag} {mg : Str → Option Value} {base : Heap} {C : Addr}
theorem scLn : FnScope ["_law_value"] ["_law_value"] (defScope sNum) := ⟨rfl, rfl, rfl, by decide +kernel, rfl, by decide +kernel, by decide +kernel⟩
theorem ok_lnum {f : Addr} {fd : FuncData} (F : Fun K "_law_is_number" "_law_is_number" sNum f fd) (misi : mg "isinstance" = none) (mint : mg "int" = none) (mbool : mg "bool" = none) : FnOk P w K mg base CX0 1 f fd ["_law_value"] spLnum := by
  refine F.ok scLn (fun vs H Q E h => ?_) (fun cdv A outer s H vs Q E hr h => ?_)
  · obtain ⟨N, v, d, rfl, _⟩ := h
    rfl
  · obtain ⟨N, v, d, rfl, hz, k⟩ := h
    refine ⟨_, (pss_one (ps_ret (pe_and (pe_callB call_isi (by rfl) misi boot_isinstance (pa_cons (pv 0) (pa_cons (pe_bltn (v := .ty "int") (by rfl) mint PyProof.Rows.boot_int rfl) pa_nil))) (pe_one (pe_not (pe_callB call_isi (by rfl) misi boot_isinstance (pa_cons (pv 0) (pa_cons (pe_bltn (v := .ty "bool") (by rfl) mbool PyProof.Rows.boot_bool rfl) pa_nil)))))))), ?_⟩
    refine ⟨_, rfl, _, _, _, _, _, rfl, .ty "int", (hz).ty, kit_ty (kb_of _).2.2.1, _, rfl, ?_⟩
    cases hz with
    | int i => exact ⟨_, rfl, _, _, _, _, _, rfl, .ty "bool", ((TZ.int (N := N) (H := H) i)).ty, kit_ty (kb_of _).2.2.2, _, rfl, k⟩
    | bl b => exact ⟨_, rfl, _, _, _, _, _, rfl, .ty "bool", ((TZ.bl (N := N) (H := H) b)).ty, kit_ty (kb_of _).2.2.2, _, rfl, k⟩
    | _ => exact iteF k
abbrev nLe : List Str := ["_law_machines", "_law_value", "_law_at", "_law_operation", "_law_answer"]
theorem scLe : FnScope nLe ["_law_machines", "_law_value"] (defScope sLe) := ⟨rfl, rfl, rfl, by decide +kernel, rfl, by decide +kernel, by decide +kernel⟩
theorem ok_le {f fN fE : Addr} {fd fdN fdE : FuncData} (F : Fun K "_law_is_event" "_law_is_event" sLe f fd) (mlen : mg "len" = none) (misi : mg "isinstance" = none) (mstr : mg "str" = none)
    (GN : FnOk P w K mg base CX0 1 fN fdN ["_law_value"] spLnum) (mN : mg "_law_is_number" = some (.ref fN)) (kN : PySem.W.keepIn K (.ref fN) = true) (bN : Binds K fdN ["_law_value"] [])
    (GE : FnOk P w K mg base CX0 1 fE fdE ["_law_states_here"] spEvents) (mE : mg "_law_events" = some (.ref fE)) (kE : PySem.W.keepIn K (.ref fE) = true) (bE : Binds K fdE ["_law_states_here"] []) :
    FnOk P w K mg base CX0 2 f fd ["_law_machines", "_law_value"] spLe := by
  refine F.ok scLe (fun vs H Q E h => ?_) (fun cdv A outer s H vs Q E hr h => ?_)
  · obtain ⟨N, O, t, v1, v2, v3, d1, d2, d3, ov, sss, rfl, _⟩ := h
    rfl
  · obtain ⟨N, O, t, v1, v2, v3, d1, d2, d3, ov, sss, rfl, hO, tO, ko, l4, ht, z1, z2, z3, ok2, ok3, k⟩ := h
    have hu65 : (A.deeper (envOfC "_law_is_event" (defScope sLe) s.heap.objs.size f cdv)).units + 65 < cLine := by have := hr.un; omega
    refine ⟨_, (pss_cons (ps_asg (pv 1) (pg_tup (by rfl) (pgs_cons (pg_name (i := 2) scLe.nd rfl (Or.inl rfl)) (pgs_cons (pg_name (i := 3) scLe.nd rfl (Or.inl rfl)) (pgs_cons (pg_name (i := 4) scLe.nd rfl (Or.inl rfl)) pgs_nil))))) (pss_cons (ps_if (PW.pt (pw_or (pt_not (pt_val (pe_call GN (hr.mono (by decide)) (by rfl) mN kN bN .nil pass0 (pa_cons (pv 2) pa_nil)))) (pw_or (pt_cmpR op_lt (pv 2) pe_int (nomark _)) (pw_or1 (pt_cmpR op_ge (pv 2) (pe_callB (r := rLenQ K) call_len_seq (by rfl) mlen PySem.boot_len (pa_cons (pv 0) pa_nil)) (nomark _)))))) (pss_one (ps_ret pe_bl)) pss_nil) (pss_cons (ps_if (PW.pt (pw_or (pt_not (pt_val (pe_callB call_isi (by rfl) misi boot_isinstance (pa_cons (pv 3) (pa_cons (pe_bltn (v := .ty "str") (by rfl) mstr PyProof.Rows.boot_str rfl) pa_nil))))) (pw_or1 (pt_not (pt_val (pe_callB call_isi (by rfl) misi boot_isinstance (pa_cons (pv 4) (pa_cons (pe_bltn (v := .ty "str") (by rfl) mstr PyProof.Rows.boot_str rfl) pa_nil)))))))) (pss_one (ps_ret pe_bl)) pss_nil) (pss_one (ps_ret (pe_cmpR (r := rInD K) (op_inD hu65) (pe_tup (pa_cons (pv 3) (pa_cons (pv 4) pa_nil))) (pe_call GE (hr.mono (by decide)) (by rfl) mE kE bE .nil pass0 (pa_cons (pe_ix (r := rIxL K) ix_list (pv 0) (pv 2) (fun _ _ => rfl)) pa_nil)) (by rfl))))))), ?_⟩
    have no : ansB sss d1 d2 d3 = false → Q (.bl false) H := fun e => by
      have q := k H (Same.refl H)
      rwa [e] at q
    have lov := tO.lenm
    refine ⟨_, rfl, t, _, rfl, SqT.of ht, rfl, _, _, rfl, _, _, rfl, _, _, rfl, rfl, ?_⟩
    refine ⟨_, rfl, N, v1, d1, rfl, z1, _, rfl, ?_⟩
    cases n1 : lnumB d1 with
    | false => exact iteT (iteT (no (ans_lnum n1)))
    | true =>
    obtain ⟨i, rfl, rfl⟩ := lnum_int z1 n1
    refine iteF ⟨_, rfl, _, _, rfl, rfl, _, rfl, ?_⟩
    by_cases i0 : i < 0
    · rw [decide_eq_true i0]
      exact iteT (iteT (no (ans_neg i0)))
    rw [decide_eq_false i0]
    refine iteF ⟨_, rfl, _, rfl, O, _, rfl, .inl (SqL.of hO), _, _, rfl, rfl, _, rfl, ?_⟩
    by_cases ge : i ≥ (ov.length : Int)
    · rw [decide_eq_true ge]
      exact iteT (no (ans_none (List.getElem?_eq_none (by omega))))
    rw [decide_eq_false ge]
    refine iteF ?_
    refine ⟨_, rfl, _, _, _, _, _, rfl, .ty "str", (z2).ty, kit_ty (kb_of _).2.1, _, rfl, ?_⟩
    cases n2 : isStr d2 with
    | false => exact iteT (iteT (no (ans_s1 n2)))
    | true =>
    refine iteF ⟨_, rfl, _, _, _, _, _, rfl, .ty "str", (z3).ty, kit_ty (kb_of _).2.1, _, rfl, ?_⟩
    cases n3 : isStr d3 with
    | false => exact iteT (no (ans_s2 n3))
    | true =>
    obtain ⟨o, rfl, rfl⟩ := str_is z2 n2
    obtain ⟨u, rfl, rfl⟩ := str_is z3 n3
    have lti : i.toNat < ov.length := by omega
    have ev := atI_nat (List.getElem?_eq_getElem lti)
    rw [Int.toNat_of_nonneg (show 0 ≤ i by omega)] at ev
    refine iteF ⟨_, rfl, _, rfl, by show 2 ≤ sizeLine; decide, fun q hq => ?_⟩
    have s1 := same_new (o := .tup [V.str o, .str u]) hq
    have hO1 := s1 _ _ hO
    have tO1 := tO.to (Tup.of s1)
    obtain ⟨ss, es_, ts⟩ := tO1.at_ (List.getElem?_eq_getElem lti)
    generalize ov[i.toNat] = v at ev ts
    have ks_ := ko ss (List.mem_of_getElem? es_)
    obtain ⟨a, xs, rfl, ha, hx⟩ := TD.ref_of (ds := ss.map stateD) ts
    refine ⟨_, rfl, _, rfl, O, ov, i, _, rfl, rfl, SqL.of hO1, ev, a, ss, rfl, ts, ks_, fun R rv es H2 s2 fR hR tR lR wR aR => ?_⟩
    have sh := shaped_rows es fun e m => ⟨(wR e m).1, (wR e m).2.1⟩
    rw [evs_list] at sh
    refine ⟨_, _, TD.dp (ev_new (H := H2) (t := q) (e := (o, u)) (s2 _ _ upd_same)), .lst (SqL.of hR) (TDs.dp tR), ev_shaped (ok2 o rfl) (ok3 u rfl), sh, ?_⟩
    rw [any_ev]
    have q := k H2 (s1.trans s2)
    have e : ansB sss (.int i) (.str o) (.str u) = decide ((o, u) ∈ es) := by
      show (decide (0 ≤ i) && (match sss[i.toNat]? with
        | some ss => evIn ss (o, u)
        | none => false)) = _
      rw [decide_eq_true (show 0 ≤ i by omega), Bool.true_and, es_]
      refine Bool.eq_iff_iff.mpr ?_
      rw [decide_eq_true_eq]
      exact evIn_iff.trans ⟨aR _, fun m => (wR _ m).2.2⟩
    rw [e] at q
    exact q
end
end My

-- ===== KX7 =====
set_option Elab.async false
set_option linter.all false
set_option maxRecDepth 100000
set_option maxHeartbeats 4000000
namespace Kd
open PySem PySem.Spec PyProof.Rows L2
section
variable {P : Program} {w : World} {K : Type} [DecidableEq K] {knd : HeapKind P w K} {A : Around} {E : Value → Shared → Prop} {s : Shared}
theorem call_set_keysT (S : SetKind knd) {l : Addr} {its : Array Value} (ks : List (Addr × K)) {Q : Value → Shared → Prop} (calm : A.handled = none) (il : s.heap.IsTuple l its) (ev : its.toList = ks.map fun q => Value.ref q.1) (kk : ∀ q ∈ ks, knd.is s.heap q.2 q.1)
    (less : ∃ ds : List K, (∀ q ∈ ks, q.2 ∈ ds) ∧ ds.length < 64) (room : knd.room A.in1.in1.in1) (q : ∀ s2, SetMade knd s ks s2 → Q (.ref s.heap.objs.size) s2) : wpAny (model P w) A (call (.type "set") [.ref l]) Q E s := by
  have isz : its.size = ks.length := by rw [← Array.length_toList, ev, List.length_map]
  obtain ⟨c, tl, mro⟩ := F.called_set.mro
  have made := F.called_set.made
  have sub := F.called_set.sub
  refine wpAny_call (codeAny_of_tree ?_)
  show wpAny _ _ (callAny (.type "set") _) _ _ _
  refine wpAny_pure ⟨Code.quiet_builtin _ (by decide +kernel), codeAny_builtin F.entry_type_call ?_⟩
  rw [Around.under_plain (weight_type_call_type "set" [.ref l] []) rfl]
  have z1 := F.called_set.notType
  have z2 := F.called_set.canCreate
  have z3 := F.typeCall_set_1 (.ref l)
  repeat (any_goals (first | assumption | wp_step))
  refine codeAny_mono (code_set_led1 (.ref l) (E := E) (Q₁ := fun v s1 => v = .ref s.heap.objs.size ∧ s1 = { s with heap := s.heap.push (newO w) }) ⟨rfl, rfl⟩) fun r s1 hr => ?_
  rcases r with e | fl
  · exact hr
  cases fl with
  | ret obj =>
    obtain ⟨rfl, rfl⟩ := hr
    have at0 : (s.heap.push (newO w)).get? s.heap.objs.size = some (newO w) := Heap.get?_push_size _ rfl
    have T0 : Shared.TypeIs { s with heap := s.heap.push (newO w) } (.ref s.heap.objs.size) "set" := ⟨_, at0, rfl⟩
    have li := F.called_set.init.lookup
    have bi := F.called_set.init.bind (.ref s.heap.objs.size)
    repeat (any_goals (first | assumption | wp_step))
    refine codeAny_mono (codeAny_call_builtin (R := wants (fun r s2 => r = .none ∧ SetMade knd s ks s2) E) F.called_set.init.plain F.entry_set_init (check_set_init_1 T0 ?_)) fun r s2 hr => ?_
    · obtain ⟨⟨oc, od, ob, os⟩, ol, oc', on, ob'⟩ := il
      simp only at oc' ob'
      subst oc'
      subst ob'
      have ol2 := Heap.get?_push_of_some (newO w) ol
      have y1 := F.sub_tuple_set
      have y2 := F.sub_tuple_frozenset
      have y3 : (Value.type "tuple" == Value.type "dict") = false := by decide
      have il2 : (s.heap.push (newO w)).IsTuple l its := ⟨_, ol2, rfl, on, rfl⟩
      unfold Builtin.«set.__init__» noKeywords Builtin.Frozenset.updateFrom
      generalize hPI : pyIter = PI
      wp_walk
      subst hPI
      refine wpAny_pyIter_tuple il2 (wpAny_bind (wpAny_runValue ?_))
      have lS : l < s.heap.objs.size := Heap.lt_size ol
      have calm3 : A.in1.in1.in1.handled = none := by simp [calm]
      have szp : (s.heap.push (newO w)).objs.size = s.heap.objs.size + 1 := Heap.size_push ..
      have lI : l ≠ (s.heap.push (newO w)).objs.size := by
        rw [szp]
        exact Nat.ne_of_lt (Nat.lt_succ_of_lt lS)
      have free : ∀ b, s.heap.objs.size ≤ b → s.heap.get? b = none := fun b le => by
        cases e : s.heap.get? b with
        | none => rfl
        | some o => exact absurd (Heap.lt_size e) (Nat.not_lt.mpr le)
      refine filled S ((Walks.tuple calm3 _ l lI its).toS) (B := s.heap.objs.size) (fun m => ?_) ks isz less (fun i v e => ?_) s.heap kk (free _ (Nat.le_refl _)) (fun b m => free b ?_) room (its.size - 0) 0 _ rfl (Nat.zero_le _)
        ⟨⟨_, Heap.get?_push_size _ rfl, rfl, rfl⟩, il2.push _⟩ (fun b o e => Heap.get?_push_of_some _ (Heap.get?_push_of_some _ e)) ⟨[], #[], 0, _, setH_new (Heap.get?_push_of_some _ at0), fun q m => (nomatch m), fun q m => (by simp at m), Nat.le_refl _⟩ fun s' L es ep t mv Z c kp => ?_
      · rcases List.mem_cons.mp m with e | m
        · rw [szp] at e
          exact absurd e (Nat.ne_of_lt (Nat.lt_succ_self _))
        · have e := List.mem_singleton.mp m
          rw [← e] at lS
          exact absurd lS (Nat.lt_irrefl _)
      · have e2 : its.toList[i]? = some v := by rw [Array.getElem?_toList]; exact e
        rw [ev, List.getElem?_map] at e2
        obtain ⟨q, e3, e4⟩ := Option.map_eq_some_iff.mp e2
        exact ⟨q, e3, e4.symm⟩
      · rw [List.mem_singleton.mp m, szp]
        exact Nat.le_succ _
      · obtain ⟨h', g', d', tk, os'⟩ := s'
        obtain rfl : g' = s.gens := mv.gens
        obtain rfl : d' = s.drawn := mv.drawn
        obtain rfl : os' = s.os := mv.os
        show wpAny _ _ _ _ _ _
        refine wpAny_pure ?_
        show wpAny _ _ (ret Value.none) _ _ _
        rw [isz] at c
        exact wpAny_pure ⟨rfl, h', tk, L, es, ep, t, rfl, Z, c, kp⟩
    · rcases r with e | fl
      · exact hr
      cases fl with
      | ret r =>
        obtain ⟨rfl, mk⟩ := hr
        repeat (any_goals (first | assumption | wp_step))
        exact q _ mk
      | _ => exact hr.elim
  | _ => exact hr.elim
end
section
variable {X : Cx}
/-- set(t), t a tuple of tuples -/
def rSetTT (K : PySem.W.Frag) (P : Program) (w : World) : List V → Hp → VK → Prop := fun vs H Q => ∃ (l : Addr) (ks : List (Addr × List Key)), vs = [V.ref l] ∧ SqT K H l (ks.map fun q => V.ref q.1) ∧ (∀ q ∈ ks, SqT K H q.1 (q.2.map kV)) ∧ ks.length < 64 ∧
  ∀ a L, H a = none → (∀ q ∈ L, q ∈ ks) → (∀ q ∈ ks, q.2 ∈ L.map Prod.snd) → (L.map Prod.snd).Nodup → Q (.ref a) (upd H a (SetO P w a L))
theorem cr_setTT (hc : X.calm = true) (hu : X.A.units + 64 < cLine) : CallR X (.type "set") (rSetTT X.K X.prog X.w) := by
  intro pins s σ H vs us Q I r h
  obtain ⟨l, ks, rfl, hl, hk, hf, q⟩ := h
  rw [Vals.ref1 r]
  obtain ⟨its, rv, il, _⟩ := I.tuple hl
  refine call_set_keysT (P := X.prog) (w := X.w) (knd := tupleKind (mixKind X.prog X.w)) mixSet ks (I.ok.hd hc) (show s.heap.IsTuple l its.toArray from il) (by simpa using refs_raw Prod.fst rv) (fun p hp => (key_raw I (hk p hp)).1) ⟨ks.map Prod.snd, fun q m => List.mem_map.mpr ⟨q, m, rfl⟩, by rw [List.length_map]; exact hf⟩ (by show X.A.in1.in1.in1.units < cLine; have z : X.A.in1.in1.in1.units ≤ X.A.units + 64 := (by simp only [Around.in1]; omega); omega) fun s2 mk => ?_
  obtain ⟨h', tk, L, es, ep, t, rfl, Z, c, kp⟩ := mk
  exact ⟨.ref s.heap.objs.size, upd H s.heap.objs.size (SetO X.prog X.w s.heap.objs.size L), I.laid (t' := tk) kp (Nat.le_refl _) (setO_ok Z.held), rfl, q _ L (I.hok.fresh (Nat.le_refl _)) (fun p m => List.mem_of_mem_take (c.inn p m)) (fun p m => c.got p (by rw [List.take_length]; exact m)) Z.nd⟩
/-- set(xs), xs many whole numbers -/
def rSetZ4 (K : PySem.W.Frag) (w : World) : List V → Hp → VK → Prop := fun vs H Q => ∃ (l : Addr) (ns : List Int), vs = [V.ref l] ∧ (SqL K H l (ns.map V.int) ∨ SqT K H l (ns.map V.int)) ∧ ns.length < 4000 ∧
  ∀ a c, H a = none → (∀ D : List Int, (∀ n ∈ ns, n ∈ D) → c ≤ D.length) → Q (.ref a) (upd H a (L2.SetO w a (fun j => decide (j ∈ ns)) c))
theorem cr_setZ4 (hc : X.calm = true) : CallR X (.type "set") (rSetZ4 X.K X.w) := by
  intro pins s σ H vs us Q I r h
  obtain ⟨l, ns, rfl, hl, hf, q⟩ := h
  rw [Vals.ref1 r]
  have small : ns.length + 1 < scanBound := by unfold scanBound; omega
  have fin : ∀ s2, IntsMade X.w s ns s2 → EP X pins σ Q (.ref s.heap.objs.size) s2 := fun s2 mk => by
    obtain ⟨h', tk, c, rfl, Z, le, kp⟩ := mk
    refine ⟨.ref s.heap.objs.size, _, I.laid (t' := tk) kp (Nat.le_refl _) (setO_new Z), rfl, q _ c (I.hok.fresh (Nat.le_refl _)) fun D sub => ?_⟩
    obtain ⟨o, es, ep, t, _, _, _, _, nd, mem, _, _, sz, _⟩ := Z
    have z := nodup_most _ D nd fun x m => sub x (of_decide_eq_true ((mem x).mpr m))
    rw [List.length_map, Array.length_toList, sz] at z
    exact z
  rcases hl with hl | hl
  · obtain ⟨its, rv, il, _⟩ := I.list hl
    exact call_set_ints ns (I.ok.hd hc) il.isList (by simpa using ints_of_vals rv) small fin
  · obtain ⟨its, rv, il, _⟩ := I.tuple hl
    refine call_set_tupI ns (I.ok.hd hc) (show s.heap.IsTuple l its.toArray from il) (by simpa using ints_of_vals rv) small fun h' tk c Z le kp => fin _ ⟨h', tk, c, rfl, Z, le, kp⟩
end
end Kd

-- ===== KX8 =====
set_option Elab.async false
set_option linter.all false
set_option maxRecDepth 100000
set_option maxHeartbeats 4000000
namespace Kd
open PySem PySem.Spec PyProof.Rows L2
/-! ### is not True, of any value -/
def isB (b : Bool) : PyData → Bool
  | .bool c => c == b
  | _ => false
def rIsNotZ (N : Addr → Prop) : R2 := fun x y H Q => ∃ d b, TZ N H x d ∧ y = .bl b ∧ Q (.bl (!isB b d)) H
theorem op_isNotZ {X : Cx} {N : Addr → Prop} : OpR X (compareOp .IsNot) (rIsNotZ N) := by
  intro pins s σ H x y v u Q I rx ry h
  obtain ⟨d, b, hd, rfl, q⟩ := h
  cases (show u = Value.bool b from ry)
  have fin : ∀ z : Bool, isSame v (.bool b) = pure z → Q (.bl (!z)) H → PySem.wpAny (model X.prog X.w) X.A (compareOp .IsNot v (.bool b)) (EP X pins σ Q) X.xe s := fun z e q => by
    show PySem.wpAny (model X.prog X.w) X.A (do return Value.bool !(← isSame v (.bool b))) (EP X pins σ Q) X.xe s
    rw [e]
    exact wpAny_pure ⟨.bl (!z), H, I, rfl, q⟩
  cases hd with
  | non =>
    cases (show v = Value.none from rx)
    exact fin false rfl q
  | bl c =>
    cases (show v = Value.bool c from rx)
    exact fin (c == b) (by cases c <;> cases b <;> rfl) q
  | int i =>
    obtain ⟨t, rfl⟩ : ∃ t, v = Value.int i t := rx
    exact fin false rfl q
  | str z =>
    obtain ⟨t, rfl⟩ : ∃ t, v = Value.str z t := rx
    exact fin false rfl q
  | lst _ e =>
    cases (show v = Value.ref _ from rx)
    exact fin false rfl q
  | tup e _ =>
    cases (show v = Value.ref _ from rx)
    exact fin false rfl q
  | dct e =>
    cases (show v = Value.ref _ from rx)
    exact fin false rfl q
/-! ### numbers, and tuples of them, as data -/
theorem eqv_lists : ∀ xs ys : List Int, PyData.eqvAll (xs.map PyData.int) (ys.map PyData.int) = decide (xs = ys)
  | [], [] => by simp [PyData.eqvAll]
  | [], _ :: _ => by simp [PyData.eqvAll]
  | _ :: _, [] => by simp [PyData.eqvAll]
  | x :: xs, y :: ys => by
    rw [List.map_cons, List.map_cons]
    simp only [PyData.eqvAll, PyData.eqv, eqv_lists xs ys]
    refine Bool.eq_iff_iff.mpr ?_
    simp
theorem eqv_nums (xs ys : List Int) : PyData.eqv (.list (xs.map PyData.int)) (.list (ys.map PyData.int)) = decide (xs = ys) := by
  simp only [PyData.eqv, eqv_lists]
def rowD (r : List Int) : PyData := .tuple (r.map PyData.int)
theorem eqv_rowsAll : ∀ xs ys : List (List Int), PyData.eqvAll (xs.map rowD) (ys.map rowD) = decide (xs = ys)
  | [], [] => by simp [PyData.eqvAll]
  | [], _ :: _ => by simp [PyData.eqvAll]
  | _ :: _, [] => by simp [PyData.eqvAll]
  | x :: xs, y :: ys => by
    rw [List.map_cons, List.map_cons]
    simp only [PyData.eqvAll, rowD, PyData.eqv, eqv_lists]
    have ih := eqv_rowsAll xs ys
    rw [ih]
    refine Bool.eq_iff_iff.mpr ?_
    simp
theorem eqv_rows (xs ys : List (List Int)) : PyData.eqv (.list (xs.map rowD)) (.list (ys.map rowD)) = decide (xs = ys) := by
  simp only [PyData.eqv, eqv_rowsAll]
theorem lay_nums : ∀ ks : List Int, PyData.canLayAll0 (ks.map PyData.int) = true
  | [] => by simp only [List.map_nil, PyData.canLayAll0]
  | k :: r => by simp only [List.map_cons, PyData.canLayAll0, PyData.canLay0, lay_nums r, Bool.and_self]
theorem lay_rowsI : ∀ ks : List (List Int), PyData.canLayAll0 (ks.map rowD) = true
  | [] => by simp only [List.map_nil, PyData.canLayAll0]
  | k :: r => by simp only [List.map_cons, PyData.canLayAll0, rowD, PyData.canLay0, lay_nums, lay_rowsI r, Bool.and_self]
theorem deep_nums : ∀ ks : List Int, PyData.depthAll (ks.map PyData.int) = 0
  | [] => rfl
  | k :: r => by simp [PyData.depthAll, PyData.depth, deep_nums r]
theorem deep_rowsI : ∀ ks : List (List Int), PyData.depthAll (ks.map rowD) ≤ 1
  | [] => by simp only [List.map_nil, PyData.depthAll]; omega
  | k :: r => by
    have ih := deep_rowsI r
    have z := deep_nums k
    simp only [List.map_cons, PyData.depthAll, rowD, PyData.depth]
    omega
theorem shaped_rowsI (ks : List (List Int)) : SeqAt.shaped (.list (ks.map rowD)) = true := by
  have h := deep_rowsI ks
  unfold SeqAt.shaped
  rw [Bool.and_eq_true]
  refine ⟨by simp only [PyData.canLay0, lay_rowsI], decide_eq_true ?_⟩
  simp only [PyData.depth]
  omega
theorem dp_nums {K : PySem.W.Frag} {H : Hp} : ∀ ks : List Int, DpAll K H (ks.map V.int) (ks.map PyData.int)
  | [] => .nil
  | k :: r => .cons (.int k) (dp_nums r)
/-! ### tuples of whole numbers as keys: their order -/
def keyI (r : List Int) : List Key := r.map Sum.inl
theorem keyI_inj : ∀ {x y : List Int}, keyI x = keyI y → x = y
  | [], [], _ => rfl
  | [], _ :: _, h => by simp [keyI] at h
  | _ :: _, [], h => by simp [keyI] at h
  | x :: xs, y :: ys, h => by
    unfold keyI at h
    rw [List.map_cons, List.map_cons] at h
    injection h with h1 h2
    injection h1 with h1
    rw [h1, keyI_inj h2]
theorem tD_keyI (r : List Int) : tD (keyI r) = rowD r := by
  unfold tD keyI rowD
  rw [List.map_map]
  rfl
theorem kV_keyI (r : List Int) : (keyI r).map kV = r.map V.int := by
  unfold keyI
  rw [List.map_map]
  rfl
theorem lex_ltI : ∀ xs ys : List Int, HT.lexLt xs ys = decide (xs < ys)
  | [], [] => by simp [HT.lexLt_nil_nil]
  | [], y :: ys => by simp [HT.lexLt_nil_cons]
  | x :: xs, [] => by simp [HT.lexLt_cons_nil]
  | x :: xs, y :: ys => by
    rw [HT.lexLt_cons, lex_ltI xs ys]
    by_cases c : x = y
    · rw [if_pos c]
      refine decide_eq_decide.mpr ⟨fun h => List.cons_lt_cons_iff.mpr (.inr ⟨c, h⟩), fun h => ?_⟩
      rcases List.cons_lt_cons_iff.mp h with h | h
      · omega
      · exact h.2
    · rw [if_neg c]
      refine decide_eq_decide.mpr ⟨fun h => List.cons_lt_cons_iff.mpr (.inl h), fun h => ?_⟩
      rcases List.cons_lt_cons_iff.mp h with h | h
      · exact h
      · exact absurd h.1 c
theorem lt_rowD (x y : List Int) : PySem.W.dataLt (rowD x) (rowD y) = HT.lexLt x y := by
  rw [lex_ltI]
  exact PySem.W.dataLt_ints x y
theorem alike_rows : ∀ x y : List Int, PySem.W.alike (rowD x) (rowD y) = true := fun x y => PySem.W.alike_ints x y
theorem lex_ir (x : List Int) : HT.lexLt x x = false := by
  rw [lex_ltI]
  exact decide_eq_false (List.lt_irrefl _)
theorem lex_tr (x y z : List Int) (h : HT.lexLt x y = true) (g : HT.lexLt y z = true) : HT.lexLt x z = true := by
  rw [lex_ltI] at h g ⊢
  exact decide_eq_true (List.lt_trans (of_decide_eq_true h) (of_decide_eq_true g))
theorem lex_tri (x y : List Int) (h : HT.lexLt x y = false) (g : HT.lexLt y x = false) : x = y := by
  rw [lex_ltI] at h g
  exact List.le_antisymm (List.not_lt.mp (of_decide_eq_false g)) (List.not_lt.mp (of_decide_eq_false h))
-- what is sorted of a set of such tuples ascends
open PySem.W in
theorem sorted_rows (L : List (Addr × List Key)) (nd : (L.map Prod.snd).Nodup) (key : ∀ q ∈ L, ∃ r, q.2 = keyI r) :
    ∃ rs : List (List Int), (L.mergeSort (PySem.W.dataLe false fun q : Addr × List Key => tD q.2)).map Prod.snd = rs.map keyI ∧ (rs.Pairwise fun x y => HT.lexLt x y = true) ∧ ∀ r, r ∈ rs ↔ keyI r ∈ L.map Prod.snd := by
  have tot := sortLe_total (listOrd itemOrd) false fun q : Addr × List Key => PySem.W.keyToks (tD q.2)
  have srt : (L.mergeSort (PySem.W.dataLe false fun q : Addr × List Key => tD q.2)).Pairwise fun q r => PySem.W.dataLe false (fun q : Addr × List Key => tD q.2) q r = true := List.pairwise_mergeSort tot.trans (fun a b => by rw [Bool.or_eq_true]; exact tot.total a b) L
  have pm : (L.mergeSort (PySem.W.dataLe false fun q : Addr × List Key => tD q.2)).Perm L := List.mergeSort_perm _ _
  generalize L.mergeSort (PySem.W.dataLe false fun q : Addr × List Key => tD q.2) = M at srt pm
  have key2 : ∀ q ∈ M, ∃ r, q.2 = keyI r := fun q m => key q (pm.mem_iff.mp m)
  have nd2 : (M.map Prod.snd).Nodup := (pm.map Prod.snd).nodup_iff.mpr nd
  have mem : ∀ k, k ∈ M.map Prod.snd ↔ k ∈ L.map Prod.snd := fun k => (pm.map Prod.snd).mem_iff
  have back : ∃ rs : List (List Int), M.map Prod.snd = rs.map keyI := by
    clear srt pm nd2 mem
    induction M with
    | nil => exact ⟨[], rfl⟩
    | cons q M ih =>
      obtain ⟨x, e⟩ := key2 q List.mem_cons_self
      obtain ⟨xs, e2⟩ := ih fun r m => key2 r (List.mem_cons_of_mem _ m)
      exact ⟨x :: xs, by rw [List.map_cons, List.map_cons, e, e2]⟩
  obtain ⟨rs, er⟩ := back
  refine ⟨rs, er, ?_, fun r => ?_⟩
  · have z : (M.map Prod.snd).Pairwise fun k l => ∀ x y, k = keyI x → l = keyI y → HT.lexLt y x = false := by
      refine List.pairwise_map.mpr (srt.imp fun {q r} h x y e1 e2 => ?_)
      rw [PySem.W.dataLe_eq] at h
      have h2 : (!PySem.W.dataLt (tD r.2) (tD q.2)) = true := h
      rw [e1, e2, tD_keyI, tD_keyI, lt_rowD] at h2
      simpa using h2
    rw [er] at z nd2
    have n3 : rs.Nodup := List.Pairwise.of_map keyI (fun x y n e => n (by rw [e])) nd2
    refine (List.pairwise_map.mp z).imp₂ (fun {x y} h n => ?_) n3
    cases c : HT.lexLt x y with
    | true => rfl
    | false => exact absurd (lex_tri x y c (h x y rfl rfl)) n
  · rw [← mem, er, List.mem_map]
    exact ⟨fun m => ⟨r, m, rfl⟩, fun ⟨x, m, e⟩ => by rw [← keyI_inj e]; exact m⟩
end Kd

-- ===== K13Q =====
set_option Elab.async false
set_option linter.all false
set_option maxRecDepth 100000
set_option maxHeartbeats 4000000
namespace My
open PySem L2 PyProof.Rows PySem.Spec Kd StX ClX
abbrev sRis : Stmt := top 53
abbrev sLSt : Stmt := top 54
abbrev sLRow : Stmt := top 55
abbrev sLEnt : Stmt := top 56
abbrev sLLog : Stmt := top 57
def risB : PyData → Bool
  | .tuple ds => ds.all lnumB && ascL ltI (ds.map iOf)
  | _ => false
theorem lnum_row {N : Addr → Prop} {H : Hp} : ∀ {xs : List V} {ds : List PyData}, TZs N H xs ds → ds.all lnumB = true → xs = (ds.map iOf).map V.int
  | _, _, .nil, _ => rfl
  | _, _, .cons h r, e => by
    rw [List.all_cons, Bool.and_eq_true] at e
    obtain ⟨i, rfl, rfl⟩ := lnum_int h e.1
    rw [lnum_row r e.2]
    rfl
def spRis : Sp := fun vs H Q _ => ∃ (N : Addr → Prop) (v : V) (d : PyData), vs = [v] ∧ TZ N H v d ∧ Sht d ∧ ∀ H', Same H H' → Q (.bl (risB d)) H'
def spLSt : Sp := fun vs H Q _ => ∃ (N : Addr → Prop) (O : Addr) (v : V) (d : PyData) (ov : List V) (sss : List (List (List Stp))), vs = [.ref O, v] ∧ H O = some (.lst ov) ∧ TDs H ov (sss.map statesD) ∧ (∀ ss ∈ sss, KOk ss) ∧ 1 ≤ sss.length ∧ sss.length ≤ 4 ∧ TZ N H v d ∧ Sht d ∧ ∀ H', Same H H' → Q (.bl (startsB sss d)) H'
def spLRow : Sp := fun vs H Q _ => ∃ (N : Addr → Prop) (O : Addr) (v : V) (d : PyData) (ov : List V) (sss : List (List (List Stp))), vs = [.ref O, v] ∧ H O = some (.lst ov) ∧ TDs H ov (sss.map statesD) ∧ (∀ ss ∈ sss, KOk ss) ∧ sss.length ≤ 4 ∧ TZ N H v d ∧ Sht d ∧ ∀ H', Same H H' → Q (.bl (rowB sss d)) H'
/-- what is before each committed entry, as the law keeps it -/
structure LB (H : Hp) (B : List (Int × List Int)) (kvs : List (Key × V)) : Prop where
  len : kvs.length ≤ B.length
  no : ∀ k, lk B k = none → valV kvs (Sum.inl k) = none
  yes : ∀ k f, lk B k = some f → ∃ a, valV kvs (Sum.inl k) = some (.ref a) ∧ H a = some (.tup (f.map V.int))
theorem LB.nil {H : Hp} : LB H [] [] := ⟨Nat.le_refl _, fun k _ => rfl, fun k f z => nomatch z⟩
theorem LB.same {H H' : Hp} {B : List (Int × List Int)} {kvs : List (Key × V)} (h : LB H B kvs) (s : Same H H') : LB H' B kvs :=
  ⟨h.len, h.no, fun k f e => let ⟨a, e1, e2⟩ := h.yes k f e; ⟨a, e1, s _ _ e2⟩⟩
theorem LB.put {H H' : Hp} {B : List (Int × List Int)} {kvs : List (Key × V)} {n : Int} {e : List Int} {a : Addr} (h : LB H B kvs) (hn : n ∉ B.map Prod.fst) (ha : H a = some (.tup (e.map V.int))) (s : ∀ x xs, H x = some (.tup xs) → H' x = some (.tup xs)) : LB H' (B ++ [(n, e)]) (putK kvs (Sum.inl n) (.ref a)) := by
  have n1 : valV kvs (Sum.inl n) = none := h.no n (lk_no hn)
  have inj : ∀ k : Int, ((Sum.inl k : Key) = Sum.inl n) ↔ k = n := fun k => ⟨fun z => by injection z, fun z => by rw [z]⟩
  refine ⟨?_, fun k z => ?_, fun k f z => ?_⟩
  · rw [L2.putK_new _ n1, List.length_append, List.length_append]
    exact Nat.succ_le_succ h.len
  · rw [lk_app] at z
    have c : k ≠ n := fun c => by
      subst c
      rw [lk_no hn, if_pos rfl] at z
      cases z
    rw [valV_put, if_neg (fun w => c ((inj k).mp w))]
    refine h.no k ?_
    cases q : lk B k with
    | none => rfl
    | some f => rw [q] at z; cases z
  · rw [lk_app] at z
    rw [valV_put]
    by_cases c : k = n
    · subst c
      rw [lk_no hn, if_pos rfl] at z
      cases z
      exact ⟨a, by rw [if_pos rfl], s _ _ ha⟩
    · rw [if_neg (fun w => c ((inj k).mp w))]
      cases q : lk B k with
      | none => rw [q, if_neg c] at z; cases z
      | some g =>
        rw [q] at z
        cases z
        obtain ⟨b, e1, e2⟩ := h.yes k _ q
        exact ⟨b, e1, s _ _ e2⟩
def entL (sss : List (List (List Stp))) (B : List (Int × List Int)) (last : Int) (d : PyData) : Bool := match enO sss d with
  | none => false
  | some (n, _, e) => decide (last < n) && clo B e
def spLEnt : Sp := fun vs H Q _ => ∃ (N : Addr → Prop) (O b : Addr) (v : V) (d : PyData) (last : Int) (ov : List V) (sss : List (List (List Stp))) (B : List (Int × List Int)) (kvs : List (Key × V)), vs = [.ref O, v, .ref b, .int last] ∧ H O = some (.lst ov) ∧ TDs H ov (sss.map statesD) ∧ (∀ ss ∈ sss, KOk ss) ∧ sss.length ≤ 4 ∧ TZ N H v d ∧ Sht d ∧
  H b = some (.dK kvs) ∧ LB H B kvs ∧ (∀ k ∈ B.map Prod.fst, 0 ≤ k) ∧ -1 ≤ last ∧ (∀ q ∈ B, q.2.length ≤ 60) ∧ ∀ H', Same H H' → Q (.bl (entL sss B last d)) H'
def spLLog : Sp := fun vs H Q _ => ∃ (N : Addr → Prop) (O : Addr) (v : V) (d : PyData) (ov : List V) (sss : List (List (List Stp))), vs = [.ref O, v] ∧ H O = some (.lst ov) ∧ TDs H ov (sss.map statesD) ∧ (∀ ss ∈ sss, KOk ss) ∧ 1 ≤ sss.length ∧ sss.length ≤ 4 ∧ TZ N H v d ∧ Sht d ∧ ∀ H', Same H H' → Q (.bl (logB sss d)) H'
theorem take_all {α : Type} {f : α → Bool} {ds : List α} {i : Nat} {d : α} (e : ds[i]? = some d) : (ds.take (i + 1)).all f = ((ds.take i).all f && f d) := by
  rw [List.take_add_one, e, List.all_append]
  simp
theorem isE_app {α : Type} (l : List α) (x : α) : (l ++ [x]).isEmpty = false := by cases l <;> rfl
section
variable {P : Program} {w : World} {K : PySem.W.Frag} {mg : Str → Option Value} {base : Heap} {C : Addr}
abbrev nRis : List Str := ["_law_value", "_law_one"]
theorem scRis : FnScope nRis ["_law_value"] (defScope sRis) := ⟨rfl, rfl, rfl, by decide +kernel, rfl, by decide +kernel, by decide +kernel⟩
theorem ok_ris {f fN : Addr} {fd fdN : FuncData} (F : Fun K "_law_is_rising" "_law_is_rising" sRis f fd) (misi : mg "isinstance" = none) (mtup : mg "tuple" = none) (mlist : mg "list" = none) (mset : mg "set" = none) (msorted : mg "sorted" = none)
    (GN : FnOk P w K mg base CX0 1 fN fdN ["_law_value"] spLnum) (mN : mg "_law_is_number" = some (.ref fN)) (kN : PySem.W.keepIn K (.ref fN) = true) (bN : Binds K fdN ["_law_value"] []) : FnOk P w K mg base CX0 2 f fd ["_law_value"] spRis := by
  refine F.ok scRis (fun vs H Q E h => ?_) (fun cdv A outer s H vs Q E hr h => ?_)
  · obtain ⟨N, v, d, rfl, _⟩ := h
    rfl
  · obtain ⟨N, v, d, rfl, hz, sh, k⟩ := h
    have hu := hr.units
    have hu1 : (A.deeper (envOfC "_law_is_rising" (defScope sRis) s.heap.objs.size f cdv)).units < cLine := by omega
    refine ⟨_, (pss_cons (ps_if (PW.pt (pw_or (pt_not (pt_val (pe_callB call_isi (by rfl) misi boot_isinstance (pa_cons (pv 0) (pa_cons (pe_bltn (v := .ty "tuple") (by rfl) mtup PyProof.Rows.boot_tuple rfl) pa_nil))))) (pw_or1 (pt_cmpR (op_neL hu1) (pe_lc (own := [("_law_one", 1)]) (g := gName 1) rfl scRis.nd (pi_tup (pv 0)) (blkOk_by (N := nRis) (sc := defScope sRis) (by decide +kernel)) (fun _ _ _ _ _ => pg_name (i := 1) scRis.nd rfl (Or.inl rfl)) (fun _ _ _ _ _ => pts_one (pt_not (pt_val (pe_call GN hr (by rfl) mN kN bN .nil pass0 (pa_cons (pv 1) pa_nil))))) (fun _ _ _ _ _ => (pv 1))) (pe_lst pa_nil) (nomark _))))) (pss_one (ps_ret pe_bl)) pss_nil) (pss_one (ps_ret (pe_cmpR (op_eqD hu) (pe_callTy call_list_of (by rfl) mlist (by decide +kernel) (pa_cons (pv 0) pa_nil)) (pe_callB (r := rSortedSet w) (cr_sortedSet rfl) (by rfl) msorted PyProof.Rows.boot_sorted (pa_cons (pe_callTy (r := rSetZ4 K w) (cr_setZ4 rfl) (by rfl) mset PyProof.Rows.boot_set (pa_cons (pv 0) pa_nil)) pa_nil)) (nomark _))))), ?_⟩
    refine ⟨_, rfl, _, _, _, _, _, rfl, .ty "tuple", (hz).ty, kit_ty (kb_of _).1, _, rfl, ?_⟩
    cases e0 : isTup d with
    | false =>
      have q := k H (Same.refl H)
      rw [show risB d = false from by cases d <;> first | rfl | cases e0] at q
      exact iteT (iteT q)
    | true =>
    obtain ⟨t, xs, ds, rfl, rfl, ht, tz⟩ := tupz hz e0
    have l6 := sh.len
    have lx := tz.len
    refine iteF ⟨_, rfl, t, rfl, ⟨_, SqT.of ht⟩, fun D hD => lc_tup (K := K) (a := t) (xs := xs) (fun i H2 => Same H H2 ∧ ∃ zs : List V, H2 D = some (.lst zs) ∧ zs.length ≤ i ∧ zs.isEmpty = (ds.take i).all lnumB) ⟨same_new hD, [], upd_same, Nat.le_refl _, by rw [List.take_zero]; rfl⟩ (fun i H2 _ ⟨s2, _⟩ => SqT.of (s2 _ _ ht)) (fun i x H2 ex ⟨s2, zs, d2, zl, ze⟩ => ?_) fun H2 ⟨s2, zs, d2, zl, ze⟩ => ?_⟩
    · obtain ⟨d0, ed, zd⟩ := tz.at_ ex
      have lt := (List.getElem?_eq_some_iff.mp ex).1
      refine ⟨rfl, _, rfl, N, x, d0, rfl, zd.same s2, _, rfl, ?_⟩
      cases c : lnumB d0 with
      | true => exact iteF ⟨s2, zs, d2, by omega, by rw [take_all ed, c, Bool.and_true]; exact ze⟩
      | false => exact iteT ⟨_, rfl, zs, d2, small_lt (m := 60) (by omega), same_at s2 hD, zs ++ [x], upd_same, by rw [List.length_append]; exact Nat.succ_le_succ zl, by rw [take_all ed, c, Bool.and_false, isE_app]⟩
    rw [show xs.length = ds.length from lx, List.take_length] at ze
    refine ⟨by show 0 ≤ sizeLine; decide, fun e he => ?_⟩
    have s3 := same_new (o := .lst []) he
    refine ⟨D, e, zs, rfl, rfl, s3 _ _ d2, upd_same, _, rfl, ?_⟩
    rw [ze]
    have s23 := s2.trans s3
    generalize upd H2 e (.lst []) = H3 at s23 ⊢
    cases c : ds.all lnumB with
    | false =>
      have q := k H3 s23
      rw [show risB (.tuple ds) = false from by show (ds.all lnumB && _) = false; rw [c]; rfl] at q
      exact iteT q
    | true =>
    have ex := lnum_row tz c
    have ht3 := s23 _ _ ht
    rw [ex] at ht3
    refine iteF ⟨_, rfl, t, _, rfl, .inr (SqT.of ht3), fun l hl => ?_⟩
    have s4 := same_new (o := .lst ((ds.map iOf).map V.int)) hl
    have hl4 : (upd H3 l (.lst ((ds.map iOf).map V.int))) l = some (.lst ((ds.map iOf).map V.int)) := upd_same
    generalize upd H3 l (.lst ((ds.map iOf).map V.int)) = H4 at s4 hl4 ⊢
    refine ⟨_, rfl, t, ds.map iOf, rfl, .inr (SqT.of (s4 _ _ ht3)), by rw [List.length_map]; omega, fun a n ha bnd => ⟨a, _, n, rfl, upd_same, ?_, fun ns p asc mem len hp => ?_⟩⟩
    · have := bnd (ds.map iOf) fun x m => m
      rw [List.length_map] at this
      omega
    have s5 := (same_new (o := L2.SetO w a (fun j => decide (j ∈ ds.map iOf)) n) ha).trans (same_new (o := .lst (ns.map V.int)) hp)
    refine ⟨_, _, .lst (SqL.of (s5 _ _ hl4)) (dp_nums _), .lst (SqL.of upd_same) (dp_nums ns), shaped_ints _, shaped_ints _, ?_⟩
    rw [eqv_nums, asc_same (lt := ltI) (fun x => decide_eq_false (Int.lt_irrefl x)) ltI_tr (asc.imp fun h => decide_eq_true h) fun x => (mem x).trans ⟨fun z => of_decide_eq_true z, fun z => decide_eq_true z⟩]
    have q := k _ (s23.trans (s4.trans s5))
    rw [show risB (.tuple ds) = ascL ltI (ds.map iOf) from by show (ds.all lnumB && _) = _; rw [c]; rfl] at q
    exact q
abbrev nLSt : List Str := ["_law_machines", "_law_value", "_law_start", "_law_state", "_law_states_here"]
theorem scLSt : FnScope nLSt ["_law_machines", "_law_value"] (defScope sLSt) := ⟨rfl, rfl, rfl, by decide +kernel, rfl, by decide +kernel, by decide +kernel⟩
theorem allZ_iff {f : List (List Stp) → PyData → Bool} : ∀ {sss : List (List (List Stp))} {ds : List PyData}, (allZ f sss ds = true ↔ ∀ (i : Nat) (ss : List (List Stp)) (d : PyData), sss[i]? = some ss → ds[i]? = some d → f ss d = true)
  | [], ds => ⟨fun _ i ss d e => by simp at e, fun _ => by cases ds <;> rfl⟩
  | ss0 :: sss, [] => ⟨fun _ i ss d _ e => by simp at e, fun _ => rfl⟩
  | ss0 :: sss, d0 :: ds => by
    show (f ss0 d0 && allZ f sss ds) = true ↔ _
    rw [Bool.and_eq_true, allZ_iff (sss := sss) (ds := ds)]
    constructor
    · rintro ⟨h1, h2⟩ i ss d e1 e2
      cases i with
      | zero =>
        cases Option.some.inj e1
        cases Option.some.inj e2
        exact h1
      | succ i => exact h2 i ss d e1 e2
    · intro h
      exact ⟨h 0 _ _ rfl rfl, fun i ss d e1 e2 => h (i + 1) ss d e1 e2⟩
theorem start_rows {N : Addr → Prop} {H : Hp} {sss : List (List (List Stp))} : ∀ {xs : List V} {ds : List PyData}, TZs N H xs ds → ds.all (startB sss) = true → ∃ ks : List (Addr × List Key), xs = ks.map (fun q => V.ref q.1) ∧ ks.map Prod.snd = (ds.map rowI).map keyI ∧ ∀ q ∈ ks, H q.1 = some (.tup (q.2.map kV)) ∧ ∃ r : List Int, q.2 = keyI r ∧ r.length = sss.length
  | _, _, .nil, _ => ⟨[], rfl, rfl, fun q m => nomatch m⟩
  | _, _, .cons h r, c => by
    rw [List.all_cons, Bool.and_eq_true] at c
    obtain ⟨t, rfl, ht, l⟩ := start_row h c.1
    obtain ⟨ks, e1, e2, e3⟩ := start_rows r c.2
    refine ⟨(t, keyI (rowI _)) :: ks, by rw [List.map_cons, e1], by rw [List.map_cons, List.map_cons, List.map_cons, e2], fun q m => ?_⟩
    rcases List.mem_cons.mp m with rfl | m
    · exact ⟨by rw [kV_keyI]; exact ht, _, rfl, l⟩
    · exact e3 q m
theorem dp_rowsI {K : PySem.W.Frag} {H : Hp} : ∀ (ks : List (Addr × List Key)) (rs : List (List Int)), ks.map Prod.snd = rs.map keyI → (∀ q ∈ ks, H q.1 = some (.tup (q.2.map kV))) → DpAll K H (ks.map fun q => V.ref q.1) (rs.map rowD)
  | [], [], _, _ => .nil
  | [], _ :: _, e, _ => by simp at e
  | _ :: _, [], e, _ => by simp at e
  | q :: ks, r :: rs, e, h => by
    rw [List.map_cons, List.map_cons] at e
    injection e with e1 e2
    have a := h q List.mem_cons_self
    rw [e1, kV_keyI] at a
    exact .cons (.tup (SqT.of a) (dp_nums r)) (dp_rowsI ks rs e2 fun p m => h p (List.mem_cons_of_mem _ m))
theorem ok_lst {f fN : Addr} {fd fdN : FuncData} (F : Fun K "_law_are_starts" "_law_are_starts" sLSt f fd) (misi : mg "isinstance" = none) (mtup : mg "tuple" = none) (mlist : mg "list" = none) (mset : mg "set" = none) (msorted : mg "sorted" = none) (mlen : mg "len" = none) (mzip : mg "zip" = none)
    (GN : FnOk P w K mg base CX0 1 fN fdN ["_law_value"] spLnum) (mN : mg "_law_is_number" = some (.ref fN)) (kN : PySem.W.keepIn K (.ref fN) = true) (bN : Binds K fdN ["_law_value"] []) : FnOk P w K mg base CX0 2 f fd ["_law_machines", "_law_value"] spLSt := by
  refine F.ok scLSt (fun vs H Q E h => ?_) (fun cdv A outer s H vs Q E hr h => ?_)
  · obtain ⟨N, O, v, d, ov, sss, rfl, _⟩ := h
    rfl
  · obtain ⟨N, O, v, d, ov, sss, rfl, hO, tO, ko, l1, l4, hz, sh, k⟩ := h
    have hu := hr.units
    have hu1 : (A.deeper (envOfC "_law_are_starts" (defScope sLSt) s.heap.objs.size f cdv)).units < cLine := by omega
    refine ⟨_, (pss_cons (ps_if (PW.pt (pw_or (pt_not (pt_val (pe_callB call_isi (by rfl) misi boot_isinstance (pa_cons (pv 1) (pa_cons (pe_bltn (v := .ty "tuple") (by rfl) mtup PyProof.Rows.boot_tuple rfl) pa_nil))))) (pw_or1 (pt_cmpR (op_eqE hu1) (pv 1) (pe_tup pa_nil) (nomark _))))) (pss_one (ps_ret pe_bl)) pss_nil) (pss_cons (ps_for PassesOwn.never rfl (pi_tup (pv 1)) (pg_name (i := 2) scLSt.nd rfl (Or.inl rfl)) (pss_cons (ps_if (PW.pt (pw_or (pt_not (pt_val (pe_callB call_isi (by rfl) misi boot_isinstance (pa_cons (pv 2) (pa_cons (pe_bltn (v := .ty "tuple") (by rfl) mtup PyProof.Rows.boot_tuple rfl) pa_nil))))) (pw_or1 (pt_cmpR op_ne (pe_callB (r := rLenQ K) call_len_seq (by rfl) mlen PySem.boot_len (pa_cons (pv 2) pa_nil)) (pe_callB (r := rLenQ K) call_len_seq (by rfl) mlen PySem.boot_len (pa_cons (pv 0) pa_nil)) (nomark _))))) (pss_one (ps_ret pe_bl)) pss_nil) (pss_one (ps_for PassesOwn.never rfl (pi_zipM (by rfl) mzip (pa_cons (pv 2) (pa_cons (pv 0) pa_nil))) (pg_tup (by rfl) (pgs_cons (pg_name (i := 3) scLSt.nd rfl (Or.inl rfl)) (pgs_cons (pg_name (i := 4) scLSt.nd rfl (Or.inl rfl)) pgs_nil))) (pss_one (ps_if (PW.pt (pw_or (pt_not (pt_val (pe_call GN hr (by rfl) mN kN bN .nil pass0 (pa_cons (pv 3) pa_nil)))) (pw_or (pt_cmpR op_lt (pv 3) pe_int (nomark _)) (pw_or1 (pt_cmpR op_ge (pv 3) (pe_callB (r := rLenQ K) call_len_seq (by rfl) mlen PySem.boot_len (pa_cons (pv 4) pa_nil)) (nomark _)))))) (pss_one (ps_ret pe_bl)) pss_nil)))))) (pss_one (ps_ret (pe_cmpR (op_eqD hu) (pe_callTy call_list_of (by rfl) mlist (by decide +kernel) (pa_cons (pv 1) pa_nil)) (pe_callB (cr_sortS rfl hu) (by rfl) msorted PyProof.Rows.boot_sorted (pa_cons (pe_callTy (cr_setTT rfl hu) (by rfl) mset PyProof.Rows.boot_set (pa_cons (pv 1) pa_nil)) pa_nil)) (nomark _)))))), ?_⟩
    have lov := tO.lenm
    refine ⟨_, rfl, _, _, _, _, _, rfl, .ty "tuple", (hz).ty, kit_ty (kb_of _).1, _, rfl, ?_⟩
    cases e0 : isTup d with
    | false =>
      have q := k H (Same.refl H)
      rw [show startsB sss d = false from by cases d <;> first | rfl | cases e0] at q
      exact iteT (iteT q)
    | true =>
    obtain ⟨t, xs, ds, rfl, rfl, ht, tz⟩ := tupz hz e0
    have l6 := sh.len
    have lx := tz.len
    refine iteF ⟨_, rfl, by show 0 ≤ sizeLine; decide, fun e he => ?_⟩
    have s1 := same_new (o := .tup []) he
    have he1 : (upd H e (.tup [])) e = some (.tup []) := upd_same
    generalize upd H e (.tup []) = H1 at s1 he1 ⊢
    refine ⟨t, e, xs, rfl, rfl, s1 _ _ ht, he1, _, rfl, ?_⟩
    cases c0 : xs.isEmpty with
    | true =>
      have q := k H1 s1
      have dsn : ds = [] := by
        cases ds with
        | nil => rfl
        | cons _ _ =>
          cases xs with
          | nil => simp at lx
          | cons _ _ => cases c0
      subst dsn
      exact iteT q
    | false =>
    have fin : startsB sss (.tuple ds) = (ds.all (startB sss) && ascL HT.lexLt (ds.map rowI)) := by
      show (!ds.isEmpty && _) = _
      cases ds with
      | nil =>
        cases xs with
        | nil => cases c0
        | cons _ _ => simp at lx
      | cons _ _ => rfl
    rw [fin] at k
    have no : ∀ (i : Nat) (d1 : PyData), ds[i]? = some d1 → startB sss d1 = false → ∀ H', Same H H' → Q (.bl false) H' := fun i d1 ed c H' s' => by
      have q := k H' s'
      have z : ds.all (startB sss) = false := Bool.eq_false_iff.mpr fun z => by
        rw [List.all_eq_true.mp z d1 (List.mem_of_getElem? ed)] at c
        cases c
      rw [z, Bool.false_and] at q
      exact q
    have ht1 := s1 _ _ ht
    refine iteF ⟨_, rfl, t, rfl, ⟨_, SqT.of ht1⟩, for_tup (K := K) (a := t) (xs := xs) (fun i σ H3 => ∃ (o2 o3 o4 : Option V), σ = [some (.ref O), some (.ref t), o2, o3, o4] ∧ Same H H3 ∧ (ds.take i).all (startB sss) = true) ⟨none, none, none, rfl, s1, by rw [List.take_zero]; rfl⟩ (fun i σ H3 _ ⟨_, _, _, _, s3, _⟩ => SqT.of (s3 _ _ ht)) ?_ ?_⟩
    · rintro i x σ H3 ex ⟨o2, o3, o4, rfl, s3, al⟩
      obtain ⟨d1, ed, zd⟩ := (tz.same s3).at_ ex
      have shd := sh.part (List.mem_of_getElem? ed)
      refine ⟨_, rfl, _, _, _, _, _, rfl, .ty "tuple", (zd).ty, kit_ty (kb_of _).1, _, rfl, ?_⟩
      cases e1 : isTup d1 with
      | false => exact iteT (iteT (no i d1 ed (by cases d1 <;> first | rfl | cases e1) H3 s3))
      | true =>
      obtain ⟨u, ys, es, rfl, rfl, hu_, uz⟩ := tupz zd e1
      have ly := uz.len
      have hO3 := s3 _ _ hO
      have tO3 := tO.to (Tup.of s3)
      refine iteF ⟨_, rfl, u, _, rfl, .inr (SqT.of hu_), _, rfl, O, _, rfl, .inl (SqL.of hO3), rfl, _, rfl, ?_⟩
      by_cases c : es.length = sss.length
      · have ne : (!decide (V.int (ys.length : Int) = V.int (ov.length : Int))) = false := by
          rw [ly, c, lov]
          simp
        rw [ne]
        refine iteF ⟨_, rfl, _, rfl, u, O, ys, ov, rfl, SqT.of hu_, SqL.of hO3, for_zipM (K := K) (a := u) (b := O) (xs := ys) (ys := ov) (by omega) (fun j σ H4 => ∃ (o3 o4 : Option V), σ = [some (.ref O), some (.ref t), some (.ref u), o3, o4] ∧ Same H3 H4 ∧ ∀ (i : Nat) (ss : List (List Stp)) (d : PyData), i < j → sss[i]? = some ss → es[i]? = some d → stB ss d = true) ⟨o3, o4, rfl, Same.refl H3, fun i ss d z => absurd z (Nat.not_lt_zero _)⟩ (fun j σ H4 ⟨_, _, _, s4, _⟩ => ⟨SqT.of (s4 _ _ hu_), SqL.of (s4 _ _ hO3)⟩) (fun j y sv T σ H4 ey es_ ⟨o3, o4, e, s4, al2⟩ hT => ?_) fun σ H4 ⟨o3, o4, e, s4, al2⟩ => ?_⟩
        · subst e
          have sT := same_new (o := .tup [y, sv]) hT
          have s5 := s4.trans sT
          obtain ⟨d2, ed2, zd2⟩ := (uz.same s5).at_ ey
          obtain ⟨ss, ess, ts⟩ := (tO3.to (Tup.of s5)).at_ es_
          obtain ⟨a, sx, rfl, ha, hx⟩ := TD.ref_of (ds := ss.map stateD) ts
          have lsx := hx.lenm
          have bad : stB ss d2 = false → ∀ H', Same H3 H' → Q (.bl false) H' := fun z H' s' => no i _ ed (by
            show (decide (es.length = sss.length) && allZ stB sss es) = false
            rw [decide_eq_true c, Bool.true_and]
            refine Bool.eq_false_iff.mpr fun w => ?_
            rw [allZ_iff.mp w j ss d2 ess ed2] at z
            cases z) H' (s3.trans s')
          refine ⟨T, _, rfl, SqT.of upd_same, rfl, _, _, rfl, _, _, rfl, rfl, ?_⟩
          refine ⟨_, rfl, N, y, d2, rfl, zd2, _, rfl, ?_⟩
          cases n1 : lnumB d2 with
          | false => exact iteT (iteT (bad (by cases d2 <;> first | rfl | cases n1) _ s5))
          | true =>
          obtain ⟨n, rfl, rfl⟩ := lnum_int zd2 n1
          refine iteF ⟨_, rfl, _, _, rfl, rfl, _, rfl, ?_⟩
          by_cases n0 : n < 0
          · rw [decide_eq_true n0]
            exact iteT (iteT (bad (by show (decide (0 ≤ n) && _) = false; rw [decide_eq_false (by omega)]; rfl) _ s5))
          rw [decide_eq_false n0]
          refine iteF ⟨_, rfl, _, rfl, a, _, rfl, .inr (SqT.of ha), _, _, rfl, rfl, _, rfl, ?_⟩
          by_cases ge : n ≥ (sx.length : Int)
          · rw [decide_eq_true ge]
            exact iteT (bad (by show (decide (0 ≤ n) && decide (n < (ss.length : Int))) = false; rw [decide_eq_false (show ¬ n < (ss.length : Int) by omega), Bool.and_false]) _ s5)
          rw [decide_eq_false ge]
          refine iteF ⟨_, _, rfl, s5, fun i' ss' d' lt' e1' e2' => ?_⟩
          rcases Nat.lt_or_ge i' j with l | g
          · exact al2 i' ss' d' l e1' e2'
          · have ej : i' = j := by omega
            subst ej
            rw [ess] at e1'
            rw [ed2] at e2'
            cases e1'
            cases e2'
            show (decide (0 ≤ n) && decide (n < (ss.length : Int))) = true
            rw [decide_eq_true (by omega), decide_eq_true (by omega)]
            rfl
        · subst e
          refine ⟨_, _, _, rfl, s3.trans s4, ?_⟩
          rw [take_all ed, al, Bool.true_and]
          show (decide (es.length = sss.length) && allZ stB sss es) = true
          rw [decide_eq_true c, Bool.true_and]
          refine allZ_iff.mpr fun i' ss' d' e1' e2' => al2 i' ss' d' ?_ e1' e2'
          have := (List.getElem?_eq_some_iff.mp e2').1
          omega
      · have ne : (!decide (V.int (ys.length : Int) = V.int (ov.length : Int))) = true := by
          rw [decide_eq_false fun z => c (by have z2 := V.int.inj z; omega)]
          rfl
        rw [ne]
        exact iteT (no i _ ed (by show (decide (es.length = sss.length) && _) = false; rw [decide_eq_false c]; rfl) H3 s3)
    · rintro σ H3 ⟨o2, o3, o4, rfl, s3, al⟩
      rw [lx, List.take_length] at al
      rw [al, Bool.true_and] at k
      obtain ⟨ks, e1, e2, e3⟩ := start_rows (tz.same s3) al
      have ht3 := s3 _ _ ht
      rw [e1] at ht3
      have lk : ks.length = ds.length := by
        have z := congrArg List.length e2
        rw [List.length_map, List.length_map, List.length_map] at z
        exact z
      refine ⟨_, rfl, t, _, rfl, .inr (SqT.of ht3), fun l hl => ?_⟩
      have s4 := same_new (o := .lst (ks.map fun q => V.ref q.1)) hl
      have hl4 : (upd H3 l (.lst (ks.map fun q => V.ref q.1))) l = some (.lst (ks.map fun q => V.ref q.1)) := upd_same
      generalize upd H3 l (.lst (ks.map fun q => V.ref q.1)) = H4 at s4 hl4 ⊢
      refine ⟨_, rfl, t, ks, rfl, SqT.of (s4 _ _ ht3), fun q m => SqT.of (s4 _ _ (e3 q m).1), by omega, fun a2 L ha2 sub all nd => ?_⟩
      have s5 := same_new (o := SetO P w a2 L) ha2
      have keyL : ∀ q ∈ L, ∃ r, q.2 = keyI r := fun q m => let ⟨_, r, e, _⟩ := e3 q (sub q m); ⟨r, e⟩
      refine ⟨a2, L, rfl, upd_same, fun q m => SqT.of (s5 _ _ (s4 _ _ (e3 q (sub q m)).1)), ?_, ?_, fun L1 p pm less nd1 hp => ?_⟩
      · intro d hd d' hd'
        obtain ⟨q, m, rfl⟩ := List.mem_map.mp hd
        obtain ⟨r, m', rfl⟩ := List.mem_map.mp hd'
        obtain ⟨x, ex⟩ := keyL q m
        obtain ⟨y, ey⟩ := keyL r m'
        rw [ex, ey, tD_keyI, tD_keyI]
        exact alike_rows x y
      · refine .inl fun d hd => ?_
        obtain ⟨q, m, rfl⟩ := List.mem_map.mp hd
        obtain ⟨_, r, e, lr⟩ := e3 q (sub q m)
        rw [e, tD_keyI]
        cases r with
        | nil => rw [← lr] at l1; cases l1
        | cons x r => exact ⟨_, _, rfl⟩
      have pm2 := (pm.map Prod.snd)
      obtain ⟨rs, r1, r2, r3⟩ := sorted_rows L1 (pm2.nodup_iff.mpr nd) fun q m => keyL q (pm.mem_iff.mp m)
      have memM : ∀ q ∈ L1.mergeSort (PySem.W.dataLe false fun q : Addr × List Key => tD q.2), q ∈ ks := fun q m => sub q (pm.mem_iff.mp ((List.mergeSort_perm _ _).mem_iff.mp m))
      generalize L1.mergeSort (PySem.W.dataLe false fun q : Addr × List Key => tD q.2) = M at r1 memM ⊢
      have s6 := same_new (o := .lst (M.map fun q => V.ref q.1)) hp
      have s46 := s4.trans (s5.trans s6)
      refine ⟨_, _, .lst (SqL.of (s6 _ _ (s5 _ _ hl4))) (dp_rowsI ks (ds.map rowI) e2 fun q m => s46 _ _ (e3 q m).1), .lst (SqL.of upd_same) (dp_rowsI M rs r1 fun q m => s46 _ _ (e3 q (memM q m)).1), shaped_rowsI _, shaped_rowsI _, ?_⟩
      rw [eqv_rows, asc_same (lt := HT.lexLt) lex_ir lex_tr r2 fun r => ?_]
      · exact k _ (s3.trans s46)
      · rw [r3, pm2.mem_iff]
        constructor
        · intro m
          obtain ⟨q, mq, eq⟩ := List.mem_map.mp m
          have m2 : q.2 ∈ ks.map Prod.snd := List.mem_map.mpr ⟨q, sub q mq, rfl⟩
          rw [e2, eq] at m2
          obtain ⟨r', mr, er⟩ := List.mem_map.mp m2
          rw [← keyI_inj er]
          exact mr
        · intro m
          have m2 : keyI r ∈ ks.map Prod.snd := by
            rw [e2]
            exact List.mem_map.mpr ⟨r, m, rfl⟩
          obtain ⟨q, mq, eq⟩ := List.mem_map.mp m2
          rw [← eq]
          exact all q mq
end
end My

-- ===== K13Q2 =====
set_option Elab.async false
set_option linter.all false
set_option maxRecDepth 100000
set_option maxHeartbeats 4000000
namespace My
open PySem L2 PyProof.Rows PySem.Spec Kd StX ClX
theorem Sht.str {z : Str} (h : Sht (.str z)) : PyData.strOk z = true := by
  obtain ⟨k, c⟩ := h
  cases k <;> exact c
theorem sht_strOk {d : PyData} (h : Sht d) : strOk' d := fun z e => Sht.str (e ▸ h)
theorem ris_nums {d : PyData} (h : risB d = true) (p : ∀ k ∈ rowI d, 0 ≤ k) : numsB d = true := by
  cases d with
  | tuple ds =>
    have z := Bool.and_eq_true_iff.mp h
    refine Bool.and_eq_true_iff.mpr ⟨List.all_eq_true.mpr fun x m => ?_, z.2⟩
    have y := List.all_eq_true.mp z.1 x m
    cases x with
    | int i => exact decide_eq_true (p i (List.mem_map.mpr ⟨_, m, rfl⟩))
    | _ => cases y
  | _ => cases h
theorem nums_ris {d : PyData} (h : numsB d = true) : risB d = true := by
  cases d with
  | tuple ds =>
    have z := Bool.and_eq_true_iff.mp h
    refine Bool.and_eq_true_iff.mpr ⟨List.all_eq_true.mpr fun x m => ?_, z.2⟩
    have y := List.all_eq_true.mp z.1 x m
    cases x with
    | int i => rfl
    | _ => cases y
  | _ => cases h
theorem ris_at {N : Addr → Prop} {H : Hp} {v : V} {d : PyData} (h : TZ N H v d) (e : risB d = true) : ∃ t, v = .ref t ∧ H t = some (.tup ((rowI d).map V.int)) := by
  cases h with
  | @tup t xs ds ht hs =>
    have z := Bool.and_eq_true_iff.mp e
    exact ⟨_, rfl, by rw [ht, lnum_row hs z.1]; rfl⟩
  | _ => cases e
theorem row_len {d : PyData} (h : Sht d) : (rowI d).length ≤ 60 := by
  cases d with
  | tuple ds =>
    show (ds.map iOf).length ≤ 60
    rw [List.length_map]
    exact h.len
  | _ => exact Nat.zero_le _
/-- an entry of four parts -/
theorem enO_four {sss : List (List (List Stp))} {n : Int} {c : Bool} {e r : PyData} : enO sss (.tuple [.int n, .bool c, e, r]) = if (decide (0 ≤ n) && (numsB e && rowB sss r)) = true then some (n, c, rowI e) else none := rfl
theorem entL_four {sss : List (List (List Stp))} {B : List (Int × List Int)} {last n : Int} {c : Bool} {e r : PyData} : entL sss B last (.tuple [.int n, .bool c, e, r]) = (decide (0 ≤ n) && (numsB e && rowB sss r) && (decide (last < n) && clo B (rowI e))) := by
  unfold entL
  rw [enO_four]
  cases decide (0 ≤ n) && (numsB e && rowB sss r) <;> rfl
theorem entL_none {sss : List (List (List Stp))} {B : List (Int × List Int)} {last : Int} {d : PyData} (h : enO sss d = none) : entL sss B last d = false := by
  unfold entL
  rw [h]
theorem enO_parts {sss : List (List (List Stp))} {a b e r : PyData} (h : lnumB a = false ∨ isBl b = false) : enO sss (.tuple [a, b, e, r]) = none := by
  cases a <;> cases b <;> first | rfl | (rcases h with h | h <;> cases h)
theorem enO_len4 {sss : List (List (List Stp))} {ds : List PyData} (h : ds.length ≠ 4) : enO sss (.tuple ds) = none := by
  unfold enO
  split
  · rename_i e
    injection e with e
    rw [e] at h
    exact absurd rfl h
  · rfl
def nin (B : List (Int × List Int)) (k : Int) : Bool := !(lk B k).isSome
theorem clo_two {B : List (Int × List Int)} {e : List Int} (h : e.all (fun k => (lk B k).isSome) = true) : clo B e = e.all fun k => (((lk B k).getD []).filter fun j => !decide (j ∈ e)).isEmpty := by
  unfold clo
  refine Bool.eq_iff_iff.mpr ?_
  rw [List.all_eq_true, List.all_eq_true]
  refine forall_congr' fun k => imp_congr_right fun m => ?_
  obtain ⟨f, q⟩ := Option.isSome_iff_exists.mp (List.all_eq_true.mp h k m)
  rw [q]
  show (f.all fun j => decide (j ∈ e)) = true ↔ (f.filter fun j => !decide (j ∈ e)).isEmpty = true
  rw [List.all_eq_true, List.isEmpty_iff, List.filter_eq_nil_iff]
  refine forall_congr' fun j => imp_congr_right fun _ => ?_
  simp
theorem filt_snoc {α : Type} {P : α → Bool} {f : List α} {j : Nat} {y : α} (e : f[j]? = some y) : (f.take (j + 1)).filter P = (f.take j).filter P ++ if P y = true then [y] else [] := by
  rw [List.take_add_one, e, List.filter_append]
  by_cases c : P y = true
  · rw [if_pos c]
    show _ ++ [y].filter P = _
    rw [List.filter_cons_of_pos c]
    rfl
  · rw [if_neg c]
    show _ ++ [y].filter P = _
    rw [List.filter_cons_of_neg c]
    rfl
def uTF (N : Addr → Prop) : TT := fun σ H Q => ∃ (t : Addr) (xs : List V) (v1 : V) (d1 : PyData), σ[1]? = some (some (.ref t)) ∧ H t = some (.tup xs) ∧ atI xs 1 = some v1 ∧ TZ N H v1 d1 ∧ Q (!isBl d1) H
section
variable {P : Program} {w : World} {K : PySem.W.Frag} {mg : Str → Option Value} {base : Heap} {C : Addr}
theorem scLRow : FnScope ["_law_machines", "_law_value", "_law_did_here"] ["_law_machines", "_law_value"] (defScope sLRow) := ⟨rfl, rfl, rfl, by decide +kernel, rfl, by decide +kernel, by decide +kernel⟩
theorem ok_lrow {f fE : Addr} {fd fdE : FuncData} (F : Fun K "_law_is_row" "_law_is_row" sLRow f fd) (misi : mg "isinstance" = none) (mtup : mg "tuple" = none) (mlen : mg "len" = none)
    (GE : FnOk P w K mg base CX0 2 fE fdE ["_law_machines", "_law_value"] spLe) (mE : mg "_law_is_event" = some (.ref fE)) (kE : PySem.W.keepIn K (.ref fE) = true) (bE : Binds K fdE ["_law_machines", "_law_value"] []) : FnOk P w K mg base CX0 3 f fd ["_law_machines", "_law_value"] spLRow := by
  refine F.ok scLRow (fun vs H Q E h => ?_) (fun cdv A outer s H vs Q E hr h => ?_)
  · obtain ⟨N, O, v, d, ov, sss, rfl, _⟩ := h
    rfl
  · obtain ⟨N, O, v, d, ov, sss, rfl, hO, tO, ko, l4, hz, sh, k⟩ := h
    refine ⟨_, (pss_cons (ps_if (pt_not (pt_val (pe_callB call_isi (by rfl) misi boot_isinstance (pa_cons (pv 1) (pa_cons (pe_bltn (v := .ty "tuple") (by rfl) mtup PyProof.Rows.boot_tuple rfl) pa_nil))))) (pss_one (ps_ret pe_bl)) pss_nil) (pss_cons (ps_for PassesOwn.never rfl (pi_tup (pv 1)) (pg_name (i := 2) scLRow.nd rfl (Or.inl rfl)) (pss_one (ps_if (PW.pt (pw_or (pt_not (pt_val (pe_callB call_isi (by rfl) misi boot_isinstance (pa_cons (pv 2) (pa_cons (pe_bltn (v := .ty "tuple") (by rfl) mtup PyProof.Rows.boot_tuple rfl) pa_nil))))) (pw_or (pt_cmpR op_ne (pe_callB (r := rLenQ K) call_len_seq (by rfl) mlen PySem.boot_len (pa_cons (pv 2) pa_nil)) pe_int (nomark _)) (pw_or1 (pt_not (pt_val (pe_call GE hr (by rfl) mE kE bE .nil pass0 (pa_cons (pv 0) (pa_cons (pv 2) pa_nil))))))))) (pss_one (ps_ret pe_bl)) pss_nil))) (pss_one (ps_ret pe_bl)))), ?_⟩
    refine ⟨_, rfl, _, _, _, _, _, rfl, .ty "tuple", (hz).ty, kit_ty (kb_of _).1, _, rfl, ?_⟩
    cases e0 : isTup d with
    | false =>
      have q := k H (Same.refl H)
      rw [show rowB sss d = false from by cases d <;> first | rfl | cases e0] at q
      exact iteT q
    | true =>
    obtain ⟨t, xs, ds, rfl, rfl, ht, tz⟩ := tupz hz e0
    have lx := tz.len
    have no : ∀ (i : Nat) (d1 : PyData), ds[i]? = some d1 → partB sss d1 = false → ∀ H', Same H H' → Q (.bl false) H' := fun i d1 ed c H' s' => by
      have q := k H' s'
      have z : rowB sss (.tuple ds) = false := by
        show ds.all (partB sss) = false
        refine Bool.eq_false_iff.mpr fun z => ?_
        rw [List.all_eq_true.mp z d1 (List.mem_of_getElem? ed)] at c
        cases c
      rwa [z] at q
    refine iteF ⟨_, rfl, t, rfl, ⟨_, SqT.of ht⟩, for_tup (K := K) (a := t) (xs := xs) (fun i σ H3 => ∃ (o2 : Option V), σ = [some (.ref O), some (.ref t), o2] ∧ Same H H3 ∧ (ds.take i).all (partB sss) = true) ⟨none, rfl, Same.refl H, by rw [List.take_zero]; rfl⟩ (fun i σ H3 _ ⟨_, _, s3, _⟩ => SqT.of (s3 _ _ ht)) ?_ ?_⟩
    · rintro i x σ H3 ex ⟨o2, rfl, s3, al⟩
      obtain ⟨d1, ed, zd⟩ := (tz.same s3).at_ ex
      have shd := sh.part (List.mem_of_getElem? ed)
      refine ⟨_, rfl, _, _, _, _, _, rfl, .ty "tuple", (zd).ty, kit_ty (kb_of _).1, _, rfl, ?_⟩
      cases e1 : isTup d1 with
      | false => exact iteT (iteT (no i d1 ed (by cases d1 <;> first | rfl | cases e1) H3 s3))
      | true =>
      obtain ⟨u, ys, es, rfl, rfl, hu_, uz⟩ := tupz zd e1
      have ly := uz.len
      refine iteF ⟨_, rfl, u, _, rfl, .inr (SqT.of hu_), rfl, _, rfl, ?_⟩
      by_cases c : es.length = 3
      · rw [show (!decide (V.int (ys.length : Int) = V.int 3)) = false from by rw [ly, c]; rfl]
        match es, c, uz with
        | [d2, d3, d4], _, uz =>
          cases uz with
          | @cons v2 _ _ _ y2 uz =>
            cases uz with
            | @cons v3 _ _ _ y3 uz =>
              cases uz with
              | @cons v4 _ _ _ y4 uz =>
                cases uz
                refine iteF ⟨_, rfl, _, rfl, N, O, u, v2, v3, v4, d2, d3, d4, ov, sss, rfl, s3 _ _ hO, tO.to (Tup.of s3), ko, l4, hu_, y2, y3, y4, sht_strOk (shd.part (by simp)), sht_strOk (shd.part (by simp)), fun H4 s4 => ⟨_, rfl, ?_⟩⟩
                cases c5 : ansB sss d2 d3 d4 with
                | false => exact iteT (no i _ ed c5 H4 (s3.trans s4))
                | true => exact iteF ⟨_, rfl, s3.trans s4, by rw [take_all ed, al]; exact c5⟩
      · rw [show (!decide (V.int (ys.length : Int) = V.int 3)) = true from by rw [decide_eq_false fun z => c (by have z2 := V.int.inj z; omega)]; rfl]
        refine iteT (iteT (no i _ ed ?_ H3 s3))
        unfold partB
        split
        · rename_i e
          injection e with e
          rw [e] at c
          exact absurd rfl c
        · rfl
    · rintro σ H3 ⟨o2, rfl, s3, al⟩
      rw [lx, List.take_length] at al
      have q := k H3 s3
      rwa [show rowB sss (.tuple ds) = true from al] at q
abbrev nLEnt : List Str := ["_law_machines", "_law_value", "_law_before", "_law_last", "_law_one", "_law_other"]
theorem scLEnt : FnScope nLEnt ["_law_machines", "_law_value", "_law_before", "_law_last"] (defScope sLEnt) := ⟨rfl, rfl, rfl, by decide +kernel, rfl, by decide +kernel, by decide +kernel⟩
theorem ok_lent {f fN fS fR : Addr} {fd fdN fdS fdR : FuncData} (F : Fun K "_law_is_entry" "_law_is_entry" sLEnt f fd) (misi : mg "isinstance" = none) (mtup : mg "tuple" = none) (mlen : mg "len" = none)
    (GN : FnOk P w K mg base CX0 1 fN fdN ["_law_value"] spLnum) (mN : mg "_law_is_number" = some (.ref fN)) (kN : PySem.W.keepIn K (.ref fN) = true) (bN : Binds K fdN ["_law_value"] [])
    (GS : FnOk P w K mg base CX0 2 fS fdS ["_law_value"] spRis) (mS : mg "_law_is_rising" = some (.ref fS)) (kS : PySem.W.keepIn K (.ref fS) = true) (bS : Binds K fdS ["_law_value"] [])
    (GR : FnOk P w K mg base CX0 3 fR fdR ["_law_machines", "_law_value"] spLRow) (mR : mg "_law_is_row" = some (.ref fR)) (kR : PySem.W.keepIn K (.ref fR) = true) (bR : Binds K fdR ["_law_machines", "_law_value"] []) : FnOk P w K mg base CX0 4 f fd ["_law_machines", "_law_value", "_law_before", "_law_last"] spLEnt := by
  refine F.ok scLEnt (fun vs H Q E h => ?_) (fun cdv A outer s H vs Q E hr h => ?_)
  · obtain ⟨N, O, b, v, d, last, ov, sss, B, kvs, rfl, _⟩ := h
    rfl
  · obtain ⟨N, O, b, v, d, last, ov, sss, B, kvs, rfl, hO, tO, ko, l4, hz, sh, hb, lb, kp, lm, bl, k⟩ := h
    have hu := hr.units
    have hu1 : (A.deeper (envOfC "_law_is_entry" (defScope sLEnt) s.heap.objs.size f cdv)).units + 1 < cLine := by omega
    have hu0 : (A.deeper (envOfC "_law_is_entry" (defScope sLEnt) s.heap.objs.size f cdv)).units < cLine := by omega
    have hr1 := hr.mono (show 1 ≤ 3 by omega)
    have hr2 := hr.mono (show 2 ≤ 3 by omega)
    refine ⟨_, (pss_cons (ps_if (PW.pt (pw_or (pt_not (pt_val (pe_callB call_isi (by rfl) misi boot_isinstance (pa_cons (pv 1) (pa_cons (pe_bltn (v := .ty "tuple") (by rfl) mtup PyProof.Rows.boot_tuple rfl) pa_nil))))) (pw_or (pt_cmpR op_ne (pe_callB (r := rLenQ K) call_len_seq (by rfl) mlen PySem.boot_len (pa_cons (pv 1) pa_nil)) pe_int (nomark _)) (pw_or (pt_not (pt_val (pe_call GN hr1 (by rfl) mN kN bN .nil pass0 (pa_cons (pe_ix ix_tup (pv 1) pe_int (fun _ _ => rfl)) pa_nil)))) (pw_or1 (pt_cmpR op_le (pe_ix ix_tup (pv 1) pe_int (fun _ _ => rfl)) (pv 3) (nomark _))))))) (pss_one (ps_ret pe_bl)) pss_nil) (pss_cons (ps_if (PT.wk (u := uTF N) (PW.pt (pw_and (pt_cmpR (r := rIsNotZ N) op_isNotZ (pe_ix ix_tup (pv 1) pe_int (fun _ _ => rfl)) pe_bl (by rfl)) (pw_and1 (pt_cmpR (r := rIsNotZ N) op_isNotZ (pe_ix ix_tup (pv 1) pe_int (fun _ _ => rfl)) pe_bl (by rfl))))) (fun σ H Q ⟨t, xs, v1, d1, e1, ht, at1, z1, q⟩ => by
      refine ⟨_, e1, t, _, 1, _, rfl, rfl, SqT.of ht, at1, d1, true, z1, rfl, _, rfl, ?_⟩
      cases c : isB true d1 with
      | true =>
        rw [show isBl d1 = true from by cases d1 <;> first | rfl | cases c] at q
        exact iteF q
      | false =>
        refine iteT ⟨_, e1, t, _, 1, _, rfl, rfl, SqT.of ht, at1, d1, false, z1, rfl, _, rfl, ?_⟩
        rw [show isB false d1 = isBl d1 from by cases d1 <;> first | rfl | (rename_i z; cases z <;> first | rfl | cases c)]
        exact q)) (pss_one (ps_ret pe_bl)) pss_nil) (pss_cons (ps_if (PW.pt (pw_or (pt_not (pt_val (pe_call GS hr2 (by rfl) mS kS bS .nil pass0 (pa_cons (pe_ix ix_tup (pv 1) pe_int (fun _ _ => rfl)) pa_nil)))) (pw_or1 (pt_cmpR (op_neL hu0) (pe_lc (own := [("_law_one", 4)]) (g := gName 4) rfl scLEnt.nd (pi_tup (pe_ix ix_tup (pv 1) pe_int (fun _ _ => rfl))) (blkOk_by (N := nLEnt) (sc := defScope sLEnt) (by decide +kernel)) (fun _ _ _ _ _ => pg_name (i := 4) scLEnt.nd rfl (Or.inl rfl)) (fun _ _ _ _ _ => pts_one (pt_cmp (pc_dnotin hu1 (pv 4) (pv 2)))) (fun _ _ _ _ _ => (pv 4))) (pe_lst pa_nil) (nomark _))))) (pss_one (ps_ret pe_bl)) pss_nil) (pss_cons (ps_for PassesOwn.never rfl (pi_tup (pe_ix ix_tup (pv 1) pe_int (fun _ _ => rfl))) (pg_name (i := 4) scLEnt.nd rfl (Or.inl rfl)) (pss_one (ps_if (pt_cmpR (op_neL hu0) (pe_lc (own := [("_law_other", 5)]) (g := gName 5) rfl scLEnt.nd (pi_tup (pe_dget hu1 (pv 2) (pv 4) (fun _ _ => rfl))) (blkOk_by (N := nLEnt) (sc := defScope sLEnt) (by decide +kernel)) (fun _ _ _ _ _ => pg_name (i := 5) scLEnt.nd rfl (Or.inl rfl)) (fun _ _ _ _ _ => pts_one (pt_cmpR (r := rIn K true) op_notIn_seq (pv 5) (pe_ix (r := rIxT K) ix_tup (pv 1) pe_int (fun _ _ => rfl)) (by rfl))) (fun _ _ _ _ _ => (pv 5))) (pe_lst pa_nil) (nomark _)) (pss_one (ps_ret pe_bl)) pss_nil))) (pss_one (ps_ret (pe_call GR hr (by rfl) mR kR bR .nil pass0 (pa_cons (pv 0) (pa_cons (pe_ix ix_tup (pv 1) pe_int (fun _ _ => rfl)) pa_nil))))))))), ?_⟩
    have no : entL sss B last d = false → ∀ H', Same H H' → Q (.bl false) H' := fun e H' s' => by
      have q := k H' s'
      rwa [e] at q
    have s0 := Same.refl H
    refine ⟨_, rfl, _, _, _, _, _, rfl, .ty "tuple", (hz).ty, kit_ty (kb_of _).1, _, rfl, ?_⟩
    cases e0 : isTup d with
    | false => exact iteT (iteT (no (entL_none (by cases d <;> first | rfl | cases e0)) H s0))
    | true =>
    obtain ⟨t, xs, ds, rfl, rfl, ht, tz⟩ := tupz hz e0
    have lx := tz.len
    refine iteF ⟨_, rfl, t, _, rfl, .inr (SqT.of ht), rfl, _, rfl, ?_⟩
    by_cases c : ds.length = 4
    case neg =>
      rw [show (!decide (V.int (xs.length : Int) = V.int 4)) = true from by rw [decide_eq_false fun z => c (by have z2 := V.int.inj z; omega)]; rfl]
      exact iteT (iteT (no (entL_none (enO_len4 c)) H s0))
    rw [show (!decide (V.int (xs.length : Int) = V.int 4)) = false from by rw [lx, c]; rfl]
    obtain ⟨d0, d1, d2, d3, rfl⟩ : ∃ d0 d1 d2 d3, ds = [d0, d1, d2, d3] := by
      match ds, c with
      | [d0, d1, d2, d3], _ => exact ⟨_, _, _, _, rfl⟩
    obtain ⟨v0, v1, v2, v3, rfl, z0, z1, z2, z3⟩ : ∃ v0 v1 v2 v3, xs = [v0, v1, v2, v3] ∧ TZ N H v0 d0 ∧ TZ N H v1 d1 ∧ TZ N H v2 d2 ∧ TZ N H v3 d3 := by
      cases tz with
      | cons y0 tz =>
        cases tz with
        | cons y1 tz =>
          cases tz with
          | cons y2 tz =>
            cases tz with
            | cons y3 tz =>
              cases tz
              exact ⟨_, _, _, _, rfl, y0, y1, y2, y3⟩
    have at0 : atI [v0, v1, v2, v3] 0 = some v0 := atI_nat (xs := [v0, v1, v2, v3]) (j := 0) rfl
    have at1 : atI [v0, v1, v2, v3] 1 = some v1 := atI_nat (xs := [v0, v1, v2, v3]) (j := 1) rfl
    have at2 : atI [v0, v1, v2, v3] 2 = some v2 := atI_nat (xs := [v0, v1, v2, v3]) (j := 2) rfl
    have at3 : atI [v0, v1, v2, v3] 3 = some v3 := atI_nat (xs := [v0, v1, v2, v3]) (j := 3) rfl
    have sh2 : Sht d2 := sh.part (by simp)
    have sh3 : Sht d3 := sh.part (by simp)
    refine iteF ⟨_, rfl, t, _, 0, _, rfl, rfl, SqT.of ht, at0, N, v0, d0, rfl, z0, _, rfl, ?_⟩
    cases n1 : lnumB d0 with
    | false => exact iteT (iteT (no (entL_none (enO_parts (.inl n1))) H s0))
    | true =>
    obtain ⟨n, rfl, rfl⟩ := lnum_int z0 n1
    refine iteF ⟨_, rfl, t, _, 0, _, rfl, rfl, SqT.of ht, at0, _, rfl, _, _, rfl, rfl, _, rfl, ?_⟩
    by_cases le : n ≤ last
    · rw [decide_eq_true le]
      refine iteT (no ?_ H s0)
      cases c1 : isBl d1 with
      | false => exact entL_none (enO_parts (.inr c1))
      | true =>
        cases d1 with
        | bool cc =>
          rw [entL_four, decide_eq_false (show ¬ last < n by omega), Bool.false_and, Bool.and_false]
        | _ => cases c1
    rw [decide_eq_false le]
    have n0 : 0 ≤ n := by omega
    refine iteF ⟨t, _, v1, d1, rfl, ht, at1, z1, ?_⟩
    cases c1 : isBl d1 with
    | false => exact iteT (no (entL_none (enO_parts (.inr c1))) H s0)
    | true =>
    obtain ⟨cc, rfl⟩ : ∃ cc, d1 = .bool cc := by
      cases d1 with
      | bool cc => exact ⟨cc, rfl⟩
      | _ => cases c1
    rw [entL_four, decide_eq_true n0, decide_eq_true (show last < n by omega), Bool.true_and, Bool.true_and] at k no
    refine iteF ⟨_, rfl, t, _, 2, _, rfl, rfl, SqT.of ht, at2, N, v2, d2, rfl, z2, sh2, fun H1 s1 => ⟨_, rfl, ?_⟩⟩
    cases c2 : risB d2 with
    | false =>
      refine iteT (iteT (no ?_ H1 s1))
      rw [show numsB d2 = false from Bool.eq_false_iff.mpr fun z => by rw [nums_ris z] at c2; cases c2]
      rfl
    | true =>
    obtain ⟨te, rfl, hte⟩ := ris_at z2 c2
    have le60 := row_len sh2
    generalize ee : rowI d2 = e at hte le60 k no
    have ht1 := s1 _ _ ht
    have hte1 := s1 _ _ hte
    have hb1 := s1 _ _ hb
    have lb1 := lb.same s1
    have le_ : (e.map V.int).length = e.length := List.length_map ..
    have some_eq : ∀ k, (valV kvs (Sum.inl k)).isSome = (lk B k).isSome := fun k => by
      cases q : lk B k with
      | none => rw [lb.no k q]; rfl
      | some f =>
        obtain ⟨a, e1, _⟩ := lb.yes k f q
        rw [e1]
        rfl
    refine iteF ⟨_, rfl, t, _, 2, _, rfl, rfl, SqT.of ht1, at2, te, rfl, ⟨_, SqT.of hte1⟩, fun D hD => lc_tup (K := K) (a := te) (xs := e.map V.int) (fun i H2 => Same H1 H2 ∧ ∃ zs : List V, H2 D = some (.lst zs) ∧ zs.length ≤ i ∧ zs.isEmpty = (e.take i).all fun k => (lk B k).isSome) ⟨same_new hD, [], upd_same, Nat.le_refl _, by rw [List.take_zero]; rfl⟩ (fun i H2 _ ⟨s2, _⟩ => SqT.of (s2 _ _ hte1)) (fun i x H2 ex ⟨s2, zs, d2', zl, ze⟩ => ?_) fun H2 ⟨s2, zs, d2', zl, ze⟩ => ?_⟩
    · rw [List.getElem?_map] at ex
      obtain ⟨kx, ek, rfl⟩ := Option.map_eq_some_iff.mp ex
      have lt := (List.getElem?_eq_some_iff.mp ek).1
      refine ⟨rfl, _, rfl, _, rfl, b, _, rfl, DGet.k (k := Sum.inl kx) (s2 _ _ hb1), _, rfl, ?_⟩
      rw [some_eq]
      cases c3 : (lk B kx).isSome with
      | true => exact iteF ⟨s2, zs, d2', by omega, by rw [take_all ek, c3, Bool.and_true]; exact ze⟩
      | false => exact iteT ⟨_, rfl, zs, d2', small_lt (m := 60) (by omega), same_at s2 hD, zs ++ [.int kx], upd_same, by rw [List.length_append]; exact Nat.succ_le_succ zl, by rw [take_all ek, c3, Bool.and_false, isE_app]⟩
    rw [le_, List.take_length] at ze
    refine ⟨by show 0 ≤ sizeLine; decide, fun ad hd => ?_⟩
    have s3 := same_new (o := .lst []) hd
    refine ⟨D, ad, zs, rfl, rfl, s3 _ _ d2', upd_same, _, rfl, ?_⟩
    rw [ze]
    have s23 := s2.trans s3
    have s13 := s1.trans s23
    have hb3 := s23 _ _ hb1
    have hte3 := s23 _ _ hte1
    have ht3 := s23 _ _ ht1
    generalize upd H2 ad (.lst []) = H3 at s23 s13 hb3 hte3 ht3 ⊢
    cases c3 : e.all (fun k => (lk B k).isSome) with
    | false =>
      refine iteT (no ?_ H3 s13)
      have cf : clo B e = false := Bool.eq_false_iff.mpr fun z => by
        rw [List.all_eq_true.mpr fun k m => by rw [lk_some]; exact decide_eq_true (clo_sub z k m)] at c3
        cases c3
      rw [cf, Bool.and_false]
    | true =>
    have cl2 := clo_two c3
    refine iteF ⟨_, rfl, t, _, 2, _, rfl, rfl, SqT.of ht3, at2, te, rfl, ⟨_, SqT.of hte3⟩, for_tup (K := K) (a := te) (xs := e.map V.int) (fun i σ H4 => ∃ (o4 : Option V), σ = [some (.ref O), some (.ref t), some (.ref b), some (.int last), o4, none] ∧ Same H3 H4 ∧ ((e.take i).all fun k => (((lk B k).getD []).filter fun j => !decide (j ∈ e)).isEmpty) = true) ⟨none, rfl, Same.refl H3, by rw [List.take_zero]; rfl⟩ (fun i σ H4 _ ⟨_, _, s4, _⟩ => SqT.of (s4 _ _ hte3)) ?_ ?_⟩
    · rintro i x σ H4 ex ⟨o4, rfl, s4, al⟩
      rw [List.getElem?_map] at ex
      obtain ⟨kx, ek, rfl⟩ := Option.map_eq_some_iff.mp ex
      obtain ⟨f, ef⟩ := Option.isSome_iff_exists.mp (List.all_eq_true.mp c3 kx (List.mem_of_getElem? ek))
      obtain ⟨a, ea, ha⟩ := lb.yes kx f ef
      have lf : f.length ≤ 60 := bl _ (lk_mem ef)
      have s14 := s13.trans s4
      have hb4 := s14 _ _ hb
      have ha4 := s14 _ _ ha
      have at_ : DGet H4 b (.int kx) (some (.ref a)) := by
        have z := DGet.k (k := Sum.inl kx) hb4
        rw [ea] at z
        exact z
      refine ⟨_, rfl, _, rfl, b, _, rfl, at_, a, rfl, ⟨_, SqT.of ha4⟩, fun D2 hD2 => lc_tup (K := K) (a := a) (xs := f.map V.int) (fun j H5 => Same H4 H5 ∧ H5 D2 = some (.lst (((f.take j).filter fun j => !decide (j ∈ e)).map V.int))) ⟨same_new hD2, by rw [List.take_zero]; exact upd_same⟩ (fun j H5 _ ⟨s5, _⟩ => SqT.of (s5 _ _ ha4)) (fun j y H5 ey ⟨s5, d5⟩ => ?_) fun H5 ⟨s5, d5⟩ => ?_⟩
      · rw [List.getElem?_map] at ey
        obtain ⟨ky, eky, rfl⟩ := Option.map_eq_some_iff.mp ey
        have ltj := (List.getElem?_eq_some_iff.mp eky).1
        have s15 := s14.trans s5
        refine ⟨rfl, _, rfl, _, rfl, t, _, 2, _, rfl, rfl, SqT.of (s15 _ _ ht), at2, te, _, rfl, .inr (SqT.of (s15 _ _ hte)), rfl, flat_nums e, _, rfl, ?_⟩
        rw [if_pos rfl, in_ints]
        cases c4 : decide (ky ∈ e) with
        | true => exact iteF ⟨s5, by rw [filt_snoc eky, if_neg (by rw [c4]; exact Bool.false_ne_true), List.append_nil]; exact d5⟩
        | false =>
          refine iteT ⟨_, rfl, _, d5, ?_, same_at s5 hD2, ?_⟩
          · rw [List.length_map]
            have z := List.length_filter_le (fun j => !decide (j ∈ e)) (f.take j)
            rw [List.length_take] at z
            exact small_lt (m := 60) (by omega)
          · rw [upd_same, filt_snoc eky, if_pos (by rw [c4]; rfl), List.map_append]
            rfl
      rw [show (f.map V.int).length = f.length from List.length_map .., List.take_length] at d5
      refine ⟨by show 0 ≤ sizeLine; decide, fun ae he => ?_⟩
      have s6 := same_new (o := .lst []) he
      refine ⟨D2, ae, _, rfl, rfl, s6 _ _ d5, upd_same, _, rfl, ?_⟩
      rw [show ((f.filter fun j => !decide (j ∈ e)).map V.int).isEmpty = (f.filter fun j => !decide (j ∈ e)).isEmpty from by cases f.filter fun j => !decide (j ∈ e) <;> rfl]
      have gd : (((lk B kx).getD []).filter fun j => !decide (j ∈ e)).isEmpty = (f.filter fun j => !decide (j ∈ e)).isEmpty := by rw [ef]; rfl
      have s46 := s4.trans (s5.trans s6)
      cases c5 : (f.filter fun j => !decide (j ∈ e)).isEmpty with
      | false =>
        refine iteT (no ?_ _ (s13.trans s46))
        have cf : clo B e = false := by
          rw [cl2]
          refine Bool.eq_false_iff.mpr fun z => ?_
          have y := List.all_eq_true.mp z kx (List.mem_of_getElem? ek)
          rw [gd, c5] at y
          cases y
        rw [cf, Bool.and_false]
      | true => exact iteF ⟨_, rfl, s46, by rw [take_all ek, al, gd, c5]; rfl⟩
    · rintro σ H4 ⟨o4, rfl, s4, al⟩
      rw [le_, List.take_length] at al
      have cl : clo B e = true := cl2.trans al
      have nb : numsB d2 = true := ris_nums c2 fun k m => by
        rw [ee] at m
        exact kp k (clo_sub cl k m)
      rw [nb, cl, Bool.true_and, Bool.and_true] at k
      have s14 := s13.trans s4
      exact ⟨_, rfl, _, rfl, t, _, 3, _, rfl, rfl, SqT.of (s14 _ _ ht), at3, N, O, v3, d3, ov, sss, rfl, s14 _ _ hO, tO.to (Tup.of s14), ko, l4, z3.same s14, sh3, fun H5 s5 => k H5 (s14.trans s5)⟩
end
end My

-- ===== K13Q3 =====
set_option Elab.async false
set_option linter.all false
set_option maxRecDepth 100000
set_option maxHeartbeats 4000000
namespace My
open PySem L2 PyProof.Rows PySem.Spec Kd StX ClX
theorem logB_two {sss : List (List (List Stp))} {d0 d1 : PyData} : logB sss (.tuple [d0, d1]) = (startsB sss d0 && entsB sss d1) := by
  cases d1 with
  | tuple es => rfl
  | _ => exact (Bool.and_false _).symm
theorem logB_len {sss : List (List (List Stp))} {ds : List PyData} (h : ds.length ≠ 2) : logB sss (.tuple ds) = false := by
  unfold logB
  split
  · rename_i e
    injection e with e
    rw [e] at h
    exact absurd rfl h
  · rfl
theorem bool_at {N : Addr → Prop} {H : Hp} {v : V} {d : PyData} {sss : List (List (List Stp))} {n : Int} {c : Bool} {e : List Int} (h : TZ N H v d) (q : enO sss d = some (n, c, e)) : ∃ (t te : Addr) (vr : V), v = .ref t ∧ H t = some (.tup [.int n, .bl c, .ref te, vr]) ∧ H te = some (.tup (e.map V.int)) ∧ 0 ≤ n := by
  obtain ⟨⟨t, te, vr, e1, e2, e3⟩, n0, _, _⟩ := en_at h q
  exact ⟨t, te, vr, e1, e2, e3, n0⟩
section
variable {P : Program} {w : World} {K : PySem.W.Frag} {mg : Str → Option Value} {base : Heap} {C : Addr}
abbrev nLLog : List Str := ["_law_machines", "_law_value", "_law_before", "_law_last", "_law_entry"]
theorem scLLog : FnScope nLLog ["_law_machines", "_law_value"] (defScope sLLog) := ⟨rfl, rfl, rfl, by decide +kernel, rfl, by decide +kernel, by decide +kernel⟩
theorem ok_llog {f fS fE : Addr} {fd fdS fdE : FuncData} (F : Fun K "_law_is_log" "_law_is_log" sLLog f fd) (misi : mg "isinstance" = none) (mtup : mg "tuple" = none) (mlen : mg "len" = none)
    (GS : FnOk P w K mg base CX0 2 fS fdS ["_law_machines", "_law_value"] spLSt) (mS : mg "_law_are_starts" = some (.ref fS)) (kS : PySem.W.keepIn K (.ref fS) = true) (bS : Binds K fdS ["_law_machines", "_law_value"] [])
    (GE : FnOk P w K mg base CX0 4 fE fdE ["_law_machines", "_law_value", "_law_before", "_law_last"] spLEnt) (mE : mg "_law_is_entry" = some (.ref fE)) (kE : PySem.W.keepIn K (.ref fE) = true) (bE : Binds K fdE ["_law_machines", "_law_value", "_law_before", "_law_last"] []) : FnOk P w K mg base CX0 5 f fd ["_law_machines", "_law_value"] spLLog := by
  refine F.ok scLLog (fun vs H Q E h => ?_) (fun cdv A outer s H vs Q E hr h => ?_)
  · obtain ⟨N, O, v, d, ov, sss, rfl, _⟩ := h
    rfl
  · obtain ⟨N, O, v, d, ov, sss, rfl, hO, tO, ko, l1, l4, hz, sh, k⟩ := h
    have hu := hr.units
    have hu1 : (A.deeper (envOfC "_law_is_log" (defScope sLLog) s.heap.objs.size f cdv)).units + 1 < cLine := by omega
    have hr2 := hr.mono (show 2 ≤ 4 by omega)
    refine ⟨_, (pss_cons (ps_if (PW.pt (pw_or (pt_not (pt_val (pe_callB call_isi (by rfl) misi boot_isinstance (pa_cons (pv 1) (pa_cons (pe_bltn (v := .ty "tuple") (by rfl) mtup PyProof.Rows.boot_tuple rfl) pa_nil))))) (pw_or (pt_cmpR op_ne (pe_callB (r := rLenQ K) call_len_seq (by rfl) mlen PySem.boot_len (pa_cons (pv 1) pa_nil)) pe_int (nomark _)) (pw_or1 (pt_not (pt_val (pe_call GS hr2 (by rfl) mS kS bS .nil pass0 (pa_cons (pv 0) (pa_cons (pe_ix ix_tup (pv 1) pe_int (fun _ _ => rfl)) pa_nil))))))))) (pss_one (ps_ret pe_bl)) pss_nil) (pss_cons (ps_if (pt_not (pt_val (pe_callB call_isi (by rfl) misi boot_isinstance (pa_cons (pe_ix ix_tup (pv 1) pe_int (fun _ _ => rfl)) (pa_cons (pe_bltn (v := .ty "tuple") (by rfl) mtup PyProof.Rows.boot_tuple rfl) pa_nil))))) (pss_one (ps_ret pe_bl)) pss_nil) (pss_cons (ps_par (i := 2) (j := 3) rfl scLLog.nd rfl rfl (by decide) rfl rfl (pa_cons pe_dnewK (pa_cons (pe_un un_neg pe_int) pa_nil)) (by rfl)) (pss_cons (ps_for PassesOwn.never rfl (pi_tup (pe_ix ix_tup (pv 1) pe_int (fun _ _ => rfl))) (pg_name (i := 4) scLLog.nd rfl (Or.inl rfl)) (pss_cons (ps_if (pt_not (pt_val (pe_call GE hr (by rfl) mE kE bE .nil pass0 (pa_cons (pv 0) (pa_cons (pv 4) (pa_cons (pv 2) (pa_cons (pv 3) pa_nil))))))) (pss_one (ps_ret pe_bl)) pss_nil) (pss_cons (ps_set (i := 3) scLLog.nd rfl (Or.inl rfl) (pe_ix ix_tup (pv 4) pe_int (fun _ _ => rfl))) (pss_one (ps_if (pt_val (pe_ix ix_tup (pv 4) pe_int (fun _ _ => rfl))) (pss_one (ps_dput hu1 (pv 2) (pv 3) (pe_ix ix_tup (pv 4) pe_int (fun _ _ => rfl)) (by rfl))) pss_nil))))) (pss_one (ps_ret pe_bl)))))), ?_⟩
    have no : logB sss d = false → ∀ H', Same H H' → Q (.bl false) H' := fun e H' s' => by
      have q := k H' s'
      rwa [e] at q
    refine ⟨_, rfl, _, _, _, _, _, rfl, .ty "tuple", (hz).ty, kit_ty (kb_of _).1, _, rfl, ?_⟩
    cases e0 : isTup d with
    | false => exact iteT (iteT (no (by cases d <;> first | rfl | cases e0) H (Same.refl H)))
    | true =>
    obtain ⟨t, xs, ds, rfl, rfl, ht, tz⟩ := tupz hz e0
    have lx := tz.len
    refine iteF ⟨_, rfl, t, _, rfl, .inr (SqT.of ht), rfl, _, rfl, ?_⟩
    by_cases c : ds.length = 2
    case neg =>
      rw [show (!decide (V.int (xs.length : Int) = V.int 2)) = true from by rw [decide_eq_false fun z => c (by have z2 := V.int.inj z; omega)]; rfl]
      exact iteT (iteT (no (logB_len c) H (Same.refl H)))
    rw [show (!decide (V.int (xs.length : Int) = V.int 2)) = false from by rw [lx, c]; rfl]
    obtain ⟨d0, d1, rfl⟩ : ∃ d0 d1, ds = [d0, d1] := by
      match ds, c with
      | [d0, d1], _ => exact ⟨_, _, rfl⟩
    obtain ⟨v0, v1, rfl, z0, z1⟩ : ∃ v0 v1, xs = [v0, v1] ∧ TZ N H v0 d0 ∧ TZ N H v1 d1 := by
      cases tz with
      | cons y0 tz =>
        cases tz with
        | cons y1 tz =>
          cases tz
          exact ⟨_, _, rfl, y0, y1⟩
    have at0 : atI [v0, v1] 0 = some v0 := atI_nat (xs := [v0, v1]) (j := 0) rfl
    have at1 : atI [v0, v1] 1 = some v1 := atI_nat (xs := [v0, v1]) (j := 1) rfl
    rw [logB_two] at k no
    have sh0 : Sht d0 := sh.part (by simp)
    have sh1 : Sht d1 := sh.part (by simp)
    refine iteF ⟨_, rfl, _, rfl, t, _, 0, _, rfl, rfl, SqT.of ht, at0, N, O, v0, d0, ov, sss, rfl, hO, tO, ko, l1, l4, z0, sh0, fun H1 s1 => ⟨_, rfl, ?_⟩⟩
    cases c0 : startsB sss d0 with
    | false => exact iteT (no (by rw [c0]; rfl) H1 s1)
    | true =>
    rw [c0, Bool.true_and] at k no
    have z1' := z1.same s1
    refine iteF ⟨_, rfl, t, _, 1, _, rfl, rfl, SqT.of (s1 _ _ ht), at1, _, _, _, _, _, rfl, .ty "tuple", (z1').ty, kit_ty (kb_of _).1, _, rfl, ?_⟩
    cases e1 : isTup d1 with
    | false => exact iteT (no (by cases d1 <;> first | rfl | cases e1) H1 s1)
    | true =>
    obtain ⟨u, ys, es, rfl, rfl, hu_, uz⟩ := tupz z1' e1
    have ly := uz.len
    have le60 := sh1.len
    refine iteF ?_
    intro b hb
    have s2 := same_new (o := .dK []) hb
    have fb : H b = none := s1.free hb
    have hb2 : (upd H1 b (.dK [])) b = some (.dK []) := upd_same
    have s12 := s1.trans s2
    generalize upd H1 b (.dK []) = H2 at s2 hb2 s12 ⊢
    refine ⟨1, rfl, _, _, rfl, _, rfl, t, _, 1, _, rfl, rfl, SqT.of (s12 _ _ ht), at1, u, rfl, ⟨_, SqT.of (s2 _ _ hu_)⟩, for_tup (K := K) (a := u) (xs := ys) (fun i σ H3 => ∃ (o4 : Option V) (B : List (Int × List Int)) (kvs : List (Key × V)) (last : Int), σ = [some (.ref O), some (.ref t), some (.ref b), some (.int last), o4] ∧ Same H1 H3 ∧ H3 b = some (.dK kvs) ∧ LB H3 B kvs ∧ (∀ k ∈ B.map Prod.fst, 0 ≤ k ∧ k ≤ last) ∧ -1 ≤ last ∧ (∀ q ∈ B, q.2.length ≤ 60) ∧ B.length ≤ i ∧ runX (enO sss) B last (es.drop i) = runX (enO sss) [] (-1) es)
      ⟨none, [], [], -1, rfl, s2, hb2, LB.nil, (fun k m => nomatch m), Int.le_refl _, (fun q m => nomatch m), Nat.le_refl _, by rw [List.drop_zero]⟩ (fun i σ H3 _ ⟨_, _, _, _, _, s3, _⟩ => SqT.of (s3 _ _ hu_)) ?_ ?_⟩
    · rintro i x σ H3 ex ⟨o4, B, kvs, last, rfl, s3, hb3, lb, kp, lm, bl, Bl, run⟩
      have s13 := s1.trans s3
      obtain ⟨d2, ed, zd⟩ := (uz.same s3).at_ ex
      have shd := sh1.part (List.mem_of_getElem? ed)
      have lt := (List.getElem?_eq_some_iff.mp ex).1
      have dr : es.drop i = d2 :: es.drop (i + 1) := by
        rw [List.drop_eq_getElem_cons (by omega), (List.getElem?_eq_some_iff.mp ed).2]
      rw [dr] at run
      refine ⟨_, rfl, _, rfl, _, rfl, _, rfl, N, O, b, x, d2, last, ov, sss, B, kvs, rfl, s13 _ _ hO, tO.to (Tup.of s13), ko, l4, zd, shd, hb3, lb, (fun k m => (kp k m).1), lm, bl, fun H4 s4 => ⟨_, rfl, ?_⟩⟩
      cases q : enO sss d2 with
      | none =>
        rw [show entL sss B last d2 = false from entL_none q]
        have z : runX (enO sss) B last (d2 :: es.drop (i + 1)) = false := by
          unfold runX
          rw [q]
        rw [z] at run
        exact iteT (no run.symm H4 (s13.trans s4))
      | some y =>
      obtain ⟨n, cc, e⟩ := y
      have z : runX (enO sss) B last (d2 :: es.drop (i + 1)) = (decide (last < n) && clo B e && runX (enO sss) (if cc = true then B ++ [(n, e)] else B) n (es.drop (i + 1))) := by
        conv => lhs; unfold runX
        rw [q]
      rw [z] at run
      have el : entL sss B last d2 = (decide (last < n) && clo B e) := by
        unfold entL
        rw [q]
      rw [el]
      cases c1 : (decide (last < n) && clo B e) with
      | false =>
        rw [c1, Bool.false_and] at run
        exact iteT (no run.symm H4 (s13.trans s4))
      | true =>
      rw [c1, Bool.true_and] at run
      have ln : last < n := of_decide_eq_true (Bool.and_eq_true_iff.mp c1).1
      obtain ⟨tx, te, vr, rfl, htx, hte, n0⟩ := bool_at (zd.same s4) q
      have lee := enO_len shd q
      refine iteF ⟨_, rfl, tx, _, 0, _, rfl, rfl, SqT.of htx, atI_nat (xs := [V.int n, .bl cc, .ref te, vr]) (j := 0) rfl, _, rfl, tx, _, 1, _, rfl, rfl, SqT.of htx, atI_nat (xs := [V.int n, .bl cc, .ref te, vr]) (j := 1) rfl, _, rfl, ?_⟩
      have s34 := s3.trans s4
      have hb4 := s4 _ _ hb3
      cases cc with
      | false => exact iteF ⟨_, B, kvs, n, rfl, s34, hb4, lb.same s4, (fun k m => ⟨(kp k m).1, by have := (kp k m).2; omega⟩), by omega, bl, by omega, run⟩
      | true =>
        have hn : n ∉ B.map Prod.fst := fun m => by have := (kp n m).2; omega
        refine iteT ⟨_, rfl, tx, _, 2, _, rfl, rfl, SqT.of htx, atI_nat (xs := [V.int n, .bl true, .ref te, vr]) (j := 2) rfl, _, rfl, _, rfl, b, _, rfl, DPut.k (k := Sum.inl n) hb4 ?_, ?_⟩
        · have := lb.len
          exact small_lt (m := 60) (by omega)
        have tp : ∀ x xs, H4 x = some (.tup xs) → (upd H4 b (.dK (putK kvs (Sum.inl n) (.ref te)))) x = some (.tup xs) := fun x xs e => by
          rw [upd_ne fun z => by rw [z, hb4] at e; cases e]
          exact e
        refine ⟨_, B ++ [(n, e)], _, n, rfl, fun x o e => ?_, upd_same, (lb.same s4).put hn hte tp, fun k m => ?_, by omega, fun q2 m => ?_, by rw [List.length_append, List.length_singleton]; omega, run⟩
        · rw [upd_ne fun z => by rw [z, hb] at e; cases e]
          exact s34 _ _ e
        · rw [List.map_append] at m
          rcases List.mem_append.mp m with m | m
          · exact ⟨(kp k m).1, by have := (kp k m).2; omega⟩
          · rw [List.mem_singleton.mp m]
            exact ⟨n0, Int.le_refl _⟩
        · rcases List.mem_append.mp m with m | m
          · exact bl q2 m
          · rw [List.mem_singleton.mp m]
            exact lee
    · rintro σ H3 ⟨o4, B, kvs, last, rfl, s3, hb3, lb, kp, lm, bl, Bl, run⟩
      rw [ly, List.drop_length] at run
      have q := k H3 (s1.trans s3)
      rw [show entsB sss (.tuple es) = runX (enO sss) [] (-1) es from rfl, ← run] at q
      exact q
end
end My

-- ===== K13O =====
set_option Elab.async false
set_option linter.all false
set_option maxRecDepth 100000
set_option maxHeartbeats 4000000
namespace My
open PySem L2 PyProof.Rows PySem.Spec Kd StX ClX
abbrev sOdd : Stmt := top 49
abbrev sBent : Stmt := top 50
abbrev NPC (p c : Addr) : Addr → Prop := fun a => a ≠ p ∧ a ≠ c
theorem zf_save {p c : Addr} {H H' : Hp} {ks : List Int} {w n : Int} (F : FeedAt H p c ks w n) (s : Save p c H H') : Zf (NPC p c) H H' :=
  ⟨fun a xs h e => s a _ e h.1 h.2, fun a xs e => s a _ e (fun z => by rw [z, F.ob] at e; cases e) (fun z => by rw [z, F.cs] at e; cases e), fun a e => s a _ e (fun z => by rw [z, F.ob] at e; cases e) (fun z => by rw [z, F.cs] at e; cases e)⟩
theorem FeedAt.off {H : Hp} {p c : Addr} {ks : List Int} {w n : Int} (F : FeedAt H p c ks w n) {x : Addr} (h : H x = none) : NPC p c x := ⟨Ne.symm (ne_of_none F.ob h), Ne.symm (ne_of_none F.cs h)⟩
def Gd (p c : Addr) (H : Hp) (v : V) : Prop := ∃ d, TZ (NPC p c) H v d ∧ Nice 2 1 d
theorem gnil {p c : Addr} {H : Hp} : ∀ x ∈ ([] : List V), Gd p c H x := fun x m => nomatch m
theorem gcons {p c : Addr} {H : Hp} {v : V} {vs : List V} (g : Gd p c H v) (r : ∀ x ∈ vs, Gd p c H x) : ∀ x ∈ v :: vs, Gd p c H x := fun x m => by
  rcases List.mem_cons.mp m with rfl | m
  · exact g
  · exact r x m
theorem nice1 {a : PyData} (h : Nice 2 0 a) : Nice 2 1 (.tuple [a]) := ⟨by show 1 ≤ 2; decide, fun d m => by rw [List.mem_singleton.mp m]; exact h⟩
theorem nice2 {a b : PyData} (h : Nice 2 0 a) (g : Nice 2 0 b) : Nice 2 1 (.tuple [a, b]) := ⟨Nat.le_refl _, fun d m => by
  rcases List.mem_cons.mp m with rfl | m
  · exact h
  · rw [List.mem_singleton.mp m]
    exact g⟩
/-- one of a tuple's items -/
def spPickT : Sp := fun vs H Q _ => ∃ (p c a : Addr) (xs : List V) (ks : List Int) (w n : Int), vs = [.ref p, .ref a] ∧ FeedAt H p c ks w n ∧ n < 999999 ∧ H a = some (.tup xs) ∧ 1 ≤ xs.length ∧ xs.length ≤ 1000 ∧
  ∀ (v : V) (ks' : List Int) (H' : Hp), v ∈ xs → FeedAt H' p c ks' w (n + 1) → Save p c H H' → Q v H'
def spOdd : Sp := fun vs H Q _ => ∃ (p c : Addr) (ks : List Int) (w n : Int), vs = [.ref p] ∧ FeedAt H p c ks w n ∧ n < 999990 ∧
  ∀ (v : V) (d : PyData) (ks' : List Int) (H' : Hp), TZ (NPC p c) H' v d → Nice 2 1 d → FeedAt H' p c ks' w (n + 1) → Save p c H H' → Q v H'
section
variable {P : Program} {w : World} {K : PySem.W.Frag} {mg : Str → Option Value} {base : Heap} {C : Addr}
theorem ok_pickT {f fD : Addr} {fd fdD : FuncData} (F : Fun K "_law_pick" "_law_pick" sPick f fd) (mlen : mg "len" = none)
    (GD : FnOk P w K mg base CX0 1 fD fdD ["_law_deck_here", "_law_count"] spDigit) (mD : mg "_law_draw" = some (.ref fD)) (kD : PySem.W.keepIn K (.ref fD) = true) (bD : Binds K fdD ["_law_deck_here", "_law_count"] []) :
    FnOk P w K mg base CX0 2 f fd ["_law_deck_here", "_law_some"] spPickT := by
  refine F.ok scPi (fun vs H Q E h => ?_) (fun cdv A outer s H vs Q E hr h => ?_)
  · obtain ⟨p, c, a, xs, ks, y, n, rfl, _⟩ := h
    rfl
  · obtain ⟨p, c, a, xs, ks, y, n, rfl, FA, hn, ha, l0, l1, k⟩ := h
    refine ⟨_, pss_one (ps_ret (pe_ix ix_tup (pv 1) (pe_call GD hr (by rfl) mD kD bD .nil pass0 (pa_cons (pv 0) (pa_cons (pe_callB (r := rLenQ K) call_len_seq (by rfl) mlen PySem.boot_len (pa_cons (pv 1) pa_nil)) pa_nil))) (fun _ _ => rfl))), ?_⟩
    refine ⟨_, rfl, _, rfl, _, rfl, a, _, rfl, .inr (SqT.of ha), p, c, ks, y, n, _, rfl, FA, by omega, by omega, by omega, fun i ks' H' i0 i1 FA' sv => ?_⟩
    obtain ⟨x, hx, e⟩ := at_nat (xs := xs) i0 i1
    exact ⟨a, _, i, _, rfl, rfl, SqT.of (sv a _ ha (fun z => by rw [z, FA.ob] at ha; cases ha) (fun z => by rw [z, FA.cs] at ha; cases ha)), e, k x ks' H' hx FA' sv⟩
abbrev nOd : List Str := ["_law_deck_here", "_law_some"]
theorem scOd : FnScope nOd ["_law_deck_here"] (defScope sOdd) := ⟨rfl, rfl, rfl, by decide +kernel, rfl, by decide +kernel, by decide +kernel⟩
theorem ok_odd {f fP : Addr} {fd fdP : FuncData} (F : Fun K "_law_odd" "_law_odd" sOdd f fd)
    (GP : FnOk P w K mg base CX0 2 fP fdP ["_law_deck_here", "_law_some"] spPick) (mP : mg "_law_pick" = some (.ref fP)) (kP : PySem.W.keepIn K (.ref fP) = true) (bP : Binds K fdP ["_law_deck_here", "_law_some"] []) :
    FnOk P w K mg base CX0 3 f fd ["_law_deck_here"] spOdd := by
  refine F.ok scOd (fun vs H Q E h => ?_) (fun cdv A outer s H vs Q E hr h => ?_)
  · obtain ⟨p, c, ks, y, n, rfl, _⟩ := h
    rfl
  · obtain ⟨p, c, ks, y, n, rfl, FA, hn, k⟩ := h
    refine ⟨_, (pss_cons (ps_set (i := 1) scOd.nd rfl (Or.inl rfl) (pe_lst (pa_cons pe_bl (pa_cons pe_bl (pa_cons pe_int (pa_cons pe_int (pa_cons (pe_un un_neg pe_int) (pa_cons pe_int (pa_cons (pe_op op_pow pe_int pe_int) (pa_cons pe_str (pa_cons pe_str (pa_cons pe_str (pa_cons pe_str (pa_cons pe_str (pa_cons pe_str (pa_cons pe_str (pa_cons pe_non (pa_cons (pe_tup pa_nil) (pa_cons (pe_lst pa_nil) (pa_cons pe_dnewK pa_nil)))))))))))))))))))) (pss_one (ps_ret (pe_call GP hr (by rfl) mP kP bP .nil pass0 (pa_cons (pv 0) (pa_cons (pe_op op_cat (pv 1) (pe_lst (pa_cons (pe_tup (pa_cons pe_str pa_nil)) (pa_cons (pe_lst (pa_cons pe_str pa_nil)) (pa_cons (pe_tup (pa_cons pe_str pa_nil)) (pa_cons (pe_tup (pa_cons pe_str (pa_cons pe_int pa_nil))) (pa_cons (pe_tup (pa_cons pe_int (pa_cons pe_int pa_nil))) (pa_cons (pe_lst (pa_cons pe_int pa_nil)) (pa_cons (pe_tup (pa_cons pe_str (pa_cons pe_int pa_nil))) pa_nil))))))))) pa_nil)))))), ?_⟩
    refine ⟨1, rfl, _, _, rfl, rfl, ⟨by decide, by decide, by decide⟩, by show 0 ≤ sizeLine; decide, fun t ht => ⟨by show 0 ≤ sizeLine; decide, fun l hl => fun d hd => ⟨by show 18 ≤ sizeLine; decide, fun L hL => ?_⟩⟩⟩
    have s1 := same_new (o := .tup []) ht
    have tt : (upd H t (.tup [])) t = some (.tup []) := upd_same
    generalize upd H t (.tup []) = H1 at hl hd hL s1 tt ⊢
    have s2 := same_new (o := .lst []) hl
    have tl : (upd H1 l (.lst [])) l = some (.lst []) := upd_same
    have nl := (FA.same s1).off hl
    generalize upd H1 l (.lst []) = H2 at hd hL s2 tl ⊢
    have s3 := same_new (o := .dK []) hd
    have td : (upd H2 d (.dK [])) d = some (.dK []) := upd_same
    generalize upd H2 d (.dK []) = H3 at hL s3 td ⊢
    have fL := ((FA.same s1).same s2).same s3
    have nL := fL.off hL
    have s4 := same_new (o := .lst [V.bl true, .bl false, .int 0, .int 1, .int (-1), .int 5, .int (10 ^ (39 : Int).toNat), .str "a", .str "", .str "begin", .str "did", .str "commit", .str "ok", .str "read", .non, .ref t, .ref l, .ref d]) hL
    have tL : (upd H3 L (.lst [V.bl true, .bl false, .int 0, .int 1, .int (-1), .int 5, .int (10 ^ (39 : Int).toNat), .str "a", .str "", .str "begin", .str "did", .str "commit", .str "ok", .str "read", .non, .ref t, .ref l, .ref d])) L = some (.lst [V.bl true, .bl false, .int 0, .int 1, .int (-1), .int 5, .int (10 ^ (39 : Int).toNat), .str "a", .str "", .str "begin", .str "did", .str "commit", .str "ok", .str "read", .non, .ref t, .ref l, .ref d]) := upd_same
    generalize upd H3 L (.lst [V.bl true, .bl false, .int 0, .int 1, .int (-1), .int 5, .int (10 ^ (39 : Int).toNat), .str "a", .str "", .str "begin", .str "did", .str "commit", .str "ok", .str "read", .non, .ref t, .ref l, .ref d]) = H4 at s4 tL ⊢
    have s14 := s1.trans (s2.trans (s3.trans s4))
    have FA4 := FA.same s14
    have one : (1 : Nat) ≤ sizeLine := by decide
    have two : (2 : Nat) ≤ sizeLine := by decide
    refine ⟨_, rfl, _, rfl, one, fun a1 h1 => ⟨one, fun a2 h2 => ⟨one, fun a3 h3 => ⟨two, fun a4 h4 => ⟨two, fun a5 h5 => ⟨one, fun a6 h6 => ⟨two, fun a7 h7 => ⟨by show 7 ≤ sizeLine; decide, fun M hM => ?_⟩⟩⟩⟩⟩⟩⟩⟩
    have z1 := same_new (o := .tup [V.str "begin"]) h1
    have y1 : (upd H4 a1 (.tup [V.str "begin"])) a1 = some (.tup [V.str "begin"]) := upd_same
    generalize upd H4 a1 (.tup [V.str "begin"]) = G1 at h2 h3 h4 h5 h6 h7 hM z1 y1 ⊢
    have z2 := same_new (o := .lst [V.str "begin"]) h2
    have y2 : (upd G1 a2 (.lst [V.str "begin"])) a2 = some (.lst [V.str "begin"]) := upd_same
    have n2 := (FA4.same z1).off h2
    generalize upd G1 a2 (.lst [V.str "begin"]) = G2 at h3 h4 h5 h6 h7 hM z2 y2 ⊢
    have z3 := same_new (o := .tup [V.str "did"]) h3
    have y3 : (upd G2 a3 (.tup [V.str "did"])) a3 = some (.tup [V.str "did"]) := upd_same
    generalize upd G2 a3 (.tup [V.str "did"]) = G3 at h4 h5 h6 h7 hM z3 y3 ⊢
    have z4 := same_new (o := .tup [V.str "commit", .int 0]) h4
    have y4 : (upd G3 a4 (.tup [V.str "commit", .int 0])) a4 = some (.tup [V.str "commit", .int 0]) := upd_same
    generalize upd G3 a4 (.tup [V.str "commit", .int 0]) = G4 at h5 h6 h7 hM z4 y4 ⊢
    have z5 := same_new (o := .tup [V.int 0, .int 0]) h5
    have y5 : (upd G4 a5 (.tup [V.int 0, .int 0])) a5 = some (.tup [V.int 0, .int 0]) := upd_same
    generalize upd G4 a5 (.tup [V.int 0, .int 0]) = G5 at h6 h7 hM z5 y5 ⊢
    have z6 := same_new (o := .lst [V.int 0]) h6
    have y6 : (upd G5 a6 (.lst [V.int 0])) a6 = some (.lst [V.int 0]) := upd_same
    have n6 := (FA4.same (z1.trans (z2.trans (z3.trans (z4.trans z5))))).off h6
    generalize upd G5 a6 (.lst [V.int 0]) = G6 at h7 hM z6 y6 ⊢
    have z7 := same_new (o := .tup [V.str "ok", .int 0]) h7
    have y7 : (upd G6 a7 (.tup [V.str "ok", .int 0])) a7 = some (.tup [V.str "ok", .int 0]) := upd_same
    generalize upd G6 a7 (.tup [V.str "ok", .int 0]) = G7 at hM z7 y7 ⊢
    have z8 := same_new (o := .lst [V.ref a1, .ref a2, .ref a3, .ref a4, .ref a5, .ref a6, .ref a7]) hM
    have y8 : (upd G7 M (.lst [V.ref a1, .ref a2, .ref a3, .ref a4, .ref a5, .ref a6, .ref a7])) M = some (.lst [V.ref a1, .ref a2, .ref a3, .ref a4, .ref a5, .ref a6, .ref a7]) := upd_same
    have z47 := z1.trans (z2.trans (z3.trans (z4.trans (z5.trans (z6.trans (z7.trans z8))))))
    refine ⟨L, M, _, _, rfl, rfl, z47 _ _ tL, y8, by show 25 ≤ sizeLine; decide, fun q hq => ?_⟩
    generalize upd G7 M (.lst [V.ref a1, .ref a2, .ref a3, .ref a4, .ref a5, .ref a6, .ref a7]) = G8 at z8 y8 z47 hq ⊢
    have z9 := same_new (o := .lst ([V.bl true, .bl false, .int 0, .int 1, .int (-1), .int 5, .int (10 ^ (39 : Int).toNat), .str "a", .str "", .str "begin", .str "did", .str "commit", .str "ok", .str "read", .non, .ref t, .ref l, .ref d] ++ [.ref a1, .ref a2, .ref a3, .ref a4, .ref a5, .ref a6, .ref a7])) hq
    have s49 := z47.trans z9
    have nq := (FA4.same z47).off hq
    have sok : ∀ z : Str, z ∈ (["a", "", "begin", "did", "commit", "ok", "read"] : List Str) → PyData.strOk z = true := by decide +kernel
    have all : ∀ x ∈ ([V.bl true, .bl false, .int 0, .int 1, .int (-1), .int 5, .int (10 ^ (39 : Int).toNat), .str "a", .str "", .str "begin", .str "did", .str "commit", .str "ok", .str "read", .non, .ref t, .ref l, .ref d] ++ [.ref a1, .ref a2, .ref a3, .ref a4, .ref a5, .ref a6, .ref a7] : List V), Gd p c G8 x := by
      have s48 := s14.trans z47
      have u8 := z8
      have u7 := z7.trans u8
      have u6 := z6.trans u7
      have u5 := z5.trans u6
      have u4 := z4.trans u5
      have u3 := z3.trans u4
      have u2 := z2.trans u3
      have u34 := s4.trans z47
      have u24 := s3.trans u34
      have u14 := s2.trans u24
      have sO : ∀ z : Str, z ∈ (["a", "", "begin", "did", "commit", "ok", "read"] : List Str) → Gd p c G8 (.str z) := fun z m => ⟨.str z, .str z, .str (sok z m)⟩
      refine gcons ⟨_, .bl _, .bool⟩ (gcons ⟨_, .bl _, .bool⟩ (gcons ⟨_, .int _, .int⟩ (gcons ⟨_, .int _, .int⟩ (gcons ⟨_, .int _, .int⟩ (gcons ⟨_, .int _, .int⟩ (gcons ⟨_, .int _, .int⟩ (gcons (sO _ (by decide)) (gcons (sO _ (by decide)) (gcons (sO _ (by decide)) (gcons (sO _ (by decide)) (gcons (sO _ (by decide)) (gcons (sO _ (by decide)) (gcons (sO _ (by decide)) (gcons ⟨_, .non, .non⟩ ?_))))))))))))))
      refine gcons ⟨_, .tup (u14 _ _ tt) .nil, ⟨Nat.zero_le _, fun d m => nomatch m⟩⟩ (gcons ⟨_, .lst nl (u24 _ _ tl), .lst⟩ (gcons ⟨_, .dct (u34 _ _ td), .dct⟩ ?_))
      refine gcons ⟨_, .tup (u2 _ _ y1) (.cons (.str _) .nil), nice1 (.str (sok _ (by decide)))⟩ (gcons ⟨_, .lst n2 (u3 _ _ y2), .lst⟩ (gcons ⟨_, .tup (u4 _ _ y3) (.cons (.str _) .nil), nice1 (.str (sok _ (by decide)))⟩ (gcons ⟨_, .tup (u5 _ _ y4) (.cons (.str _) (.cons (.int _) .nil)), nice2 (.str (sok _ (by decide))) .int⟩ (gcons ⟨_, .tup (u6 _ _ y5) (.cons (.int _) (.cons (.int _) .nil)), nice2 .int .int⟩ (gcons ⟨_, .lst n6 (u7 _ _ y6), .lst⟩ (gcons ⟨_, .tup (u8 _ _ y7) (.cons (.str _) (.cons (.int _) .nil)), nice2 (.str (sok _ (by decide))) .int⟩ gnil))))))
    refine ⟨p, c, q, _, ks, y, n, rfl, FA4.same s49, by omega, upd_same, nq.1, nq.2, by show 1 ≤ 25; decide, by show 25 ≤ 100; decide, fun x ks' H' mx FA' sv => ?_⟩
    obtain ⟨dx, tx, nx⟩ := all x mx
    exact k x dx ks' H' ((tx.same z9).to (zf_save (FA4.same s49) sv)) nx FA' ((Save.of (s14.trans s49)).trans sv)
end
end My

-- ===== K13H =====
set_option Elab.async false
set_option linter.all false
set_option maxRecDepth 100000
set_option maxHeartbeats 4000000
namespace My
open PySem L2 PyProof.Rows PySem.Spec Kd StX ClX
theorem PS.wk {X : Cx} {st : Stmt} {t u : TS} (h : PS X st t) (k : ∀ D σ H, u D σ H → t D σ H) : PS X st u := ⟨fun pins s σ H D I q => h.run pins s σ H D I (k D σ H q)⟩
/-- the tuple that stands i levels down, and which of its parts is gone into -/
structure Par (p c : Addr) (N k : Nat) (H : Hp) (i : Nat) (t : Addr) (a : Int) : Prop where
  ex : ∃ (xs : List V) (ds : List PyData), H t = some (.tup xs) ∧ TZs (NPC p c) H xs ds ∧ Nice N (k - i) (.tuple ds) ∧ 0 ≤ a ∧ a < (ds.length : Int)
theorem Par.to {p c : Addr} {N k : Nat} {H H' : Hp} {i : Nat} {t : Addr} {a : Int} (h : Par p c N k H i t a) (f : Zf (NPC p c) H H') : Par p c N k H' i t a := by
  obtain ⟨xs, ds, h1, h2, r⟩ := h
  exact ⟨xs, ds, f.t _ _ h1, h2.to f, r⟩
theorem Par.lt {p c : Addr} {N k : Nat} {H : Hp} {i : Nat} {t : Addr} {a : Int} (h : Par p c N k H i t a) : i < k := by
  obtain ⟨xs, ds, h1, h2, h3, h4, h5⟩ := h
  cases ds with
  | nil => simp at h5; omega
  | cons d ds =>
    obtain ⟨l, e, _⟩ := h3.part List.mem_cons_self
    omega
structure Chn (p c : Addr) (N k : Nat) (H : Hp) (ps : List Addr) (ats : List Int) (j : Nat) : Prop where
  l1 : ps.length = j
  l2 : ats.length = j
  par : ∀ (i : Nat) (t : Addr) (a : Int), ps[i]? = some t → ats[i]? = some a → Par p c N k H i t a
theorem Chn.to {p c : Addr} {N k : Nat} {H H' : Hp} {ps : List Addr} {ats : List Int} {j : Nat} (h : Chn p c N k H ps ats j) (f : Zf (NPC p c) H H') : Chn p c N k H' ps ats j := ⟨h.l1, h.l2, fun i t a e1 e2 => (h.par i t a e1 e2).to f⟩
theorem Chn.le {p c : Addr} {N k : Nat} {H : Hp} {ps : List Addr} {ats : List Int} {j : Nat} (h : Chn p c N k H ps ats j) : j ≤ k := by
  cases j with
  | zero => exact Nat.zero_le _
  | succ j =>
    have l1 := h.l1
    have l2 := h.l2
    exact (h.par j _ _ (List.getElem?_eq_getElem (show j < ps.length by omega)) (List.getElem?_eq_getElem (show j < ats.length by omega))).lt
theorem Chn.nil {p c : Addr} {N k : Nat} {H : Hp} : Chn p c N k H [] [] 0 := ⟨rfl, rfl, fun i t a e => by simp at e⟩
theorem Chn.snoc {p c : Addr} {N k : Nat} {H : Hp} {ps : List Addr} {ats : List Int} {j : Nat} {t : Addr} {a : Int} (h : Chn p c N k H ps ats j) (g : Par p c N k H j t a) : Chn p c N k H (ps ++ [t]) (ats ++ [a]) (j + 1) := by
  refine ⟨by rw [List.length_append, h.l1]; rfl, by rw [List.length_append, h.l2]; rfl, fun i u b e1 e2 => ?_⟩
  have l1 := h.l1
  have l2 := h.l2
  rcases Nat.lt_or_ge i j with l | ge
  · rw [List.getElem?_append_left (by omega)] at e1 e2
    exact h.par i u b e1 e2
  · have z := (List.getElem?_eq_some_iff.mp e1).1
    rw [List.length_append, List.length_singleton] at z
    have ei : i = j := by omega
    subst ei
    rw [List.getElem?_append_right (by omega), l1, Nat.sub_self] at e1
    rw [List.getElem?_append_right (by omega), l2, Nat.sub_self] at e2
    rw [← show t = u from Option.some.inj e1, ← show a = b from Option.some.inj e2]
    exact g
def spBent : Sp := fun vs H Q _ => ∃ (p c : Addr) (ks : List Int) (w n : Int) (v : V) (d : PyData) (N k : Nat), vs = [.ref p, v] ∧ FeedAt H p c ks w n ∧ n < 900000 ∧ TZ (NPC p c) H v d ∧ Nice N k d ∧ 2 ≤ N ∧ N ≤ 900 ∧ k ≤ 20 ∧
  ∀ (v' : V) (d' : PyData) (ks' : List Int) (n' : Int) (H' : Hp), TZ (NPC p c) H' v' d' → Nice (N + 1) (k + 1) d' → FeedAt H' p c ks' w n' → n' ≤ n + 50 → Save p c H H' → Q v' H'
/-- the test of the loop -/
def uW : TT := fun σ H Q => ∃ (N : Addr → Prop) (p c : Addr) (ks : List Int) (y n : Int) (vh : V) (dh : PyData), σ[0]? = some (some (.ref p)) ∧ σ[4]? = some (some vh) ∧ FeedAt H p c ks y n ∧ n < 999900 ∧ TZ N H vh dh ∧
  ∀ (b : Bool) (ks' : List Int) (n' : Int) (H' : Hp), FeedAt H' p c ks' y n' → n' ≤ n + 1 → Save p c H H' → (b = true → ∃ t xs d ds, dh = .tuple (d :: ds) ∧ vh = .ref t ∧ H t = some (.tup xs) ∧ TZs N H xs (d :: ds)) → Q b H'
/-- the ways that are made ready -/
def uF : TE := fun σ H Q => ∃ (p c : Addr) (ks : List Int) (y n wy : Int) (vh : V) (dh : PyData) (N k : Nat) (B : Addr) (ps : List Addr), σ[0]? = some (some (.ref p)) ∧ σ[3]? = some (some (.ref B)) ∧ σ[4]? = some (some vh) ∧ σ[5]? = some (some (.int wy)) ∧ FeedAt H p c ks y n ∧ n < 999900 ∧ 0 ≤ wy ∧
  TZ (NPC p c) H vh dh ∧ Nice N k dh ∧ 2 ≤ N ∧ N ≤ 900 ∧ H B = some (.lst (ps.map V.ref)) ∧ NPC p c B ∧ (∀ qs t, ps = qs ++ [t] → ∃ xs ds, H t = some (.tup xs) ∧ TZs (NPC p c) H xs ds ∧ 1 ≤ ds.length ∧ ds.length ≤ N ∧ ∀ d ∈ ds, Nice N k d) ∧
  ∀ (fo : Addr) (vs : List V) (ds : List PyData) (ks' : List Int) (n' : Int) (H' : Hp), H' fo = some (.lst vs) → TZs (NPC p c) H' vs ds → ds.length ≤ 2 → (∀ d ∈ ds, Nice N (k + 1) d) → FeedAt H' p c ks' y n' → n' ≤ n + 2 → Save p c H H' → Q (.ref fo) H'
/-- two ways more -/
def uG : TS := fun D σ H => ∃ (p c : Addr) (ks : List Int) (y n wy : Int) (vh : V) (dh : PyData) (N k : Nat) (fo : Addr) (vs : List V) (ds : List PyData), σ[0]? = some (some (.ref p)) ∧ σ[4]? = some (some vh) ∧ σ[5]? = some (some (.int wy)) ∧ σ[6]? = some (some (.ref fo)) ∧ FeedAt H p c ks y n ∧ n < 999900 ∧
  TZ (NPC p c) H vh dh ∧ Nice N k dh ∧ H fo = some (.lst vs) ∧ TZs (NPC p c) H vs ds ∧ ds.length ≤ 2 ∧ (∀ d ∈ ds, Nice N (k + 1) d) ∧
  ∀ (f2 : Addr) (vs' : List V) (ds' : List PyData) (ks' : List Int) (n' : Int) (H' : Hp), H' f2 = some (.lst vs') → TZs (NPC p c) H' vs' ds' → ds'.length ≤ 2 → (∀ d ∈ ds', Nice N (k + 1) d) → FeedAt H' p c ks' y n' → n' ≤ n + 1 → Save p c H H' → D.nx (σ.set 6 (some (.ref f2))) H'
def BW (p c : Addr) (y n : Int) (N k : Nat) (H : Hp) (v : V) (A B : Addr) (j : Nat) (σ : L2.St) (Hw : Hp) : Prop :=
  ∃ (vh : V) (dh : PyData) (ps : List Addr) (ats : List Int) (ks' : List Int) (n' : Int), σ = [some (.ref p), some v, some (.ref A), some (.ref B), some vh, none, none, none, none] ∧ FeedAt Hw p c ks' y n' ∧ n' ≤ n + 2 * (j : Int) ∧ Save p c H Hw ∧ Hw A = some (.lst (ats.map V.int)) ∧ Hw B = some (.lst (ps.map V.ref)) ∧
    Chn p c N k H ps ats j ∧ TZ (NPC p c) H vh dh ∧ Nice N (k - j) dh
theorem fin4 {N0 : Addr → Prop} {Hf : Hp} {l1 l2 l3 l4 : Addr} {vo vh vx : V} {o d x : PyData} {N k : Nat} {wy : Int} (w0 : 0 ≤ wy) (h1 : Hf l1 = some (.lst [vo])) (h2 : Hf l2 = some (.lst [])) (h3 : Hf l3 = some (.lst [vh, vh])) (h4 : Hf l4 = some (.lst [vx]))
    (zo : TZ N0 Hf vo o) (zh : TZ N0 Hf vh d) (zx : TZ N0 Hf vx x) (no : Nice N (k + 1) o) (nh : Nice N (k + 1) d) (nx : Nice N (k + 1) x) :
    ∃ fo vs ds, atI [V.ref l1, .ref l2, .ref l3, .ref l4] (if 3 < wy then 3 else wy) = some (.ref fo) ∧ Hf fo = some (.lst vs) ∧ TZs N0 Hf vs ds ∧ ds.length ≤ 2 ∧ ∀ d ∈ ds, Nice N (k + 1) d := by
  by_cases c : 3 < wy
  · rw [if_pos c]
    exact ⟨l4, _, [x], atI_nat (xs := [V.ref l1, .ref l2, .ref l3, .ref l4]) (j := 3) rfl, h4, .cons zx .nil, by show 1 ≤ 2; decide, fun e m => by rw [List.mem_singleton.mp m]; exact nx⟩
  · rw [if_neg c]
    obtain ⟨m, rfl⟩ := Int.eq_ofNat_of_zero_le w0
    have lt : m < 4 := by omega
    match m, lt with
    | 0, _ => exact ⟨l1, _, [o], atI_nat (xs := [V.ref l1, .ref l2, .ref l3, .ref l4]) (j := 0) rfl, h1, .cons zo .nil, by show 1 ≤ 2; decide, fun e m => by rw [List.mem_singleton.mp m]; exact no⟩
    | 1, _ => exact ⟨l2, _, [], atI_nat (xs := [V.ref l1, .ref l2, .ref l3, .ref l4]) (j := 1) rfl, h2, .nil, Nat.zero_le _, fun e m => nomatch m⟩
    | 2, _ => exact ⟨l3, _, [d, d], atI_nat (xs := [V.ref l1, .ref l2, .ref l3, .ref l4]) (j := 2) rfl, h3, .cons zh (.cons zh .nil), Nat.le_refl _, fun e m => by
        rcases List.mem_cons.mp m with rfl | m
        · exact nh
        · rw [List.mem_singleton.mp m]
          exact nh⟩
    | 3, _ => exact ⟨l4, _, [x], atI_nat (xs := [V.ref l1, .ref l2, .ref l3, .ref l4]) (j := 3) rfl, h4, .cons zx .nil, by show 1 ≤ 2; decide, fun e m => by rw [List.mem_singleton.mp m]; exact nx⟩
theorem set_same {σ : L2.St} {i : Nat} {o : Option V} (h : σ[i]? = some o) : σ.set i o = σ := by
  refine List.ext_getElem? fun j => ?_
  by_cases e : i = j
  · subst e
    rw [List.getElem?_set_self (List.getElem?_eq_some_iff.mp h).1, h]
  · rw [List.getElem?_set_ne e]
section
variable {P : Program} {w : World} {K : PySem.W.Frag} {mg : Str → Option Value} {base : Heap} {C : Addr}
abbrev nBn : List Str := ["_law_deck_here", "_law_value", "_law_path", "_law_parents", "_law_here", "_law_way", "_law_found", "_law_parent", "_law_at"]
theorem scBn : FnScope nBn ["_law_deck_here", "_law_value"] (defScope sBent) := ⟨rfl, rfl, rfl, by decide +kernel, rfl, by decide +kernel, by decide +kernel⟩
theorem ok_bent {f fD fO fP : Addr} {fd fdD fdO fdP : FuncData} (F : Fun K "_law_bent" "_law_bent" sBent f fd) (mlen : mg "len" = none) (misi : mg "isinstance" = none) (mtup : mg "tuple" = none) (mint : mg "int" = none) (mlist : mg "list" = none) (mzip : mg "zip" = none) (mmin : mg "min" = none)
    (GD : FnOk P w K mg base CX0 1 fD fdD ["_law_deck_here", "_law_count"] spDigit) (mD : mg "_law_draw" = some (.ref fD)) (kD : PySem.W.keepIn K (.ref fD) = true) (bD : Binds K fdD ["_law_deck_here", "_law_count"] [])
    (GO : FnOk P w K mg base CX0 3 fO fdO ["_law_deck_here"] spOdd) (mO : mg "_law_odd" = some (.ref fO)) (kO : PySem.W.keepIn K (.ref fO) = true) (bO : Binds K fdO ["_law_deck_here"] [])
    (GP : FnOk P w K mg base CX0 2 fP fdP ["_law_deck_here", "_law_some"] spPickT) (mP : mg "_law_pick" = some (.ref fP)) (kP : PySem.W.keepIn K (.ref fP) = true) (bP : Binds K fdP ["_law_deck_here", "_law_some"] []) :
    FnOk P w K mg base CX0 4 f fd ["_law_deck_here", "_law_value"] spBent := by
  refine F.ok scBn (fun vs H Q E h => ?_) (fun cdv A outer s H vs Q E hr h => ?_)
  · obtain ⟨p, c, ks, y, n, v, d, N, k, rfl, _⟩ := h
    rfl
  · obtain ⟨p, c, ks, y, n, v, d, N, k, rfl, FA, hn, hz, hN, N2, N9, k20, q⟩ := h
    have hu := hr.units
    have hu1 : (A.deeper (envOfC "_law_bent" (defScope sBent) s.heap.objs.size f cdv)).units < cLine := by omega
    have hr1 := hr.mono (show 1 ≤ 3 by omega)
    have hr2 := hr.mono (show 2 ≤ 3 by omega)
    refine ⟨_, (pss_cons (ps_par3 (i := 2) (j := 3) (l := 4) rfl scBn.nd rfl rfl rfl (by decide) (by decide) (by decide) rfl rfl rfl (pa_cons (pe_lst pa_nil) (pa_cons (pe_lst pa_nil) (pa_cons (pv 1) pa_nil))) (by rfl)) (pss_cons (ps_while PassesOwn.never (PT.wk (u := uW) (PW.pt (pw_and (pt_val (pe_callB call_isi (by rfl) misi boot_isinstance (pa_cons (pv 4) (pa_cons (pe_bltn (v := .ty "tuple") (by rfl) mtup PyProof.Rows.boot_tuple rfl) pa_nil)))) (pw_and (pt_cmpR (op_neE hu1) (pv 4) (pe_tup pa_nil) (nomark _)) (pw_and1 (pt_cmpR op_gt (pe_call GD hr1 (by rfl) mD kD bD .nil pass0 (pa_cons (pv 0) (pa_cons pe_int pa_nil))) pe_int (nomark _)))))) (fun σ H Q ⟨N, p, c, ks, y, n, vh, dh, e0, e4, FA, hn, zh, q⟩ => by
      refine ⟨_, e4, _, _, _, _, _, rfl, .ty "tuple", (zh).ty, kit_ty (kb_of _).1, _, rfl, ?_⟩
      cases et : isTup dh with
      | false => exact iteF (q false ks n H FA (by omega) (Save.refl p c H) fun z => nomatch z)
      | true =>
      obtain ⟨t, xs, ds, rfl, rfl, ht, hs⟩ := tupz zh et
      refine iteT ⟨_, e4, Nat.zero_le _, fun e he => ?_⟩
      have s1 := same_new (o := .tup []) he
      refine ⟨t, e, xs, rfl, rfl, s1 _ _ ht, upd_same, _, rfl, ?_⟩
      have n0 := FA.n0
      cases hs with
      | nil => exact iteF (q false ks n _ (FA.same s1) (by omega) (Save.of s1) fun z => nomatch z)
      | @cons v0 vr d0 dr z0 zr =>
      refine iteT ⟨_, e0, p, c, ks, y, n, 6, rfl, FA.same s1, by omega, by decide, by decide, fun i ks' H' i0 i6 F' sv => ⟨_, _, rfl, rfl, _, rfl, ?_⟩⟩
      exact q _ ks' (n + 1) H' F' (by omega) ((Save.of s1).trans sv) fun _ => ⟨t, _, d0, dr, rfl, rfl, ht, .cons z0 zr⟩)) (pss_cons (ps_expr (pe_bm PySem.F.plainAttrs_list PySem.F.slot_list_append PySem.F.type_list_append mt_append (pv 3) (pa_cons (pv 4) pa_nil))) (pss_cons (ps_expr (pe_bm PySem.F.plainAttrs_list PySem.F.slot_list_append PySem.F.type_list_append mt_append (pv 2) (pa_cons (pe_call GD hr1 (by rfl) mD kD bD .nil pass0 (pa_cons (pv 0) (pa_cons (pe_callB (r := rLenQ K) call_len_seq (by rfl) mlen PySem.boot_len (pa_cons (pv 4) pa_nil)) pa_nil))) pa_nil))) (pss_one (ps_set (i := 4) scBn.nd rfl (Or.inl rfl) (pe_ix ix_tup (pv 4) (pe_ix ix_list (pv 2) (pe_un un_neg pe_int) (fun _ _ => rfl)) (fun _ _ => rfl))))))) (pss_cons (ps_set (i := 5) scBn.nd rfl (Or.inl rfl) (pe_call GD hr1 (by rfl) mD kD bD .nil pass0 (pa_cons (pv 0) (pa_cons pe_int pa_nil)))) (pss_cons (ps_set (i := 6) scBn.nd rfl (Or.inl rfl) (PE.wk (u := uF) (pe_ix ix_list (pe_lst (pa_cons (pe_lst (pa_cons (pe_call GO hr (by rfl) mO kO bO .nil pass0 (pa_cons (pv 0) pa_nil)) pa_nil)) (pa_cons (pe_lst pa_nil) (pa_cons (pe_lst (pa_cons (pv 4) (pa_cons (pv 4) pa_nil))) (pa_cons (pe_lst (pa_cons (pe_ifExp (pt_cmpR (op_neL hu1) (pv 3) (pe_lst pa_nil) (nomark _)) (pe_call GP hr2 (by rfl) mP kP bP .nil pass0 (pa_cons (pv 0) (pa_cons (pe_ix ix_list (pv 3) (pe_un un_neg pe_int) (fun _ _ => rfl)) pa_nil))) (pv 4)) pa_nil)) pa_nil))))) (pe_callB (call_min2 rfl) (by rfl) mmin PyProof.Rows.boot_min (pa_cons (pv 5) (pa_cons pe_int pa_nil))) (fun _ _ => rfl)) (fun σ H Q ⟨p, c, ks, y, n, wy, vh, dh, N, k, B, ps, e0, e3, e4, e5, FA, hn, w0, zh, nh, N2, N9, hB, nB, last, q⟩ => by
      have one : (1 : Nat) ≤ sizeLine := by decide
      have four : (4 : Nat) ≤ sizeLine := by decide
      refine ⟨_, e0, p, c, ks, y, n, rfl, FA, by omega, fun vo do_ ks1 H1 zo no F1 sv1 => ⟨one, fun l1 hl1 => ⟨Nat.zero_le _, fun l2 hl2 => ⟨_, e4, _, e4, by show 2 ≤ sizeLine; decide, fun l3 hl3 => ?_⟩⟩⟩⟩
      have s1 := same_new (o := .lst [vo]) hl1
      have x1 : (upd H1 l1 (.lst [vo])) l1 = some (.lst [vo]) := upd_same
      generalize upd H1 l1 (.lst [vo]) = G1 at hl2 hl3 s1 x1 ⊢
      have s2 := same_new (o := .lst []) hl2
      have x2 : (upd G1 l2 (.lst [])) l2 = some (.lst []) := upd_same
      generalize upd G1 l2 (.lst []) = G2 at hl3 s2 x2 ⊢
      have s3 := same_new (o := .lst [vh, vh]) hl3
      have x3 : (upd G2 l3 (.lst [vh, vh])) l3 = some (.lst [vh, vh]) := upd_same
      generalize upd G2 l3 (.lst [vh, vh]) = G3 at s3 x3 ⊢
      have s13 := s1.trans (s2.trans s3)
      have F3 := F1.same s13
      have sv3 := sv1.trans (Save.of s13)
      have f1 := zf_save FA sv1
      have f3 := zf_save FA sv3
      have hB3 := s13 _ _ (sv1 _ _ hB nB.1 nB.2)
      have no' : Nice N (k + 1) do_ := no.mono N2 (by omega)
      have nh' : Nice N (k + 1) dh := nh.mono (Nat.le_refl _) (Nat.le_succ _)
      refine ⟨_, e3, Nat.zero_le _, fun e he => ⟨B, e, _, rfl, rfl, same_new he _ _ hB3, upd_same, _, rfl, ?_⟩⟩
      have s4 := same_new (o := .lst []) he
      generalize upd G3 e (.lst []) = G4 at s4 ⊢
      have s14 := s13.trans s4
      have F4 := F3.same s4
      have sv4 := sv3.trans (Save.of s4)
      have f4 := zf_save FA sv4
      rcases List.eq_nil_or_concat ps with rfl | ⟨qs, t, rfl⟩
      · refine iteF ⟨_, e4, one, fun l4 hl4 => ⟨four, fun l5 hl5 => ⟨_, e5, wy, 3, rfl, ?_⟩⟩⟩
        have s5 := same_new (o := .lst [vh]) hl4
        have s6 := same_new (o := .lst [V.ref l1, .ref l2, .ref l3, .ref l4]) hl5
        have u4 := s4.trans (s5.trans s6)
        have sv6 := sv4.trans (Save.of (s5.trans s6))
        have f6 := zf_save FA sv6
        obtain ⟨fo, vs, ds, a1, a2, a3, a4, a5⟩ := fin4 (N0 := NPC p c) (N := N) (k := k) w0 (u4 _ _ (s3 _ _ (s2 _ _ x1))) (u4 _ _ (s3 _ _ x2)) (u4 _ _ x3) (s6 _ _ upd_same) (zo.same (s14.trans (s5.trans s6))) (zh.to f6) (zh.to f6) no' nh' nh'
        exact ⟨l5, _, _, _, rfl, rfl, SqL.of upd_same, a1, q fo vs ds ks1 (n + 1) _ a2 a3 a4 a5 (F4.same (s5.trans s6)) (by omega) sv6⟩
      · obtain ⟨xs, ds, ht, zs, d1, dN, dn⟩ := last qs t (List.concat_eq_append ..)
        have lxs := zs.len
        have hB4 := s4 _ _ hB3
        rw [List.concat_eq_append, List.map_append] at hB4 ⊢
        refine (show (if (!((qs.map V.ref) ++ [t].map V.ref).isEmpty) = true then _ else _) from ?_)
        rw [show (!((qs.map V.ref) ++ [t].map V.ref).isEmpty) = true from by cases qs <;> rfl]
        refine iteT ⟨_, e0, _, e3, 1, rfl, B, _, -1, _, rfl, rfl, SqL.of hB4, atI_last _ _, p, c, t, xs, ks1, y, n + 1, rfl, F4, by omega, f4.t _ _ ht, by omega, by omega, fun x ks2 H2 mx F5 sv5 => ⟨one, fun l4 hl4 => ⟨four, fun l5 hl5 => ⟨_, e5, wy, 3, rfl, ?_⟩⟩⟩⟩
        have s5 := same_new (o := .lst [x]) hl4
        have s6 := same_new (o := .lst [V.ref l1, .ref l2, .ref l3, .ref l4]) hl5
        have sv6 := sv4.trans (sv5.trans (Save.of (s5.trans s6)))
        have f6 := zf_save FA sv6
        have off : ∀ {a : Addr} {o : HO}, G4 a = some o → NPC p c a → (upd (upd H2 l4 (.lst [x])) l5 (.lst [V.ref l1, .ref l2, .ref l3, .ref l4])) a = some o := fun {a o} e1 e2 => s6 _ _ (s5 _ _ (sv5 _ _ e1 e2.1 e2.2))
        obtain ⟨i, ei⟩ := List.mem_iff_getElem?.mp mx
        obtain ⟨dx, edx, zx⟩ := zs.at_ ei
        have z46 := zf_save F4 (sv5.trans (Save.of (s5.trans s6)))
        obtain ⟨fo, vs, ds2, a1, a2, a3, a4, a5⟩ := fin4 (N0 := NPC p c) (N := N) (k := k) w0 (off (s4 _ _ (s3 _ _ (s2 _ _ x1))) (F1.off hl1)) (off (s4 _ _ (s3 _ _ x2)) ((F1.same s1).off hl2)) (off (s4 _ _ x3) ((F1.same (s1.trans s2)).off hl3)) (s6 _ _ upd_same) ((zo.same s14).to z46) (zh.to f6) (zx.to f6) no' nh' ((dn dx (List.mem_of_getElem? edx)).mono (Nat.le_refl _) (Nat.le_succ _))
        exact ⟨l5, _, _, _, rfl, rfl, SqL.of upd_same, a1, q fo vs ds2 ks2 (n + 1 + 1) _ a2 a3 a4 a5 (F5.same (s5.trans s6)) (by omega) sv6⟩))) (pss_cons (PS.wk (u := uG) (ps_if (PW.pt (pw_and (pt_cmpR op_eq (pv 5) pe_int (nomark _)) (pw_and1 (pt_val (pe_callB call_isi (by rfl) misi boot_isinstance (pa_cons (pv 4) (pa_cons (pe_bltn (v := .ty "tuple") (by rfl) mtup PyProof.Rows.boot_tuple rfl) pa_nil))))))) (pss_one (ps_set (i := 6) scBn.nd rfl (Or.inl rfl) (pe_lst (pa_cons (pe_callTy call_list_of (by rfl) mlist (by decide +kernel) (pa_cons (pv 4) pa_nil)) pa_nil)))) (pss_one (PS.wk (u := uG) (ps_if (PW.pt (pw_and (pt_cmpR op_eq (pv 5) pe_int (nomark _)) (pw_and1 (pt_val (pe_callB call_isi (by rfl) misi boot_isinstance (pa_cons (pv 4) (pa_cons (pe_bltn (v := .ty "int") (by rfl) mint PyProof.Rows.boot_int rfl) pa_nil))))))) (pss_one (ps_set (i := 6) scBn.nd rfl (Or.inl rfl) (pe_lst (pa_cons (pe_op op_sub (pe_op op_addN' (pv 4) (pe_op op_mul pe_int (pe_call GD hr1 (by rfl) mD kD bD .nil pass0 (pa_cons (pv 0) (pa_cons pe_int pa_nil))))) pe_int) pa_nil)))) pss_nil) (fun D σ H h => by
      obtain ⟨p, c, ks, y, n, wy, vh, dh, N, k, fo, vs, ds, e0, e4, e5, e6, FA, hn, zh, nh, hf, zs, dl, dn, q⟩ := id h
      have n0 := FA.n0
      have go : D.nx σ H := by
        have z := q fo vs ds ks n H hf zs dl dn FA (by omega) (Save.refl p c H)
        rwa [set_same e6] at z
      refine ⟨_, e5, rfl, _, rfl, ?_⟩
      cases decide (V.int wy = V.int 5) with
      | false => exact iteF (iteF go)
      | true =>
      refine iteT ⟨_, e4, _, _, _, _, _, rfl, .ty "int", (zh).ty, kit_ty (kb_of _).2.2.1, _, rfl, ?_⟩
      cases et : isInt dh with
      | false => exact iteF go
      | true =>
      have num : (∃ i, vh = .int i) ∨ ∃ b, vh = .bl b := by
        cases zh with
        | int i => exact .inl ⟨i, rfl⟩
        | bl b => exact .inr ⟨b, rfl⟩
        | _ => cases et
      refine iteT ⟨_, e4, _, e0, p, c, ks, y, n, 2, rfl, FA, by omega, by decide, by decide, fun i ks1 H1 i0 i2 F1 sv1 => ⟨_, _, rfl, rfl, .inl ⟨by decide, by decide⟩, num, ⟨_, rfl⟩, fun r => ⟨_, _, rfl, rfl, by show 1 ≤ sizeLine; decide, fun f hf2 => ?_⟩⟩⟩
      have s2 := same_new (o := .lst [V.int (r - 1)]) hf2
      exact q f [.int (r - 1)] [.int (r - 1)] ks1 (n + 1) _ upd_same (.cons (.int _) .nil) (by show 1 ≤ 2; decide) (fun d m => by rw [List.mem_singleton.mp m]; exact .int) (F1.same s2) (by omega) (sv1.trans (Save.of s2)))))) (fun D σ H h => by
      obtain ⟨p, c, ks, y, n, wy, vh, dh, N, k, fo, vs, ds, e0, e4, e5, e6, FA, hn, zh, nh, hf, zs, dl, dn, q⟩ := id h
      refine ⟨_, e5, rfl, _, rfl, ?_⟩
      cases decide (V.int wy = V.int 4) with
      | false => exact iteF (iteF h)
      | true =>
      refine iteT ⟨_, e4, _, _, _, _, _, rfl, .ty "tuple", (zh).ty, kit_ty (kb_of _).1, _, rfl, ?_⟩
      cases et : isTup dh with
      | false => exact iteF h
      | true =>
      obtain ⟨t, xs, dt, rfl, rfl, ht, hs⟩ := tupz zh et
      refine iteT ⟨_, e4, t, xs, rfl, .inr (SqT.of ht), fun l hl => ⟨by show 1 ≤ sizeLine; decide, fun f hf2 => ?_⟩⟩
      have s1 := same_new (o := .lst xs) hl
      have nl := FA.off hl
      have s2 := same_new (o := .lst [V.ref l]) hf2
      exact q f [.ref l] [.list []] ks n _ upd_same (.cons (.lst nl (s2 _ _ upd_same)) .nil) (by show 1 ≤ 2; decide) (fun d m => by rw [List.mem_singleton.mp m]; exact .lst) (FA.same (s1.trans s2)) (by omega) (Save.of (s1.trans s2)))) (pss_cons (ps_for PassesOwn.never rfl (pi_list (pe_revL (pe_zipL rfl (by rfl) mlist (by rfl) mzip (pa_cons (pv 3) (pa_cons (pv 2) pa_nil))))) (pg_tup (by rfl) (pgs_cons (pg_name (i := 7) scBn.nd rfl (Or.inl rfl)) (pgs_cons (pg_name (i := 8) scBn.nd rfl (Or.inl rfl)) pgs_nil))) (pss_one (ps_set (i := 6) scBn.nd rfl (Or.inl rfl) (pe_lst (pa_cons (pe_op op_catA (pe_op op_catA (pe_slice (r := rSlT K) sl_tup (pv 7) po_none (po_some (pv 8))) (pe_callTy call_tuple_of (by rfl) mtup (by decide +kernel) (pa_cons (pv 6) pa_nil))) (pe_slice (r := rSlT K) sl_tup (pv 7) (po_some (pe_op op_add (pv 8) pe_int)) po_none)) pa_nil))))) (pss_one (ps_ret (pe_ifExp (pt_cmpR (op_neL hu1) (pv 6) (pe_lst pa_nil) (nomark _)) (pe_ix ix_list (pv 6) pe_int (fun _ _ => rfl)) (pe_tup pa_nil)))))))))), ?_⟩
    have zero : (0 : Nat) ≤ sizeLine := Nat.zero_le _
    refine ⟨zero, fun Aa hA => ⟨zero, fun Bb hB => ⟨_, rfl, _, _, _, rfl, ?_⟩⟩⟩
    have n0 := FA.n0
    have sA := same_new (o := .lst []) hA
    have sB := same_new (o := .lst []) hB
    have nA := FA.off hA
    have nB := (FA.same sA).off hB
    have hB0 : H Bb = none := by
      cases e : H Bb with
      | none => rfl
      | some o => rw [sA _ _ e] at hB; cases hB
    have AB : Aa ≠ Bb := fun z => by rw [z, upd_same] at hB; cases hB
    have sAB := sA.trans sB
    have lA : (upd (upd H Aa (.lst [])) Bb (.lst [])) Aa = some (.lst []) := by rw [upd_ne AB]; exact upd_same
    have lB : (upd (upd H Aa (.lst [])) Bb (.lst [])) Bb = some (.lst []) := upd_same
    generalize upd (upd H Aa (.lst [])) Bb (.lst []) = H1 at sAB lA lB ⊢
    refine ⟨fun μ σ Hw => ∃ j, μ = k - j ∧ BW p c y n N k H v Aa Bb j σ Hw, ⟨_, 0, rfl, v, d, [], [], ks, n, rfl, FA.same sAB, by omega, Save.of sAB, lA, lB, .nil, hz, by rw [Nat.sub_zero]; exact hN⟩, fun μ σ Hw ⟨j, eμ, vh, dh, ps, ats, ks1, n1, eσ, F1, le1, sv1, hA1, hB1, ch, zh, nh⟩ => ?_⟩
    subst eμ
    subst eσ
    have jk := ch.le
    refine ⟨NPC p c, p, c, ks1, y, n1, vh, dh, rfl, rfl, F1, by omega, zh.to (zf_save FA sv1), fun b ks2 n2 H2 F2 le2 sv2 tr => ?_⟩
    cases b with
    | true =>
      obtain ⟨t, _, d0, ds, rfl, rfl, _, _⟩ := tr rfl
      obtain ⟨t', xs, ds', e1, e2, ht, hs⟩ := tupz zh rfl
      cases e1
      cases e2
      obtain ⟨kk, ek, nd0⟩ := nh.part List.mem_cons_self
      have lxs := hs.len
      rw [List.length_cons] at lxs
      have ldN := nh.len
      rw [List.length_cons] at ldN
      have l1 := ch.l1
      have l2 := ch.l2
      have hA2 := sv2 _ _ hA1 nA.1 nA.2
      have hB2 := sv2 _ _ hB1 nB.1 nB.2
      have sv12 := sv1.trans sv2
      refine iteT ⟨BW p c y n N k H v Aa Bb (j + 1), fun σ' H' hb => ⟨k - (j + 1), by omega, j + 1, rfl, hb⟩, ?_⟩
      refine ⟨_, rfl, .inl ⟨rfl, _, SqL.of hB2⟩, _, rfl, Bb, _, _, rfl, rfl, hB2, small_lt (m := 20) (by rw [List.length_map]; omega), ?_⟩
      have F3 := F2.wr (o := .lst (ps.map V.ref ++ [.ref t])) nB.1 nB.2
      have sv3 := sv12.wr (o := .lst (ps.map V.ref ++ [.ref t])) hB0
      have hA3 : (upd H2 Bb (.lst (ps.map V.ref ++ [.ref t]))) Aa = some (.lst (ats.map V.int)) := by rw [upd_ne AB]; exact hA2
      have hB3 : (upd H2 Bb (.lst (ps.map V.ref ++ [.ref t]))) Bb = some (.lst ((ps ++ [t]).map V.ref)) := by rw [upd_same, List.map_append]; rfl
      generalize upd H2 Bb (.lst (ps.map V.ref ++ [.ref t])) = H3 at F3 sv3 hA3 hB3 ⊢
      have z3 := zf_save FA sv3
      have ht3 := z3.t _ _ ht
      refine ⟨_, rfl, .inl ⟨rfl, _, SqL.of hA3⟩, _, rfl, _, rfl, t, _, rfl, .inr (SqT.of ht3), p, c, ks2, y, n2, _, rfl, F3, by omega, by omega, by omega, fun i ks3 H4 i0 i1 F4 sv4 => ?_⟩
      have hA4 := sv4 _ _ hA3 nA.1 nA.2
      have hB4 := sv4 _ _ hB3 nB.1 nB.2
      have sv34 := sv3.trans sv4
      refine ⟨Aa, _, _, rfl, rfl, hA4, small_lt (m := 20) (by rw [List.length_map]; omega), ?_⟩
      have F5 := F4.wr (o := .lst (ats.map V.int ++ [.int i])) nA.1 nA.2
      have sv5 := sv34.wr (o := .lst (ats.map V.int ++ [.int i])) hA
      have hA5 : (upd H4 Aa (.lst (ats.map V.int ++ [.int i]))) Aa = some (.lst (ats.map V.int ++ [.int i])) := upd_same
      have hB5 : (upd H4 Aa (.lst (ats.map V.int ++ [.int i]))) Bb = some (.lst ((ps ++ [t]).map V.ref)) := by rw [upd_ne (Ne.symm AB)]; exact hB4
      generalize upd H4 Aa (.lst (ats.map V.int ++ [.int i])) = H5 at F5 sv5 hA5 hB5 ⊢
      have z5 := zf_save FA sv5
      have lti : i.toNat < xs.length := by omega
      obtain ⟨di, edi, zdi⟩ := hs.at_ (List.getElem?_eq_getElem lti)
      have eat := atI_nat (List.getElem?_eq_getElem lti)
      rw [Int.toNat_of_nonneg i0] at eat
      refine ⟨_, rfl, _, rfl, 1, rfl, Aa, _, -1, _, rfl, rfl, SqL.of hA5, atI_last _ _, t, _, i, _, rfl, rfl, SqT.of (z5.t _ _ ht), eat, ?_⟩
      obtain ⟨k2, ek2, ndi⟩ := nh.part (List.mem_of_getElem? edi)
      refine ⟨_, di, ps ++ [t], ats ++ [i], ks3, n2 + 1, rfl, F5, by omega, sv5, by rw [hA5, List.map_append]; rfl, hB5, ch.snoc ⟨xs, _, ht, hs, nh, i0, by rw [List.length_cons]; omega⟩, zdi, by rw [show k - (j + 1) = k2 from by omega]; exact ndi⟩
    | false =>
      refine iteF ?_
      have hA2 := sv2 _ _ hA1 nA.1 nA.2
      have hB2 := sv2 _ _ hB1 nB.1 nB.2
      have sv12 := sv1.trans sv2
      have l1 := ch.l1
      have l2 := ch.l2
      refine ⟨_, rfl, p, c, ks2, y, n2, 6, rfl, F2, by omega, by decide, by decide, fun wy ks3 H3 w0 w6 F3 sv3 => ?_⟩
      have hA3 := sv3 _ _ hA2 nA.1 nA.2
      have hB3 := sv3 _ _ hB2 nB.1 nB.2
      have sv13 := sv12.trans sv3
      have z3 := zf_save FA sv13
      refine ⟨p, c, ks3, y, n2 + 1, wy, vh, dh, N, k - j, Bb, ps, rfl, rfl, rfl, rfl, F3, by omega, w0, zh.to z3, nh, N2, N9, hB3, nB, fun qs t eqs => ?_, fun fo vs ds ks4 n4 H4 hf zs dl dn F4 le4 sv4 => ?_⟩
      · have lj : j = qs.length + 1 := by rw [← l1, eqs, List.length_append]; rfl
        have at1 : ps[j - 1]? = some t := by rw [eqs, lj, Nat.add_sub_cancel, List.getElem?_append_right (Nat.le_refl _), Nat.sub_self]; rfl
        obtain ⟨xs, ds, h1, h2, h3, h4, h5⟩ := (ch.par (j - 1) t _ at1 (List.getElem?_eq_getElem (show j - 1 < ats.length by omega))).ex
        refine ⟨xs, ds, z3.t _ _ h1, h2.to z3, by omega, h3.len, fun d m => ?_⟩
        obtain ⟨l, el, nl⟩ := h3.part m
        rwa [show k - j = l from by omega]
      have sv14 := sv13.trans sv4
      have z4 := zf_save FA sv14
      have n3 := F3.n0
      refine ⟨p, c, ks4, y, n4, wy, vh, dh, N, k - j, fo, vs, ds, rfl, rfl, rfl, rfl, F4, by omega, zh.to z4, nh, hf, zs, dl, dn, fun f2 vs2 ds2 ks5 n5 H5 hf2 zs2 dl2 dn2 F5 le5 sv5 => ?_⟩
      have hA5 := sv5 _ _ (sv4 _ _ hA3 nA.1 nA.2) nA.1 nA.2
      have hB5 := sv5 _ _ (sv4 _ _ hB3 nB.1 nB.2) nB.1 nB.2
      have sv15 := sv14.trans sv5
      refine ⟨_, rfl, _, rfl, Bb, Aa, _, _, rfl, hB5, hA5, by rw [List.length_map, List.length_map, l1, l2], fun Hz pz ts sz nz ez tl tat => ?_⟩
      rw [List.length_map, l1] at tl
      have sZ : Same H5 Hz := sz
      refine ⟨pz, _, rfl, SqL.of ez, fun r hr_ => ?_⟩
      have sr := same_new (o := .lst (ts.map V.ref).reverse) hr_
      have er : (upd Hz r (.lst (ts.map V.ref).reverse)) r = some (.lst (ts.map V.ref).reverse) := upd_same
      have s5r := sZ.trans sr
      have svr := sv15.trans (Save.of s5r)
      generalize hHr : upd Hz r (.lst (ts.map V.ref).reverse) = Hr at sr er s5r svr ⊢
      have Fr := F5.same s5r
      have lrev : ((ts.map V.ref).reverse).length = j := by rw [List.length_reverse, List.length_map, tl]
      refine ⟨r, rfl, ⟨_, SqL.of er⟩, for_list (K := K) (a := r) (xs := (ts.map V.ref).reverse) (fun i σ H6 => ∃ (fo' : Addr) (vs' : List V) (ds' : List PyData) (o7 o8 : Option V), σ = [some (.ref p), some v, some (.ref Aa), some (.ref Bb), some vh, some (.int wy), some (.ref fo'), o7, o8] ∧ Same Hr H6 ∧ H6 fo' = some (.lst vs') ∧ TZs (NPC p c) H6 vs' ds' ∧ ds'.length ≤ 2 ∧ ∀ d ∈ ds', Nice (N + 1) (k - (j - i) + 1) d)
        ⟨f2, vs2, ds2, none, none, rfl, Same.refl Hr, s5r _ _ hf2, zs2.same s5r, dl2, fun d m => (dn2 d m).mono (Nat.le_succ N) (Nat.le_refl _)⟩ (fun i σ H6 _ ⟨_, _, _, _, _, _, s6, _⟩ => SqL.of (s6 _ _ er)) ?_ ?_⟩
      · rintro i x σ H6 ex ⟨fo', vs', ds', o7, o8, rfl, s6, hf6, zs6, dl6, dn6⟩
        have li : i < j := by rw [← lrev]; exact (List.getElem?_eq_some_iff.mp ex).1
        rw [List.getElem?_reverse (by rw [List.length_map]; omega), List.length_map, tl, List.getElem?_map] at ex
        obtain ⟨tq, etq, rfl⟩ := Option.map_eq_some_iff.mp ex
        obtain ⟨_, x1, y1, ex1, ey1, htq⟩ := tat _ tq etq
        rw [List.getElem?_map] at ex1 ey1
        obtain ⟨pq, epq, rfl⟩ := Option.map_eq_some_iff.mp ex1
        obtain ⟨aq, eaq, rfl⟩ := Option.map_eq_some_iff.mp ey1
        obtain ⟨xs0, ds0, h1, h2, h3, a0, a1⟩ := (ch.par _ pq aq epq eaq).ex
        have zr := zf_save FA (svr.trans (Save.of s6))
        have hp6 := zr.t _ _ h1
        have zp6 := h2.to zr
        have lx0 := zp6.len
        have ld0 := h3.len
        refine ⟨tq, _, rfl, SqT.of (s6 _ _ (sr _ _ htq)), rfl, _, _, rfl, _, _, rfl, rfl, ?_⟩
        refine ⟨_, rfl, _, rfl, _, rfl, pq, xs0, rfl, SqT.of hp6, not_whole_to a0 (by omega), fun q1 hq1 => ?_⟩
        have t1 := same_new (o := .tup (cutV xs0 none (some aq))) hq1
        refine ⟨_, rfl, fo', vs', rfl, .inl ⟨SqL.of (t1 _ _ hf6), fun q2 hq2 => ?_⟩⟩
        have t2 := same_new (o := .tup vs') hq2
        have lvs := zs6.len
        have lcut : (cutV xs0 none (some aq)).length ≤ xs0.length := cutV_length _ _ _
        refine ⟨q1, q2, _, _, rfl, rfl, t2 _ _ upd_same, upd_same, small_len (m := 1000) (by omega), fun r1 H7 s7 e7 => ?_⟩
        have t17 := t1.trans (t2.trans s7)
        refine ⟨_, rfl, _, rfl, _, _, rfl, rfl, _, rfl, pq, xs0, rfl, SqT.of (t17 _ _ hp6), not_whole_from (by omega) (by omega), fun q3 hq3 => ?_⟩
        have t3 := same_new (o := .tup (cutV xs0 (some (aq + 1)) none)) hq3
        have lcut2 : (cutV xs0 (some (aq + 1)) none).length ≤ xs0.length := cutV_length _ _ _
        refine ⟨r1, q3, _, _, rfl, rfl, t3 _ _ e7, upd_same, small_len (m := 3000) (by rw [List.length_append]; omega), fun r2 H8 s8 e8 => ⟨by show 1 ≤ sizeLine; decide, fun l hl => ?_⟩⟩
        have t4 := same_new (o := .lst [V.ref r2]) hl
        have t8 := t17.trans (t3.trans s8)
        have t9 := t8.trans t4
        have ecat : cutV xs0 none (some aq) ++ vs' ++ cutV xs0 (some (aq + 1)) none = xs0.take aq.toNat ++ vs' ++ xs0.drop (aq.toNat + 1) := by
          rw [cut_to _ a0, cut_from _ (show 0 ≤ aq + 1 by omega), show (aq + 1).toNat = aq.toNat + 1 from by omega]
        rw [ecat] at e8
        refine ⟨l, [.ref r2], [.tuple (ds0.take aq.toNat ++ ds' ++ ds0.drop (aq.toNat + 1))], _, _, rfl, s6.trans t9, upd_same, .cons (.tup (t4 _ _ e8) ((((zp6.same t9).take _).app (zs6.same t9)).app ((zp6.same t9).drop _))) .nil, by show 1 ≤ 2; decide, fun d m => ?_⟩
        rw [List.mem_singleton.mp m, show k - (j - (i + 1)) + 1 = (k - (j - i) + 1) + 1 from by omega]
        refine ⟨?_, fun e me => ?_⟩
        · rw [List.length_append, List.length_append, List.length_take, List.length_drop]
          omega
        · have part : ∀ e ∈ ds0, Nice (N + 1) (k - (j - i) + 1) e := fun e me => by
            obtain ⟨l, el, nl⟩ := h3.part me
            exact nl.mono (Nat.le_succ N) (by omega)
          rcases List.mem_append.mp me with me | me
          · rcases List.mem_append.mp me with me | me
            · exact part e (List.mem_of_mem_take me)
            · exact dn6 e me
          · exact part e (List.mem_of_mem_drop me)
      · rintro σ H6 ⟨fo', vs', ds', o7, o8, rfl, s6, hf6, zs6, dl6, dn6⟩
        rw [lrev, Nat.sub_self, Nat.sub_zero] at dn6
        refine ⟨_, rfl, zero, fun e he => ?_⟩
        have t1 := same_new (o := .lst []) he
        refine ⟨fo', e, vs', rfl, rfl, t1 _ _ hf6, upd_same, _, rfl, ?_⟩
        cases zs6 with
        | nil =>
          refine iteF ⟨zero, fun u hu_ => ?_⟩
          have t2 := same_new (o := .tup []) hu_
          have s9 := s6.trans (t1.trans t2)
          exact q _ (.tuple []) ks5 n5 _ (.tup upd_same .nil) ⟨Nat.zero_le _, fun d m => nomatch m⟩ (Fr.same s9) (by omega) (svr.trans (Save.of s9))
        | @cons v0 vr d0 dr z0 zr =>
          have s9 := s6.trans t1
          exact iteT ⟨_, rfl, fo', _, 0, v0, rfl, rfl, SqL.of (t1 _ _ hf6), atI_nat (xs := v0 :: vr) (j := 0) rfl, q _ d0 ks5 n5 _ (z0.same t1) (dn6 d0 List.mem_cons_self) (Fr.same s9) (by omega) (svr.trans (Save.of s9))⟩
end
end My

-- ===== K13V0 =====
set_option Elab.async false
set_option linter.all false
set_option maxRecDepth 100000
set_option maxHeartbeats 4000000
namespace My
open PySem L2 PyProof.Rows PySem.Spec Kd StX ClX
theorem td_nums {H : Hp} : ∀ r : List Int, TDs H (r.map V.int) (r.map PyData.int)
  | [] => .nil
  | x :: r => .cons (.int x) (td_nums r)
end My

-- ===== K13V1 =====
set_option Elab.async false
set_option linter.all false
set_option maxRecDepth 100000
set_option maxHeartbeats 4000000
namespace My
open PySem L2 PyProof.Rows PySem.Spec Kd StX ClX
abbrev sLStarts : Stmt := top 47
def lsS1 : Stmt → Scope
  | .FunctionDef _ _ (_ :: .If _ (.Assign _ (.ListComp _ _ sc _) _ :: _) _ _ :: _) .. => sc
  | _ => { kind := .function, names := [], isGenerator := false, isCoroutine := false }
def lsS2 : Stmt → Scope
  | .FunctionDef _ _ (_ :: .If _ (_ :: .Assign _ (.BinOp _ _ (.ListComp _ _ sc _) _) _ :: _) _ _ :: _) .. => sc
  | _ => { kind := .function, names := [], isGenerator := false, isCoroutine := false }
/-- a start: a state for each object -/
def StR (sss : List (List (List Stp))) (r : List Int) : Prop := r.length = sss.length ∧ ∀ (i : Nat) (x : Int) (ss : List (List Stp)), r[i]? = some x → sss[i]? = some ss → 0 ≤ x ∧ x < (ss.length : Int)
def modR (sss : List (List (List Stp))) (k : Int) : List Int := sss.map fun ss => k % (ss.length : Int)
def D40 (sss : List (List (List Stp))) : List (List Int) := (List.range 40).map fun k : Nat => modR sss (k : Int)
theorem mem40 {sss : List (List (List Stp))} {k : Int} (h0 : 0 ≤ k) (h : k < 40) : modR sss k ∈ D40 sss := by
  obtain ⟨n, rfl⟩ := Int.eq_ofNat_of_zero_le h0
  exact List.mem_map.mpr ⟨n, List.mem_range.mpr (by omega), rfl⟩
theorem modR_ok {sss : List (List (List Stp))} (ko : ∀ ss ∈ sss, KOk ss) (k : Int) : StR sss (modR sss k) := by
  refine ⟨List.length_map .., fun i x ss e1 e2 => ?_⟩
  unfold modR at e1
  rw [List.getElem?_map, e2] at e1
  cases e1
  have := (ko ss (List.mem_of_getElem? e2)).one
  exact ⟨Int.emod_nonneg _ (by omega), Int.emod_lt_of_pos _ (by omega)⟩
theorem StR.start {sss : List (List (List Stp))} {r : List Int} (h : StR sss r) : startB sss (rowD r) = true := by
  show (decide ((r.map PyData.int).length = sss.length) && allZ stB sss (r.map PyData.int)) = true
  rw [List.length_map, decide_eq_true h.1, Bool.true_and]
  refine allZ_iff.mpr fun i ss d e1 e2 => ?_
  rw [List.getElem?_map] at e2
  obtain ⟨x, ex, rfl⟩ := Option.map_eq_some_iff.mp e2
  obtain ⟨h0, h1⟩ := h.2 i x ss ex e1
  show (decide (0 ≤ x) && decide (x < (ss.length : Int))) = true
  rw [decide_eq_true h0, decide_eq_true h1]
  rfl
theorem rowI_rowD (r : List Int) : rowI (rowD r) = r := by
  show (r.map PyData.int).map iOf = r
  rw [List.map_map]
  exact (List.map_congr_left fun i _ => rfl).trans (List.map_id _)
theorem starts_ok {sss : List (List (List Stp))} {rs : List (List Int)} (ne : rs ≠ []) (ok : ∀ r ∈ rs, StR sss r) (asc : rs.Pairwise fun x y => HT.lexLt x y = true) : startsB sss (.tuple (rs.map rowD)) = true := by
  show (!(rs.map rowD).isEmpty && ((rs.map rowD).all (startB sss) && ascL HT.lexLt ((rs.map rowD).map rowI))) = true
  rw [show (rs.map rowD).isEmpty = false from by cases rs with | nil => exact absurd rfl ne | cons _ _ => rfl]
  rw [show (rs.map rowD).all (startB sss) = true from List.all_eq_true.mpr fun d m => by
    obtain ⟨r, mr, rfl⟩ := List.mem_map.mp m
    exact (ok r mr).start]
  rw [List.map_map, show (rs.map (rowI ∘ rowD)) = rs from (List.map_congr_left fun r _ => rowI_rowD r).trans (List.map_id _), (asc_pw lex_tr rs).mpr asc]
  rfl
/-- the rows that stand in a list -/
def RowsAt (H : Hp) (ks : List (Addr × List Key)) (Pr : List Int → Prop) : Prop := ∀ q ∈ ks, H q.1 = some (.tup (q.2.map kV)) ∧ ∃ r, q.2 = keyI r ∧ Pr r
theorem RowsAt.to {H H' : Hp} {ks : List (Addr × List Key)} {Pr : List Int → Prop} (h : RowsAt H ks Pr) (s : ∀ a xs, H a = some (.tup xs) → H' a = some (.tup xs)) : RowsAt H' ks Pr := fun q m => ⟨s _ _ (h q m).1, (h q m).2⟩
theorem RowsAt.snoc {H : Hp} {ks : List (Addr × List Key)} {Pr : List Int → Prop} {b : Addr} {r : List Int} (h : RowsAt H ks Pr) (hb : H b = some (.tup (r.map V.int))) (pr : Pr r) : RowsAt H (ks ++ [(b, keyI r)]) Pr := fun q m => by
  rcases List.mem_append.mp m with m | m
  · exact h q m
  · rw [List.mem_singleton.mp m]
    exact ⟨by show H b = some (.tup ((keyI r).map kV)); rw [kV_keyI]; exact hb, r, rfl, pr⟩
def spLStarts : Sp := fun vs H Q _ => ∃ (p c O : Addr) (ks : List Int) (w n : Int) (ov : List V) (sss : List (List (List Stp))), vs = [.ref p, .ref O] ∧ FeedAt H p c ks w n ∧ n < 890000 ∧ H O = some (.lst ov) ∧ TDs H ov (sss.map statesD) ∧ 1 ≤ sss.length ∧ sss.length ≤ 4 ∧ (∀ ss ∈ sss, KOk ss) ∧ O ≠ p ∧ O ≠ c ∧
  ∀ (t : Addr) (rs : List (List Int)) (ks' : List Int) (n' : Int) (H' : Hp), TD H' (.ref t) (.tuple (rs.map rowD)) → startsB sss (.tuple (rs.map rowD)) = true → rs.length ≤ 40 → (∀ r ∈ rs, r.length ≤ 4) → FeedAt H' p c ks' w n' → n' ≤ n + 20 → Save p c H H' → Q (.ref t) H'
/-- tuple(sorted(set(found))) -/
def uSS (sss : List (List (List Stp))) : TE := fun σ H Q => ∃ (fo : Addr) (ks : List (Addr × List Key)) (D : List (List Int)), σ[2]? = some (some (.ref fo)) ∧ H fo = some (.lst (ks.map fun q => V.ref q.1)) ∧ RowsAt H ks (fun r => StR sss r ∧ r ∈ D) ∧ D.length ≤ 40 ∧ 1 ≤ sss.length ∧ ks ≠ [] ∧
  ∀ (t : Addr) (rs : List (List Int)) (H' : Hp), Same H H' → TD H' (.ref t) (.tuple (rs.map rowD)) → startsB sss (.tuple (rs.map rowD)) = true → rs.length ≤ 40 → (∀ r ∈ rs, r.length = sss.length) → Q (.ref t) H'
theorem td_rows {H : Hp} : ∀ (ks : List (Addr × List Key)) (rs : List (List Int)), ks.map Prod.snd = rs.map keyI → (∀ q ∈ ks, H q.1 = some (.tup (q.2.map kV))) → TDs H (ks.map fun q => V.ref q.1) (rs.map rowD)
  | [], [], _, _ => .nil
  | [], _ :: _, e, _ => by simp at e
  | _ :: _, [], e, _ => by simp at e
  | q :: ks, r :: rs, e, h => by
    rw [List.map_cons, List.map_cons] at e
    injection e with e1 e2
    have a := h q List.mem_cons_self
    rw [e1, kV_keyI] at a
    exact .cons (.tup a (td_nums r)) (td_rows ks rs e2 fun p m => h p (List.mem_cons_of_mem _ m))
section
variable {P : Program} {w : World} {K : PySem.W.Frag} {mg : Str → Option Value} {base : Heap} {C : Addr}
abbrev nLS : List Str := ["_law_deck_here", "_law_machines", "_law_found", "_law_k", "_law_states_here"]
theorem scLS : FnScope nLS ["_law_deck_here", "_law_machines"] (defScope sLStarts) := ⟨rfl, rfl, rfl, by decide +kernel, rfl, by decide +kernel, by decide +kernel⟩
theorem ok_lstarts {f fD : Addr} {fd fdD : FuncData} (F : Fun K "_law_starts" "_law_starts" sLStarts f fd) (mtup : mg "tuple" = none) (mset : mg "set" = none) (msorted : mg "sorted" = none) (mlen : mg "len" = none) (mrange : mg "range" = none)
    (GD : FnOk P w K mg base CX0 1 fD fdD ["_law_deck_here", "_law_count"] spDigit) (mD : mg "_law_draw" = some (.ref fD)) (kD : PySem.W.keepIn K (.ref fD) = true) (bD : Binds K fdD ["_law_deck_here", "_law_count"] []) : FnOk P w K mg base CX0 2 f fd ["_law_deck_here", "_law_machines"] spLStarts := by
  refine F.ok scLS (fun vs H Q E h => ?_) (fun cdv A outer s H vs Q E hr h => ?_)
  · obtain ⟨p, c, O, ks, y, n, ov, sss, rfl, _⟩ := h
    rfl
  · obtain ⟨p, c, O, ks, y, n, ov, sss, rfl, FA, hn, hO, tO, l1, l4, ko, Op, Oc, k⟩ := h
    have hu := hr.units
    refine ⟨_, (pss_cons (ps_set (i := 2) scLS.nd rfl (Or.inl rfl) (pe_lst pa_nil)) (pss_cons (ps_if (pt_cmpR op_eq (pe_call GD hr (by rfl) mD kD bD .nil pass0 (pa_cons (pv 0) (pa_cons pe_int pa_nil))) pe_int (nomark _)) (pss_cons (ps_setLc (i := 2) (own := [("_law_k", 3)]) (g := gName 3) (tt := tYes) (te := (tCB (rTupO K) (tCons (tLc (iList K (tVar 1)) (gName 4) tYes (tOp _ (tVar 3) (tCB (rLenQ K) (tCons (tVar 4) tNil))) [4]) tNil))) rfl scLS.nd rfl rfl (sw_true rfl rfl rfl (by decide +kernel)) (pi_range1 (by rfl) mrange (pa_cons pe_int pa_nil)) (blkOk_by (N := nLS) (sc := defScope sLStarts) (by decide +kernel)) (fun _ _ _ _ _ => pg_name (i := 3) scLS.nd rfl (Or.inr rfl)) (fun _ _ _ _ _ => pts_nil) (fun _ _ _ _ _ => pe_callTy (r := rTupO K) call_tuple_of (by rfl) mtup (by decide +kernel) (pa_cons (pe_lc (own := [("_law_states_here", 4)]) (g := gName 4) (tt := tYes) (te := tOp _ (tVar 3) (tCB (rLenQ K) (tCons (tVar 4) tNil))) rfl scLS.nd (pi_list (pv 1)) (blkOk_by (N := nLS) (sc := relS (lsS1 sLStarts) (defScope sLStarts)) (by decide +kernel)) (fun _ _ _ _ _ => pg_name (i := 4) scLS.nd rfl (Or.inl rfl)) (fun _ _ _ _ _ => pts_nil) (fun _ _ _ _ _ => pe_op op_mod (pv 3) (pe_callB (r := rLenQ K) call_len_seq (by rfl) mlen PySem.boot_len (pa_cons (pv 4) pa_nil)))) pa_nil))) (pss_cons (ps_set (i := 2) scLS.nd rfl (Or.inl rfl) (pe_op op_cat (pv 2) (pe_lc (own := [("_law_k", 3)]) (g := gName 3) (tt := tYes) (te := (tCB (rTupO K) (tCons (tLc (iList K (tVar 1)) (gName 4) tYes (tOp _ (tOp _ (tVar 3) (tC (.int 8))) (tCB (rLenQ K) (tCons (tVar 4) tNil))) [4]) tNil))) rfl scLS.nd (pi_range1 (by rfl) mrange (pa_cons pe_int pa_nil)) (blkOk_by (N := nLS) (sc := defScope sLStarts) (by decide +kernel)) (fun _ _ _ _ _ => pg_name (i := 3) scLS.nd rfl (Or.inr rfl)) (fun _ _ _ _ _ => pts_nil) (fun _ _ _ _ _ => pe_callTy (r := rTupO K) call_tuple_of (by rfl) mtup (by decide +kernel) (pa_cons (pe_lc (own := [("_law_states_here", 4)]) (g := gName 4) (tt := tYes) (te := tOp _ (tOp _ (tVar 3) (tC (.int 8))) (tCB (rLenQ K) (tCons (tVar 4) tNil))) rfl scLS.nd (pi_list (pv 1)) (blkOk_by (N := nLS) (sc := relS (lsS2 sLStarts) (defScope sLStarts)) (by decide +kernel)) (fun _ _ _ _ _ => pg_name (i := 4) scLS.nd rfl (Or.inl rfl)) (fun _ _ _ _ _ => pts_nil) (fun _ _ _ _ _ => pe_op op_mod (pe_op op_fdiv (pv 3) pe_int) (pe_callB (r := rLenQ K) call_len_seq (by rfl) mlen PySem.boot_len (pa_cons (pv 4) pa_nil)))) pa_nil))))) (pss_one (ps_ret (PE.wk (u := uSS sss) (pe_callTy call_tuple_of (by rfl) mtup (by decide +kernel) (pa_cons (pe_callB (cr_sortS rfl hu) (by rfl) msorted PyProof.Rows.boot_sorted (pa_cons (pe_callTy (cr_setOfD rfl hu) (by rfl) mset PyProof.Rows.boot_set (pa_cons (pv 2) pa_nil)) pa_nil)) pa_nil)) (fun σ H Q ⟨fo, ks, D, e2, hfo, rw_, dl, l1, ne, q⟩ => by
      refine ⟨_, e2, fo, ks, rfl, SqL.of hfo, fun q m => SqT.of (rw_ q m).1, ⟨D.map keyI, fun q m => ?_, by rw [List.length_map]; omega⟩, fun a2 L ha2 sub all nd => ?_⟩
      · obtain ⟨_, r, er, _, mr⟩ := rw_ q m
        rw [er]
        exact List.mem_map.mpr ⟨r, mr, rfl⟩
      have s1 := same_new (o := SetO P w a2 L) ha2
      have keyL : ∀ q ∈ L, ∃ r, q.2 = keyI r ∧ StR sss r ∧ r ∈ D := fun q m => (rw_ q (sub q m)).2
      refine ⟨a2, L, rfl, upd_same, fun q m => SqT.of (s1 _ _ (rw_ q (sub q m)).1), ?_, ?_, fun L1 p pm less nd1 hp => ?_⟩
      · intro d hd d' hd'
        obtain ⟨q, m, rfl⟩ := List.mem_map.mp hd
        obtain ⟨r, m', rfl⟩ := List.mem_map.mp hd'
        obtain ⟨x, ex, _⟩ := keyL q m
        obtain ⟨y, ey, _⟩ := keyL r m'
        rw [ex, ey, tD_keyI, tD_keyI]
        exact alike_rows x y
      · refine .inl fun d hd => ?_
        obtain ⟨q, m, rfl⟩ := List.mem_map.mp hd
        obtain ⟨r, e, st, _⟩ := keyL q m
        rw [e, tD_keyI]
        have lr := st.1
        cases r with
        | nil => rw [← lr] at l1; cases l1
        | cons x r => exact ⟨_, _, rfl⟩
      have pm2 := (pm.map Prod.snd)
      obtain ⟨rs, r1, r2, r3⟩ := sorted_rows L1 (pm2.nodup_iff.mpr nd) fun q m => let ⟨r, e, _⟩ := keyL q (pm.mem_iff.mp m); ⟨r, e⟩
      have memM : ∀ q ∈ L1.mergeSort (PySem.W.dataLe false fun q : Addr × List Key => tD q.2), q ∈ ks := fun q m => sub q (pm.mem_iff.mp ((List.mergeSort_perm _ _).mem_iff.mp m))
      have memL : ∀ r ∈ rs, StR sss r ∧ r ∈ D := fun r m => by
        have z := (r3 r).mp m
        rw [pm2.mem_iff] at z
        obtain ⟨q, mq, eq⟩ := List.mem_map.mp z
        obtain ⟨r', e', h⟩ := keyL q mq
        rw [eq] at e'
        rw [keyI_inj e']
        exact h
      generalize L1.mergeSort (PySem.W.dataLe false fun q : Addr × List Key => tD q.2) = M at r1 memM ⊢
      have s2 := same_new (o := .lst (M.map fun q => V.ref q.1)) hp
      refine ⟨p, _, rfl, .inl ⟨SqL.of upd_same, fun b hb => ?_⟩⟩
      have s3 := same_new (o := .tup (M.map fun q => V.ref q.1)) hb
      have s13 := s1.trans (s2.trans s3)
      have ndr : rs.Nodup := r2.imp fun {a b} h e => by
        rw [e, lex_ir] at h
        cases h
      refine q b rs _ s13 (.tup upd_same (td_rows M rs r1 fun q m => s13 _ _ (rw_ q (memM q m)).1)) (starts_ok ?_ (fun r m => (memL r m).1) r2) (Nat.le_trans (nodup_most rs D ndr fun r m => (memL r m).2) dl) fun r m => (memL r m).1.1
      intro z
      obtain ⟨q0, m0⟩ := List.exists_mem_of_ne_nil ks ne
      have m1 := all q0 m0
      obtain ⟨q1, mq, eq⟩ := List.mem_map.mp m1
      obtain ⟨r, er, _⟩ := keyL q1 mq
      have m2 : r ∈ rs := (r3 r).mpr (by rw [pm2.mem_iff, ← er]; exact List.mem_map.mpr ⟨q1, mq, rfl⟩)
      rw [z] at m2
      cases m2)))))) pss_nil) (pss_cons (ps_for PassesOwn.never rfl (pi_range1 (by rfl) mrange (pa_cons (pe_op op_add pe_int (pe_call GD hr (by rfl) mD kD bD .nil pass0 (pa_cons (pv 0) (pa_cons pe_int pa_nil)))) pa_nil)) (pg_name (i := 3) scLS.nd rfl (Or.inl rfl)) (pss_one (ps_expr (pe_bm PySem.F.plainAttrs_list PySem.F.slot_list_append PySem.F.type_list_append mt_append (pv 2) (pa_cons (pe_callTy call_tuple_of (by rfl) mtup (by decide +kernel) (pa_cons (pe_lc (own := [("_law_states_here", 4)]) (g := (gName 4)) (tt := tYes) rfl scLS.nd (pi_list (pv 1)) (blkOk_by (N := nLS) (sc := defScope sLStarts) (by decide +kernel)) (fun _ _ _ _ _ => pg_name (i := 4) scLS.nd rfl (Or.inl rfl)) (fun _ _ _ _ _ => pts_nil) (fun _ _ _ _ _ => (pe_call GD hr (by rfl) mD kD bD .nil pass0 (pa_cons (pv 0) (pa_cons (pe_callB (r := rLenQ K) call_len_seq (by rfl) mlen PySem.boot_len (pa_cons (pv 4) pa_nil)) pa_nil))))) pa_nil)) pa_nil))))) (pss_one (ps_ret (PE.wk (u := uSS sss) (pe_callTy call_tuple_of (by rfl) mtup (by decide +kernel) (pa_cons (pe_callB (cr_sortS rfl hu) (by rfl) msorted PyProof.Rows.boot_sorted (pa_cons (pe_callTy (cr_setOfD rfl hu) (by rfl) mset PyProof.Rows.boot_set (pa_cons (pv 2) pa_nil)) pa_nil)) pa_nil)) (fun σ H Q ⟨fo, ks, D, e2, hfo, rw_, dl, l1, ne, q⟩ => by
      refine ⟨_, e2, fo, ks, rfl, SqL.of hfo, fun q m => SqT.of (rw_ q m).1, ⟨D.map keyI, fun q m => ?_, by rw [List.length_map]; omega⟩, fun a2 L ha2 sub all nd => ?_⟩
      · obtain ⟨_, r, er, _, mr⟩ := rw_ q m
        rw [er]
        exact List.mem_map.mpr ⟨r, mr, rfl⟩
      have s1 := same_new (o := SetO P w a2 L) ha2
      have keyL : ∀ q ∈ L, ∃ r, q.2 = keyI r ∧ StR sss r ∧ r ∈ D := fun q m => (rw_ q (sub q m)).2
      refine ⟨a2, L, rfl, upd_same, fun q m => SqT.of (s1 _ _ (rw_ q (sub q m)).1), ?_, ?_, fun L1 p pm less nd1 hp => ?_⟩
      · intro d hd d' hd'
        obtain ⟨q, m, rfl⟩ := List.mem_map.mp hd
        obtain ⟨r, m', rfl⟩ := List.mem_map.mp hd'
        obtain ⟨x, ex, _⟩ := keyL q m
        obtain ⟨y, ey, _⟩ := keyL r m'
        rw [ex, ey, tD_keyI, tD_keyI]
        exact alike_rows x y
      · refine .inl fun d hd => ?_
        obtain ⟨q, m, rfl⟩ := List.mem_map.mp hd
        obtain ⟨r, e, st, _⟩ := keyL q m
        rw [e, tD_keyI]
        have lr := st.1
        cases r with
        | nil => rw [← lr] at l1; cases l1
        | cons x r => exact ⟨_, _, rfl⟩
      have pm2 := (pm.map Prod.snd)
      obtain ⟨rs, r1, r2, r3⟩ := sorted_rows L1 (pm2.nodup_iff.mpr nd) fun q m => let ⟨r, e, _⟩ := keyL q (pm.mem_iff.mp m); ⟨r, e⟩
      have memM : ∀ q ∈ L1.mergeSort (PySem.W.dataLe false fun q : Addr × List Key => tD q.2), q ∈ ks := fun q m => sub q (pm.mem_iff.mp ((List.mergeSort_perm _ _).mem_iff.mp m))
      have memL : ∀ r ∈ rs, StR sss r ∧ r ∈ D := fun r m => by
        have z := (r3 r).mp m
        rw [pm2.mem_iff] at z
        obtain ⟨q, mq, eq⟩ := List.mem_map.mp z
        obtain ⟨r', e', h⟩ := keyL q mq
        rw [eq] at e'
        rw [keyI_inj e']
        exact h
      generalize L1.mergeSort (PySem.W.dataLe false fun q : Addr × List Key => tD q.2) = M at r1 memM ⊢
      have s2 := same_new (o := .lst (M.map fun q => V.ref q.1)) hp
      refine ⟨p, _, rfl, .inl ⟨SqL.of upd_same, fun b hb => ?_⟩⟩
      have s3 := same_new (o := .tup (M.map fun q => V.ref q.1)) hb
      have s13 := s1.trans (s2.trans s3)
      have ndr : rs.Nodup := r2.imp fun {a b} h e => by
        rw [e, lex_ir] at h
        cases h
      refine q b rs _ s13 (.tup upd_same (td_rows M rs r1 fun q m => s13 _ _ (rw_ q (memM q m)).1)) (starts_ok ?_ (fun r m => (memL r m).1) r2) (Nat.le_trans (nodup_most rs D ndr fun r m => (memL r m).2) dl) fun r m => (memL r m).1.1
      intro z
      obtain ⟨q0, m0⟩ := List.exists_mem_of_ne_nil ks ne
      have m1 := all q0 m0
      obtain ⟨q1, mq, eq⟩ := List.mem_map.mp m1
      obtain ⟨r, er, _⟩ := keyL q1 mq
      have m2 : r ∈ rs := (r3 r).mpr (by rw [pm2.mem_iff, ← er]; exact List.mem_map.mpr ⟨q1, mq, rfl⟩)
      rw [z] at m2
      cases m2))))))), ?_⟩
    have n0 := FA.n0
    have lov := tO.lenm
    refine ⟨by show 0 ≤ sizeLine; decide, fun fo hfo => ?_⟩
    have off : ∀ {H1 : Hp} {ks : List Int} {m : Int} {x : Addr}, FeedAt H1 p c ks y m → H1 x = none → x ≠ p ∧ x ≠ c := fun F z => ⟨Ne.symm (ne_of_none F.ob z), Ne.symm (ne_of_none F.cs z)⟩
    have fop := off FA hfo
    have s0 := same_new (o := .lst []) hfo
    refine ⟨_, rfl, p, c, ks, y, n, 8, rfl, FA.same s0, by omega, by decide, by decide, fun d ks1 H1 d0 d8 F1 sv1 => ⟨rfl, _, rfl, ?_⟩⟩
    have sv01 := (Save.of s0).trans sv1
    have hf1 := sv1 _ _ (upd_same (H := H) (a := fo) (o := .lst [])) fop.1 fop.2
    have hO1 := sv01 _ _ hO Op Oc
    have tO1 := tO.to (Save.tup FA sv01)
    by_cases c0 : V.int d = V.int 0
    · rw [decide_eq_true c0]
      refine iteT ?_
      refine ⟨40, rfl, by decide, by decide, fun D hD => lc_range (lo := 0) (n := 40) (fun i H2 => Same H1 H2 ∧ ∃ ks : List (Addr × List Key), H2 D = some (.lst (ks.map fun q => V.ref q.1)) ∧ ks.length = i ∧ RowsAt H2 ks (fun r => StR sss r ∧ r ∈ D40 sss)) ⟨same_new hD, [], upd_same, rfl, fun q m => nomatch m⟩ (fun i H2 hi ⟨s2, ks2, d2, kl, rw2⟩ => ?_) fun H2 ⟨s2, ks2, d2, kl, rw2⟩ => ?_⟩
      · have hO2 := s2 _ _ (⟨hO1, tO1⟩ : H1 O = some (.lst ov) ∧ TDs H1 ov (sss.map statesD)).1
        have tO2 := (⟨hO1, tO1⟩ : H1 O = some (.lst ov) ∧ TDs H1 ov (sss.map statesD)).2.to (Tup.of s2)
        refine ⟨rfl, _, rfl, O, rfl, ⟨_, SqL.of hO2⟩, fun D2 hD2 => lc_list (K := K) (a := O) (xs := ov) (fun j H3 => Same H2 H3 ∧ H3 D2 = some (.lst (((modR sss (0 + (i : Int))).take j).map V.int))) ⟨same_new hD2, by rw [List.take_zero]; exact upd_same⟩ (fun j H3 _ ⟨s3, _⟩ => SqL.of (s3 _ _ hO2)) (fun j x H3 ex ⟨s3, d3⟩ => ?_) fun H3 ⟨s3, d3⟩ => ?_⟩
        · obtain ⟨ss, ess, ts⟩ := (tO2.to (Tup.of s3)).at_ ex
          obtain ⟨a, sx, rfl, ha, hx⟩ := TD.ref_of (ds := ss.map stateD) ts
          have lsx := hx.lenm
          have one := (ko ss (List.mem_of_getElem? ess)).one
          refine ⟨rfl, _, rfl, _, rfl, a, _, rfl, .inr (SqT.of ha), _, _, rfl, rfl, by omega, _, d3, ?_, same_at s3 hD2, ?_⟩
          · rw [List.length_map, List.length_take]
            have z : (modR sss (0 + (i : Int))).length = sss.length := List.length_map ..
            exact small_lt (m := 4) (by omega)
          · rw [upd_same, List.take_add_one, show (modR sss (0 + (i : Int)))[j]? = some ((0 + (i : Int)) % (ss.length : Int)) from by unfold modR; rw [List.getElem?_map, ess]; rfl, List.map_append, lsx]
            rfl
        rw [List.take_of_length_le (show (modR sss (0 + (i : Int))).length ≤ ov.length from by unfold modR; rw [List.length_map]; omega)] at d3
        refine ⟨D2, _, rfl, .inl ⟨SqL.of d3, fun b hb => ?_⟩⟩
        have s4 := s3.trans (same_new (o := .tup ((modR sss (0 + (i : Int))).map V.int)) hb)
        have hb4 : (upd H3 b (.tup ((modR sss (0 + (i : Int))).map V.int))) b = some (.tup ((modR sss (0 + (i : Int))).map V.int)) := upd_same
        generalize upd H3 b (.tup ((modR sss (0 + (i : Int))).map V.int)) = H4 at s4 hb4 ⊢
        have d4 := s4 _ _ d2
        have tp : ∀ (x : Addr) (xs : List V), H4 x = some (.tup xs) → (upd H4 D (.lst ((ks2.map fun q => V.ref q.1) ++ [.ref b]))) x = some (.tup xs) := fun x xs e => by
          rw [upd_ne fun z => by rw [z, d4] at e; cases e]
          exact e
        refine ⟨_, d4, ?_, same_at (s2.trans s4) hD, ks2 ++ [(b, keyI (modR sss (0 + (i : Int))))], by rw [upd_same, List.map_append]; rfl, by rw [List.length_append, kl]; rfl, ((rw2.to fun x xs e => s4 _ _ e).snoc hb4 ⟨modR_ok ko _, mem40 (by omega) (by omega)⟩).to tp⟩
        rw [List.length_map]
        exact small_lt (m := 64) (by omega)
      · have hO2 := s2 _ _ hO1
        have tO2 := tO1.to (Tup.of s2)
        refine ⟨_, rfl, 64, rfl, by decide, by decide, fun D9 hD9 => lc_range (lo := 0) (n := 64) (fun i H9 => Same H2 H9 ∧ ∃ ks : List (Addr × List Key), H9 D9 = some (.lst (ks.map fun q => V.ref q.1)) ∧ ks.length = i ∧ RowsAt H9 ks (fun r => StR sss r ∧ r ∈ D40 sss)) ⟨same_new hD9, [], upd_same, rfl, fun q m => nomatch m⟩ (fun i H9 hi ⟨s9, ks9, d9, kl9, rw9⟩ => ?_) fun H9 ⟨s9, ks9, d9, kl9, rw9⟩ => ?_⟩
        · have hO9 := s9 _ _ (⟨hO2, tO2⟩ : H2 O = some (.lst ov) ∧ TDs H2 ov (sss.map statesD)).1
          have tO9 := (⟨hO2, tO2⟩ : H2 O = some (.lst ov) ∧ TDs H2 ov (sss.map statesD)).2.to (Tup.of s9)
          refine ⟨rfl, _, rfl, O, rfl, ⟨_, SqL.of hO9⟩, fun D2 hD2 => lc_list (K := K) (a := O) (xs := ov) (fun j H3 => Same H9 H3 ∧ H3 D2 = some (.lst (((modR sss ((0 + (i : Int)) / 8)).take j).map V.int))) ⟨same_new hD2, by rw [List.take_zero]; exact upd_same⟩ (fun j H3 _ ⟨s3, _⟩ => SqL.of (s3 _ _ hO9)) (fun j x H3 ex ⟨s3, d3⟩ => ?_) fun H3 ⟨s3, d3⟩ => ?_⟩
          · obtain ⟨ss, ess, ts⟩ := (tO9.to (Tup.of s3)).at_ ex
            obtain ⟨a, sx, rfl, ha, hx⟩ := TD.ref_of (ds := ss.map stateD) ts
            have lsx := hx.lenm
            have one := (ko ss (List.mem_of_getElem? ess)).one
            refine ⟨rfl, _, rfl, _, _, rfl, rfl, ⟨by decide, by decide⟩, _, rfl, a, _, rfl, .inr (SqT.of ha), _, _, rfl, rfl, by omega, _, d3, ?_, same_at s3 hD2, ?_⟩
            · rw [List.length_map, List.length_take]
              have z : (modR sss ((0 + (i : Int)) / 8)).length = sss.length := List.length_map ..
              exact small_lt (m := 4) (by omega)
            · rw [upd_same, List.take_add_one, show (modR sss ((0 + (i : Int)) / 8))[j]? = some (((0 + (i : Int)) / 8) % (ss.length : Int)) from by unfold modR; rw [List.getElem?_map, ess]; rfl, List.map_append, lsx]
              rfl
          rw [List.take_of_length_le (show (modR sss ((0 + (i : Int)) / 8)).length ≤ ov.length from by unfold modR; rw [List.length_map]; omega)] at d3
          refine ⟨D2, _, rfl, .inl ⟨SqL.of d3, fun b hb => ?_⟩⟩
          have s4 := s3.trans (same_new (o := .tup ((modR sss ((0 + (i : Int)) / 8)).map V.int)) hb)
          have hb4 : (upd H3 b (.tup ((modR sss ((0 + (i : Int)) / 8)).map V.int))) b = some (.tup ((modR sss ((0 + (i : Int)) / 8)).map V.int)) := upd_same
          generalize upd H3 b (.tup ((modR sss ((0 + (i : Int)) / 8)).map V.int)) = H4 at s4 hb4 ⊢
          have d4 := s4 _ _ d9
          have tp : ∀ (x : Addr) (xs : List V), H4 x = some (.tup xs) → (upd H4 D9 (.lst ((ks9.map fun q => V.ref q.1) ++ [.ref b]))) x = some (.tup xs) := fun x xs e => by
            rw [upd_ne fun z => by rw [z, d4] at e; cases e]
            exact e
          refine ⟨_, d4, ?_, same_at (s9.trans s4) hD9, ks9 ++ [(b, keyI (modR sss ((0 + (i : Int)) / 8)))], by rw [upd_same, List.map_append]; rfl, by rw [List.length_append, kl9]; rfl, ((rw9.to fun x xs e => s4 _ _ e).snoc hb4 ⟨modR_ok ko _, mem40 (by omega) (by omega)⟩).to tp⟩
          rw [List.length_map]
          exact small_lt (m := 64) (by omega)
        · have d92 := s9 _ _ d2
          refine ⟨D, D9, _, _, rfl, rfl, d92, d9, ?_, fun q hq => ?_⟩
          · rw [List.length_map, List.length_map]
            exact small_len (m := 104) (by omega)
          have sq := same_new (o := .lst ((ks2.map fun q => V.ref q.1) ++ (ks9.map fun q => V.ref q.1))) hq
          have s19 := s2.trans (s9.trans sq)
          refine ⟨q, ks2 ++ ks9, D40 sss, rfl, by rw [upd_same, List.map_append], fun x m => ?_, ?_, l1, ?_, fun t rs H' s' td st le lr => k t rs ks1 (n + 1) H' td st le (fun r m => by rw [lr r m]; exact l4) ((F1.same s19).same s') (by omega) (sv01.trans (Save.of (s19.trans s')))⟩
          · rcases List.mem_append.mp m with m | m
            · exact ⟨sq _ _ (s9 _ _ (rw2 x m).1), (rw2 x m).2⟩
            · exact ⟨sq _ _ (rw9 x m).1, (rw9 x m).2⟩
          · unfold D40
            rw [List.length_map, List.length_range]
            exact Nat.le_refl _
          · intro z
            have := congrArg List.length z
            rw [List.length_append, kl] at this
            simp at this
    · rw [decide_eq_false c0]
      refine iteF ?_
      have n1 := F1.n0
      refine ⟨_, rfl, p, c, ks1, y, n + 1, 3, rfl, F1, by omega, by decide, by decide, fun m ks2 H2 m0 m3 F2 sv2 => ⟨_, _, rfl, rfl, ?_⟩⟩
      have hf2 := sv2 _ _ hf1 fop.1 fop.2
      have sv02 := sv01.trans sv2
      refine ⟨1 + m, rfl, by omega, by omega, for_range (lo := 0) (n := (1 + m).toNat) (fun j σ H3 => ∃ (o3 : Option V) (ks3 : List Int) (n3 : Int) (rows : List (Addr × List Key)) (D : List (List Int)), σ = [some (.ref p), some (.ref O), some (.ref fo), o3, none] ∧ FeedAt H3 p c ks3 y n3 ∧ n3 ≤ n + 2 + 4 * (j : Int) ∧ Save p c H H3 ∧ H3 fo = some (.lst (rows.map fun q => V.ref q.1)) ∧ rows.length = j ∧ D.length = j ∧ RowsAt H3 rows (fun r => StR sss r ∧ r ∈ D))
        ⟨none, ks2, n + 1 + 1, [], [], rfl, F2, by omega, sv02, hf2, rfl, rfl, fun q m => nomatch m⟩ ?_ ?_⟩
      · rintro j σ H3 hj ⟨o3, ks3, n3, rows, D, rfl, F3, le3, sv3, hf3, rl, Dl, rw3⟩
        have n3_ := F3.n0
        have hO3 := sv3 _ _ hO Op Oc
        have tO3 := tO.to (Save.tup FA sv3)
        refine ⟨_, rfl, .inl ⟨rfl, _, SqL.of hf3⟩, _, rfl, O, rfl, ⟨_, SqL.of hO3⟩, fun D2 hD2 => lc_list (K := K) (a := O) (xs := ov) (fun i H4 => ∃ (ks4 : List Int) (n4 : Int) (r : List Int), FeedAt H4 p c ks4 y n4 ∧ n4 ≤ n3 + (i : Int) ∧ Save p c H3 H4 ∧ H4 D2 = some (.lst (r.map V.int)) ∧ r.length = i ∧ ∀ (u : Nat) (x : Int) (ss : List (List Stp)), r[u]? = some x → sss[u]? = some ss → 0 ≤ x ∧ x < (ss.length : Int))
          ⟨ks3, n3, [], F3.wr (off F3 hD2).1 (off F3 hD2).2, by omega, (Save.refl p c H3).wr hD2, upd_same, rfl, fun u x ss e => by simp at e⟩ (fun i H4 _ ⟨_, _, _, _, _, sv4, _⟩ => SqL.of (sv4 _ _ hO3 Op Oc)) (fun i x H4 ex ⟨ks4, n4, r, F4, le4, sv4, d4, rl4, st4⟩ => ?_) fun H4 ⟨ks4, n4, r, F4, le4, sv4, d4, rl4, st4⟩ => ?_⟩
        · obtain ⟨ss, ess, ts⟩ := (tO3.to (Save.tup F3 sv4)).at_ ex
          obtain ⟨a, sx, rfl, ha, hx⟩ := TD.ref_of (ds := ss.map stateD) ts
          have lsx := hx.lenm
          have kss := ko ss (List.mem_of_getElem? ess)
          have one := kss.one
          have most := kss.most
          have lt := (List.getElem?_eq_some_iff.mp ex).1
          have Dp := off F3 hD2
          refine ⟨rfl, _, rfl, _, rfl, a, _, rfl, .inr (SqT.of ha), p, c, ks4, y, n4, _, rfl, F4, by omega, by omega, by omega, fun z ks5 H5 z0 z1 F5 sv5 => ⟨_, sv5 _ _ d4 Dp.1 Dp.2, ?_, ks5, n4 + 1, r ++ [z], F5.wr Dp.1 Dp.2, by omega, (sv4.trans sv5).wr hD2, by rw [upd_same, List.map_append]; rfl, by rw [List.length_append, rl4]; rfl, fun u x ss' e1 e2 => ?_⟩⟩
          · rw [List.length_map]
            exact small_lt (m := 4) (by omega)
          · rcases Nat.lt_or_ge u r.length with l | g
            · rw [List.getElem?_append_left l] at e1
              exact st4 u x ss' e1 e2
            · rw [List.getElem?_append_right g] at e1
              have e0 : u - r.length = 0 := by
                have w := (List.getElem?_eq_some_iff.mp e1).1
                simp at w
                omega
              rw [e0] at e1
              have ez : z = x := Option.some.inj e1
              have eu : u = i := by omega
              rw [eu, ess] at e2
              have es : ss = ss' := Option.some.inj e2
              subst ez es
              exact ⟨z0, by omega⟩
        · refine ⟨D2, _, rfl, .inl ⟨SqL.of d4, fun b hb => ?_⟩⟩
          have s5 := same_new (o := .tup (r.map V.int)) hb
          have hb5 : (upd H4 b (.tup (r.map V.int))) b = some (.tup (r.map V.int)) := upd_same
          have F5 := F4.same s5
          generalize upd H4 b (.tup (r.map V.int)) = H5 at s5 hb5 F5 ⊢
          have sv35 := sv4.trans (Save.of s5)
          have hf5 := sv35 _ _ hf3 fop.1 fop.2
          refine ⟨fo, _, _, rfl, rfl, hf5, ?_, ?_⟩
          · rw [List.length_map]
            exact small_lt (m := 3) (by omega)
          have tp : ∀ (x : Addr) (xs : List V), H5 x = some (.tup xs) → (upd H5 fo (.lst ((rows.map fun q => V.ref q.1) ++ [.ref b]))) x = some (.tup xs) := fun x xs e => by
            rw [upd_ne fun z => by rw [z, hf5] at e; cases e]
            exact e
          have stR : StR sss r := ⟨by omega, st4⟩
          have rw5 : RowsAt H5 rows (fun x => StR sss x ∧ x ∈ D ++ [r]) := fun q m => ⟨Save.tup F3 sv35 _ _ (rw3 q m).1, let ⟨x, e, st, mx⟩ := (rw3 q m).2; ⟨x, e, st, List.mem_append_left _ mx⟩⟩
          exact ⟨_, ks4, n4, rows ++ [(b, keyI r)], D ++ [r], rfl, F5.wr fop.1 fop.2, by omega, (sv3.trans sv35).wr hfo, by rw [upd_same, List.map_append]; rfl, by rw [List.length_append, rl]; rfl, by rw [List.length_append, Dl]; rfl, (rw5.snoc hb5 ⟨stR, List.mem_append_right _ List.mem_cons_self⟩).to tp⟩
      · rintro σ H3 ⟨o3, ks3, n3, rows, D, rfl, F3, le3, sv3, hf3, rl, Dl, rw3⟩
        refine ⟨fo, rows, D, rfl, hf3, rw3, by omega, l1, ?_, fun t rs H' s' td st le lr => k t rs ks3 n3 H' td st le (fun r m => by rw [lr r m]; exact l4) (F3.same s') (by omega) (sv3.trans (Save.of s'))⟩
        intro z
        rw [z] at rl
        simp at rl
        omega
end
end My

-- ===== K13V2 =====
set_option Elab.async false
set_option linter.all false
set_option maxRecDepth 100000
set_option maxHeartbeats 4000000
namespace My
open PySem L2 PyProof.Rows PySem.Spec Kd StX ClX
/-! ### logs drawn, as mathematics: number, committed, earlier, row -/
abbrev LE := Int × Bool × List Int × List Act
def actD (a : Act) : PyData := .tuple [.int a.1, .str a.2.1, .str a.2.2]
def entD (x : LE) : PyData := .tuple [.int x.1, .bool x.2.1, rowD x.2.2.1, .tuple (x.2.2.2.map actD)]
def enX (x : LE) : Int × Bool × List Int := (x.1, x.2.1, x.2.2.1)
def foldB (B : List (Int × List Int)) : List (Int × Bool × List Int) → List (Int × List Int)
  | [] => B
  | (n, c, e) :: r => foldB (if c = true then B ++ [(n, e)] else B) r
theorem closedX_snoc : ∀ (xs : List (Int × Bool × List Int)) (B : List (Int × List Int)) (n : Int) (c : Bool) (e : List Int), closedX B (xs ++ [(n, c, e)]) = (closedX B xs && clo (foldB B xs) e)
  | [], B, n, c, e => by
    show (clo B e && true) = (true && clo B e)
    rw [Bool.and_true, Bool.true_and]
  | (m, d, f) :: xs, B, n, c, e => by
    show (clo B f && closedX _ (xs ++ [(n, c, e)])) = (clo B f && closedX _ xs && clo (foldB _ xs) e)
    rw [closedX_snoc xs, Bool.and_assoc]
theorem foldB_snoc : ∀ (xs : List (Int × Bool × List Int)) (B : List (Int × List Int)) (n : Int) (c : Bool) (e : List Int), foldB B (xs ++ [(n, c, e)]) = if c = true then foldB B xs ++ [(n, e)] else foldB B xs
  | [], B, n, c, e => rfl
  | (m, d, f) :: xs, B, n, c, e => foldB_snoc xs _ n c e
def AscI (l : List Int) : Prop := l.Pairwise fun i j => ltI i j = true
theorem nums_rowD {e : List Int} (asc : AscI e) (pos : ∀ k ∈ e, 0 ≤ k) : numsB (rowD e) = true := by
  show ((e.map PyData.int).all numB && ascL ltI ((e.map PyData.int).map iOf)) = true
  rw [show (e.map PyData.int).all numB = true from List.all_eq_true.mpr fun d m => by
    obtain ⟨i, mi, rfl⟩ := List.mem_map.mp m
    exact decide_eq_true (pos i mi)]
  rw [show (e.map PyData.int).map iOf = e from rowI_rowD e, (asc_pw ltI_tr e).mpr asc]
  rfl
theorem part_actD {sss : List (List (List Stp))} {a : Act} (h : EvOf sss a) : partB sss (actD a) = true := by
  obtain ⟨a0, ss, es, ev⟩ := h
  show (decide (0 ≤ a.1) && (match sss[a.1.toNat]? with
    | some ss => evIn ss (a.2.1, a.2.2)
    | none => false)) = true
  rw [decide_eq_true a0, es, Bool.true_and]
  exact evIn_iff.mpr ev
/-- an entry that may be drawn -/
structure LEok (sss : List (List (List Stp))) (x : LE) : Prop where
  n0 : 0 ≤ x.1
  asc : AscI x.2.2.1
  pos : ∀ k ∈ x.2.2.1, 0 ≤ k
  few : x.2.2.1.length ≤ 14
  acts : ∀ a ∈ x.2.2.2, EvOf sss a
  row : x.2.2.2.length ≤ 13
theorem LEok.en {sss : List (List (List Stp))} {x : LE} (h : LEok sss x) : enO sss (entD x) = some (enX x) := by
  obtain ⟨n, c, e, as⟩ := x
  show enO sss (.tuple [.int n, .bool c, rowD e, .tuple (as.map actD)]) = _
  rw [enO_four, nums_rowD h.asc h.pos, decide_eq_true h.n0, show rowB sss (.tuple (as.map actD)) = true from List.all_eq_true.mpr fun d m => by
    obtain ⟨a, ma, rfl⟩ := List.mem_map.mp m
    exact part_actD (h.acts a ma)]
  rw [rowI_rowD]
  rfl
theorem nice_row {k : Nat} {e : List Int} (h : e.length ≤ 40) : Nice 40 (k + 1) (rowD e) := ⟨by rw [List.length_map]; exact h, fun d m => by
  obtain ⟨i, _, rfl⟩ := List.mem_map.mp m
  exact .int⟩
theorem LEok.nice {sss : List (List (List Stp))} {x : LE} (ko : ∀ ss ∈ sss, KOk ss) (h : LEok sss x) : Nice 40 3 (entD x) := by
  have leaf : ∀ (k : Nat) (ds : List PyData), ds.length ≤ 40 → (∀ d ∈ ds, Nice 40 k d) → Nice 40 (k + 1) (.tuple ds) := fun k ds h1 h2 => ⟨h1, h2⟩
  refine leaf 2 _ (by show 4 ≤ 40; decide) fun d m => ?_
  rcases List.mem_cons.mp m with rfl | m
  · exact .int
  rcases List.mem_cons.mp m with rfl | m
  · exact .bool
  rcases List.mem_cons.mp m with rfl | m
  · exact nice_row (by have := h.few; omega)
  rw [List.mem_singleton.mp m]
  refine leaf 1 _ (by rw [List.length_map]; have := h.row; omega) fun d m => ?_
  obtain ⟨a, ma, rfl⟩ := List.mem_map.mp m
  obtain ⟨_, ss, es, st, mst, x, mx, ex⟩ := h.acts a ma
  have xo := ((ko ss (List.mem_of_getElem? es)).all st mst).all x mx
  have w1 : PyData.strOk a.2.1 = true := by
    have e1 : x.1 = a.2.1 := congrArg Prod.fst ex
    rw [← e1]
    exact wrd_ok xo.w1
  have w2 : PyData.strOk a.2.2 = true := by
    have e1 : x.2.1 = a.2.2 := congrArg Prod.snd ex
    rw [← e1]
    exact wrd_ok xo.w2
  refine leaf 0 _ (by show 3 ≤ 40; decide) fun d m => ?_
  rcases List.mem_cons.mp m with rfl | m
  · exact .int
  rcases List.mem_cons.mp m with rfl | m
  · exact .str w1
  · rw [List.mem_singleton.mp m]
    exact .str w2
/-- what the drawing keeps -/
structure GI (sss : List (List (List Stp))) (es : List LE) (B : List (Int × List Int)) (N : Int) : Prop where
  fb : B = foldB [] (es.map enX)
  cl : closedX [] (es.map enX) = true
  asc : AscI (es.map Prod.fst)
  lt : ∀ x ∈ es, x.1 < N
  ok : ∀ x ∈ es, LEok sss x
  N0 : 0 ≤ N
  keys : ∀ k ∈ B.map Prod.fst, 0 ≤ k ∧ k < N
  tr : ∀ k f, lk B k = some f → clo B f = true ∧ f.length ≤ 14
  len : B.length ≤ es.length
theorem GI.nil {sss : List (List (List Stp))} {N : Int} (h : 0 ≤ N) : GI sss [] [] N :=
  ⟨rfl, rfl, List.Pairwise.nil, (fun x m => nomatch m), (fun x m => nomatch m), h, (fun k m => nomatch m), (fun k f z => nomatch z), Nat.le_refl _⟩
theorem clo_app {B : List (Int × List Int)} {n : Int} {e f : List Int} (h : clo B f = true) : clo (B ++ [(n, e)]) f = true := by
  refine List.all_eq_true.mpr fun k m => ?_
  have z := List.all_eq_true.mp h k m
  rw [lk_app]
  cases q : lk B k with
  | none => rw [q] at z; cases z
  | some g => rw [q] at z; exact z
theorem GI.put {sss : List (List (List Stp))} {es : List LE} {B : List (Int × List Int)} {N N' : Int} {x : LE} (h : GI sss es B N) (hx : LEok sss x) (en : x.1 = N) (c : clo B x.2.2.1 = true) (l : N < N') : GI sss (es ++ [x]) (if x.2.1 = true then B ++ [(N, x.2.2.1)] else B) N' := by
  obtain ⟨n, cc, e, as⟩ := x
  have en : n = N := en
  subst en
  have hn : n ∉ B.map Prod.fst := fun m => Int.lt_irrefl _ (h.keys n m).2
  have N0 := h.N0
  refine ⟨?_, ?_, ?_, fun x m => ?_, fun x m => ?_, by omega, fun k m => ?_, fun k f z => ?_, ?_⟩
  · rw [List.map_append, show [((n, cc, e, as) : LE)].map enX = [(n, cc, e)] from rfl, foldB_snoc, ← h.fb]
  · rw [List.map_append, show [((n, cc, e, as) : LE)].map enX = [(n, cc, e)] from rfl, closedX_snoc, ← h.fb, h.cl]
    exact c
  · rw [List.map_append]
    refine List.pairwise_append.mpr ⟨h.asc, List.pairwise_singleton _ _, fun a ma b mb => ?_⟩
    obtain ⟨x, mx, rfl⟩ := List.mem_map.mp ma
    rw [List.mem_singleton.mp mb]
    exact decide_eq_true (h.lt x mx)
  · rcases List.mem_append.mp m with m | m
    · have := h.lt x m
      omega
    · rw [List.mem_singleton.mp m]
      exact l
  · rcases List.mem_append.mp m with m | m
    · exact h.ok x m
    · rw [List.mem_singleton.mp m]
      exact hx
  · have step : k ∈ B.map Prod.fst ∨ k = n := by
      cases cc with
      | false => exact .inl m
      | true =>
        rw [if_pos rfl, List.map_append] at m
        exact (List.mem_append.mp m).imp id List.mem_singleton.mp
    rcases step with m | rfl
    · have := h.keys k m
      omega
    · omega
  · cases cc with
    | false => exact h.tr k f z
    | true =>
      rw [if_pos rfl] at z ⊢
      rw [lk_app] at z
      cases q : lk B k with
      | some g =>
        rw [q] at z
        cases z
        exact ⟨clo_app (h.tr k _ q).1, (h.tr k _ q).2⟩
      | none =>
        rw [q] at z
        by_cases c2 : k = n
        · have z2 : some e = some f := by
            have w : (if k = n then some e else none) = some f := z
            rwa [if_pos c2] at w
          cases z2
          exact ⟨clo_app c, hx.few⟩
        · have w : (if k = n then some e else none) = some f := z
          rw [if_neg c2] at w
          cases w
  · cases cc with
    | false =>
      rw [if_neg Bool.false_ne_true, List.length_append]
      have := h.len
      omega
    | true =>
      rw [if_pos rfl, List.length_append, List.length_append]
      exact Nat.succ_le_succ h.len
theorem GI.run {sss : List (List (List Stp))} {es : List LE} {B : List (Int × List Int)} {N : Int} (h : GI sss es B N) : entsB sss (.tuple (es.map entD)) = true := by
  show runX (enO sss) [] (-1) (es.map entD) = true
  rw [runX_all]
  have fm : ∀ l : List LE, (∀ x ∈ l, LEok sss x) → (l.map entD).filterMap (enO sss) = l.map enX := fun l => by
    induction l with
    | nil => exact fun _ => rfl
    | cons x l ih =>
      intro g
      rw [List.map_cons, List.filterMap_cons, (g x List.mem_cons_self).en, List.map_cons, ← ih fun y m => g y (List.mem_cons_of_mem _ m)]
  rw [fm es h.ok, h.cl, show (es.map entD).all (fun d => (enO sss d).isSome) = true from List.all_eq_true.mpr fun d m => by
    obtain ⟨x, mx, rfl⟩ := List.mem_map.mp m
    rw [(h.ok x mx).en]
    rfl]
  have e1 : (es.map enX).map Prod.fst = es.map Prod.fst := by
    rw [List.map_map]
    rfl
  rw [e1, ascF_start _ fun i m => by
    obtain ⟨x, mx, rfl⟩ := List.mem_map.mp m
    exact (h.ok x mx).n0, (asc_pw ltI_tr _).mpr h.asc]
  rfl
/-- numbers with all that are before them -/
theorem clo_new {sss : List (List (List Stp))} {es : List LE} {B : List (Int × List Int)} {N : Int} {zs ws e : List Int} (h : GI sss es B N) (hz : ∀ z ∈ zs, z ∈ B.map Prod.fst) (w1 : ∀ z ∈ zs, z ∈ ws) (w2 : ∀ z ∈ zs, ∀ f, lk B z = some f → ∀ x ∈ f, x ∈ ws) (w3 : ∀ x ∈ ws, x ∈ zs ∨ ∃ z ∈ zs, ∃ f, lk B z = some f ∧ x ∈ f) (we : ∀ x, x ∈ e ↔ x ∈ ws) :
    clo B e = true ∧ ∀ x ∈ e, x ∈ B.map Prod.fst := by
  have sub : ∀ x ∈ e, x ∈ B.map Prod.fst := fun x m => by
    rcases w3 x ((we x).mp m) with m | ⟨z, mz, f, ef, mx⟩
    · exact hz x m
    · exact clo_sub (h.tr z f ef).1 x mx
  refine ⟨List.all_eq_true.mpr fun k m => ?_, sub⟩
  obtain ⟨f, ef⟩ := lk_yes (sub k m)
  rw [ef]
  refine List.all_eq_true.mpr fun j mj => decide_eq_true ((we j).mpr ?_)
  rcases w3 k ((we k).mp m) with mk | ⟨z, mz, g, eg, mx⟩
  · exact w2 k mk f ef j mj
  · have cg := List.all_eq_true.mp (h.tr z g eg).1 k mx
    rw [ef] at cg
    exact w2 z mz g eg j (of_decide_eq_true (List.all_eq_true.mp cg j mj))
/-! ### the lists it keeps -/
structure LSt (H H2 : Hp) (p c T Bd : Addr) (y n2 : Int) (tv : List V) (es : List LE) (kvs : List (Key × V)) (B : List (Int × List Int)) : Prop where
  fd : ∃ ks, FeedAt H2 p c ks y n2
  sv : Save p c H H2
  ht : H2 T = some (.lst tv)
  tt : TDs H2 tv (es.map entD)
  hb : H2 Bd = some (.dK kvs)
  ks : kvs.map Prod.fst = B.map fun q => Sum.inl q.1
  lb : ∀ k f, lk B k = some f → ∃ a, valV kvs (Sum.inl k) = some (.ref a) ∧ H2 a = some (.lst (f.map V.int)) ∧ a ≠ p ∧ a ≠ c ∧ a ≠ T
structure LDst (H : Hp) (p c T Bd : Addr) : Prop where
  tp : T ≠ p
  tc : T ≠ c
  bp : Bd ≠ p
  bc : Bd ≠ c
  tb : T ≠ Bd
  fT : H T = none
  fB : H Bd = none
section
variable {H H2 H3 : Hp} {p c T Bd : Addr} {y n2 n3 : Int} {tv : List V} {es : List LE} {kvs : List (Key × V)} {B : List (Int × List Int)}
theorem LSt.step (D : LDst H p c T Bd) (h : LSt H H2 p c T Bd y n2 tv es kvs B) (sv : Save p c H2 H3) (fd : ∃ ks, FeedAt H3 p c ks y n3) : LSt H H3 p c T Bd y n3 tv es kvs B := by
  obtain ⟨ks, F⟩ := h.fd
  exact ⟨fd, h.sv.trans sv, sv _ _ h.ht D.tp D.tc, h.tt.to (Save.tup F sv), sv _ _ h.hb D.bp D.bc, h.ks, fun k f e => let ⟨a, e1, e2, e3, e4, e5⟩ := h.lb k f e; ⟨a, e1, sv _ _ e2 e3 e4, e3, e4, e5⟩⟩
theorem LSt.same (D : LDst H p c T Bd) (h : LSt H H2 p c T Bd y n2 tv es kvs B) (s : Same H2 H3) : LSt H H3 p c T Bd y n2 tv es kvs B :=
  h.step D (Save.of s) (let ⟨ks, F⟩ := h.fd; ⟨ks, F.same s⟩)
theorem LSt.putT (D : LDst H p c T Bd) (h : LSt H H2 p c T Bd y n2 tv es kvs B) {b : Addr} {x : LE} (hb : TD H2 (.ref b) (entD x)) : LSt H (upd H2 T (.lst (tv ++ [.ref b]))) p c T Bd y n2 (tv ++ [.ref b]) (es ++ [x]) kvs B := by
  obtain ⟨ks, F⟩ := h.fd
  have tp : Tup H2 (upd H2 T (.lst (tv ++ [.ref b]))) := Tup.at_ h.ht fun xs z => nomatch z
  refine ⟨⟨ks, F.wr D.tp D.tc⟩, h.sv.wr D.fT, upd_same, ?_, by rw [upd_ne (Ne.symm D.tb)]; exact h.hb, h.ks, fun k f e => let ⟨a, e1, e2, e3, e4, e5⟩ := h.lb k f e; ⟨a, e1, by rw [upd_ne e5]; exact e2, e3, e4, e5⟩⟩
  rw [List.map_append]
  exact TDs.snoc (hb.to tp) (h.tt.to tp)
theorem val_keys {kvs : List (Key × V)} {B : List (Int × List Int)} (h : kvs.map Prod.fst = B.map fun q => (Sum.inl q.1 : Key)) {n : Int} (hn : n ∉ B.map Prod.fst) : valV kvs (Sum.inl n) = none := by
  cases q : valV kvs (Sum.inl n) with
  | none => rfl
  | some v =>
    have m := valV_in q
    rw [h] at m
    obtain ⟨x, mx, e⟩ := List.mem_map.mp m
    injection e with e
    exact absurd (List.mem_map.mpr ⟨x, mx, e⟩) hn
theorem LSt.putB (D : LDst H p c T Bd) (h : LSt H H2 p c T Bd y n2 tv es kvs B) {a : Addr} {n : Int} {e : List Int} (hn : n ∉ B.map Prod.fst) (ha : H2 a = some (.lst (e.map V.int))) (ap : a ≠ p) (ac : a ≠ c) (aT : a ≠ T) : LSt H (upd H2 Bd (.dK (putK kvs (Sum.inl n) (.ref a)))) p c T Bd y n2 tv es (putK kvs (Sum.inl n) (.ref a)) (B ++ [(n, e)]) := by
  obtain ⟨ks, F⟩ := h.fd
  have tp : Tup H2 (upd H2 Bd (.dK (putK kvs (Sum.inl n) (.ref a)))) := Tup.at_ h.hb fun xs z => nomatch z
  have n1 := val_keys h.ks hn
  have inj : ∀ k : Int, ((Sum.inl k : Key) = Sum.inl n) ↔ k = n := fun k => ⟨fun z => by injection z, fun z => by rw [z]⟩
  refine ⟨⟨ks, F.wr D.bp D.bc⟩, h.sv.wr D.fB, by rw [upd_ne D.tb]; exact h.ht, h.tt.to tp, upd_same, ?_, fun k f e' => ?_⟩
  · rw [L2.putK_new _ n1, List.map_append, List.map_append, h.ks]
    rfl
  · rw [lk_app] at e'
    rw [valV_put]
    by_cases c2 : k = n
    · subst c2
      rw [lk_no hn, if_pos rfl] at e'
      cases e'
      exact ⟨a, by rw [if_pos rfl], by rw [upd_ne fun z => by rw [z, h.hb] at ha; cases ha]; exact ha, ap, ac, aT⟩
    · rw [if_neg (fun w => c2 ((inj k).mp w))]
      cases q : lk B k with
      | none => rw [q, if_neg c2] at e'; cases e'
      | some g =>
        rw [q] at e'
        cases e'
        obtain ⟨b, e1, e2, e3, e4, e5⟩ := h.lb k _ q
        exact ⟨b, e1, by rw [upd_ne fun z => by rw [z, h.hb] at e2; cases e2]; exact e2, e3, e4, e5⟩
end
end My

-- ===== K13V3 =====
set_option Elab.async false
set_option linter.all false
set_option maxRecDepth 100000
set_option maxHeartbeats 4000000
namespace My
open PySem L2 PyProof.Rows PySem.Spec Kd StX ClX
abbrev sLogD : Stmt := top 48
def spLogD : Sp := fun vs H Q _ => ∃ (p c O : Addr) (ks : List Int) (w n m : Int) (ov : List V) (sss : List (List (List Stp))), vs = [.ref p, .ref O, .int m] ∧ FeedAt H p c ks w n ∧ n < 880000 ∧ 0 ≤ m ∧ m ≤ 14 ∧ H O = some (.lst ov) ∧ TDs H ov (sss.map statesD) ∧ 1 ≤ sss.length ∧ sss.length ≤ 4 ∧ (∀ ss ∈ sss, KOk ss) ∧ O ≠ p ∧ O ≠ c ∧
  ∀ (t : Addr) (d : PyData) (ks' : List Int) (n' : Int) (H' : Hp), TD H' (.ref t) d → logB sss d = true → Nice 40 5 d → FeedAt H' p c ks' w n' → n' ≤ n + 1000 → Save p c H H' → Q (.ref t) H'
theorem sorted_keys {H : Hp} {kvs : List (Key × V)} {B : List (Int × List Int)} (h : kvs.map Prod.fst = B.map fun q => (Sum.inl q.1 : Key)) : (kvs.map fun kv => kV kv.1) = (B.map Prod.fst).map V.int := by
  have z := congrArg (List.map kV) h
  rw [List.map_map, List.map_map] at z
  rw [List.map_map]
  exact z
section
variable {P : Program} {w : World} {K : PySem.W.Frag} {mg : Str → Option Value} {base : Heap} {C : Addr}
abbrev nLD : List Str := ["_law_deck_here", "_law_machines", "_law_many", "_law_entries", "_law_before", "_law_number", "_law_k", "_law_some", "_law_one", "_law_earlier", "_law_is_over", "_law_row", "_law_did_here"]
theorem scLD : FnScope nLD ["_law_deck_here", "_law_machines", "_law_many"] (defScope sLogD) := ⟨rfl, rfl, rfl, by decide +kernel, rfl, by decide +kernel, by decide +kernel⟩
theorem ok_logd {f fD fP fW fS : Addr} {fd fdD fdP fdW fdS : FuncData} (F : Fun K "_law_log" "_law_log" sLogD f fd) (mtup : mg "tuple" = none) (mset : mg "set" = none) (msorted : mg "sorted" = none) (mlist : mg "list" = none) (mrange : mg "range" = none) (mint : mg "int" = none)
    (GD : FnOk P w K mg base CX0 1 fD fdD ["_law_deck_here", "_law_count"] spDigit) (mD : mg "_law_draw" = some (.ref fD)) (kD : PySem.W.keepIn K (.ref fD) = true) (bD : Binds K fdD ["_law_deck_here", "_law_count"] [])
    (GP : FnOk P w K mg base CX0 2 fP fdP ["_law_deck_here", "_law_some"] spPick) (mP : mg "_law_pick" = some (.ref fP)) (kP : PySem.W.keepIn K (.ref fP) = true) (bP : Binds K fdP ["_law_deck_here", "_law_some"] [])
    (GW : FnOk P w K mg base CX0 3 fW fdW ["_law_deck_here", "_law_machines"] spDid) (mW : mg "_law_did" = some (.ref fW)) (kW : PySem.W.keepIn K (.ref fW) = true) (bW : Binds K fdW ["_law_deck_here", "_law_machines"] [])
    (GS : FnOk P w K mg base CX0 2 fS fdS ["_law_deck_here", "_law_machines"] spLStarts) (mS : mg "_law_starts" = some (.ref fS)) (kS : PySem.W.keepIn K (.ref fS) = true) (bS : Binds K fdS ["_law_deck_here", "_law_machines"] []) : FnOk P w K mg base CX0 4 f fd ["_law_deck_here", "_law_machines", "_law_many"] spLogD := by
  refine F.ok scLD (fun vs H Q E h => ?_) (fun cdv A outer s H vs Q E hr h => ?_)
  · obtain ⟨p, c, O, ks, y, n, m, ov, sss, rfl, _⟩ := h
    rfl
  · obtain ⟨p, c, O, ks, y, n, m, ov, sss, rfl, FA, hn, m0, m14, hO, tO, l1, l4, ko, Op, Oc, k⟩ := h
    have hu := hr.units
    have hu1 : (A.deeper (envOfC "_law_log" (defScope sLogD) s.heap.objs.size f cdv)).units + 1 < cLine := by omega
    have hr1 := hr.mono (show 1 ≤ 3 by omega)
    have hr2 := hr.mono (show 2 ≤ 3 by omega)
    refine ⟨_, (pss_cons (ps_par3 (i := 3) (j := 4) (l := 5) rfl scLD.nd rfl rfl rfl (by decide) (by decide) (by decide) rfl rfl rfl (pa_cons (pe_lst pa_nil) (pa_cons pe_dnewK (pa_cons (pe_call GP hr2 (by rfl) mP kP bP .nil pass0 (pa_cons (pv 0) (pa_cons (pe_lst (pa_cons pe_int (pa_cons pe_int (pa_cons pe_int (pa_cons (pe_op op_pow pe_int pe_int) pa_nil))))) pa_nil))) pa_nil))) (by rfl)) (pss_cons (ps_for PassesOwn.never rfl (pi_range1 (by rfl) mrange (pa_cons (pe_call GD hr1 (by rfl) mD kD bD .nil pass0 (pa_cons (pv 0) (pa_cons (pe_op op_add (pv 2) pe_int) pa_nil))) pa_nil)) (pg_name (i := 6) scLD.nd rfl (Or.inl rfl)) (pss_cons (ps_setLc (i := 7) (own := [("_law_one", 8)]) (g := gName 8) rfl scLD.nd rfl rfl (sw_true rfl rfl rfl (by decide +kernel)) (pi_list (pe_callB cr_sortedI (by rfl) msorted PyProof.Rows.boot_sorted (pa_cons (pe_callTy (call_listD rfl) (by rfl) mlist (by decide +kernel) (pa_cons (pv 4) pa_nil)) pa_nil))) (blkOk_by (N := nLD) (sc := defScope sLogD) (by decide +kernel)) (fun _ _ _ _ _ => pg_name (i := 8) scLD.nd rfl (Or.inl rfl)) (fun _ _ _ _ _ => pts_one (pt_cmpR op_eq (pe_call GD hr1 (by rfl) mD kD bD .nil pass0 (pa_cons (pv 0) (pa_cons pe_int pa_nil))) pe_int (nomark _))) (fun _ _ _ _ _ => (pv 8))) (pss_cons (ps_for PassesOwn.never rfl (pi_list (pe_callTy call_list_of (by rfl) mlist (by decide +kernel) (pa_cons (pv 7) pa_nil))) (pg_name (i := 8) scLD.nd rfl (Or.inl rfl)) (pss_one (ps_set (i := 7) scLD.nd rfl (Or.inl rfl) (pe_op op_cat (pv 7) (pe_callTy call_list_of (by rfl) mlist (by decide +kernel) (pa_cons (pe_dget hu1 (pv 4) (pv 8) (fun _ _ => rfl)) pa_nil)))))) (pss_cons (ps_set (i := 9) scLD.nd rfl (Or.inl rfl) (pe_callB (r := rSortedSet w) (cr_sortedSet rfl) (by rfl) msorted PyProof.Rows.boot_sorted (pa_cons (pe_callTy (r := rSetZ4 K w) (cr_setZ4 rfl) (by rfl) mset PyProof.Rows.boot_set (pa_cons (pv 7) pa_nil)) pa_nil))) (pss_cons (ps_set (i := 10) scLD.nd rfl (Or.inl rfl) (pe_cmpR op_eq (pe_call GD hr1 (by rfl) mD kD bD .nil pass0 (pa_cons (pv 0) (pa_cons pe_int pa_nil))) pe_int (nomark _))) (pss_cons (ps_setLc (i := 11) (own := [("_law_k", 6)]) (g := gName 6) rfl scLD.nd rfl rfl (sw_true rfl rfl rfl (by decide +kernel)) (pi_range1 (by rfl) mrange (pa_cons (pe_call GP hr2 (by rfl) mP kP bP .nil pass0 (pa_cons (pv 0) (pa_cons (pe_lst (pa_cons pe_int (pa_cons pe_int (pa_cons pe_int (pa_cons pe_int (pa_cons pe_int (pa_cons pe_int (pa_cons pe_int (pa_cons pe_int pa_nil))))))))) pa_nil))) pa_nil)) (blkOk_by (N := nLD) (sc := defScope sLogD) (by decide +kernel)) (fun _ _ _ _ _ => pg_name (i := 6) scLD.nd rfl (Or.inl rfl)) (fun _ _ _ _ _ => pts_nil) (fun _ _ _ _ _ => (pe_call GW hr (by rfl) mW kW bW .nil pass0 (pa_cons (pv 0) (pa_cons (pv 1) pa_nil))))) (pss_cons (ps_expr (pe_bm PySem.F.plainAttrs_list PySem.F.slot_list_append PySem.F.type_list_append mt_append (pv 3) (pa_cons (pe_tup (pa_cons (pv 5) (pa_cons (pv 10) (pa_cons (pe_callTy call_tuple_of (by rfl) mtup (by decide +kernel) (pa_cons (pv 9) pa_nil)) (pa_cons (pe_callTy call_tuple_of (by rfl) mtup (by decide +kernel) (pa_cons (pe_lc (own := [("_law_did_here", 12)]) (g := gName 12) rfl scLD.nd (pi_list (pv 11)) (blkOk_by (N := nLD) (sc := defScope sLogD) (by decide +kernel)) (fun _ _ _ _ _ => pg_name (i := 12) scLD.nd rfl (Or.inl rfl)) (fun _ _ _ _ _ => pts_one (pt_cmp (pc_notN (pv 12)))) (fun _ _ _ _ _ => pv 12)) pa_nil)) pa_nil))))) pa_nil))) (pss_cons (ps_if (pt_val (pv 10)) (pss_one (ps_dput hu1 (pv 4) (pv 5) (pv 9) (by rfl))) pss_nil) (pss_one (ps_set (i := 5) scLD.nd rfl (Or.inl rfl) (pe_op op_add (pe_op op_add (pv 5) pe_int) (pe_callTy (T := "int") call_int1 (by rfl) mint (by decide +kernel) (pa_cons (pe_cmpR op_eq (pe_call GD hr1 (by rfl) mD kD bD .nil pass0 (pa_cons (pv 0) (pa_cons pe_int pa_nil))) pe_int (nomark _)) pa_nil))))))))))))) (pss_one (ps_ret (pe_tup (pa_cons (pe_call GS hr2 (by rfl) mS kS bS .nil pass0 (pa_cons (pv 0) (pa_cons (pv 1) pa_nil))) (pa_cons (pe_callTy call_tuple_of (by rfl) mtup (by decide +kernel) (pa_cons (pv 3) pa_nil)) pa_nil))))))), ?_⟩
    have n0 := FA.n0
    have off : ∀ {H1 : Hp} {ks : List Int} {m : Int} {x : Addr}, FeedAt H1 p c ks y m → H1 x = none → x ≠ p ∧ x ≠ c := fun F z => ⟨Ne.symm (ne_of_none F.ob z), Ne.symm (ne_of_none F.cs z)⟩
    refine ⟨by show 0 ≤ sizeLine; decide, fun T hT => ?_⟩
    intro Bd hBd
    obtain ⟨nBT, fB⟩ := new_ne hBd
    have D : LDst H p c T Bd := ⟨(off FA hT).1, (off FA hT).2, (off FA fB).1, (off FA fB).2, Ne.symm nBT, hT, fB⟩
    have s0 := (same_new (o := .lst []) hT).trans (same_new (o := .dK []) hBd)
    have S0 : LSt H (upd (upd H T (.lst [])) Bd (.dK [])) p c T Bd y n [] [] [] [] :=
      ⟨⟨ks, FA.same s0⟩, Save.of s0, same_new hBd _ _ upd_same, .nil, upd_same, rfl, fun k f z => nomatch z⟩
    generalize upd (upd H T (.lst [])) Bd (.dK []) = H0 at S0 ⊢
    refine ⟨_, rfl, _, _, rfl, rfl, ⟨by decide, by decide, by decide⟩, by show 4 ≤ sizeLine; decide, fun L hL => ?_⟩
    have S1 := S0.same D (same_new (o := .lst [V.int 0, .int 1, .int 2, .int (10 ^ (29 : Int).toNat)]) hL)
    have hL1 : (upd H0 L (.lst [V.int 0, .int 1, .int 2, .int (10 ^ (29 : Int).toNat)])) L = some (.lst [V.int 0, .int 1, .int 2, .int (10 ^ (29 : Int).toNat)]) := upd_same
    obtain ⟨ks0, F0⟩ := S0.fd
    have Lo := off F0 hL
    obtain ⟨ks1, F1⟩ := S1.fd
    refine ⟨p, c, L, _, ks1, y, n, rfl, F1, by omega, hL1, Lo.1, Lo.2, by simp, by simp, fun v ks2 H2 mv F2 sv2 => ?_⟩
    obtain ⟨N, rfl, N0⟩ : ∃ N : Int, v = .int N ∧ 0 ≤ N := by
      rcases List.mem_cons.mp mv with rfl | mv
      · exact ⟨_, rfl, by decide⟩
      rcases List.mem_cons.mp mv with rfl | mv
      · exact ⟨_, rfl, by decide⟩
      rcases List.mem_cons.mp mv with rfl | mv
      · exact ⟨_, rfl, by decide⟩
      · rw [List.mem_singleton.mp mv]
        exact ⟨_, rfl, by decide⟩
    have S2 := S1.step D sv2 ⟨_, F2⟩
    refine ⟨_, _, _, rfl, ?_⟩
    refine ⟨_, rfl, _, rfl, _, _, rfl, rfl, p, c, ks2, y, n + 1, _, rfl, F2, by omega, by omega, by omega, fun r ks3 H3 r0 r1 F3 sv3 => ?_⟩
    have S3 := S2.step D sv3 ⟨_, F3⟩
    refine ⟨r, rfl, by omega, by omega, for_range (lo := 0) (n := r.toNat) (fun j σ H4 => ∃ (o6 o7 o8 o9 o10 o11 : Option V) (N n4 : Int) (tv : List V) (es : List LE) (kvs : List (Key × V)) (B : List (Int × List Int)), σ = [some (.ref p), some (.ref O), some (.int m), some (.ref T), some (.ref Bd), some (.int N), o6, o7, o8, o9, o10, o11, none] ∧ LSt H H4 p c T Bd y n4 tv es kvs B ∧ n4 ≤ n + 2 + 60 * (j : Int) ∧ es.length = j ∧ GI sss es B N)
      ⟨none, none, none, none, none, none, N, n + 1 + 1, [], [], [], [], rfl, S3, by omega, rfl, GI.nil N0⟩ ?_ ?_⟩
    · rintro j σ H4 hj ⟨o6, o7, o8, o9, o10, o11, N, n4, tv, es, kvs, B, rfl, S4, le4, el, gi⟩
      have j14 : j < 14 := by omega
      have Bl := gi.len
      obtain ⟨ks4, F4⟩ := S4.fd
      have n4_ := F4.n0
      have kl : kvs.length = B.length := by
        have z := congrArg List.length S4.ks
        rw [List.length_map, List.length_map] at z
        exact z
      -- numbers chosen
      refine ⟨_, rfl, Bd, kvs, rfl, .inl S4.hb, fun l0 hl0 => ?_⟩
      have S5 := S4.same D (same_new (o := .lst (kvs.map fun kv => kV kv.1)) hl0)
      have hl5 : (upd H4 l0 (.lst (kvs.map fun kv => kV kv.1))) l0 = some (.lst ((B.map Prod.fst).map V.int)) := by rw [upd_same, sorted_keys (H := H4) S4.ks]
      generalize upd H4 l0 (.lst (kvs.map fun kv => kV kv.1)) = H5 at S5 hl5 ⊢
      refine ⟨l0, _, rfl, SqL.of hl5, fun ns sp pm asc hsp => ?_⟩
      have S6 := S5.same D (same_new (o := .lst (ns.map V.int)) hsp)
      have hs6 : (upd H5 sp (.lst (ns.map V.int))) sp = some (.lst (ns.map V.int)) := upd_same
      obtain ⟨ks5, F5⟩ := S5.fd
      have spo := off F5 hsp
      have nl : ns.length ≤ 14 := by
        have z := pm.length_eq
        rw [List.length_map] at z
        omega
      generalize upd H5 sp (.lst (ns.map V.int)) = H6 at S6 hs6 ⊢
      obtain ⟨ks6, F6⟩ := S6.fd
      refine ⟨sp, rfl, ⟨_, SqL.of hs6⟩, fun D1 hD1 => lc_list (K := K) (a := sp) (xs := ns.map V.int) (fun i H7 => ∃ (n7 : Int) (zs : List Int), (∃ ks7, FeedAt H7 p c ks7 y n7) ∧ n7 ≤ n4 + (i : Int) ∧ Save p c H6 H7 ∧ H7 D1 = some (.lst (zs.map V.int)) ∧ zs.length ≤ i ∧ ∀ z ∈ zs, z ∈ ns) ⟨n4, [], ⟨ks6, F6.wr (off F6 hD1).1 (off F6 hD1).2⟩, by omega, (Save.refl p c H6).wr hD1, upd_same, Nat.le_refl _, fun z m => nomatch m⟩ (fun i H7 _ ⟨_, _, _, _, sv7, _⟩ => SqL.of (sv7 _ _ hs6 spo.1 spo.2)) (fun i x H7 ex ⟨n7, zs, ⟨ks7, F7⟩, le7, sv7, d7, zl, zm⟩ => ?_) fun H7 ⟨n7, zs, ⟨ks7, F7⟩, le7, sv7, d7, zl, zm⟩ => ?_⟩
      · rw [List.getElem?_map] at ex
        obtain ⟨kx, ek, rfl⟩ := Option.map_eq_some_iff.mp ex
        have lti := (List.getElem?_eq_some_iff.mp ek).1
        have Do := off F6 hD1
        have n7_ := F7.n0
        refine ⟨rfl, _, rfl, p, c, ks7, y, n7, 3, rfl, F7, by omega, by decide, by decide, fun q ks8 H8 q0 q3 F8 sv8 => ⟨rfl, _, rfl, ?_⟩⟩
        have d8 := sv8 _ _ d7 Do.1 Do.2
        have sv68 := sv7.trans sv8
        by_cases cq : V.int q = V.int 0
        · rw [decide_eq_true cq]
          refine iteT ⟨_, rfl, _, d8, ?_, n7 + 1, zs ++ [kx], ⟨ks8, F8.wr Do.1 Do.2⟩, by omega, sv68.wr hD1, by rw [upd_same, List.map_append]; rfl, by rw [List.length_append]; exact Nat.succ_le_succ zl, fun z mz => ?_⟩
          · rw [List.length_map]
            exact small_lt (m := 14) (by omega)
          · rcases List.mem_append.mp mz with mz | mz
            · exact zm z mz
            · rw [List.mem_singleton.mp mz]
              exact List.mem_of_getElem? ek
        · rw [decide_eq_false cq]
          exact iteF ⟨n7 + 1, zs, ⟨ks8, F8⟩, by omega, sv68, d8, by omega, zm⟩
      · rw [List.length_map] at le7 zl
        have S7 := S6.step D sv7 ⟨_, F7⟩
        have zk : ∀ z ∈ zs, z ∈ B.map Prod.fst := fun z mz => pm.mem_iff.mp (zm z mz)
        have n7_ := F7.n0
        -- all that are before them
        have D1o := off F6 hD1
        refine ⟨_, rfl, D1, zs.map V.int, rfl, .inl (SqL.of d7), fun l hl => ?_⟩
        have S8 := S7.same D (same_new (o := .lst (zs.map V.int)) hl)
        have d8 := same_new (o := .lst (zs.map V.int)) hl _ _ d7
        have hl8 : (upd H7 l (.lst (zs.map V.int))) l = some (.lst (zs.map V.int)) := upd_same
        generalize upd H7 l (.lst (zs.map V.int)) = H8 at S8 d8 hl8 ⊢
        refine ⟨l, rfl, ⟨_, SqL.of hl8⟩, for_list (K := K) (a := l) (xs := zs.map V.int) (fun i σ H9 => ∃ (fo : Addr) (ws : List Int) (o6' o8' : Option V), σ = [some (.ref p), some (.ref O), some (.int m), some (.ref T), some (.ref Bd), some (.int N), o6', some (.ref fo), o8', o9, o10, o11, none] ∧ Same H8 H9 ∧ H9 fo = some (.lst (ws.map V.int)) ∧ ws.length ≤ 14 + 14 * i ∧ (∀ z ∈ zs, z ∈ ws) ∧ (∀ (u : Nat) (z : Int) (f : List Int), u < i → zs[u]? = some z → lk B z = some f → ∀ x ∈ f, x ∈ ws) ∧ ∀ x ∈ ws, x ∈ zs ∨ ∃ z ∈ zs, ∃ f, lk B z = some f ∧ x ∈ f)
          ⟨D1, zs, _, _, rfl, Same.refl H8, d8, by omega, fun z mz => mz, (fun u z f lt => absurd lt (Nat.not_lt_zero _)), fun x mx => .inl mx⟩ (fun i σ H9 _ ⟨_, _, _, _, _, s9, _⟩ => SqL.of (s9 _ _ hl8)) ?_ ?_⟩
        · rintro i x σ H9 ex ⟨fo, ws, o6', o8', rfl, s9, hfo, wl, w1, w2, w3⟩
          rw [List.getElem?_map] at ex
          obtain ⟨z, ez, rfl⟩ := Option.map_eq_some_iff.mp ex
          have mz := List.mem_of_getElem? ez
          have lti := (List.getElem?_eq_some_iff.mp ez).1
          obtain ⟨f, ef⟩ := lk_yes (zk z mz)
          have S9 := S8.same D s9
          obtain ⟨a, ea, ha, _, _, _⟩ := S9.lb z f ef
          have fl := (gi.tr z f ef).2
          have at_ : DGet H9 Bd (.int z) (some (.ref a)) := by
            have q := DGet.k (k := Sum.inl z) S9.hb
            rw [ea] at q
            exact q
          refine ⟨_, rfl, _, rfl, _, rfl, Bd, _, rfl, at_, a, _, rfl, .inl (SqL.of ha), fun l2 hl2 => ?_⟩
          have sA := same_new (o := .lst (f.map V.int)) hl2
          refine ⟨fo, l2, _, _, rfl, rfl, sA _ _ hfo, upd_same, ?_, fun q hq => ?_⟩
          · rw [List.length_map, List.length_map]
            exact small_len (m := 300) (by omega)
          have sq := same_new (o := .lst (ws.map V.int ++ f.map V.int)) hq
          refine ⟨q, ws ++ f, _, _, rfl, s9.trans (sA.trans sq), by rw [upd_same, List.map_append], by rw [List.length_append]; omega, fun z' m' => List.mem_append_left _ (w1 z' m'), fun u z' f' lu eu ef' x mx => ?_, fun x mx => ?_⟩
          · rcases Nat.lt_or_ge u i with l | g
            · exact List.mem_append_left _ (w2 u z' f' l eu ef' x mx)
            · have e : u = i := by omega
              rw [e, ez] at eu
              cases eu
              rw [ef] at ef'
              cases ef'
              exact List.mem_append_right _ mx
          · rcases List.mem_append.mp mx with mx | mx
            · exact w3 x mx
            · exact .inr ⟨z, mz, f, ef, mx⟩
        · rintro σ H9 ⟨fo, ws, o6', o8', rfl, s9, hfo, wl, w1, w2, w3⟩
          rw [List.length_map] at wl
          have S9 := S8.same D s9
          have w2' : ∀ z ∈ zs, ∀ f, lk B z = some f → ∀ x ∈ f, x ∈ ws := fun z mz f ef x mx => by
            obtain ⟨u, eu⟩ := List.mem_iff_getElem?.mp mz
            exact w2 u z f (by rw [List.length_map]; exact (List.getElem?_eq_some_iff.mp eu).1) eu ef x mx
          have wk : ∀ x ∈ ws, x ∈ B.map Prod.fst := fun x mx => by
            rcases w3 x mx with mx | ⟨z, mz, f, ef, mf⟩
            · exact zk x mx
            · exact clo_sub (gi.tr z f ef).1 x mf
          obtain ⟨ks9, F9⟩ := S9.fd
          refine ⟨_, rfl, fo, ws, rfl, .inl (SqL.of hfo), by omega, fun a cc ha bnd => ?_⟩
          have cb := bnd (B.map Prod.fst) wk
          rw [List.length_map] at cb
          refine ⟨a, _, cc, rfl, upd_same, by omega, fun e ea asc2 mem len hea => ?_⟩
          have sA := same_new (o := L2.SetO w a (fun j => decide (j ∈ ws)) cc) ha
          have eao := off (F9.same sA) hea
          have eT : ea ≠ T := Ne.symm (ne_of_none (sA _ _ S9.ht) hea)
          have SA := S9.same D (sA.trans (same_new (o := .lst (e.map V.int)) hea))
          have heA : (upd (upd H9 a (L2.SetO w a (fun j => decide (j ∈ ws)) cc)) ea (.lst (e.map V.int))) ea = some (.lst (e.map V.int)) := upd_same
          generalize upd (upd H9 a (L2.SetO w a (fun j => decide (j ∈ ws)) cc)) ea (.lst (e.map V.int)) = HA at SA heA ⊢
          have we : ∀ x, x ∈ e ↔ x ∈ ws := fun x => (mem x).trans ⟨fun z => of_decide_eq_true z, fun z => decide_eq_true z⟩
          obtain ⟨cl, esub⟩ := clo_new gi zk w1 w2' w3 we
          have end_ : e.Nodup := asc2.imp fun h => Int.ne_of_lt h
          have el14 : e.length ≤ 14 := by
            have z := nodup_most e (B.map Prod.fst) end_ esub
            rw [List.length_map] at z
            omega
          obtain ⟨ksA, FA'⟩ := SA.fd
          -- whether it is over
          refine ⟨_, rfl, p, c, ksA, y, n7, 2, rfl, FA', by omega, by decide, by decide, fun q ksB HB q0 q2 FB svB => ⟨rfl, ?_⟩⟩
          have SB := SA.step D svB ⟨_, FB⟩
          have heB := svB _ _ heA eao.1 eao.2
          generalize decide (V.int q = V.int 0) = over
          -- its row
          refine ⟨_, rfl, by show 8 ≤ sizeLine; decide, fun L2 hL2 => ?_⟩
          have SC := SB.same D (same_new (o := .lst [V.int 0, .int 1, .int 2, .int 3, .int 1, .int 2, .int 3, .int 13]) hL2)
          have hLC : (upd HB L2 (.lst [V.int 0, .int 1, .int 2, .int 3, .int 1, .int 2, .int 3, .int 13])) L2 = some (.lst [V.int 0, .int 1, .int 2, .int 3, .int 1, .int 2, .int 3, .int 13]) := upd_same
          have heC := same_new (o := .lst [V.int 0, .int 1, .int 2, .int 3, .int 1, .int 2, .int 3, .int 13]) hL2 _ _ heB
          have L2o := off FB hL2
          generalize upd HB L2 (.lst [V.int 0, .int 1, .int 2, .int 3, .int 1, .int 2, .int 3, .int 13]) = HC at SC hLC heC ⊢
          obtain ⟨ksC, FC⟩ := SC.fd
          refine ⟨p, c, L2, _, ksC, y, n7 + 1, rfl, FC, by omega, hLC, L2o.1, L2o.2, by simp, by simp, fun v ksD HD mv FD svD => ?_⟩
          obtain ⟨cnt, rfl, c0, c13⟩ : ∃ cnt : Int, v = .int cnt ∧ 0 ≤ cnt ∧ cnt ≤ 13 := by
            simp only [List.mem_cons, List.not_mem_nil, or_false] at mv
            rcases mv with rfl | rfl | rfl | rfl | rfl | rfl | rfl | rfl <;> exact ⟨_, rfl, by decide, by decide⟩
          have SD := SC.step D svD ⟨_, FD⟩
          have heD := svD _ _ heC eao.1 eao.2
          refine ⟨cnt, rfl, by omega, by omega, fun D2 hD2 => lc_range (lo := 0) (n := cnt.toNat) (fun i HE => ∃ (nE : Int) (rv : List V), (∃ ksE, FeedAt HE p c ksE y nE) ∧ nE ≤ n7 + 2 + 2 * (i : Int) ∧ Save p c HD HE ∧ HE D2 = some (.lst rv) ∧ rv.length = i ∧ ∀ x ∈ rv, x = .non ∨ ∃ (t : Addr) (a : Act), x = .ref t ∧ HE t = some (.tup [.int a.1, .str a.2.1, .str a.2.2]) ∧ EvOf sss a)
            ⟨n7 + 1 + 1, [], ⟨ksD, FD.wr (off FD hD2).1 (off FD hD2).2⟩, by omega, (Save.refl p c HD).wr hD2, upd_same, rfl, fun x mx => nomatch mx⟩ (fun i HE hi ⟨nE, rv, ⟨ksE, FE⟩, leE, svE, dE, rl, rm⟩ => ?_) fun HE ⟨nE, rv, ⟨ksE, FE⟩, leE, svE, dE, rl, rm⟩ => ?_⟩
          · have Do := off FD hD2
            have nE0 := FE.n0
            have svH := SD.sv.trans svE
            have keep : ∀ {HG : Hp} {v : V}, Save p c HE HG → ∀ x ∈ rv, x = .non ∨ ∃ (t : Addr) (a : Act), x = .ref t ∧ (upd HG D2 (.lst (rv ++ [v]))) t = some (.tup [.int a.1, .str a.2.1, .str a.2.2]) ∧ EvOf sss a := fun {HG v} sv x mx => by
              rcases rm x mx with e | ⟨t, a, e1, e2, e3⟩
              · exact .inl e
              · have z := Save.tup FE sv _ _ e2
                exact .inr ⟨t, a, e1, by rw [upd_ne fun w => by rw [w, sv _ _ dE Do.1 Do.2] at z; cases z]; exact z, e3⟩
            refine ⟨rfl, _, rfl, _, rfl, p, c, O, ksE, y, nE, ov, sss, rfl, FE, by omega, svH _ _ hO Op Oc, tO.to (Save.tup FA svH), l1, l4, ko, Op, Oc, fun ksG nG HG FG leG svG => ?_, fun t i' x z ksG nG HG ht evf FG leG svG => ?_⟩
            · refine ⟨rv, svG _ _ dE Do.1 Do.2, small_lt (m := 14) (by omega), nG, rv ++ [.non], ⟨ksG, FG.wr Do.1 Do.2⟩, by omega, (svE.trans svG).wr hD2, upd_same, by rw [List.length_append, rl]; rfl, fun x mx => ?_⟩
              rcases List.mem_append.mp mx with mx | mx
              · exact keep svG x mx
              · exact .inl (List.mem_singleton.mp mx)
            · have dG := svG _ _ dE Do.1 Do.2
              refine ⟨rv, dG, small_lt (m := 14) (by omega), nG, rv ++ [.ref t], ⟨ksG, FG.wr Do.1 Do.2⟩, by omega, (svE.trans svG).wr hD2, upd_same, by rw [List.length_append, rl]; rfl, fun x' mx => ?_⟩
              rcases List.mem_append.mp mx with mx | mx
              · exact keep svG x' mx
              · exact .inr ⟨t, (i', x, z), List.mem_singleton.mp mx, by rw [upd_ne fun w => by rw [w, dG] at ht; cases ht]; exact ht, evf⟩
          · have SE := SD.step D svE ⟨_, FE⟩
            have heE := svE _ _ heD eao.1 eao.2
            have nE0 := FE.n0
            -- the entry
            refine ⟨_, rfl, .inl ⟨rfl, _, SqL.of SE.ht⟩, _, rfl, _, rfl, _, rfl, ea, _, rfl, .inl ⟨SqL.of heE, fun te hte => ?_⟩⟩
            have sF := same_new (o := .tup (e.map V.int)) hte
            have hteF : (upd HE te (.tup (e.map V.int))) te = some (.tup (e.map V.int)) := upd_same
            have dF := sF _ _ dE
            have rmF : ∀ x ∈ rv, x = .non ∨ ∃ (t : Addr) (a : Act), x = .ref t ∧ (upd HE te (.tup (e.map V.int))) t = some (.tup [.int a.1, .str a.2.1, .str a.2.2]) ∧ EvOf sss a := fun x mx => (rm x mx).imp id fun ⟨t, a, e1, e2, e3⟩ => ⟨t, a, e1, sF _ _ e2, e3⟩
            generalize upd HE te (.tup (e.map V.int)) = HF at sF hteF dF rmF ⊢
            refine ⟨_, rfl, D2, rfl, ⟨_, SqL.of dF⟩, fun D3 hD3 => lc_list (K := K) (a := D2) (xs := rv) (fun i HG => Same HF HG ∧ ∃ (zs : List V) (acts : List Act), HG D3 = some (.lst zs) ∧ TDs HG zs (acts.map actD) ∧ acts.length ≤ i ∧ ∀ a ∈ acts, EvOf sss a) ⟨same_new hD3, [], [], upd_same, .nil, Nat.le_refl _, fun a ma => nomatch ma⟩ (fun i HG _ ⟨sG, _⟩ => SqL.of (sG _ _ dF)) (fun i x HG ex ⟨sG, zs, acts, dG, tG, al, am⟩ => ?_) fun HG ⟨sG, zs, acts, dG, tG, al, am⟩ => ?_⟩
            · have lti := (List.getElem?_eq_some_iff.mp ex).1
              have zl' := tG.lenm
              refine ⟨rfl, _, rfl, _, rfl, ?_⟩
              rcases rmF x (List.mem_of_getElem? ex) with rfl | ⟨t, a, rfl, ht, ev⟩
              · rw [show (!decide (V.non = V.non)) = false from by simp]
                exact iteF ⟨sG, zs, acts, dG, tG, by omega, am⟩
              · rw [show (!decide (V.ref t = V.non)) = true from by simp]
                have tp : Tup HG (upd HG D3 (.lst (zs ++ [.ref t]))) := Tup.at_ dG fun xs z => nomatch z
                refine iteT ⟨_, rfl, zs, dG, small_lt (m := 14) (by omega), same_at sG hD3, zs ++ [.ref t], acts ++ [a], upd_same, ?_, by rw [List.length_append]; exact Nat.succ_le_succ al, fun b mb => ?_⟩
                · rw [List.map_append]
                  exact TDs.snoc (TD.to tp (.tup (sG _ _ ht) (.cons (.int _) (.cons (.str _) (.cons (.str _) .nil))))) (tG.to tp)
                · rcases List.mem_append.mp mb with mb | mb
                  · exact am b mb
                  · rw [List.mem_singleton.mp mb]
                    exact ev
            · refine ⟨D3, _, rfl, .inl ⟨SqL.of dG, fun tr htr => ⟨by show 4 ≤ sizeLine; decide, fun t ht => ?_⟩⟩⟩
              have sH := (same_new (o := .tup zs) htr).trans (same_new (o := .tup [V.int N, .bl over, .ref te, .ref tr]) ht)
              have htrH : (upd (upd HG tr (.tup zs)) t (.tup [V.int N, .bl over, .ref te, .ref tr])) tr = some (.tup zs) := same_new ht _ _ upd_same
              have htH : (upd (upd HG tr (.tup zs)) t (.tup [V.int N, .bl over, .ref te, .ref tr])) t = some (.tup [V.int N, .bl over, .ref te, .ref tr]) := upd_same
              have tH := tG.to (Tup.of sH)
              have sFH := sF.trans (sG.trans sH)
              have SH := SE.same D sFH
              have heH := sFH _ _ heE
              have hteH := sH _ _ (sG _ _ hteF)
              generalize upd (upd HG tr (.tup zs)) t (.tup [V.int N, .bl over, .ref te, .ref tr]) = HH at sH htrH htH tH sFH SH heH hteH ⊢
              have tvl := SH.tt.lenm
              refine ⟨T, tv, _, rfl, rfl, SH.ht, small_lt (m := 14) (by omega), ?_⟩
              have tdx : TD HH (.ref t) (entD (N, over, e, acts)) := .tup htH (.cons (.int _) (.cons (.bl _) (.cons (.tup hteH (td_nums e)) (.cons (.tup htrH tH) .nil))))
              have SI := SH.putT D (x := (N, over, e, acts)) tdx
              have heI : (upd HH T (.lst (tv ++ [.ref t]))) ea = some (.lst (e.map V.int)) := by rw [upd_ne eT]; exact heH
              generalize upd HH T (.lst (tv ++ [.ref t])) = HI at SI heI ⊢
              have ok : LEok sss (N, over, e, acts) := ⟨gi.N0, asc2.imp fun h => decide_eq_true h, fun k m => (gi.keys k (esub k m)).1, el14, am, by have : acts.length ≤ 13 := (by omega); exact this⟩
              have hn : N ∉ B.map Prod.fst := fun m => Int.lt_irrefl _ (gi.keys N m).2
              refine ⟨_, rfl, _, rfl, ?_⟩
              have esl : (es ++ [((N, over, e, acts) : LE)]).length = j + 1 := by rw [List.length_append, el]; rfl
              cases over with
              | true =>
                have kl2 : kvs.length < sizeLine := small_lt (m := 14) (by omega)
                have SJ := SI.putB D hn heI eao.1 eao.2 eT
                obtain ⟨ksJ, FJ⟩ := SJ.fd
                refine iteT ⟨_, rfl, _, rfl, _, rfl, Bd, _, rfl, DPut.k (k := Sum.inl N) SI.hb kl2, ?_⟩
                refine ⟨_, rfl, _, _, rfl, rfl, _, rfl, p, c, ksJ, y, nE, 4, rfl, FJ, by omega, by decide, by decide, fun q ksK HK q0 q4 FK svK => ⟨rfl, .inr ⟨_, rfl, _, _, rfl, rfl, ?_⟩⟩⟩
                have lN : N < N + 1 + (if decide (V.int q = V.int 0) = true then 1 else 0) := by split <;> omega
                exact ⟨_, _, _, _, _, _, _, nE + 1, _, _, _, _, rfl, SJ.step D svK ⟨_, FK⟩, by omega, esl, gi.put ok rfl cl lN⟩
              | false =>
                obtain ⟨ksJ, FJ⟩ := SI.fd
                refine iteF ?_
                refine ⟨_, rfl, _, _, rfl, rfl, _, rfl, p, c, ksJ, y, nE, 4, rfl, FJ, by omega, by decide, by decide, fun q ksK HK q0 q4 FK svK => ⟨rfl, .inr ⟨_, rfl, _, _, rfl, rfl, ?_⟩⟩⟩
                have lN : N < N + 1 + (if decide (V.int q = V.int 0) = true then 1 else 0) := by split <;> omega
                exact ⟨_, _, _, _, _, _, _, nE + 1, _, _, _, _, rfl, SI.step D svK ⟨_, FK⟩, by omega, esl, gi.put ok rfl cl lN⟩
    · rintro σ H4 ⟨o6, o7, o8, o9, o10, o11, N, n4, tv, es, kvs, B, rfl, S4, le4, el, gi⟩
      obtain ⟨ks4, F4⟩ := S4.fd
      have n4_ := F4.n0
      refine ⟨_, rfl, _, rfl, p, c, O, ks4, y, n4, ov, sss, rfl, F4, by omega, S4.sv _ _ hO Op Oc, tO.to (Save.tup FA S4.sv), l1, l4, ko, Op, Oc, fun st rs ks5 n5 H5 td sok rl rlen F5 le5 sv5 => ?_⟩
      have S5 := S4.step D sv5 ⟨_, F5⟩
      refine ⟨_, rfl, T, tv, rfl, .inl ⟨SqL.of S5.ht, fun te hte => ⟨by show 2 ≤ sizeLine; decide, fun t ht => ?_⟩⟩⟩
      have s6 := (same_new (o := .tup tv) hte).trans (same_new (o := .tup [V.ref st, .ref te]) ht)
      have hte6 : (upd (upd H5 te (.tup tv)) t (.tup [V.ref st, .ref te])) te = some (.tup tv) := same_new ht _ _ upd_same
      refine k t (.tuple [.tuple (rs.map rowD), .tuple (es.map entD)]) ks5 n5 _ (.tup upd_same (.cons (td.to (Tup.of s6)) (.cons (.tup hte6 (S5.tt.to (Tup.of s6))) .nil))) ?_ ?_ (F5.same s6) (by omega) (S5.sv.trans (Save.of s6))
      · rw [logB_two, sok, gi.run]
        rfl
      · have leaf : ∀ (k : Nat) (ds : List PyData), ds.length ≤ 40 → (∀ d ∈ ds, Nice 40 k d) → Nice 40 (k + 1) (.tuple ds) := fun k ds h1 h2 => ⟨h1, h2⟩
        refine leaf 4 _ (by show 2 ≤ 40; decide) fun d md => ?_
        rcases List.mem_cons.mp md with rfl | md
        · refine leaf 3 _ (by rw [List.length_map]; exact rl) fun d md => ?_
          obtain ⟨r, mr, rfl⟩ := List.mem_map.mp md
          exact nice_row (by have := rlen r mr; omega)
        · rw [List.mem_singleton.mp md]
          refine leaf 3 _ (by rw [List.length_map]; omega) fun d md => ?_
          obtain ⟨x, mx, rfl⟩ := List.mem_map.mp md
          exact (gi.ok x mx).nice ko
end
end My

-- ===== K13W =====
set_option Elab.async false
set_option linter.all false
set_option maxRecDepth 100000
set_option maxHeartbeats 4000000
namespace My
open PySem L2 PyProof.Rows PySem.Spec Kd TL
/-! -/
mutual
theorem _root_.My.TD.tz {N : Addr → Prop} {H : Hp} : ∀ {v : V} {d : PyData}, TD H v d → TZ N H v d
  | _, _, .int i => .int i
  | _, _, .str x => .str x
  | _, _, .bl b => .bl b
  | _, _, .tup h r => .tup h (TDs.tz r)
theorem _root_.My.TDs.tz {N : Addr → Prop} {H : Hp} : ∀ {vs : List V} {ds : List PyData}, TDs H vs ds → TZs N H vs ds
  | _, _, .nil => .nil
  | _, _, .cons h r => .cons (TD.tz h) (TDs.tz r)
end
def boolsD (l : List Bool) : PyData := .list (l.map PyData.bool)
theorem two_bools : ∀ a b : Bool, (boolsD [a, b]).showable = true ∧ (boolsD [a, b]).depth ≤ 60 ∧ (boolsD [a, b]).shown.length ≤ sizeLine := by decide +kernel
theorem fnR_of {P : Program} {w : World} {K : PySem.W.Frag} {mg : Str → Option Value} {base : Heap} {CX : CXT} {k : Nat} {f : Addr} {fd : FuncData} {ps : List Str} {sp : Sp} (F : FnOk P w K mg base CX k f fd ps sp) (hb : Binds K fd ps []) : FnR P w K mg base CX k f sp :=
  (F.raw hb .nil).imp fun vs H Q E h => by rw [List.append_nil]; exact h
theorem kind_wr {C D : Addr} {H : Hp} {v : V} {ss : List (List Stp)} {vs : List V} {o' : HO} (h : KindAt C H v ss) (so : KOk ss) (hD : H D = some (.lst vs)) (first : vs = [] ∨ ∃ o dx fs, vs[0]? = some (.ref o) ∧ H o = some (.ins C dx fs)) : KindAt C (upd H D o') v ss := by
  obtain ⟨o, dx, a, m, rfl, ho, ht, bs, h1, h2, h3⟩ := h
  have one := so.one
  have nm : m ≠ D := fun z => by
    rw [z, hD] at h1
    have e := HO.lst.inj (Option.some.inj h1)
    cases bs with
    | nil => simp at h2; omega
    | cons b bs =>
      obtain ⟨st, es⟩ : ∃ st, ss[0]? = some st := ⟨ss[0]'(by omega), List.getElem?_eq_getElem _⟩
      have hb := h3 0 b st rfl es
      rcases first with f | ⟨o1, dx1, fs1, f1, f2⟩
      · rw [f] at e
        cases e
      · rw [e] at f1
        have e2 : V.ref b = V.ref o1 := Option.some.inj f1
        rw [V.ref.inj e2, f2] at hb
        cases hb
  have keep : ∀ {x : Addr} {u : HO}, H x = some u → (∀ ys, u ≠ .lst ys) → (upd H D o') x = some u := fun {x u} e n => by
    rw [upd_ne fun z => by rw [z, hD] at e; exact n _ (Option.some.inj e).symm]
    exact e
  refine ⟨o, dx, a, m, rfl, keep ho (fun _ z => nomatch z), ht.to (Tup.at_ hD fun xs z => nomatch z), bs, by rw [upd_ne nm]; exact h1, h2, fun i b st e1 e2 => keep (h3 i b st e1 e2) (fun _ z => nomatch z)⟩
theorem kind_save {C p c : Addr} {H H' : Hp} {v : V} {ss : List (List Stp)} {ks : List Int} {y n : Int} (h : KindAt C H v ss) (so : KOk ss) (F : FeedAt H p c ks y n) (sv : Save p c H H') : KindAt C H' v ss := by
  obtain ⟨o, dx, a, m, rfl, ho, ht, bs, h1, h2, h3⟩ := h
  have one := so.one
  have keep : ∀ {x : Addr} {u : HO}, H x = some u → (∀ ys, u ≠ .lst ys) → H' x = some u := fun {x u} e n =>
    sv _ _ e (fun z => by rw [z, F.ob] at e; exact n _ (Option.some.inj e).symm) (fun z => by rw [z, F.cs] at e; exact n _ (Option.some.inj e).symm)
  obtain ⟨b, bs, rfl⟩ : ∃ b r, bs = b :: r := by
    cases bs with
    | nil => simp at h2; omega
    | cons b r => exact ⟨b, r, rfl⟩
  have np : m ≠ p := fun z => by
    rw [z, F.ob] at h1
    have e := HO.lst.inj (Option.some.inj h1)
    rw [List.map_cons] at e
    injection e with _ e
    cases bs with
    | nil => cases e
    | cons b2 r => injection e with e _; cases e
  have nc : m ≠ c := fun z => by
    rw [z, F.cs] at h1
    have e := HO.lst.inj (Option.some.inj h1)
    cases ks with
    | nil => cases e
    | cons i r => injection e with e _; cases e
  exact ⟨o, dx, a, m, rfl, keep ho (fun _ z => nomatch z), ht.to (Save.tup F sv), b :: bs, sv _ _ h1 np nc, h2, fun i b' st e1 e2 => keep (h3 i b' st e1 e2) (fun _ z => nomatch z)⟩
def kgl {α : Type} : List α → List α → List α
  | [], [a, b] => [b, a]
  | _, _ => []
def kgs {α : Type} : List α → List α → List α
  | [], [a, b] => [a, b]
  | _, _ => []
structure KOf (P : Program) (w : World) (K : PySem.W.Frag) (mg : Str → Option Value) (base : Heap) (C : Addr) : Prop where
  nm : mg "Kind" = some (.ref C)
  cr : ∃ mc, ClX.CRead K C mc ∧ ∃ p g fd, ClX.CMet K C mc "of" p g ∧ FnOk P w K mg base CX0 7 g fd ["cls", "states"] (spOf C) ∧ Binds K fd ["cls", "states"] []
theorem HouseAt.save {C p c : Addr} {H H' : Hp} {hv : List V} {sss : List (List (List Stp))} {ks : List Int} {y n : Int} (h : HouseAt C H hv sss) (ko : ∀ ss ∈ sss, KOk ss) (F : FeedAt H p c ks y n) (sv : Save p c H H') : HouseAt C H' hv sss :=
  ⟨h.1, fun i v ss e1 e2 => kind_save (h.2 i v ss e1 e2) (ko ss (List.mem_of_getElem? e2)) F sv⟩
end My

-- ===== K13X =====
set_option Elab.async false
set_option linter.all false
set_option maxRecDepth 100000
set_option maxHeartbeats 4000000
namespace My
open PySem L2 PyProof.Rows PySem.Spec Kd TL
abbrev sRight : Stmt := top 58
def spRight : Sp := fun vs H Q _ => ∃ (p c O : Addr) (ks : List Int) (w n : Int) (ov : List V) (sss : List (List (List Stp))), vs = [.ref p, .ref O] ∧ FeedAt H p c ks w n ∧ n < 870000 ∧ H O = some (.lst ov) ∧ TDs H ov (sss.map statesD) ∧ 1 ≤ sss.length ∧ sss.length ≤ 4 ∧ (∀ ss ∈ sss, KOk ss) ∧ O ≠ p ∧ O ≠ c ∧
  ∀ (ks' : List Int) (n' : Int) (H' : Hp), FeedAt H' p c ks' w n' → n' ≤ n + 2000 → Save p c H H' → Q (.bl true) H'
theorem nice_sht {m k : Nat} {d : PyData} (h : Nice m k d) (l : m ≤ 60) : Sht d := ⟨k, h.mono l (Nat.le_refl _)⟩
section
variable {P : Program} {w : World} {K : PySem.W.Frag} {mg : Str → Option Value} {base : Heap} {C : Addr}
abbrev nRt : List Str := ["_law_deck_here", "_law_objects", "_law_house", "_law_value", "_law_turn", "_law_due", "_law_states_here"]
theorem scRt : FnScope nRt ["_law_deck_here", "_law_objects"] (defScope sRight) := ⟨rfl, rfl, rfl, by decide +kernel, rfl, by decide +kernel, by decide +kernel⟩
theorem ok_right {f fH fI fB fJ fP : Addr} {fd fdH fdI fdB fdJ fdP : FuncData} (F : Fun K "_law_right" "_law_right" sRight f fd) (T : KOf P w K mg base C) (mrange : mg "range" = none) (mtup : mg "tuple" = none) (mrepr : mg "repr" = none)
    (GH : FnOk P w K mg base CX0 4 fH fdH ["_law_deck_here", "_law_machines", "_law_many"] spLogD) (mH : mg "_law_log" = some (.ref fH)) (kH : PySem.W.keepIn K (.ref fH) = true) (bH : Binds K fdH ["_law_deck_here", "_law_machines", "_law_many"] [])
    (GI : FnOk P w K mg base CX0 7 fI fdI ["system", "thing"] (spIsLog C)) (mI : mg "is_log" = some (.ref fI)) (kI : PySem.W.keepIn K (.ref fI) = true) (bI : Binds K fdI ["system", "thing"] []) (kbI : KBinds K fdI ["system", "thing"] ["thing", "system"] kgl kgl)
    (GB : FnOk P w K mg base CX0 4 fB fdB ["_law_deck_here", "_law_value"] spBent) (mB : mg "_law_bent" = some (.ref fB)) (kB : PySem.W.keepIn K (.ref fB) = true) (bB : Binds K fdB ["_law_deck_here", "_law_value"] [])
    (GJ : FnOk P w K mg base CX0 5 fJ fdJ ["_law_machines", "_law_value"] spLLog) (mJ : mg "_law_is_log" = some (.ref fJ)) (kJ : PySem.W.keepIn K (.ref fJ) = true) (bJ : Binds K fdJ ["_law_machines", "_law_value"] [])
    (GP : FnOk P w K mg base CX0 2 fP fdP ["_law_deck_here", "_law_some"] spPick) (mP : mg "_law_pick" = some (.ref fP)) (kP : PySem.W.keepIn K (.ref fP) = true) (bP : Binds K fdP ["_law_deck_here", "_law_some"] []) :
    FnG true (fun A => A.guards = some []) P w K mg base CX0 8 f fd ["_law_deck_here", "_law_objects"] spRight := by
  obtain ⟨mc, cr, p1, g1, fd1, m1, G1, b1⟩ := T.cr
  have R1 := fnR_of G1 b1
  refine okG F scRt (fun vs H Q E h => ?_) (fun cdv A outer s H vs Q E hh hgA hr h => ?_)
  · obtain ⟨p, c, O, ks, y, n, ov, sss, rfl, _⟩ := h
    rfl
  · obtain ⟨p, c, O, ks, y, n, ov, sss, rfl, FA, hn, hO, tO, l1, l4, ko, Op, Oc, k⟩ := h
    have hR : Room 7 (A.deeper (envOfC "_law_right" (defScope sRight) s.heap.objs.size f cdv)) := ⟨hh rfl, hr.dp, hr.un⟩
    have hG : (A.deeper (envOfC "_law_right" (defScope sRight) s.heap.objs.size f cdv)).guards = some [] := hgA
    have hu := hR.units
    have hR5 := hR.mono (show 5 ≤ 7 by omega)
    have hR4 := hR.mono (show 4 ≤ 7 by omega)
    have hR2 := hR.mono (show 2 ≤ 7 by omega)
    refine ⟨_, PSs.nox (pss_cons (ps_set (i := 2) scRt.nd rfl (Or.inl rfl) (pe_callTy call_tuple_of (by rfl) mtup (by decide +kernel) (pa_cons (pe_lc (own := [("_law_states_here", 6)]) (g := gName 6) (tt := tYes) rfl scRt.nd (pi_list (pv 1)) (blkOk_by (N := nRt) (sc := defScope sRight) (by decide +kernel)) (fun _ _ _ _ _ => pg_name (i := 6) scRt.nd rfl (Or.inl rfl)) (fun _ _ _ _ _ => pts_nil) (fun _ _ _ _ _ => ClX.pe_cmeth (pl := _) (pe_glob (v := .ref C) (by rfl) T.nm rfl) cr m1 R1 hR pass0 (pa_cons (pv 6) pa_nil))) pa_nil))) (pss_cons (ps_set (i := 3) scRt.nd rfl (Or.inl rfl) (pe_call GH hR4 (by rfl) mH kH bH .nil pass0 (pa_cons (pv 0) (pa_cons (pv 1) (pa_cons (pe_call GP hR2 (by rfl) mP kP bP .nil pass0 (pa_cons (pv 0) (pa_cons (pe_lst (pa_cons pe_int (pa_cons pe_int (pa_cons pe_int (pa_cons pe_int pa_nil))))) pa_nil))) pa_nil))))) (pss_cons (ps_if (pt_cmpR op_notBl (pe_call GI hR (by rfl) mI kI bI .nil pass0 (pa_cons (pv 2) (pa_cons (pv 3) pa_nil))) pe_bl (by rfl)) (pss_one (ps_ret pe_bl)) pss_nil) (pss_cons (ps_for PassesOwn.never rfl (pi_range1 (by rfl) mrange (pa_cons pe_int pa_nil)) (pg_name (i := 4) scRt.nd rfl (Or.inl rfl)) (pss_cons (ps_set (i := 3) scRt.nd rfl (Or.inl rfl) (pe_call GB hR4 (by rfl) mB kB bB .nil pass0 (pa_cons (pv 0) (pa_cons (pv 3) pa_nil)))) (pss_cons (ps_set (i := 5) scRt.nd rfl (Or.inl rfl) (pe_op op_repL (pe_lst (pa_cons (pe_call GJ hR5 (by rfl) mJ kJ bJ .nil pass0 (pa_cons (pv 1) (pa_cons (pv 3) pa_nil))) pa_nil)) pe_int)) (pss_one (ps_if (pt_cmpR op_ne (pe_callB (call_reprD (F := fun _ => True) hG hu) (by rfl) mrepr boot_repr (pa_cons (pe_lstL (pa_cons (pe_call GI hR (by rfl) mI kI bI .nil pass0 (pa_cons (pv 2) (pa_cons (pv 3) pa_nil))) (pa_cons (pe_callK0 GI hR (by rfl) mI kI kbI pass0 (pk_cons (pv 3) (pk_cons (pv 2) pk_nil))) pa_nil))) pa_nil)) (pe_callB (call_reprD (F := fun _ => True) hG hu) (by rfl) mrepr boot_repr (pa_cons (pv 5) pa_nil)) (nomark _)) (pss_one (ps_ret pe_bl)) pss_nil))))) (pss_one (ps_ret pe_bl)))))), ?_⟩
    have n0 := FA.n0
    have lov := tO.lenm
    refine ⟨_, rfl, O, rfl, ⟨_, SqL.of hO⟩, fun D hD => lc_list (K := K) (a := O) (xs := ov) (fun i H4 => ∃ vs : List V, Same H H4 ∧ H4 D = some (.lst vs) ∧ vs.length = i ∧ ∀ (j : Nat) (v : V) (ss : List (List Stp)), vs[j]? = some v → sss[j]? = some ss → KindAt C H4 v ss) ⟨[], same_new hD, upd_same, rfl, fun j v ss e => by simp at e⟩ (fun i H4 _ ⟨_, s4, _⟩ => SqL.of (s4 _ _ hO)) (fun i x H4 ex ⟨vs, s4, d4, lv, kv⟩ => ?_) fun H4 ⟨hv, s4, d4, lv, kv⟩ => ?_⟩
    · obtain ⟨ss, es, td⟩ := tO.at_ ex
      have lt : i < sss.length := (List.getElem?_eq_some_iff.mp es).1
      have kss := ko ss (List.mem_of_getElem? es)
      obtain ⟨b, xs, rfl, hb, hx⟩ := TD.ref_of (ds := ss.map stateD) td
      refine ⟨rfl, rfl, _, rfl, b, ss, rfl, td.to (Tup.of s4), kss, fun vm H5 s5 km => ⟨vs, s5 _ _ d4, small_lt (m := 4) (by omega), vs ++ [vm], same_at (s4.trans s5) hD, upd_same, by rw [List.length_append, lv]; rfl, fun j v sj ev ej => ?_⟩⟩
      have d5 := s5 _ _ d4
      have first : vs = [] ∨ ∃ o dx fs, vs[0]? = some (.ref o) ∧ H5 o = some (.ins C dx fs) := by
        cases vs with
        | nil => exact .inl rfl
        | cons v0 vs =>
          obtain ⟨s0, e0⟩ : ∃ s0, sss[0]? = some s0 := ⟨sss[0]'(by omega), List.getElem?_eq_getElem _⟩
          obtain ⟨o, dx, a', m', rfl, ho, _⟩ := (kv 0 v0 s0 rfl e0).same s5
          exact .inr ⟨o, dx, _, rfl, ho⟩
      have kj : KindAt C H5 v sj := by
        rcases Nat.lt_or_ge j vs.length with l | g
        · rw [List.getElem?_append_left l] at ev
          exact (kv j v sj ev ej).same s5
        · rw [List.getElem?_append_right g] at ev
          have e0 : j - vs.length = 0 := by
            have z := (List.getElem?_eq_some_iff.mp ev).1
            simp at z
            omega
          have ej2 : j = i := by omega
          rw [e0] at ev
          rw [ej2, es] at ej
          rw [← Option.some.inj ej, ← show vm = v from Option.some.inj ev]
          exact km
      exact kind_wr kj (ko sj (List.mem_of_getElem? ej)) d5 first
    · refine ⟨D, hv, rfl, .inl ⟨SqL.of d4, fun W hW => ?_⟩⟩
      have sW := same_new (o := .tup hv) hW
      have hW5 : (upd H4 W (.tup hv)) W = some (.tup hv) := upd_same
      have hh2 : HouseAt C (upd H4 W (.tup hv)) hv sss := ⟨by omega, fun j v ss e1 e2 => (kv j v ss e1 e2).same sW⟩
      have s5 := s4.trans sW
      generalize upd H4 W (.tup hv) = H5 at s5 hW5 hh2 ⊢
      have FA5 := FA.same s5
      have hO5 := s5 _ _ hO
      have tO5 := tO.to (Tup.of s5)
      -- the log
      refine ⟨_, rfl, _, rfl, _, rfl, by show 4 ≤ sizeLine; decide, fun L hL => ?_⟩
      have sL := same_new (o := .lst [V.int 6, .int 6, .int 6, .int 14]) hL
      have Lo := FA5.off hL
      refine ⟨p, c, L, _, ks, y, n, rfl, FA5.same sL, by omega, upd_same, Lo.1, Lo.2, by simp, by simp, fun v ksP HP mv FP svP => ?_⟩
      obtain ⟨cnt, rfl, c0, c14⟩ : ∃ cnt : Int, v = .int cnt ∧ 0 ≤ cnt ∧ cnt ≤ 14 := by
        simp only [List.mem_cons, List.not_mem_nil, or_false] at mv
        rcases mv with rfl | rfl | rfl | rfl <;> exact ⟨_, rfl, by decide, by decide⟩
      have sv5P := (Save.of sL).trans svP
      have hOP := sv5P _ _ hO5 Op Oc
      have tOP := tO5.to (Save.tup FA5 sv5P)
      refine ⟨p, c, O, ksP, y, n + 1, cnt, ov, sss, rfl, FP, by omega, c0, c14, hOP, tOP, l1, l4, ko, Op, Oc, fun t d0 ks2 n2 H6 tt lg ni6 FA6 le6 sv6' => ?_⟩
      have sv6 := sv5P.trans sv6'
      have hW6 := Save.tup FA5 sv6 _ _ hW5
      have hh6 := hh2.save ko FA5 sv6
      have z6 : TZ (NPC p c) H6 (.ref t) d0 := TD.tz tt
      refine ⟨_, rfl, _, rfl, NPC p c, W, .ref t, d0, hv, sss, rfl, hW6, hh6, ko, l4, z6, nice_sht ni6 (by decide), fun H7 s7 => ?_⟩
      rw [lg]
      refine ⟨true, true, rfl, rfl, _, rfl, ?_⟩
      rw [decide_eq_true rfl]
      refine iteF ?_
      have sv7 : Save p c H H7 := (Save.of s5).trans (sv6.trans (Save.of s7))
      have FA7 := FA6.same s7
      have hW7 := s7 _ _ hW6
      have hh7 := hh6.same s7
      have hO7 := sv7 _ _ hO Op Oc
      have tO7 := tO.to (Save.tup FA sv7)
      refine ⟨3, rfl, by decide, by decide, for_range (lo := 0) (n := 3) (fun m σ H8 => ∃ (v : V) (d : PyData) (o4 o5 : Option V) (ks' : List Int) (n' : Int), σ = [some (.ref p), some (.ref O), some (.ref W), some v, o4, o5, none] ∧ FeedAt H8 p c ks' y n' ∧ n' ≤ n + 1001 + 50 * (m : Int) ∧ Save p c H7 H8 ∧ TZ (NPC p c) H8 v d ∧ Nice (40 + m) (5 + m) d) ⟨.ref t, d0, none, none, ks2, n2, rfl, FA7, by omega, Save.refl p c H7, z6.same s7, ni6⟩ ?_ ?_⟩
      · rintro m σ H8 hm ⟨v, d, o4, o5, ks3, n3, rfl, F8, le8, sv8, tz, ni⟩
        refine ⟨_, rfl, _, rfl, p, c, ks3, y, n3, v, d, 40 + m, 5 + m, rfl, F8, by omega, tz, ni, by omega, by omega, by omega, fun v2 d2 ks4 n4 H9 tz2 ni2 F9 le9 sv9 => ?_⟩
        have sv79 := sv8.trans sv9
        have hO9 := sv79 _ _ hO7 Op Oc
        have tO9 := tO7.to (Save.tup FA7 sv79)
        have hW9 := Save.tup FA7 sv79 _ _ hW7
        have hh9 := hh7.save ko FA7 sv79
        have sh2 : Sht d2 := nice_sht ni2 (by omega)
        refine ⟨_, rfl, _, rfl, NPC p c, O, v2, d2, ov, sss, rfl, hO9, tO9, ko, l1, l4, tz2, sh2, fun Ha sa => ⟨by show 1 ≤ sizeLine; decide, fun l hl => ⟨l, 2, _, rfl, rfl, upd_same, by decide, by decide, by show 1 * 2 ≤ sizeLine; decide, fun q hq big => ?_⟩⟩⟩
        have sl := same_new (o := .lst [V.bl (logB sss d2)]) hl
        have sq := same_new (o := .lst (List.replicate (2 : Int).toNat [V.bl (logB sss d2)]).flatten) hq
        have eq_ : (upd (upd Ha l (.lst [V.bl (logB sss d2)])) q (.lst (List.replicate (2 : Int).toNat [V.bl (logB sss d2)]).flatten)) q = some (.lst [.bl (logB sss d2), .bl (logB sss d2)]) := upd_same
        have s9 := sa.trans (sl.trans sq)
        generalize upd (upd Ha l (.lst [V.bl (logB sss d2)])) q (.lst (List.replicate (2 : Int).toNat [V.bl (logB sss d2)]).flatten) = Hb at sq eq_ s9 ⊢
        have th := two_bools (logB sss d2) (logB sss d2)
        have sv9b := sv79.trans (Save.of s9)
        have hWb := s9 _ _ hW9
        have hhb := hh9.same s9
        have tzb := tz2.same s9
        refine ⟨_, rfl, _, rfl, NPC p c, W, v2, d2, hv, sss, rfl, hWb, hhb, ko, l4, tzb, sh2, fun Hc sc => ?_⟩
        refine ⟨_, rfl, _, rfl, NPC p c, W, v2, d2, hv, sss, rfl, sc _ _ hWb, hhb.same sc, ko, l4, tzb.same sc, sh2, fun Hd sd => ⟨by show 2 ≤ sizeLine; decide, fun l2 hl2 big2 => ?_⟩⟩
        have se := same_new (o := .lst [V.bl (logB sss d2), .bl (logB sss d2)]) hl2
        have sbe := sc.trans (sd.trans se)
        refine ⟨.ref l2, boolsD [logB sss d2, logB sss d2], rfl, .lst big2 trivial upd_same (.cons (.bl _) (.cons (.bl _) .nil)), th.1, th.2.1, th.2.2, ?_⟩
        refine ⟨_, rfl, .ref q, boolsD [logB sss d2, logB sss d2], rfl, .lst big trivial (sbe _ _ eq_) (.cons (.bl _) (.cons (.bl _) .nil)), th.1, th.2.1, th.2.2, rfl, _, rfl, ?_⟩
        rw [decide_eq_true rfl]
        refine iteF ⟨v2, d2, _, _, ks4, n4, rfl, F9.same (s9.trans sbe), by omega, sv9b.trans (Save.of sbe), tzb.same sbe, ?_⟩
        rw [show 40 + (m + 1) = 40 + m + 1 from rfl, show 5 + (m + 1) = 5 + m + 1 from rfl]
        exact ni2
      · rintro σ H8 ⟨v, d, o4, o5, ks3, n3, rfl, F8, le8, sv8, tz, ni⟩
        exact k ks3 n3 H8 F8 (by omega) (sv7.trans sv8)
abbrev nLw : List Str := ["_law_script", "_law_deck_here", "_law_turn"]
theorem scLw : FnScope nLw ["_law_script"] (defScope sLaw) := ⟨rfl, rfl, rfl, by decide +kernel, rfl, by decide +kernel, by decide +kernel⟩
def spLaw (K : PySem.W.Frag) : Sp := fun vs H Q _ => ∃ (a : Addr) (ns : List Int), vs = [.ref a] ∧ SqL K H a (ns.map V.int) ∧ ns.length ≤ 63 ∧ Bits ns ∧ ∀ H', Q (.bl true) H'
theorem ok_law {f fF fS fR : Addr} {fd fdF fdS fdR : FuncData} (F : Fun K "law" "law" sLaw f fd) (mrange : mg "range" = none)
    (GF : FnOk P w K mg base CX0 1 fF fdF ["_law_script"] (spFeed K)) (mF : mg "_law_deck" = some (.ref fF)) (kF : PySem.W.keepIn K (.ref fF) = true) (bF : Binds K fdF ["_law_script"] [])
    (GS : FnOk P w K mg base CX0 4 fS fdS ["_law_deck_here"] spSystem) (mS : mg "_law_system" = some (.ref fS)) (kS : PySem.W.keepIn K (.ref fS) = true) (bS : Binds K fdS ["_law_deck_here"] [])
    (GR : FnG true (fun A => A.guards = some []) P w K mg base CX0 8 fR fdR ["_law_deck_here", "_law_objects"] spRight) (mR : mg "_law_right" = some (.ref fR)) (kR : PySem.W.keepIn K (.ref fR) = true) (bR : Binds K fdR ["_law_deck_here", "_law_objects"] []) :
    FnG true (fun A => A.guards = some []) P w K mg base CX0 9 f fd ["_law_script"] (spLaw K) := by
  refine okG F scLw (fun vs H Q E h => ?_) (fun cdv A outer s H vs Q E hh hgA hr h => ?_)
  · obtain ⟨a, ns, rfl, _⟩ := h
    rfl
  · obtain ⟨a, ns, rfl, hS, hlen, hbits, k⟩ := h
    have hR : Room 8 (A.deeper (envOfC "law" (defScope sLaw) s.heap.objs.size f cdv)) := ⟨hh rfl, hr.dp, hr.un⟩
    have hA : (A.deeper (envOfC "law" (defScope sLaw) s.heap.objs.size f cdv)).handled = none := hh rfl
    have hG : (A.deeper (envOfC "law" (defScope sLaw) s.heap.objs.size f cdv)).guards = some [] := hgA
    have hR4 := hR.mono (show 4 ≤ 8 by omega)
    have hR1 := hR.mono (show 1 ≤ 8 by omega)
    refine ⟨_, PSs.nox (pss_cons (ps_set (i := 1) scLw.nd rfl (Or.inl rfl) (pe_call GF hR1 (by rfl) mF kF bF .nil pass0 (pa_cons (pv 0) pa_nil))) (pss_cons (ps_for PassesOwn.never rfl (pi_range1 (by rfl) mrange (pa_cons pe_int pa_nil)) (pg_name (i := 2) scLw.nd rfl (Or.inl rfl)) (pss_one (ps_if (pt_not (pt_val (pe_callG GR (fun _ => hA) hG hr (by rfl) mR kR bR pass0 (pa_cons (pv 1) (pa_cons (pe_call GS hR4 (by rfl) mS kS bS .nil pass0 (pa_cons (pv 1) pa_nil)) pa_nil))))) (pss_one (ps_ret pe_bl)) pss_nil))) (pss_one (ps_ret pe_bl)))), ?_⟩
    refine ⟨_, rfl, a, ns, rfl, hS, hlen, hbits, fun p c ks y H1 _ _ _ FA => ?_⟩
    refine ⟨4, rfl, by decide, by decide, for_range (lo := 0) (n := 4) (fun m σ H4 => ∃ (o2 : Option V) (ks' : List Int) (n' : Int), σ = [some (.ref a), some (.ref p), o2] ∧ FeedAt H4 p c ks' y n' ∧ n' ≤ 2500 * (m : Int)) ⟨none, ks, 0, rfl, FA, by omega⟩ ?_ ?_⟩
    · rintro m σ H4 hm ⟨o2, ks4, n4, rfl, FA4, le4⟩
      refine ⟨_, rfl, _, rfl, p, c, ks4, y, n4, rfl, FA4, by omega, fun O ov sss ks5 n5 H5 fO hO tO l1 l4 ko FA5 le5 sv5 => ?_⟩
      have off := FA4.off fO
      refine ⟨p, c, O, ks5, y, n5, ov, sss, rfl, FA5, by omega, hO, tO, l1, l4, ko, off.1, off.2, fun ks6 n6 H6 FA6 le6 sv6 => ⟨_, rfl, iteF ?_⟩⟩
      exact ⟨_, ks6, n6, rfl, FA6, by omega⟩
    · rintro σ H4 ⟨o2, ks4, n4, rfl, FA4, le4⟩
      exact k _
end
end My

-- ===== K13Y =====
set_option Elab.async false
set_option linter.all false
set_option maxRecDepth 100000
set_option maxHeartbeats 4000000
namespace My
open PySem L2 PyProof.Rows PySem.Spec Kd StX ClX
theorem kgl_rel {vs zs : List V} {us ws : List Value} (r : Vals vs us) (z : Vals zs ws) : Vals (kgl vs zs) (kgl us ws) := by
  cases r with
  | nil =>
    cases z with
    | nil => exact .nil
    | cons a z =>
      cases z with
      | nil => exact .nil
      | cons b z =>
        cases z with
        | nil => exact .cons b (.cons a .nil)
        | cons _ _ => exact .nil
  | cons _ _ => exact .nil
set_option linter.unusedVariables false in
theorem all_mk {P : Program} {w : World} {K : PySem.W.Frag} {h : Heap} {mg : Str → Option Value} {fa C p1 p3 fM fW fB fS fA fE fe1 fe2 fa1 fa2 fa3 fa4 fa5 fa6 fa7 fa8 fa9 fd1 fd2 fF fD fK fb1 fb2 fb3 fb4 fb5 fb0 fb6 fb7 fb8 fb9 fc1 fc2 fc3 fc4 fc5 fc6 fL fi fo fv fn : Addr} {rest1 rest3 : List Value} {t1 t2 t3 t4 : Tok} (X : K.In h) (G : h.Ns mainGlobals mg) (hfa : mg "law" = some (.ref fa))
    {oc_M kV_M doc_M pm_M cd_M ct_M : Value} {od_M an_M : Option Addr} {sl_M : Array (Option Value)} {oc_W kV_W doc_W pm_W cd_W ct_W : Value} {od_W an_W : Option Addr} {sl_W : Array (Option Value)} {oc_B kV_B doc_B pm_B cd_B ct_B : Value} {od_B an_B : Option Addr} {sl_B : Array (Option Value)} {oc_S kV_S doc_S pm_S cd_S ct_S : Value} {od_S an_S : Option Addr} {sl_S : Array (Option Value)} {oc_A kV_A doc_A pm_A cd_A ct_A : Value} {od_A an_A : Option Addr} {sl_A : Array (Option Value)} {oc_E kV_E doc_E pm_E cd_E ct_E : Value} {od_E an_E : Option Addr} {sl_E : Array (Option Value)} {oc_e1 kV_e1 doc_e1 pm_e1 cd_e1 ct_e1 : Value} {od_e1 an_e1 : Option Addr} {sl_e1 : Array (Option Value)} {oc_e2 kV_e2 doc_e2 pm_e2 cd_e2 ct_e2 : Value} {od_e2 an_e2 : Option Addr} {sl_e2 : Array (Option Value)} {oc_a1 kV_a1 doc_a1 pm_a1 cd_a1 ct_a1 : Value} {od_a1 an_a1 : Option Addr} {sl_a1 : Array (Option Value)} {oc_a2 kV_a2 doc_a2 pm_a2 cd_a2 ct_a2 : Value} {od_a2 an_a2 : Option Addr} {sl_a2 : Array (Option Value)} {oc_a3 kV_a3 doc_a3 pm_a3 cd_a3 ct_a3 : Value} {od_a3 an_a3 : Option Addr} {sl_a3 : Array (Option Value)} {oc_a4 kV_a4 doc_a4 pm_a4 cd_a4 ct_a4 : Value} {od_a4 an_a4 : Option Addr} {sl_a4 : Array (Option Value)} {oc_a5 kV_a5 doc_a5 pm_a5 cd_a5 ct_a5 : Value} {od_a5 an_a5 : Option Addr} {sl_a5 : Array (Option Value)} {oc_a6 kV_a6 doc_a6 pm_a6 cd_a6 ct_a6 : Value} {od_a6 an_a6 : Option Addr} {sl_a6 : Array (Option Value)} {oc_a7 kV_a7 doc_a7 pm_a7 cd_a7 ct_a7 : Value} {od_a7 an_a7 : Option Addr} {sl_a7 : Array (Option Value)} {oc_a8 kV_a8 doc_a8 pm_a8 cd_a8 ct_a8 : Value} {od_a8 an_a8 : Option Addr} {sl_a8 : Array (Option Value)} {oc_a9 kV_a9 doc_a9 pm_a9 cd_a9 ct_a9 : Value} {od_a9 an_a9 : Option Addr} {sl_a9 : Array (Option Value)} {oc_d1 kV_d1 doc_d1 pm_d1 cd_d1 ct_d1 : Value} {od_d1 an_d1 : Option Addr} {sl_d1 : Array (Option Value)} {oc_d2 kV_d2 doc_d2 pm_d2 cd_d2 ct_d2 : Value} {od_d2 an_d2 : Option Addr} {sl_d2 : Array (Option Value)} {oc_F kV_F doc_F pm_F cd_F ct_F : Value} {od_F an_F : Option Addr} {sl_F : Array (Option Value)} {oc_D kV_D doc_D pm_D cd_D ct_D : Value} {od_D an_D : Option Addr} {sl_D : Array (Option Value)} {oc_K kV_K doc_K pm_K cd_K ct_K : Value} {od_K an_K : Option Addr} {sl_K : Array (Option Value)} {oc_b1 kV_b1 doc_b1 pm_b1 cd_b1 ct_b1 : Value} {od_b1 an_b1 : Option Addr} {sl_b1 : Array (Option Value)} {oc_b2 kV_b2 doc_b2 pm_b2 cd_b2 ct_b2 : Value} {od_b2 an_b2 : Option Addr} {sl_b2 : Array (Option Value)} {oc_b3 kV_b3 doc_b3 pm_b3 cd_b3 ct_b3 : Value} {od_b3 an_b3 : Option Addr} {sl_b3 : Array (Option Value)} {oc_b4 kV_b4 doc_b4 pm_b4 cd_b4 ct_b4 : Value} {od_b4 an_b4 : Option Addr} {sl_b4 : Array (Option Value)} {oc_b5 kV_b5 doc_b5 pm_b5 cd_b5 ct_b5 : Value} {od_b5 an_b5 : Option Addr} {sl_b5 : Array (Option Value)} {oc_b0 kV_b0 doc_b0 pm_b0 cd_b0 ct_b0 : Value} {od_b0 an_b0 : Option Addr} {sl_b0 : Array (Option Value)} {oc_b6 kV_b6 doc_b6 pm_b6 cd_b6 ct_b6 : Value} {od_b6 an_b6 : Option Addr} {sl_b6 : Array (Option Value)} {oc_b7 kV_b7 doc_b7 pm_b7 cd_b7 ct_b7 : Value} {od_b7 an_b7 : Option Addr} {sl_b7 : Array (Option Value)} {oc_b8 kV_b8 doc_b8 pm_b8 cd_b8 ct_b8 : Value} {od_b8 an_b8 : Option Addr} {sl_b8 : Array (Option Value)} {oc_b9 kV_b9 doc_b9 pm_b9 cd_b9 ct_b9 : Value} {od_b9 an_b9 : Option Addr} {sl_b9 : Array (Option Value)} {oc_c1 kV_c1 doc_c1 pm_c1 cd_c1 ct_c1 : Value} {od_c1 an_c1 : Option Addr} {sl_c1 : Array (Option Value)} {oc_c2 kV_c2 doc_c2 pm_c2 cd_c2 ct_c2 : Value} {od_c2 an_c2 : Option Addr} {sl_c2 : Array (Option Value)} {oc_c3 kV_c3 doc_c3 pm_c3 cd_c3 ct_c3 : Value} {od_c3 an_c3 : Option Addr} {sl_c3 : Array (Option Value)} {oc_c4 kV_c4 doc_c4 pm_c4 cd_c4 ct_c4 : Value} {od_c4 an_c4 : Option Addr} {sl_c4 : Array (Option Value)} {oc_c5 kV_c5 doc_c5 pm_c5 cd_c5 ct_c5 : Value} {od_c5 an_c5 : Option Addr} {sl_c5 : Array (Option Value)} {oc_c6 kV_c6 doc_c6 pm_c6 cd_c6 ct_c6 : Value} {od_c6 an_c6 : Option Addr} {sl_c6 : Array (Option Value)} {oc_L kV_L doc_L pm_L cd_L ct_L : Value} {od_L an_L : Option Addr} {sl_L : Array (Option Value)} {oc_i kV_i doc_i pm_i cd_i ct_i : Value} {od_i an_i : Option Addr} {sl_i : Array (Option Value)} {oc_o kV_o doc_o pm_o cd_o ct_o : Value} {od_o an_o : Option Addr} {sl_o : Array (Option Value)} {oc_v kV_v doc_v pm_v cd_v ct_v : Value} {od_v an_v : Option Addr} {sl_v : Array (Option Value)} {oc_n kV_n doc_n pm_n cd_n ct_n : Value} {od_n an_n : Option Addr} {sl_n : Array (Option Value)}
    (aC : PySem.W.nsIn K mainGlobals "Kind" = some (some (.ref C)))
    (clpg : PySem.W.plainGet K C Str.empty = true)
    (clhd : PySem.W.hasDictIn K C = true)
    (clpo : PySem.W.plainOver K C = true)
    (clsa : PySem.W.findIn K (.ref C) "__setattr__" = some (some (.builtin "object.__setattr__")))
    (n1 : PySem.W.findIn K (.ref C) "states" = some none)
    (n2 : PySem.W.findIn K (.ref C) "moves" = some none)
    (rd : PySem.W.readsIn K C (.type "type") = true)
    (ga : PySem.W.specialIn K (.ref C) "__getattribute__" = some (some (.builtin "type.__getattribute__")))
    (m_of : PySem.W.findCls K (.ref C) (.type "type") "of" = some (.get (.builtin "classmethod.__get__") (.ref p1) .none (.ref C)))
    (r_of : PySem.W.recIn K p1 "classmethod" = some (.ref fo :: rest1))
    (f_of : PySem.W.fnIn K fo = true)
    (ptx : PySem.W.findIn K (.ref C) "events" = some (some (.ref p3)))
    (gtx : PySem.W.specialIn K (.ref p3) "__get__" = some (some (.builtin "property.__get__")))
    (ttx : PySem.W.takesIn K (.ref p3) = some true)
    (rtx : PySem.W.recIn K p3 "property" = some (.ref fv :: rest3))
    (ln1 : PySem.W.findIn K (.ref C) "__len__" = some (some (.ref fn)))
    (ln2 : PySem.W.isFn K (.ref fn) = true)
    (mk1 : PySem.W.makesIn K C = true)
    (mk2 : PySem.W.findIn K (.ref C) "__init__" = some (some (.ref fi)))
    (mk3 : PySem.W.isFn K (.ref fi) = true)
    (mk4 : PySem.W.keepIn K (.ref C) = true)
    (a_M : PySem.W.nsIn K mainGlobals "moves_of" = some (some (.ref fM)))
    (l_M : K.lookup fM = some ⟨oc_M, od_M, .func (PySem.W.fnOf "moves_of" "moves_of" (defArgs sMoves) (defBody sMoves) (defScope sMoves) .none kV_M doc_M pm_M an_M cd_M ct_M), sl_M⟩)
    (e_M : PySem.W.codeIn K cd_M "moves_of" = true)
    (k_M : PySem.W.keepIn K (.ref fM) = true)
    (a_W : PySem.W.nsIn K mainGlobals "is_word" = some (some (.ref fW)))
    (l_W : K.lookup fW = some ⟨oc_W, od_W, .func (PySem.W.fnOf "is_word" "is_word" (defArgs sWord) (defBody sWord) (defScope sWord) .none kV_W doc_W pm_W an_W cd_W ct_W), sl_W⟩)
    (e_W : PySem.W.codeIn K cd_W "is_word" = true)
    (k_W : PySem.W.keepIn K (.ref fW) = true)
    (a_B : PySem.W.nsIn K mainGlobals "is_number" = some (some (.ref fB)))
    (l_B : K.lookup fB = some ⟨oc_B, od_B, .func (PySem.W.fnOf "is_number" "is_number" (defArgs sNumber) (defBody sNumber) (defScope sNumber) .none kV_B doc_B pm_B an_B cd_B ct_B), sl_B⟩)
    (e_B : PySem.W.codeIn K cd_B "is_number" = true)
    (k_B : PySem.W.keepIn K (.ref fB) = true)
    (a_S : PySem.W.nsIn K mainGlobals "is_states" = some (some (.ref fS)))
    (l_S : K.lookup fS = some ⟨oc_S, od_S, .func (PySem.W.fnOf "is_states" "is_states" (defArgs sStates) (defBody sStates) (defScope sStates) .none kV_S doc_S pm_S an_S cd_S ct_S), sl_S⟩)
    (e_S : PySem.W.codeIn K cd_S "is_states" = true)
    (k_S : PySem.W.keepIn K (.ref fS) = true)
    (a_A : PySem.W.nsIn K mainGlobals "_is_state" = some (some (.ref fA)))
    (l_A : K.lookup fA = some ⟨oc_A, od_A, .func (PySem.W.fnOf "_is_state" "_is_state" (defArgs sState) (defBody sState) (defScope sState) .none kV_A doc_A pm_A an_A cd_A ct_A), sl_A⟩)
    (e_A : PySem.W.codeIn K cd_A "_is_state" = true)
    (k_A : PySem.W.keepIn K (.ref fA) = true)
    (a_E : PySem.W.nsIn K mainGlobals "_is_step" = some (some (.ref fE)))
    (l_E : K.lookup fE = some ⟨oc_E, od_E, .func (PySem.W.fnOf "_is_step" "_is_step" (defArgs sStep) (defBody sStep) (defScope sStep) .none kV_E doc_E pm_E an_E cd_E ct_E), sl_E⟩)
    (e_E : PySem.W.codeIn K cd_E "_is_step" = true)
    (k_E : PySem.W.keepIn K (.ref fE) = true)
    (a_e1 : PySem.W.nsIn K mainGlobals "events_of" = some (some (.ref fe1)))
    (l_e1 : K.lookup fe1 = some ⟨oc_e1, od_e1, .func (PySem.W.fnOf "events_of" "events_of" (defArgs sEo) (defBody sEo) (defScope sEo) .none kV_e1 doc_e1 pm_e1 an_e1 cd_e1 ct_e1), sl_e1⟩)
    (e_e1 : PySem.W.codeIn K cd_e1 "events_of" = true)
    (k_e1 : PySem.W.keepIn K (.ref fe1) = true)
    (a_e2 : PySem.W.nsIn K mainGlobals "is_answer" = some (some (.ref fe2)))
    (l_e2 : K.lookup fe2 = some ⟨oc_e2, od_e2, .func (PySem.W.fnOf "is_answer" "is_answer" (defArgs sIa) (defBody sIa) (defScope sIa) .none kV_e2 doc_e2 pm_e2 an_e2 cd_e2 ct_e2), sl_e2⟩)
    (e_e2 : PySem.W.codeIn K cd_e2 "is_answer" = true)
    (k_e2 : PySem.W.keepIn K (.ref fe2) = true)
    (a_a1 : PySem.W.nsIn K mainGlobals "ascends" = some (some (.ref fa1)))
    (l_a1 : K.lookup fa1 = some ⟨oc_a1, od_a1, .func (PySem.W.fnOf "ascends" "ascends" (defArgs sAsc) (defBody sAsc) (defScope sAsc) .none kV_a1 doc_a1 pm_a1 an_a1 cd_a1 ct_a1), sl_a1⟩)
    (e_a1 : PySem.W.codeIn K cd_a1 "ascends" = true)
    (k_a1 : PySem.W.keepIn K (.ref fa1) = true)
    (a_a2 : PySem.W.nsIn K mainGlobals "is_numbers" = some (some (.ref fa2)))
    (l_a2 : K.lookup fa2 = some ⟨oc_a2, od_a2, .func (PySem.W.fnOf "is_numbers" "is_numbers" (defArgs sNums) (defBody sNums) (defScope sNums) .none kV_a2 doc_a2 pm_a2 an_a2 cd_a2 ct_a2), sl_a2⟩)
    (e_a2 : PySem.W.codeIn K cd_a2 "is_numbers" = true)
    (k_a2 : PySem.W.keepIn K (.ref fa2) = true)
    (a_a3 : PySem.W.nsIn K mainGlobals "is_state" = some (some (.ref fa3)))
    (l_a3 : K.lookup fa3 = some ⟨oc_a3, od_a3, .func (PySem.W.fnOf "is_state" "is_state" (defArgs sSt) (defBody sSt) (defScope sSt) .none kV_a3 doc_a3 pm_a3 an_a3 cd_a3 ct_a3), sl_a3⟩)
    (e_a3 : PySem.W.codeIn K cd_a3 "is_state" = true)
    (k_a3 : PySem.W.keepIn K (.ref fa3) = true)
    (a_a4 : PySem.W.nsIn K mainGlobals "is_start" = some (some (.ref fa4)))
    (l_a4 : K.lookup fa4 = some ⟨oc_a4, od_a4, .func (PySem.W.fnOf "is_start" "is_start" (defArgs sStart) (defBody sStart) (defScope sStart) .none kV_a4 doc_a4 pm_a4 an_a4 cd_a4 ct_a4), sl_a4⟩)
    (e_a4 : PySem.W.codeIn K cd_a4 "is_start" = true)
    (k_a4 : PySem.W.keepIn K (.ref fa4) = true)
    (a_a5 : PySem.W.nsIn K mainGlobals "is_row" = some (some (.ref fa5)))
    (l_a5 : K.lookup fa5 = some ⟨oc_a5, od_a5, .func (PySem.W.fnOf "is_row" "is_row" (defArgs sRow) (defBody sRow) (defScope sRow) .none kV_a5 doc_a5 pm_a5 an_a5 cd_a5 ct_a5), sl_a5⟩)
    (e_a5 : PySem.W.codeIn K cd_a5 "is_row" = true)
    (k_a5 : PySem.W.keepIn K (.ref fa5) = true)
    (a_a6 : PySem.W.nsIn K mainGlobals "_is_part" = some (some (.ref fa6)))
    (l_a6 : K.lookup fa6 = some ⟨oc_a6, od_a6, .func (PySem.W.fnOf "_is_part" "_is_part" (defArgs sPart) (defBody sPart) (defScope sPart) .none kV_a6 doc_a6 pm_a6 an_a6 cd_a6 ct_a6), sl_a6⟩)
    (e_a6 : PySem.W.codeIn K cd_a6 "_is_part" = true)
    (k_a6 : PySem.W.keepIn K (.ref fa6) = true)
    (a_a7 : PySem.W.nsIn K mainGlobals "is_log" = some (some (.ref fa7)))
    (l_a7 : K.lookup fa7 = some ⟨oc_a7, od_a7, .func (PySem.W.fnOf "is_log" "is_log" (defArgs sIsLog) (defBody sIsLog) (defScope sIsLog) .none kV_a7 doc_a7 pm_a7 an_a7 cd_a7 ct_a7), sl_a7⟩)
    (e_a7 : PySem.W.codeIn K cd_a7 "is_log" = true)
    (k_a7 : PySem.W.keepIn K (.ref fa7) = true)
    (a_a8 : PySem.W.nsIn K mainGlobals "_is_starts" = some (some (.ref fa8)))
    (l_a8 : K.lookup fa8 = some ⟨oc_a8, od_a8, .func (PySem.W.fnOf "_is_starts" "_is_starts" (defArgs sStarts) (defBody sStarts) (defScope sStarts) .none kV_a8 doc_a8 pm_a8 an_a8 cd_a8 ct_a8), sl_a8⟩)
    (e_a8 : PySem.W.codeIn K cd_a8 "_is_starts" = true)
    (k_a8 : PySem.W.keepIn K (.ref fa8) = true)
    (a_a9 : PySem.W.nsIn K mainGlobals "_is_entries" = some (some (.ref fa9)))
    (l_a9 : K.lookup fa9 = some ⟨oc_a9, od_a9, .func (PySem.W.fnOf "_is_entries" "_is_entries" (defArgs sEnts) (defBody sEnts) (defScope sEnts) .none kV_a9 doc_a9 pm_a9 an_a9 cd_a9 ct_a9), sl_a9⟩)
    (e_a9 : PySem.W.codeIn K cd_a9 "_is_entries" = true)
    (k_a9 : PySem.W.keepIn K (.ref fa9) = true)
    (a_d1 : PySem.W.nsIn K mainGlobals "_is_entry" = some (some (.ref fd1)))
    (l_d1 : K.lookup fd1 = some ⟨oc_d1, od_d1, .func (PySem.W.fnOf "_is_entry" "_is_entry" (defArgs sEnt) (defBody sEnt) (defScope sEnt) .none kV_d1 doc_d1 pm_d1 an_d1 cd_d1 ct_d1), sl_d1⟩)
    (e_d1 : PySem.W.codeIn K cd_d1 "_is_entry" = true)
    (k_d1 : PySem.W.keepIn K (.ref fd1) = true)
    (a_d2 : PySem.W.nsIn K mainGlobals "_is_closed" = some (some (.ref fd2)))
    (l_d2 : K.lookup fd2 = some ⟨oc_d2, od_d2, .func (PySem.W.fnOf "_is_closed" "_is_closed" (defArgs sClosed) (defBody sClosed) (defScope sClosed) .none kV_d2 doc_d2 pm_d2 an_d2 cd_d2 ct_d2), sl_d2⟩)
    (e_d2 : PySem.W.codeIn K cd_d2 "_is_closed" = true)
    (k_d2 : PySem.W.keepIn K (.ref fd2) = true)
    (a_F : PySem.W.nsIn K mainGlobals "_law_deck" = some (some (.ref fF)))
    (l_F : K.lookup fF = some ⟨oc_F, od_F, .func (PySem.W.fnOf "_law_deck" "_law_deck" (defArgs sFeed) (defBody sFeed) (defScope sFeed) .none kV_F doc_F pm_F an_F cd_F ct_F), sl_F⟩)
    (e_F : PySem.W.codeIn K cd_F "_law_deck" = true)
    (k_F : PySem.W.keepIn K (.ref fF) = true)
    (a_D : PySem.W.nsIn K mainGlobals "_law_draw" = some (some (.ref fD)))
    (l_D : K.lookup fD = some ⟨oc_D, od_D, .func (PySem.W.fnOf "_law_draw" "_law_draw" (defArgs sDigit) (defBody sDigit) (defScope sDigit) .none kV_D doc_D pm_D an_D cd_D ct_D), sl_D⟩)
    (e_D : PySem.W.codeIn K cd_D "_law_draw" = true)
    (k_D : PySem.W.keepIn K (.ref fD) = true)
    (a_K : PySem.W.nsIn K mainGlobals "_law_pick" = some (some (.ref fK)))
    (l_K : K.lookup fK = some ⟨oc_K, od_K, .func (PySem.W.fnOf "_law_pick" "_law_pick" (defArgs sPick) (defBody sPick) (defScope sPick) .none kV_K doc_K pm_K an_K cd_K ct_K), sl_K⟩)
    (e_K : PySem.W.codeIn K cd_K "_law_pick" = true)
    (k_K : PySem.W.keepIn K (.ref fK) = true)
    (a_b1 : PySem.W.nsIn K mainGlobals "_law_states" = some (some (.ref fb1)))
    (l_b1 : K.lookup fb1 = some ⟨oc_b1, od_b1, .func (PySem.W.fnOf "_law_states" "_law_states" (defArgs sLStates) (defBody sLStates) (defScope sLStates) .none kV_b1 doc_b1 pm_b1 an_b1 cd_b1 ct_b1), sl_b1⟩)
    (e_b1 : PySem.W.codeIn K cd_b1 "_law_states" = true)
    (k_b1 : PySem.W.keepIn K (.ref fb1) = true)
    (a_b2 : PySem.W.nsIn K mainGlobals "_law_system" = some (some (.ref fb2)))
    (l_b2 : K.lookup fb2 = some ⟨oc_b2, od_b2, .func (PySem.W.fnOf "_law_system" "_law_system" (defArgs sSystem) (defBody sSystem) (defScope sSystem) .none kV_b2 doc_b2 pm_b2 an_b2 cd_b2 ct_b2), sl_b2⟩)
    (e_b2 : PySem.W.codeIn K cd_b2 "_law_system" = true)
    (k_b2 : PySem.W.keepIn K (.ref fb2) = true)
    (a_b3 : PySem.W.nsIn K mainGlobals "_law_events" = some (some (.ref fb3)))
    (l_b3 : K.lookup fb3 = some ⟨oc_b3, od_b3, .func (PySem.W.fnOf "_law_events" "_law_events" (defArgs sLEvents) (defBody sLEvents) (defScope sLEvents) .none kV_b3 doc_b3 pm_b3 an_b3 cd_b3 ct_b3), sl_b3⟩)
    (e_b3 : PySem.W.codeIn K cd_b3 "_law_events" = true)
    (k_b3 : PySem.W.keepIn K (.ref fb3) = true)
    (a_b4 : PySem.W.nsIn K mainGlobals "_law_did" = some (some (.ref fb4)))
    (l_b4 : K.lookup fb4 = some ⟨oc_b4, od_b4, .func (PySem.W.fnOf "_law_did" "_law_did" (defArgs sDid) (defBody sDid) (defScope sDid) .none kV_b4 doc_b4 pm_b4 an_b4 cd_b4 ct_b4), sl_b4⟩)
    (e_b4 : PySem.W.codeIn K cd_b4 "_law_did" = true)
    (k_b4 : PySem.W.keepIn K (.ref fb4) = true)
    (a_b5 : PySem.W.nsIn K mainGlobals "_law_starts" = some (some (.ref fb5)))
    (l_b5 : K.lookup fb5 = some ⟨oc_b5, od_b5, .func (PySem.W.fnOf "_law_starts" "_law_starts" (defArgs sLStarts) (defBody sLStarts) (defScope sLStarts) .none kV_b5 doc_b5 pm_b5 an_b5 cd_b5 ct_b5), sl_b5⟩)
    (e_b5 : PySem.W.codeIn K cd_b5 "_law_starts" = true)
    (k_b5 : PySem.W.keepIn K (.ref fb5) = true)
    (a_b0 : PySem.W.nsIn K mainGlobals "_law_log" = some (some (.ref fb0)))
    (l_b0 : K.lookup fb0 = some ⟨oc_b0, od_b0, .func (PySem.W.fnOf "_law_log" "_law_log" (defArgs sLogD) (defBody sLogD) (defScope sLogD) .none kV_b0 doc_b0 pm_b0 an_b0 cd_b0 ct_b0), sl_b0⟩)
    (e_b0 : PySem.W.codeIn K cd_b0 "_law_log" = true)
    (k_b0 : PySem.W.keepIn K (.ref fb0) = true)
    (a_b6 : PySem.W.nsIn K mainGlobals "_law_odd" = some (some (.ref fb6)))
    (l_b6 : K.lookup fb6 = some ⟨oc_b6, od_b6, .func (PySem.W.fnOf "_law_odd" "_law_odd" (defArgs sOdd) (defBody sOdd) (defScope sOdd) .none kV_b6 doc_b6 pm_b6 an_b6 cd_b6 ct_b6), sl_b6⟩)
    (e_b6 : PySem.W.codeIn K cd_b6 "_law_odd" = true)
    (k_b6 : PySem.W.keepIn K (.ref fb6) = true)
    (a_b7 : PySem.W.nsIn K mainGlobals "_law_bent" = some (some (.ref fb7)))
    (l_b7 : K.lookup fb7 = some ⟨oc_b7, od_b7, .func (PySem.W.fnOf "_law_bent" "_law_bent" (defArgs sBent) (defBody sBent) (defScope sBent) .none kV_b7 doc_b7 pm_b7 an_b7 cd_b7 ct_b7), sl_b7⟩)
    (e_b7 : PySem.W.codeIn K cd_b7 "_law_bent" = true)
    (k_b7 : PySem.W.keepIn K (.ref fb7) = true)
    (a_b8 : PySem.W.nsIn K mainGlobals "_law_is_number" = some (some (.ref fb8)))
    (l_b8 : K.lookup fb8 = some ⟨oc_b8, od_b8, .func (PySem.W.fnOf "_law_is_number" "_law_is_number" (defArgs sNum) (defBody sNum) (defScope sNum) .none kV_b8 doc_b8 pm_b8 an_b8 cd_b8 ct_b8), sl_b8⟩)
    (e_b8 : PySem.W.codeIn K cd_b8 "_law_is_number" = true)
    (k_b8 : PySem.W.keepIn K (.ref fb8) = true)
    (a_b9 : PySem.W.nsIn K mainGlobals "_law_is_event" = some (some (.ref fb9)))
    (l_b9 : K.lookup fb9 = some ⟨oc_b9, od_b9, .func (PySem.W.fnOf "_law_is_event" "_law_is_event" (defArgs sLe) (defBody sLe) (defScope sLe) .none kV_b9 doc_b9 pm_b9 an_b9 cd_b9 ct_b9), sl_b9⟩)
    (e_b9 : PySem.W.codeIn K cd_b9 "_law_is_event" = true)
    (k_b9 : PySem.W.keepIn K (.ref fb9) = true)
    (a_c1 : PySem.W.nsIn K mainGlobals "_law_is_rising" = some (some (.ref fc1)))
    (l_c1 : K.lookup fc1 = some ⟨oc_c1, od_c1, .func (PySem.W.fnOf "_law_is_rising" "_law_is_rising" (defArgs sRis) (defBody sRis) (defScope sRis) .none kV_c1 doc_c1 pm_c1 an_c1 cd_c1 ct_c1), sl_c1⟩)
    (e_c1 : PySem.W.codeIn K cd_c1 "_law_is_rising" = true)
    (k_c1 : PySem.W.keepIn K (.ref fc1) = true)
    (a_c2 : PySem.W.nsIn K mainGlobals "_law_are_starts" = some (some (.ref fc2)))
    (l_c2 : K.lookup fc2 = some ⟨oc_c2, od_c2, .func (PySem.W.fnOf "_law_are_starts" "_law_are_starts" (defArgs sLSt) (defBody sLSt) (defScope sLSt) .none kV_c2 doc_c2 pm_c2 an_c2 cd_c2 ct_c2), sl_c2⟩)
    (e_c2 : PySem.W.codeIn K cd_c2 "_law_are_starts" = true)
    (k_c2 : PySem.W.keepIn K (.ref fc2) = true)
    (a_c3 : PySem.W.nsIn K mainGlobals "_law_is_row" = some (some (.ref fc3)))
    (l_c3 : K.lookup fc3 = some ⟨oc_c3, od_c3, .func (PySem.W.fnOf "_law_is_row" "_law_is_row" (defArgs sLRow) (defBody sLRow) (defScope sLRow) .none kV_c3 doc_c3 pm_c3 an_c3 cd_c3 ct_c3), sl_c3⟩)
    (e_c3 : PySem.W.codeIn K cd_c3 "_law_is_row" = true)
    (k_c3 : PySem.W.keepIn K (.ref fc3) = true)
    (a_c4 : PySem.W.nsIn K mainGlobals "_law_is_entry" = some (some (.ref fc4)))
    (l_c4 : K.lookup fc4 = some ⟨oc_c4, od_c4, .func (PySem.W.fnOf "_law_is_entry" "_law_is_entry" (defArgs sLEnt) (defBody sLEnt) (defScope sLEnt) .none kV_c4 doc_c4 pm_c4 an_c4 cd_c4 ct_c4), sl_c4⟩)
    (e_c4 : PySem.W.codeIn K cd_c4 "_law_is_entry" = true)
    (k_c4 : PySem.W.keepIn K (.ref fc4) = true)
    (a_c5 : PySem.W.nsIn K mainGlobals "_law_is_log" = some (some (.ref fc5)))
    (l_c5 : K.lookup fc5 = some ⟨oc_c5, od_c5, .func (PySem.W.fnOf "_law_is_log" "_law_is_log" (defArgs sLLog) (defBody sLLog) (defScope sLLog) .none kV_c5 doc_c5 pm_c5 an_c5 cd_c5 ct_c5), sl_c5⟩)
    (e_c5 : PySem.W.codeIn K cd_c5 "_law_is_log" = true)
    (k_c5 : PySem.W.keepIn K (.ref fc5) = true)
    (a_c6 : PySem.W.nsIn K mainGlobals "_law_right" = some (some (.ref fc6)))
    (l_c6 : K.lookup fc6 = some ⟨oc_c6, od_c6, .func (PySem.W.fnOf "_law_right" "_law_right" (defArgs sRight) (defBody sRight) (defScope sRight) .none kV_c6 doc_c6 pm_c6 an_c6 cd_c6 ct_c6), sl_c6⟩)
    (e_c6 : PySem.W.codeIn K cd_c6 "_law_right" = true)
    (k_c6 : PySem.W.keepIn K (.ref fc6) = true)
    (a_L : PySem.W.nsIn K mainGlobals "law" = some (some (.ref fL)))
    (l_L : K.lookup fL = some ⟨oc_L, od_L, .func (PySem.W.fnOf "law" "law" (defArgs sLaw) (defBody sLaw) (defScope sLaw) .none kV_L doc_L pm_L an_L cd_L ct_L), sl_L⟩)
    (e_L : PySem.W.codeIn K cd_L "law" = true)
    (k_L : PySem.W.keepIn K (.ref fL) = true)
    (l_i : K.lookup fi = some ⟨oc_i, od_i, .func (PySem.W.fnOf "__init__" "Kind.__init__" (defArgs sInit) (defBody sInit) (defScope sInit) .none kV_i doc_i pm_i an_i cd_i ct_i), sl_i⟩)
    (e_i : PySem.W.codeIn K cd_i "Kind.__init__" = true)
    (k_i : PySem.W.keepIn K (.ref fi) = true)
    (l_o : K.lookup fo = some ⟨oc_o, od_o, .func (PySem.W.fnOf "of" "Kind.of" (defArgs sOf) (defBody sOf) (defScope sOf) .none kV_o doc_o pm_o an_o cd_o ct_o), sl_o⟩)
    (e_o : PySem.W.codeIn K cd_o "Kind.of" = true)
    (k_o : PySem.W.keepIn K (.ref fo) = true)
    (l_v : K.lookup fv = some ⟨oc_v, od_v, .func (PySem.W.fnOf "events" "Kind.events" (defArgs sKev) (defBody sKev) (defScope sKev) .none kV_v doc_v pm_v an_v cd_v ct_v), sl_v⟩)
    (e_v : PySem.W.codeIn K cd_v "Kind.events" = true)
    (k_v : PySem.W.keepIn K (.ref fv) = true)
    (l_n : K.lookup fn = some ⟨oc_n, od_n, .func (PySem.W.fnOf "__len__" "Kind.__len__" (defArgs sKlen) (defBody sKlen) (defScope sKlen) .none kV_n doc_n pm_n an_n cd_n ct_n), sl_n⟩)
    (e_n : PySem.W.codeIn K cd_n "Kind.__len__" = true)
    (k_n : PySem.W.keepIn K (.ref fn) = true)
    (z_isinstance : PySem.W.nsIn K mainGlobals "isinstance" = some none)
    (z_str : PySem.W.nsIn K mainGlobals "str" = some none)
    (z_int : PySem.W.nsIn K mainGlobals "int" = some none)
    (z_bool : PySem.W.nsIn K mainGlobals "bool" = some none)
    (z_tuple : PySem.W.nsIn K mainGlobals "tuple" = some none)
    (z_len : PySem.W.nsIn K mainGlobals "len" = some none)
    (z_all : PySem.W.nsIn K mainGlobals "all" = some none)
    (z_set : PySem.W.nsIn K mainGlobals "set" = some none)
    (z_sorted : PySem.W.nsIn K mainGlobals "sorted" = some none)
    (z_range : PySem.W.nsIn K mainGlobals "range" = some none)
    (z_repr : PySem.W.nsIn K mainGlobals "repr" = some none)
    (z_enumerate : PySem.W.nsIn K mainGlobals "enumerate" = some none)
    (z_list : PySem.W.nsIn K mainGlobals "list" = some none)
    (z_zip : PySem.W.nsIn K mainGlobals "zip" = some none)
    (z_min : PySem.W.nsIn K mainGlobals "min" = some none)
    (z_sum : PySem.W.nsIn K mainGlobals "sum" = some none)
    (v_MOST_STATES : PySem.W.nsIn K mainGlobals "MOST_STATES" = some (some (.int 40 t1)))
    (v_MOST_EVENTS : PySem.W.nsIn K mainGlobals "MOST_EVENTS" = some (some (.int 24 t2)))
    (v_MOST_LETTERS : PySem.W.nsIn K mainGlobals "MOST_LETTERS" = some (some (.int 12 t3)))
    (v_LETTERS : PySem.W.nsIn K mainGlobals "LETTERS" = some (some (.str LETS t4))) :
    ∃ fd : FuncData, (∀ (s : Shared) (v : Value), BindsTo s fd ⟨[v], []⟩ [("_law_script", v)]) ∧ ∀ base : Heap, K.In base → base.Ns mainGlobals mg → FnG true (fun A => A.guards = some []) P w K mg base CX0 9 fa fd ["_law_script"] (spLaw K) := by
  have e := hfa.symm.trans (PySem.W.mg_of X G a_L)
  cases e
  have nn : ∀ {n : Str}, PySem.W.nsIn K mainGlobals n = some none → mg n = none := fun {n} e => PySem.W.mg_none_of X G e
  have m_isinstance := nn z_isinstance
  have m_str := nn z_str
  have m_int := nn z_int
  have m_bool := nn z_bool
  have m_tuple := nn z_tuple
  have m_len := nn z_len
  have m_all := nn z_all
  have m_set := nn z_set
  have m_sorted := nn z_sorted
  have m_range := nn z_range
  have m_repr := nn z_repr
  have m_enumerate := nn z_enumerate
  have m_list := nn z_list
  have m_zip := nn z_zip
  have m_min := nn z_min
  have m_sum := nn z_sum
  have g : Gs mg := ⟨m_isinstance, m_str, m_int, m_bool, m_tuple, m_len, m_all, m_set, m_sorted, m_range, m_repr, m_enumerate, m_list, ⟨t1, PySem.W.mg_of X G v_MOST_STATES⟩, ⟨t2, PySem.W.mg_of X G v_MOST_EVENTS⟩, ⟨t3, PySem.W.mg_of X G v_MOST_LETTERS⟩, ⟨t4, PySem.W.mg_of X G v_LETTERS⟩⟩
  have cl : Cls K C := ⟨clpg, clhd, clpo, clsa⟩
  have M : Mk K C fi := ⟨mk1, mk2, mk3, mk4⟩
  have FM := fun_mk (st := sMoves) l_M e_M k_M
  have bM := FM.binds (ps := ["states"]) fun _ _ _ _ _ _ us hl => match us, hl with | [_], _ => rfl
  have mM := PySem.W.mg_of X G a_M
  have FW := fun_mk (st := sWord) l_W e_W k_W
  have bW := FW.binds (ps := ["thing"]) fun _ _ _ _ _ _ us hl => match us, hl with | [_], _ => rfl
  have mW := PySem.W.mg_of X G a_W
  have FB := fun_mk (st := sNumber) l_B e_B k_B
  have bB := FB.binds (ps := ["thing"]) fun _ _ _ _ _ _ us hl => match us, hl with | [_], _ => rfl
  have mB := PySem.W.mg_of X G a_B
  have FS := fun_mk (st := sStates) l_S e_S k_S
  have bS := FS.binds (ps := ["thing"]) fun _ _ _ _ _ _ us hl => match us, hl with | [_], _ => rfl
  have mS := PySem.W.mg_of X G a_S
  have FA := fun_mk (st := sState) l_A e_A k_A
  have bA := FA.binds (ps := ["thing", "many"]) fun _ _ _ _ _ _ us hl => match us, hl with | [_, _], _ => rfl
  have mA := PySem.W.mg_of X G a_A
  have FE := fun_mk (st := sStep) l_E e_E k_E
  have bE := FE.binds (ps := ["thing", "many"]) fun _ _ _ _ _ _ us hl => match us, hl with | [_, _], _ => rfl
  have mE := PySem.W.mg_of X G a_E
  have Fe1 := fun_mk (st := sEo) l_e1 e_e1 k_e1
  have be1 := Fe1.binds (ps := ["system"]) fun _ _ _ _ _ _ us hl => match us, hl with | [_], _ => rfl
  have me1 := PySem.W.mg_of X G a_e1
  have Fe2 := fun_mk (st := sIa) l_e2 e_e2 k_e2
  have be2 := Fe2.binds (ps := ["events", "place", "operation", "answer"]) fun _ _ _ _ _ _ us hl => match us, hl with | [_, _, _, _], _ => rfl
  have me2 := PySem.W.mg_of X G a_e2
  have Fa1 := fun_mk (st := sAsc) l_a1 e_a1 k_a1
  have ba1 := Fa1.binds (ps := ["parts"]) fun _ _ _ _ _ _ us hl => match us, hl with | [_], _ => rfl
  have ma1 := PySem.W.mg_of X G a_a1
  have Fa2 := fun_mk (st := sNums) l_a2 e_a2 k_a2
  have ba2 := Fa2.binds (ps := ["thing"]) fun _ _ _ _ _ _ us hl => match us, hl with | [_], _ => rfl
  have ma2 := PySem.W.mg_of X G a_a2
  have Fa3 := fun_mk (st := sSt) l_a3 e_a3 k_a3
  have ba3 := Fa3.binds (ps := ["kind", "thing"]) fun _ _ _ _ _ _ us hl => match us, hl with | [_, _], _ => rfl
  have ma3 := PySem.W.mg_of X G a_a3
  have Fa4 := fun_mk (st := sStart) l_a4 e_a4 k_a4
  have ba4 := Fa4.binds (ps := ["system", "thing"]) fun _ _ _ _ _ _ us hl => match us, hl with | [_, _], _ => rfl
  have ma4 := PySem.W.mg_of X G a_a4
  have Fa5 := fun_mk (st := sRow) l_a5 e_a5 k_a5
  have ba5 := Fa5.binds (ps := ["events", "thing"]) fun _ _ _ _ _ _ us hl => match us, hl with | [_, _], _ => rfl
  have ma5 := PySem.W.mg_of X G a_a5
  have Fa6 := fun_mk (st := sPart) l_a6 e_a6 k_a6
  have ba6 := Fa6.binds (ps := ["events", "thing"]) fun _ _ _ _ _ _ us hl => match us, hl with | [_, _], _ => rfl
  have ma6 := PySem.W.mg_of X G a_a6
  have Fa7 := fun_mk (st := sIsLog) l_a7 e_a7 k_a7
  have ba7 := Fa7.binds (ps := ["system", "thing"]) fun _ _ _ _ _ _ us hl => match us, hl with | [_, _], _ => rfl
  have ma7 := PySem.W.mg_of X G a_a7
  have Fa8 := fun_mk (st := sStarts) l_a8 e_a8 k_a8
  have ba8 := Fa8.binds (ps := ["system", "thing"]) fun _ _ _ _ _ _ us hl => match us, hl with | [_, _], _ => rfl
  have ma8 := PySem.W.mg_of X G a_a8
  have Fa9 := fun_mk (st := sEnts) l_a9 e_a9 k_a9
  have ba9 := Fa9.binds (ps := ["events", "thing"]) fun _ _ _ _ _ _ us hl => match us, hl with | [_, _], _ => rfl
  have ma9 := PySem.W.mg_of X G a_a9
  have Fd1 := fun_mk (st := sEnt) l_d1 e_d1 k_d1
  have bd1 := Fd1.binds (ps := ["events", "thing"]) fun _ _ _ _ _ _ us hl => match us, hl with | [_, _], _ => rfl
  have md1 := PySem.W.mg_of X G a_d1
  have Fd2 := fun_mk (st := sClosed) l_d2 e_d2 k_d2
  have bd2 := Fd2.binds (ps := ["entries"]) fun _ _ _ _ _ _ us hl => match us, hl with | [_], _ => rfl
  have md2 := PySem.W.mg_of X G a_d2
  have FF := fun_mk (st := sFeed) l_F e_F k_F
  have bF := FF.binds (ps := ["_law_script"]) fun _ _ _ _ _ _ us hl => match us, hl with | [_], _ => rfl
  have mF := PySem.W.mg_of X G a_F
  have FD := fun_mk (st := sDigit) l_D e_D k_D
  have bD := FD.binds (ps := ["_law_deck_here", "_law_count"]) fun _ _ _ _ _ _ us hl => match us, hl with | [_, _], _ => rfl
  have mD := PySem.W.mg_of X G a_D
  have FK := fun_mk (st := sPick) l_K e_K k_K
  have bK := FK.binds (ps := ["_law_deck_here", "_law_some"]) fun _ _ _ _ _ _ us hl => match us, hl with | [_, _], _ => rfl
  have mK := PySem.W.mg_of X G a_K
  have Fb1 := fun_mk (st := sLStates) l_b1 e_b1 k_b1
  have bb1 := Fb1.binds (ps := ["_law_deck_here"]) fun _ _ _ _ _ _ us hl => match us, hl with | [_], _ => rfl
  have mb1 := PySem.W.mg_of X G a_b1
  have Fb2 := fun_mk (st := sSystem) l_b2 e_b2 k_b2
  have bb2 := Fb2.binds (ps := ["_law_deck_here"]) fun _ _ _ _ _ _ us hl => match us, hl with | [_], _ => rfl
  have mb2 := PySem.W.mg_of X G a_b2
  have Fb3 := fun_mk (st := sLEvents) l_b3 e_b3 k_b3
  have bb3 := Fb3.binds (ps := ["_law_states_here"]) fun _ _ _ _ _ _ us hl => match us, hl with | [_], _ => rfl
  have mb3 := PySem.W.mg_of X G a_b3
  have Fb4 := fun_mk (st := sDid) l_b4 e_b4 k_b4
  have bb4 := Fb4.binds (ps := ["_law_deck_here", "_law_machines"]) fun _ _ _ _ _ _ us hl => match us, hl with | [_, _], _ => rfl
  have mb4 := PySem.W.mg_of X G a_b4
  have Fb5 := fun_mk (st := sLStarts) l_b5 e_b5 k_b5
  have bb5 := Fb5.binds (ps := ["_law_deck_here", "_law_machines"]) fun _ _ _ _ _ _ us hl => match us, hl with | [_, _], _ => rfl
  have mb5 := PySem.W.mg_of X G a_b5
  have Fb0 := fun_mk (st := sLogD) l_b0 e_b0 k_b0
  have bb0 := Fb0.binds (ps := ["_law_deck_here", "_law_machines", "_law_many"]) fun _ _ _ _ _ _ us hl => match us, hl with | [_, _, _], _ => rfl
  have mb0 := PySem.W.mg_of X G a_b0
  have Fb6 := fun_mk (st := sOdd) l_b6 e_b6 k_b6
  have bb6 := Fb6.binds (ps := ["_law_deck_here"]) fun _ _ _ _ _ _ us hl => match us, hl with | [_], _ => rfl
  have mb6 := PySem.W.mg_of X G a_b6
  have Fb7 := fun_mk (st := sBent) l_b7 e_b7 k_b7
  have bb7 := Fb7.binds (ps := ["_law_deck_here", "_law_value"]) fun _ _ _ _ _ _ us hl => match us, hl with | [_, _], _ => rfl
  have mb7 := PySem.W.mg_of X G a_b7
  have Fb8 := fun_mk (st := sNum) l_b8 e_b8 k_b8
  have bb8 := Fb8.binds (ps := ["_law_value"]) fun _ _ _ _ _ _ us hl => match us, hl with | [_], _ => rfl
  have mb8 := PySem.W.mg_of X G a_b8
  have Fb9 := fun_mk (st := sLe) l_b9 e_b9 k_b9
  have bb9 := Fb9.binds (ps := ["_law_machines", "_law_value"]) fun _ _ _ _ _ _ us hl => match us, hl with | [_, _], _ => rfl
  have mb9 := PySem.W.mg_of X G a_b9
  have Fc1 := fun_mk (st := sRis) l_c1 e_c1 k_c1
  have bc1 := Fc1.binds (ps := ["_law_value"]) fun _ _ _ _ _ _ us hl => match us, hl with | [_], _ => rfl
  have mc1 := PySem.W.mg_of X G a_c1
  have Fc2 := fun_mk (st := sLSt) l_c2 e_c2 k_c2
  have bc2 := Fc2.binds (ps := ["_law_machines", "_law_value"]) fun _ _ _ _ _ _ us hl => match us, hl with | [_, _], _ => rfl
  have mc2 := PySem.W.mg_of X G a_c2
  have Fc3 := fun_mk (st := sLRow) l_c3 e_c3 k_c3
  have bc3 := Fc3.binds (ps := ["_law_machines", "_law_value"]) fun _ _ _ _ _ _ us hl => match us, hl with | [_, _], _ => rfl
  have mc3 := PySem.W.mg_of X G a_c3
  have Fc4 := fun_mk (st := sLEnt) l_c4 e_c4 k_c4
  have bc4 := Fc4.binds (ps := ["_law_machines", "_law_value", "_law_before", "_law_last"]) fun _ _ _ _ _ _ us hl => match us, hl with | [_, _, _, _], _ => rfl
  have mc4 := PySem.W.mg_of X G a_c4
  have Fc5 := fun_mk (st := sLLog) l_c5 e_c5 k_c5
  have bc5 := Fc5.binds (ps := ["_law_machines", "_law_value"]) fun _ _ _ _ _ _ us hl => match us, hl with | [_, _], _ => rfl
  have mc5 := PySem.W.mg_of X G a_c5
  have Fc6 := fun_mk (st := sRight) l_c6 e_c6 k_c6
  have bc6 := Fc6.binds (ps := ["_law_deck_here", "_law_objects"]) fun _ _ _ _ _ _ us hl => match us, hl with | [_, _], _ => rfl
  have mc6 := PySem.W.mg_of X G a_c6
  have FL := fun_mk (st := sLaw) l_L e_L k_L
  have Fi := fun_mk (st := sInit) l_i e_i k_i
  have Fo := fun_mk (st := sOf) l_o e_o k_o
  have bo := Fo.binds (ps := ["cls", "states"]) fun _ _ _ _ _ _ us hl => match us, hl with | [_, _], _ => rfl
  have Fv := fun_mk (st := sKev) l_v e_v k_v
  have bv := Fv.binds (ps := ["self"]) fun _ _ _ _ _ _ us hl => match us, hl with | [_], _ => rfl
  have Fn := fun_mk (st := sKlen) l_n e_n k_n
  have bn := Fn.binds (ps := ["self"]) fun _ _ _ _ _ _ us hl => match us, hl with | [_], _ => rfl
  have kbI : KBinds K (PySem.W.fnOf "is_log" "is_log" (defArgs sIsLog) (defBody sIsLog) (defScope sIsLog) .none kV_a7 doc_a7 pm_a7 an_a7 cd_a7 ct_a7) ["system", "thing"] ["thing", "system"] kgl kgl := by
    refine ⟨fun s us ws _ hl => ?_, fun r z => kgl_rel r z⟩
    match us, ws, hl with
    | [], [a, b], _ => exact .of_eq rfl
  refine ⟨PySem.W.fnOf "law" "law" (defArgs sLaw) (defBody sLaw) (defScope sLaw) .none kV_L doc_L pm_L an_L cd_L ct_L, fun s v => .of_eq rfl, fun base _ _ => ?_⟩
  have oF := ok_feed (P := P) (w := w) (mg := mg) (base := base) FF m_list
  have oD := ok_digit (P := P) (w := w) (mg := mg) (base := base) FD
  have oW := ok_word (P := P) (w := w) (mg := mg) (base := base) FW g
  have oB := ok_number (P := P) (w := w) (mg := mg) (base := base) FB g
  have oN := ok_num (P := P) (w := w) (mg := mg) (base := base) FB g
  have oE := ok_step (P := P) (w := w) (mg := mg) (base := base) FE g oW mW k_W bW oB mB k_B bB
  have oA := ok_state (P := P) (w := w) (mg := mg) (base := base) FA g oE mE k_E bE
  have oS := ok_states (P := P) (w := w) (mg := mg) (base := base) FS g oA mA k_A bA
  have oM := ok_moves (P := P) (w := w) (mg := mg) (base := base) FM
  have oi := ok_init (P := P) (w := w) (mg := mg) (base := base) Fi cl n1 n2 oS mS k_S bS oM mM k_M bM
  have oo := ok_of (P := P) (w := w) (mg := mg) (base := base) Fo g M oi
  have ov := ok_kev (P := P) (w := w) (mg := mg) (base := base) Fv cl n1 m_tuple m_sorted
  have oe1 := ok_eo (P := P) (w := w) (mg := mg) (base := base) Fe1 cl ⟨ptx, gtx, ttx, ⟨rest3, rtx⟩⟩ ov bv
  have oe2 := ok_ans (P := P) (w := w) (mg := mg) (base := base) Fe2 m_len m_isinstance m_str oN mB k_B bB
  have on := ok_klen (P := P) (w := w) (mg := mg) (base := base) Fn cl n1 m_len
  have oa1 := ok_asc (P := P) (w := w) (mg := mg) (base := base) Fa1 m_all m_zip
  have oa2 := ok_nums (P := P) (w := w) (mg := mg) (base := base) Fa2 m_isinstance m_tuple m_all oN mB k_B bB oa1 ma1 k_a1 ba1
  have oa3 := ok_st (P := P) (w := w) (mg := mg) (base := base) Fa3 m_len oN mB k_B bB ln1 ln2 (fnR_of on bn)
  have oa4 := ok_start (P := P) (w := w) (mg := mg) (base := base) Fa4 m_isinstance m_tuple m_all m_zip m_len oa3 ma3 k_a3 ba3
  have oa8 := ok_starts (P := P) (w := w) (mg := mg) (base := base) Fa8 m_isinstance m_tuple m_all oa4 ma4 k_a4 ba4 oa1 ma1 k_a1 ba1
  have oa6 := ok_part (P := P) (w := w) (mg := mg) (base := base) Fa6 m_isinstance m_tuple m_len oe2 me2 k_e2 be2
  have oa5 := ok_row (P := P) (w := w) (mg := mg) (base := base) Fa5 m_isinstance m_tuple m_all oa6 ma6 k_a6 ba6
  have od1 := ok_ent (P := P) (w := w) (mg := mg) (base := base) Fd1 m_isinstance m_tuple m_len m_bool oN mB k_B bB oa2 ma2 k_a2 ba2 oa5 ma5 k_a5 ba5
  have od2 := ok_closed (P := P) (w := w) (mg := mg) (base := base) Fd2 m_all m_sum m_len
  have oa9 := ok_ents (P := P) (w := w) (mg := mg) (base := base) Fa9 m_isinstance m_tuple m_all od1 md1 k_d1 bd1 oa2 ma2 k_a2 ba2 od2 md2 k_d2 bd2
  have oa7 := ok_islog (P := P) (w := w) (mg := mg) (base := base) Fa7 m_isinstance m_tuple m_len oa8 ma8 k_a8 ba8 oa9 ma9 k_a9 ba9 oe1 me1 k_e1 be1
  have oK := ok_pick (P := P) (w := w) (mg := mg) (base := base) FK m_len oD mD k_D bD
  have oKT := ok_pickT (P := P) (w := w) (mg := mg) (base := base) FK m_len oD mD k_D bD
  have ob1 := ok_lstates (P := P) (w := w) (mg := mg) (base := base) Fb1 m_tuple m_int m_range oK mK k_K bK oD mD k_D bD
  have ob2 := ok_system (P := P) (w := w) (mg := mg) (base := base) Fb2 m_range ob1 mb1 k_b1 bb1 oD mD k_D bD
  have ob3 := ok_levents (P := P) (w := w) (mg := mg) (base := base) Fb3 m_set m_sorted
  have ob4 := ok_did (P := P) (w := w) (mg := mg) (base := base) Fb4 m_len ob3 mb3 k_b3 bb3 oK mK k_K bK oD mD k_D bD
  have ob5 := ok_lstarts (P := P) (w := w) (mg := mg) (base := base) Fb5 m_tuple m_set m_sorted m_len m_range oD mD k_D bD
  have ob0 := ok_logd (P := P) (w := w) (mg := mg) (base := base) Fb0 m_tuple m_set m_sorted m_list m_range m_int oD mD k_D bD oK mK k_K bK ob4 mb4 k_b4 bb4 ob5 mb5 k_b5 bb5
  have ob6 := ok_odd (P := P) (w := w) (mg := mg) (base := base) Fb6 oK mK k_K bK
  have ob7 := ok_bent (P := P) (w := w) (mg := mg) (base := base) Fb7 m_len m_isinstance m_tuple m_int m_list m_zip m_min oD mD k_D bD ob6 mb6 k_b6 bb6 oKT mK k_K bK
  have ob8 := ok_lnum (P := P) (w := w) (mg := mg) (base := base) Fb8 m_isinstance m_int m_bool
  have ob9 := ok_le (P := P) (w := w) (mg := mg) (base := base) Fb9 m_len m_isinstance m_str ob8 mb8 k_b8 bb8 ob3 mb3 k_b3 bb3
  have oc1 := ok_ris (P := P) (w := w) (mg := mg) (base := base) Fc1 m_isinstance m_tuple m_list m_set m_sorted ob8 mb8 k_b8 bb8
  have oc2 := ok_lst (P := P) (w := w) (mg := mg) (base := base) Fc2 m_isinstance m_tuple m_list m_set m_sorted m_len m_zip ob8 mb8 k_b8 bb8
  have oc3 := ok_lrow (P := P) (w := w) (mg := mg) (base := base) Fc3 m_isinstance m_tuple m_len ob9 mb9 k_b9 bb9
  have oc4 := ok_lent (P := P) (w := w) (mg := mg) (base := base) Fc4 m_isinstance m_tuple m_len ob8 mb8 k_b8 bb8 oc1 mc1 k_c1 bc1 oc3 mc3 k_c3 bc3
  have oc5 := ok_llog (P := P) (w := w) (mg := mg) (base := base) Fc5 m_isinstance m_tuple m_len oc2 mc2 k_c2 bc2 oc4 mc4 k_c4 bc4
  have T : KOf P w K mg base C := ⟨PySem.W.mg_of X G aC, ⟨.type "type", ⟨rd, ga⟩, p1, fo, _, ⟨m_of, ⟨rest1, r_of⟩, f_of⟩, oo, bo⟩⟩
  have oc6 := ok_right (P := P) (w := w) (mg := mg) (base := base) Fc6 T m_range m_tuple m_repr ob0 mb0 k_b0 bb0 oa7 ma7 k_a7 ba7 kbI ob7 mb7 k_b7 bb7 oc5 mc5 k_c5 bc5 oK mK k_K bK
  exact ok_law FL m_range oF mF k_F bF ob2 mb2 k_b2 bb2 oc6 mc6 k_c6 bc6
end My
-- ===== end =====
open PySem PySem.W PyProof.Rows
set_option maxRecDepth 100000
set_option maxHeartbeats 0
open_top head13 for PySem.Challenge.rw_mustwait_k13_logs_of_any_values
set_option maxRecDepth 100000 in
set_option maxHeartbeats 0 in
theorem PySem.Challenge.cw_mustwait_k13_logs_of_any_values_holds : PySem.Challenge.rw_mustwait_k13_logs_of_any_values.Holds :=
  head13 (by
  k_fill
  refine My.walk_ofG (l := PySem.Challenge.rw_mustwait_k13_logs_of_any_values) (n := 63) (k := 9) (x := "_law_script") (sp := My.spLaw) rfl (by decide) rfl ⟨rfl, by decide, by decide⟩ (fun w h Y => PySem.W.kIn_of Y) ?F (fun K H a ns hl hb _ hS => ⟨a, ns, rfl, hS, hl, hb, fun _ => rfl⟩)
  case F =>
    intro w mg fa h KX G hmg
    refine' My.all_mk KX G hmg ?aC ?clpg ?clhd ?clpo ?clsa ?n1 ?n2 ?rd ?ga ?m_of ?r_of ?f_of ?ptx ?gtx ?ttx ?rtx ?ln1 ?ln2 ?mk1 ?mk2 ?mk3 ?mk4 ?a_M ?l_M ?e_M ?k_M ?a_W ?l_W ?e_W ?k_W ?a_B ?l_B ?e_B ?k_B ?a_S ?l_S ?e_S ?k_S ?a_A ?l_A ?e_A ?k_A ?a_E ?l_E ?e_E ?k_E ?a_e1 ?l_e1 ?e_e1 ?k_e1 ?a_e2 ?l_e2 ?e_e2 ?k_e2 ?a_a1 ?l_a1 ?e_a1 ?k_a1 ?a_a2 ?l_a2 ?e_a2 ?k_a2 ?a_a3 ?l_a3 ?e_a3 ?k_a3 ?a_a4 ?l_a4 ?e_a4 ?k_a4 ?a_a5 ?l_a5 ?e_a5 ?k_a5 ?a_a6 ?l_a6 ?e_a6 ?k_a6 ?a_a7 ?l_a7 ?e_a7 ?k_a7 ?a_a8 ?l_a8 ?e_a8 ?k_a8 ?a_a9 ?l_a9 ?e_a9 ?k_a9 ?a_d1 ?l_d1 ?e_d1 ?k_d1 ?a_d2 ?l_d2 ?e_d2 ?k_d2 ?a_F ?l_F ?e_F ?k_F ?a_D ?l_D ?e_D ?k_D ?a_K ?l_K ?e_K ?k_K ?a_b1 ?l_b1 ?e_b1 ?k_b1 ?a_b2 ?l_b2 ?e_b2 ?k_b2 ?a_b3 ?l_b3 ?e_b3 ?k_b3 ?a_b4 ?l_b4 ?e_b4 ?k_b4 ?a_b5 ?l_b5 ?e_b5 ?k_b5 ?a_b0 ?l_b0 ?e_b0 ?k_b0 ?a_b6 ?l_b6 ?e_b6 ?k_b6 ?a_b7 ?l_b7 ?e_b7 ?k_b7 ?a_b8 ?l_b8 ?e_b8 ?k_b8 ?a_b9 ?l_b9 ?e_b9 ?k_b9 ?a_c1 ?l_c1 ?e_c1 ?k_c1 ?a_c2 ?l_c2 ?e_c2 ?k_c2 ?a_c3 ?l_c3 ?e_c3 ?k_c3 ?a_c4 ?l_c4 ?e_c4 ?k_c4 ?a_c5 ?l_c5 ?e_c5 ?k_c5 ?a_c6 ?l_c6 ?e_c6 ?k_c6 ?a_L ?l_L ?e_L ?k_L ?l_i ?e_i ?k_i ?l_o ?e_o ?k_o ?l_v ?e_v ?k_v ?l_n ?e_n ?k_n ?z_isinstance ?z_str ?z_int ?z_bool ?z_tuple ?z_len ?z_all ?z_set ?z_sorted ?z_range ?z_repr ?z_enumerate ?z_list ?z_zip ?z_min ?z_sum ?v_MOST_STATES ?v_MOST_EVENTS ?v_MOST_LETTERS ?v_LETTERS
    (case aC => k_is)
    (case clpg => k_is)
    (case clhd => k_is)
    (case clpo => k_is)
    (case clsa => k_is)
    (case n1 => k_is)
    (case n2 => k_is)
    (case rd => k_is)
    (case ga => k_is)
    (case m_of => k_is)
    (case r_of => k_is)
    (case f_of => k_is)
    (case ptx => k_is)
    (case gtx => k_is)
    (case ttx => k_is)
    (case rtx => k_is)
    (case ln1 => k_is)
    (case ln2 => k_is)
    (case mk1 => k_is)
    (case mk2 => k_is)
    (case mk3 => k_is)
    (case mk4 => k_is)
    (case a_M => k_is)
    (case l_M => k_is)
    (case e_M => k_is)
    (case k_M => k_is)
    (case a_W => k_is)
    (case l_W => k_is)
    (case e_W => k_is)
    (case k_W => k_is)
    (case a_B => k_is)
    (case l_B => k_is)
    (case e_B => k_is)
    (case k_B => k_is)
    (case a_S => k_is)
    (case l_S => k_is)
    (case e_S => k_is)
    (case k_S => k_is)
    (case a_A => k_is)
    (case l_A => k_is)
    (case e_A => k_is)
    (case k_A => k_is)
    (case a_E => k_is)
    (case l_E => k_is)
    (case e_E => k_is)
    (case k_E => k_is)
    (case a_e1 => k_is)
    (case l_e1 => k_is)
    (case e_e1 => k_is)
    (case k_e1 => k_is)
    (case a_e2 => k_is)
    (case l_e2 => k_is)
    (case e_e2 => k_is)
    (case k_e2 => k_is)
    (case a_a1 => k_is)
    (case l_a1 => k_is)
    (case e_a1 => k_is)
    (case k_a1 => k_is)
    (case a_a2 => k_is)
    (case l_a2 => k_is)
    (case e_a2 => k_is)
    (case k_a2 => k_is)
    (case a_a3 => k_is)
    (case l_a3 => k_is)
    (case e_a3 => k_is)
    (case k_a3 => k_is)
    (case a_a4 => k_is)
    (case l_a4 => k_is)
    (case e_a4 => k_is)
    (case k_a4 => k_is)
    (case a_a5 => k_is)
    (case l_a5 => k_is)
    (case e_a5 => k_is)
    (case k_a5 => k_is)
    (case a_a6 => k_is)
    (case l_a6 => k_is)
    (case e_a6 => k_is)
    (case k_a6 => k_is)
    (case a_a7 => k_is)
    (case l_a7 => k_is)
    (case e_a7 => k_is)
    (case k_a7 => k_is)
    (case a_a8 => k_is)
    (case l_a8 => k_is)
    (case e_a8 => k_is)
    (case k_a8 => k_is)
    (case a_a9 => k_is)
    (case l_a9 => k_is)
    (case e_a9 => k_is)
    (case k_a9 => k_is)
    (case a_d1 => k_is)
    (case l_d1 => k_is)
    (case e_d1 => k_is)
    (case k_d1 => k_is)
    (case a_d2 => k_is)
    (case l_d2 => k_is)
    (case e_d2 => k_is)
    (case k_d2 => k_is)
    (case a_F => k_is)
    (case l_F => k_is)
    (case e_F => k_is)
    (case k_F => k_is)
    (case a_D => k_is)
    (case l_D => k_is)
    (case e_D => k_is)
    (case k_D => k_is)
    (case a_K => k_is)
    (case l_K => k_is)
    (case e_K => k_is)
    (case k_K => k_is)
    (case a_b1 => k_is)
    (case l_b1 => k_is)
    (case e_b1 => k_is)
    (case k_b1 => k_is)
    (case a_b2 => k_is)
    (case l_b2 => k_is)
    (case e_b2 => k_is)
    (case k_b2 => k_is)
    (case a_b3 => k_is)
    (case l_b3 => k_is)
    (case e_b3 => k_is)
    (case k_b3 => k_is)
    (case a_b4 => k_is)
    (case l_b4 => k_is)
    (case e_b4 => k_is)
    (case k_b4 => k_is)
    (case a_b5 => k_is)
    (case l_b5 => k_is)
    (case e_b5 => k_is)
    (case k_b5 => k_is)
    (case a_b0 => k_is)
    (case l_b0 => k_is)
    (case e_b0 => k_is)
    (case k_b0 => k_is)
    (case a_b6 => k_is)
    (case l_b6 => k_is)
    (case e_b6 => k_is)
    (case k_b6 => k_is)
    (case a_b7 => k_is)
    (case l_b7 => k_is)
    (case e_b7 => k_is)
    (case k_b7 => k_is)
    (case a_b8 => k_is)
    (case l_b8 => k_is)
    (case e_b8 => k_is)
    (case k_b8 => k_is)
    (case a_b9 => k_is)
    (case l_b9 => k_is)
    (case e_b9 => k_is)
    (case k_b9 => k_is)
    (case a_c1 => k_is)
    (case l_c1 => k_is)
    (case e_c1 => k_is)
    (case k_c1 => k_is)
    (case a_c2 => k_is)
    (case l_c2 => k_is)
    (case e_c2 => k_is)
    (case k_c2 => k_is)
    (case a_c3 => k_is)
    (case l_c3 => k_is)
    (case e_c3 => k_is)
    (case k_c3 => k_is)
    (case a_c4 => k_is)
    (case l_c4 => k_is)
    (case e_c4 => k_is)
    (case k_c4 => k_is)
    (case a_c5 => k_is)
    (case l_c5 => k_is)
    (case e_c5 => k_is)
    (case k_c5 => k_is)
    (case a_c6 => k_is)
    (case l_c6 => k_is)
    (case e_c6 => k_is)
    (case k_c6 => k_is)
    (case a_L => k_is)
    (case l_L => k_is)
    (case e_L => k_is)
    (case k_L => k_is)
    (case l_i => k_is)
    (case e_i => k_is)
    (case k_i => k_is)
    (case l_o => k_is)
    (case e_o => k_is)
    (case k_o => k_is)
    (case l_v => k_is)
    (case e_v => k_is)
    (case k_v => k_is)
    (case l_n => k_is)
    (case e_n => k_is)
    (case k_n => k_is)
    (case z_isinstance => k_is)
    (case z_str => k_is)
    (case z_int => k_is)
    (case z_bool => k_is)
    (case z_tuple => k_is)
    (case z_len => k_is)
    (case z_all => k_is)
    (case z_set => k_is)
    (case z_sorted => k_is)
    (case z_range => k_is)
    (case z_repr => k_is)
    (case z_enumerate => k_is)
    (case z_list => k_is)
    (case z_zip => k_is)
    (case z_min => k_is)
    (case z_sum => k_is)
    (case v_MOST_STATES => k_is)
    (case v_MOST_EVENTS => k_is)
    (case v_MOST_LETTERS => k_is)
    (case v_LETTERS => k_is))
#print axioms PySem.Challenge.cw_mustwait_k13_logs_of_any_values_holds
