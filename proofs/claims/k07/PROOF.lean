import PyProof.Rows.All
import Wide.All
import OpenK.AllK
import Wide.FinOn
import HandS.ForMost
import HandS.Wide
import HandS.Style
import HandS.EndBits
import HandS.Conv
import PyProof.ReprLen
import PyProof.ReprReads
import PyProof.ReprRoads
import HandS.TupSets
import KE.KDictKeyed
import HandS.Strs
import KE.SortData
import KE.LtData
import HandS.Comp
import HandS.SetBool
import HandS.DictComp
import HandS.IsInst
import HandS.FStr
import HandS.Star
import HandS.ClsMeth
import HandS.Property
import HandS.Iter
import KE.GoesMore
import KE.GoesEnum
import HandS.SlotsOwn
import HandS.OwnEq
import PyProof.InstNe
import HandS.More
import HandS.Text
import HandS.Walk
import HandS.WordsExc
import HandS.HotCalls
import KE.KDictWalk
import KE.KDictCopyH
import HandS.ListItems
import KE.KDictDisplayH
import HandS.Dict
import KE.KeyNested
import PyProof.Rows.TupTab
import PyProof.DictMoreH
import HandS.TupLen
import HandS.Deep
import PyProof.TupleOfSeq
import PyProof.P3In
import PyProof.Rows.TupAdd
import HandS.Flow
import HandS.Lambda
import HandS.Nested
import HandS.SortKw
import KE.DataMinKey
import KE.DataMinMax
import PyProof.P3Eq
import PyProof.NeData
import HandS.DictEq
import KE.KDictZip
import PyProof.Rows.IntBool
import HandS.Evl
import HandS.EndTab
import HandS.Words
import PySem.Challenge.RW_mustwait_k07_differences
-- ===== K7A =====
set_option Elab.async false
set_option linter.all false
set_option maxRecDepth 100000
set_option maxHeartbeats 4000000
namespace My
open PySem L2
def top (i : Nat) : Stmt := PySem.Challenge.pw_mustwait_k07_differences.main.body.getD i (.Pass ⟨0, 0, 0, 0⟩)
abbrev sFeed : Stmt := top 28
abbrev sDigit : Stmt := top 29

/-- bits of the script's numbers -/
def Bits (ks : List Int) : Prop := ∀ k ∈ ks, Builtin.Int.intBits k ≤ 1048576
/-- a feed at p: its numbers at c, the mixed number, how many draws there were -/
structure FeedAt (H : Hp) (p c : Addr) (ks : List Int) (w n : Int) : Prop where
  ob : H p = some (.lst [.ref c, .int w, .int n])
  cs : H c = some (.lst (ks.map V.int))
  bits : Bits ks
  len : ks.length ≤ 62
  w0 : 0 ≤ w
  w1 : w < 2147483648
  n0 : 0 ≤ n
theorem FeedAt.ne {H : Hp} {p c : Addr} {ks : List Int} {w n : Int} (F : FeedAt H p c ks w n) : c ≠ p := by
  intro e
  have h1 := F.ob
  have h2 := F.cs
  rw [e, h1] at h2
  have h3 := HO.lst.inj (Option.some.inj h2)
  cases ks with
  | nil => cases h3
  | cons k r =>
    injection h3 with h4 _
    cases h4
/-- all that was tracked is as it was, but for these two -/
def Save (p c : Addr) (H H' : Hp) : Prop := ∀ b o, H b = some o → b ≠ p → b ≠ c → H' b = some o
theorem Save.refl (p c : Addr) (H : Hp) : Save p c H H := fun _ _ h _ _ => h
theorem Save.trans {p c : Addr} {H H1 H2 : Hp} (a : Save p c H H1) (b : Save p c H1 H2) : Save p c H H2 := fun x o h h1 h2 => b x o (a x o h h1 h2) h1 h2
theorem Save.of {p c : Addr} {H H1 : Hp} (a : Same H H1) : Save p c H H1 := fun x o h _ _ => a x o h

/-- _law_feed(script): a new feed -/
def spFeed (K : PySem.W.Frag) : Sp := fun vs H Q _ => ∃ (a : Addr) (ns : List Int), vs = [.ref a] ∧ SqL K H a (ns.map V.int) ∧ ns.length ≤ 63 ∧ Bits ns ∧
  ∀ (p c : Addr) (ks : List Int) (w : Int) (H' : Hp), Same H H' → H p = none → H c = none → FeedAt H' p c ks w 0 → Q (.ref p) H'
/-- _law_digit(feed, many): a number below many -/
def spDigit : Sp := fun vs H Q _ => ∃ (p c : Addr) (ks : List Int) (w n m : Int), vs = [.ref p, .int m] ∧ FeedAt H p c ks w n ∧ n < 1000000 ∧ 0 < m ∧ m < 1000000 ∧
  ∀ (i : Int) (ks' : List Int) (H' : Hp), 0 ≤ i → i < m → FeedAt H' p c ks' w (n + 1) → Save p c H H' → Q (.int i) H'

theorem cut62 (xs : List V) : cutV xs none (some (62 : Int)) = xs.take 62 := by
  unfold cutV HT.sIx
  simp [List.take_eq_take_min]
theorem lay_ints : ∀ ks : List Int, PyData.canLayAll0 (ks.map PyData.int) = true
  | [] => by simp only [List.map_nil, PyData.canLayAll0]
  | k :: r => by simp only [List.map_cons, PyData.canLayAll0, PyData.canLay0, lay_ints r, Bool.and_self]
theorem deep_ints : ∀ ks : List Int, PyData.depthAll (ks.map PyData.int) ≤ 1
  | [] => by simp only [List.map_nil, PyData.depthAll]; omega
  | k :: r => by
    have ih := deep_ints r
    simp only [List.map_cons, PyData.depthAll, PyData.depth]
    omega
theorem shaped_ints (ks : List Int) : SeqAt.shaped (.list (ks.map PyData.int)) = true := by
  have h := deep_ints ks
  unfold SeqAt.shaped
  rw [Bool.and_eq_true]
  refine ⟨by simp only [PyData.canLay0, lay_ints], decide_eq_true ?_⟩
  simp only [PyData.depth]
  omega
theorem dp_ints {K : PySem.W.Frag} {H : Hp} : ∀ ks : List Int, DpAll K H (ks.map V.int) (ks.map PyData.int)
  | [] => .nil
  | k :: r => .cons (.int k) (dp_ints r)
theorem some_ints : ∀ (ks : List Int) (z : Int), PyData.eqv (.list ((ks ++ [z]).map PyData.int)) (.list []) = false
  | [], z => by simp [PyData.eqv, PyData.eqvAll]
  | k :: r, z => by simp [PyData.eqv, PyData.eqvAll]
theorem bits_mono {i j : Int} (h0 : 0 ≤ i) (h : i ≤ j) : Builtin.Int.intBits i ≤ Builtin.Int.intBits j := by
  unfold Builtin.Int.intBits
  by_cases e : i = 0
  · subst e
    simp
  · have ej : ¬ j = 0 := by omega
    have e1 : (i == 0) = false := by simpa using e
    have e2 : (j == 0) = false := by simpa using ej
    rw [e1, e2]
    have h2 : i.natAbs ≤ j.natAbs := by omega
    have h3 : i.natAbs ≠ 0 := by omega
    have h4 : j.natAbs ≠ 0 := by omega
    have := (Nat.le_log2 h4).mpr (Nat.le_trans (Nat.log2_self_le h3) h2)
    simp
    exact this
section
variable {P : Program} {w : World} {K : PySem.W.Frag} {mg : Str → Option Value} {base : Heap}
theorem scF : FnScope ["_law_script", "_law_cells", "_law_whole", "_law_figure"] ["_law_script"] (defScope sFeed) := ⟨rfl, rfl, rfl, by decide +kernel, rfl, by decide +kernel, by decide +kernel⟩
theorem ok_feed {f : Addr} {fd : FuncData} (F : Fun K "_law_feed" "_law_feed" sFeed f fd) (mlist : mg "list" = none) : FnOk P w K mg base CX0 1 f fd ["_law_script"] (spFeed K) := by
  refine F.ok scF (fun vs H Q E h => ?_) (fun cdv A outer s H vs Q E hr h => ?_)
  · obtain ⟨a, ns, rfl, _⟩ := h
    rfl
  · obtain ⟨a, ns, rfl, hS, hlen, hbits, k⟩ := h
    refine ⟨_, pss_cons (ps_par (i := 1) (j := 2) rfl scF.nd rfl rfl (by decide) rfl rfl
        (pa_cons (pe_callTy call_list_of (by rfl) mlist (by decide +kernel) (pa_cons (pe_slice sl_list (pv 0) po_none (po_some pe_int)) pa_nil)) (pa_cons pe_int pa_nil)) (by rfl))
      (pss_cons (ps_for PassesOwn.never rfl (pi_list (pv 1)) (pg_name (i := 3) scF.nd rfl (Or.inl rfl))
        (pss_one (ps_set (i := 2) scF.nd rfl (Or.inl rfl)
          (pe_op op_mod (pe_op op_add (pe_op op_add (pe_op op_mul (pv 2) pe_int) (pe_op op_mod (pv 3) pe_int)) pe_int) pe_int))))
      (pss_one (ps_ret (pe_lst (pa_cons (pe_revL (pv 1)) (pa_cons (pv 2) (pa_cons pe_int pa_nil))))))), ?_⟩
    -- list(script[:62]), 40007
    refine ⟨_, rfl, 62, rfl, a, _, rfl, hS, fun q hq => ⟨q, _, rfl, .inl (SqL.of upd_same), fun l hl => ⟨_, _, rfl, ?_⟩⟩⟩
    have nlq : l ≠ q := fun e => by
      rw [e, upd_same] at hl
      cases hl
    have hl0 : H l = none := by
      rw [upd_ne nlq] at hl
      exact hl
    have s0 : Same H (upd (upd H q (.lst (cutV (ns.map V.int) none (some 62)))) l (.lst (cutV (ns.map V.int) none (some 62)))) := fun b o e => by
      rw [upd_ne (ne_of_none e hl0), upd_ne (ne_of_none e hq)]
      exact e
    have ecut : cutV (ns.map V.int) none (some 62) = (ns.take 62).map V.int := by rw [cut62, List.map_take]
    -- for figure in cells
    refine ⟨_, rfl, l, rfl, ⟨_, SqL.of upd_same⟩, for_list (K := K) (a := l) (xs := (ns.take 62).map V.int) (fun i σ H2 => ∃ (y : Int) (v : Option V), σ = [some (.ref a), some (.ref l), some (.int y), v] ∧ 0 ≤ y ∧ y < 2147483629 ∧ Same H H2 ∧ H2 l = some (.lst ((ns.take 62).map V.int)))
      ⟨40007, none, rfl, by decide, by decide, s0, by rw [upd_same, ecut]⟩ (fun i σ H2 _ ⟨_, _, _, _, _, _, e⟩ => SqL.of e) ?_ ?_⟩
    · rintro i x σ H2 hi ⟨y, v, rfl, y0, y1, s2, hc⟩
      obtain ⟨z, rfl⟩ : ∃ z, x = V.int z := by
        rw [List.getElem?_map] at hi
        cases e : (ns.take 62)[i]? with
        | none =>
          rw [e] at hi
          cases hi
        | some z =>
          rw [e] at hi
          exact ⟨z, (Option.some.inj hi).symm⟩
      refine ⟨_, rfl, _, _, rfl, rfl, .inl ⟨by omega, by omega⟩, _, rfl, _, _, rfl, rfl, (by show (0 : Int) < _; decide), _, _, rfl, rfl, _, _, rfl, rfl, _, _, rfl, rfl, (by show (0 : Int) < _; decide), ?_⟩
      exact ⟨_, _, rfl, Int.emod_nonneg _ (by decide), Int.emod_lt_of_pos _ (by decide), s2, hc⟩
    · rintro σ H2 ⟨y, v, rfl, y0, y1, s2, hc⟩
      refine ⟨_, rfl, l, _, rfl, SqL.of hc, fun c hcn => ⟨_, rfl, by show 3 ≤ sizeLine; decide, fun p hp => ?_⟩⟩
      have npc : p ≠ c := fun e => by
        rw [e, upd_same] at hp
        cases hp
      have hp0 : H2 p = none := by
        rw [upd_ne npc] at hp
        exact hp
      refine k p c (ns.take 62).reverse y _ (fun b o e => ?_) (s2.free hp0) (s2.free hcn) ⟨upd_same, ?_, ?_, ?_, y0, by omega, by decide⟩
      · rw [upd_ne (ne_of_none (s2 b o e) hp0), upd_ne (ne_of_none (s2 b o e) hcn)]
        exact s2 b o e
      · rw [upd_ne (Ne.symm npc), upd_same, List.map_reverse]
      · exact fun z hz => hbits z (List.mem_of_mem_take (List.mem_reverse.mp hz))
      · rw [List.length_reverse, List.length_take]
        omega
theorem scD : FnScope ["_law_feed_here", "_law_many", "_law_mix", "_law_figure"] ["_law_feed_here", "_law_many"] (defScope sDigit) := ⟨rfl, rfl, rfl, by decide +kernel, rfl, by decide +kernel, by decide +kernel⟩
theorem ok_digit {f : Addr} {fd : FuncData} (F : Fun K "_law_digit" "_law_digit" sDigit f fd) : FnOk P w K mg base CX0 1 f fd ["_law_feed_here", "_law_many"] spDigit := by
  refine F.ok scD (fun vs H Q E h => ?_) (fun cdv A outer s H vs Q E hr h => ?_)
  · obtain ⟨p, c, ks, y, n, m, rfl, _⟩ := h
    rfl
  · obtain ⟨p, c, ks, y, n, m, rfl, FA, hn, m0, m1, k⟩ := h
    have hu := hu_of hr
    have ncp := FA.ne
    have w0 := FA.w0
    have w1 := FA.w1
    have n0 := FA.n0
    refine ⟨_, pss_cons (ps_asg (pe_op op_add (pe_ix ix_list (pv 0) pe_int (fun _ _ => rfl)) pe_int) (pg_sub (pv 0) pe_int set_list))
      (pss_cons (ps_set (i := 2) scD.nd rfl (Or.inl rfl) (pe_op op_add (pe_ix ix_list (pv 0) pe_int (fun _ _ => rfl)) (pe_op op_mul (pe_op op_mul pe_int (pe_ix ix_list (pv 0) pe_int (fun _ _ => rfl))) (pe_ix ix_list (pv 0) pe_int (fun _ _ => rfl)))))
      (pss_cons (ps_if (pt_cmpR (op_neD hr.units) (pe_ix ix_list (pv 0) pe_int (fun _ _ => rfl)) (pe_lst pa_nil) (nomark _))
        (pss_cons (ps_set (i := 3) scD.nd rfl (Or.inl rfl) (pe_bm0 PySem.F.plainAttrs_list PySem.F.slot_list_pop PySem.F.type_list_pop mt_pop (pe_ix ix_list (pv 0) pe_int (fun _ _ => rfl))))
        (pss_cons (ps_if (pt_cmpR op_ge (pv 3) (pe_op op_pow pe_int pe_int) (nomark _))
          (pss_cons (ps_expr (pe_bm PySem.F.plainAttrs_list PySem.F.slot_list_append PySem.F.type_list_append mt_append (pe_ix ix_list (pv 0) pe_int (fun _ _ => rfl)) (pa_cons (pe_op op_fdivW (pv 3) (pv 1)) pa_nil)))
          (pss_one (ps_ret (pe_op op_mod (pv 3) (pv 1))))) pss_nil)
        (pss_one (ps_set (i := 2) scD.nd rfl (Or.inl rfl) (pe_op op_add (pv 2) (pv 3)))))) pss_nil)
      (pss_cons (ps_set (i := 2) scD.nd rfl (Or.inl rfl) (pe_op op_mod (pe_op op_mul (pe_op op_mod (pv 2) pe_int) pe_int) pe_int))
      (pss_cons (ps_set (i := 2) scD.nd rfl (Or.inl rfl) (pe_op op_mod (pe_op op_add (pe_op op_add (pe_op op_mul (pv 2) (pv 2)) (pe_op op_mul pe_int (pv 2))) pe_int) pe_int))
      (pss_one (ps_ret (pe_op op_mod (pe_op op_fdiv (pe_op op_mod (pe_op op_mul (pv 2) pe_int) pe_int) pe_int) (pv 1)))))))), ?_⟩
    -- feed[2] = feed[2] + 1
    refine ⟨_, rfl, p, _, 2, .int n, rfl, rfl, SqL.of FA.ob, rfl, _, _, rfl, rfl, _, rfl, p, _, _, 2, rfl, rfl, FA.ob, rfl, ?_⟩
    have hp1 : (upd H p (.lst ([V.ref c, .int y, .int n].set 2 (.int (n + 1))))) p = some (.lst [V.ref c, .int y, .int (n + 1)]) := upd_same
    have hc1 : (upd H p (.lst ([V.ref c, .int y, .int n].set 2 (.int (n + 1))))) c = some (.lst (ks.map V.int)) := by
      rw [upd_ne ncp]
      exact FA.cs
    have sv1 : Save p c H (upd H p (.lst ([V.ref c, .int y, .int n].set 2 (.int (n + 1))))) := fun b o e h1 _ => by
      rw [upd_ne h1]
      exact e
    generalize upd H p (.lst ([V.ref c, .int y, .int n].set 2 (.int (n + 1)))) = H1 at hp1 hc1 sv1 ⊢
    -- mix = feed[1] + 61843 * feed[2] * feed[2]
    refine ⟨_, rfl, p, _, 1, .int y, rfl, rfl, SqL.of hp1, rfl, _, rfl, p, _, 2, .int (n + 1), rfl, rfl, SqL.of hp1, rfl, _, _, rfl, rfl, .inl ⟨by decide, by decide⟩, _, rfl, p, _, 2, .int (n + 1), rfl, rfl, SqL.of hp1, rfl, _, _, rfl, rfl, .inl ⟨by omega, by omega⟩, _, _, rfl, rfl, ?_⟩
    generalize y + 61843 * (n + 1) * (n + 1) = mix
    -- if feed[0] != []
    refine ⟨_, rfl, p, _, 0, .ref c, rfl, rfl, SqL.of hp1, rfl, by show 0 ≤ sizeLine; decide, fun e he => ?_⟩
    refine ⟨.list (ks.map PyData.int), .list [], .lst (SqL.of (by rw [upd_ne (ne_of_none hc1 he)]; exact hc1)) (dp_ints ks), .lst (SqL.of upd_same) .nil, shaped_ints ks, by decide, _, rfl, ?_⟩
    have nce : c ≠ e := ne_of_none hc1 he
    have npe : p ≠ e := ne_of_none hp1 he
    have hp2 : (upd H1 e (.lst [])) p = some (.lst [V.ref c, .int y, .int (n + 1)]) := by
      rw [upd_ne npe]
      exact hp1
    have hc2 : (upd H1 e (.lst [])) c = some (.lst (ks.map V.int)) := by
      rw [upd_ne nce]
      exact hc1
    have sv2 : Save p c H (upd H1 e (.lst [])) := fun b o q h1 h2 => by
      have q1 := sv1 b o q h1 h2
      rw [upd_ne (ne_of_none q1 he)]
      exact q1
    generalize upd H1 e (.lst []) = H2 at hp2 hc2 sv2 ⊢
    have hbit := FA.bits
    have hlen := FA.len
    clear FA
    rcases List.eq_nil_or_concat ks with rfl | ⟨r, z, rfl⟩
    · have hb : (!PyData.eqv (.list (([] : List Int).map PyData.int)) (.list [])) = false := by decide
      rw [hb]
      refine iteF ?_
      refine ⟨_, rfl, _, _, rfl, rfl, (by show (0 : Int) < _; decide), _, _, rfl, rfl, .inl ⟨by omega, by omega⟩, _, _, rfl, rfl, (by show (0 : Int) < _; decide), ?_⟩
      have b0 := Int.emod_nonneg (mix % 2147483563 * 48271) (show (2147483647 : Int) ≠ 0 by decide)
      have b1 := Int.emod_lt_of_pos (mix % 2147483563 * 48271) (show (0 : Int) < 2147483647 by decide)
      generalize mix % 2147483563 * 48271 % 2147483647 = g at b0 b1 ⊢
      refine ⟨_, rfl, _, rfl, _, _, rfl, rfl, .inl ⟨by omega, by omega⟩, _, rfl, _, _, rfl, rfl, .inl ⟨by decide, by decide⟩, _, _, rfl, rfl, _, _, rfl, rfl, _, _, rfl, rfl, (by show (0 : Int) < _; decide), ?_⟩
      have d0 := Int.emod_nonneg (g * g + 39373 * g + 709) (show (2147483587 : Int) ≠ 0 by decide)
      have d1 := Int.emod_lt_of_pos (g * g + 39373 * g + 709) (show (0 : Int) < 2147483587 by decide)
      generalize (g * g + 39373 * g + 709) % 2147483587 = j at d0 d1 ⊢
      refine ⟨_, rfl, _, _, rfl, rfl, .inl ⟨by omega, by omega⟩, _, _, rfl, rfl, (by show (0 : Int) < _; decide), _, _, rfl, rfl, ⟨by decide, by decide⟩, _, rfl, _, _, rfl, rfl, m0, ?_⟩
      exact k _ [] H2 (Int.emod_nonneg _ (by omega)) (Int.emod_lt_of_pos _ m0) ⟨hp2, hc2, hbit, hlen, w0, w1, by omega⟩ sv2
    · rw [List.concat_eq_append] at hc2 hbit hlen ⊢
      have hb : (!PyData.eqv (.list ((r ++ [z]).map PyData.int)) (.list [])) = true := by rw [some_ints] <;> rfl
      rw [hb]
      refine iteT ?_
      rw [List.map_append] at hc2
      -- figure = feed[0].pop()
      have hc2' : H2 c = some (.lst (r.map V.int ++ [V.int z])) := hc2
      have hbr : Bits r := fun v hv => hbit v (List.mem_append_left _ hv)
      have hbz : Builtin.Int.intBits z ≤ 1048576 := hbit z (List.mem_append_right _ List.mem_cons_self)
      have hlr : r.length + 1 ≤ 62 := by
        rw [List.length_append] at hlen
        exact hlen
      refine ⟨_, rfl, p, _, 0, .ref c, rfl, rfl, SqL.of hp2, rfl, .inl ⟨rfl, _, SqL.of hc2'⟩, c, _, .int z, rfl, rfl, hc2', by simp, ?_⟩
      rw [List.dropLast_concat]
      have hp3 : (upd H2 c (.lst (r.map V.int))) p = some (.lst [V.ref c, .int y, .int (n + 1)]) := by
        rw [upd_ne (Ne.symm ncp)]
        exact hp2
      have hc3 : (upd H2 c (.lst (r.map V.int))) c = some (.lst (r.map V.int)) := upd_same
      have sv3 : Save p c H (upd H2 c (.lst (r.map V.int))) := fun b o q h1 h2 => by
        rw [upd_ne h2]
        exact sv2 b o q h1 h2
      generalize upd H2 c (.lst (r.map V.int)) = H3 at hp3 hc3 sv3 ⊢
      -- if figure >= 10 ** 18
      refine ⟨_, rfl, _, _, rfl, rfl, ⟨by decide, by decide, by decide⟩, _, _, rfl, rfl, _, rfl, ?_⟩
      by_cases big : (10 : Int) ^ ((18 : Int).toNat) ≤ z
      · rw [decide_eq_true big]
        refine iteT ?_
        have zb : (0 : Int) ≤ z := Int.le_trans (by decide) big
        -- feed[0].append(figure // many); return figure % many
        refine ⟨_, rfl, p, _, 0, .ref c, rfl, rfl, SqL.of hp3, rfl, .inl ⟨rfl, _, SqL.of hc3⟩, _, rfl, _, rfl, _, _, rfl, rfl, wide_div m0 (b := 30) (by omega) (by decide) (by decide), c, _, _, rfl, rfl, hc3, small1000 (by rw [List.length_map]; omega), ?_⟩
        refine ⟨_, rfl, _, rfl, _, _, rfl, rfl, m0, ?_⟩
        refine k _ (r ++ [z / m]) _ (Int.emod_nonneg _ (by omega)) (Int.emod_lt_of_pos _ m0) ⟨by rw [upd_ne (Ne.symm ncp)]; exact hp3, by rw [upd_same, List.map_append] <;> rfl, fun v hv => ?_, by rw [List.length_append]; exact hlr, w0, w1, by omega⟩ fun b o q h1 h2 => ?_
        · rcases List.mem_append.mp hv with hv | hv
          · exact hbr v hv
          · obtain rfl : v = z / m := by simpa using hv
            exact Nat.le_trans (bits_mono (Int.ediv_nonneg zb (by omega)) (Int.ediv_le_self _ zb)) hbz
        · rw [upd_ne h2]
          exact sv3 b o q h1 h2
      · rw [decide_eq_false big]
        refine iteF ?_
        refine ⟨_, rfl, _, rfl, _, _, rfl, rfl, ?_⟩
        refine ⟨_, rfl, _, _, rfl, rfl, (by show (0 : Int) < _; decide), _, _, rfl, rfl, .inl ⟨by omega, by omega⟩, _, _, rfl, rfl, (by show (0 : Int) < _; decide), ?_⟩
        have b0 := Int.emod_nonneg ((mix + z) % 2147483563 * 48271) (show (2147483647 : Int) ≠ 0 by decide)
        have b1 := Int.emod_lt_of_pos ((mix + z) % 2147483563 * 48271) (show (0 : Int) < 2147483647 by decide)
        generalize (mix + z) % 2147483563 * 48271 % 2147483647 = g at b0 b1 ⊢
        refine ⟨_, rfl, _, rfl, _, _, rfl, rfl, .inl ⟨by omega, by omega⟩, _, rfl, _, _, rfl, rfl, .inl ⟨by decide, by decide⟩, _, _, rfl, rfl, _, _, rfl, rfl, _, _, rfl, rfl, (by show (0 : Int) < _; decide), ?_⟩
        have d0 := Int.emod_nonneg (g * g + 39373 * g + 709) (show (2147483587 : Int) ≠ 0 by decide)
        have d1 := Int.emod_lt_of_pos (g * g + 39373 * g + 709) (show (0 : Int) < 2147483587 by decide)
        generalize (g * g + 39373 * g + 709) % 2147483587 = j at d0 d1 ⊢
        refine ⟨_, rfl, _, _, rfl, rfl, .inl ⟨by omega, by omega⟩, _, _, rfl, rfl, (by show (0 : Int) < _; decide), _, _, rfl, rfl, ⟨by decide, by decide⟩, _, rfl, _, _, rfl, rfl, m0, ?_⟩
        exact k _ r H3 (Int.emod_nonneg _ (by omega)) (Int.emod_lt_of_pos _ m0) ⟨hp3, hc3, hbr, by omega, w0, w1, by omega⟩ sv3
end
end My

-- ===== K7D =====
set_option Elab.async false
set_option linter.all false
set_option maxRecDepth 100000
set_option maxHeartbeats 4000000
namespace My
open PySem L2 PyProof.Rows PySem.Spec
/-! ### data, apart from two addresses -/
mutual
/-- v is the data d; F holds of where its objects stand -/
inductive Dq (F : Addr → Prop) (H : Hp) : V → PyData → Prop
  | non : Dq F H .non .none
  | bl (b : Bool) : Dq F H (.bl b) (.bool b)
  | int (i : Int) : Dq F H (.int i) (.int i)
  | str (x : Str) : Dq F H (.str x) (.str x)
  | lst {a : Addr} {xs : List V} {ds : List PyData} : sysModules < a → F a → H a = some (.lst xs) → DqAll F H xs ds → Dq F H (.ref a) (.list ds)
  | tup {a : Addr} {xs : List V} {ds : List PyData} : F a → H a = some (.tup xs) → DqAll F H xs ds → Dq F H (.ref a) (.tuple ds)
  | dct {a : Addr} {k : Str} {v : V} {d : PyData} : F a → H a = some (.dK [(Sum.inr k, v)]) → Dq F H v d → Dq F H (.ref a) (.dict [(.str k, d)])
inductive DqAll (F : Addr → Prop) (H : Hp) : List V → List PyData → Prop
  | nil : DqAll F H [] []
  | cons {v : V} {vs : List V} {d : PyData} {ds : List PyData} : Dq F H v d → DqAll F H vs ds → DqAll F H (v :: vs) (d :: ds)
end
mutual
/-- .. in another heap, where these objects stand, too; of less -/
theorem Dq.to {F F' : Addr → Prop} {H H' : Hp} (s : ∀ a o, F a → H a = some o → H' a = some o) (m : ∀ a, F a → F' a) : ∀ {v : V} {d : PyData}, Dq F H v d → Dq F' H' v d
  | _, _, .non => .non
  | _, _, .bl b => .bl b
  | _, _, .int i => .int i
  | _, _, .str x => .str x
  | _, _, .lst h1 h2 h4 h5 => .lst h1 (m _ h2) (s _ _ h2 h4) (DqAll.to s m h5)
  | _, _, .tup h2 h4 h5 => .tup (m _ h2) (s _ _ h2 h4) (DqAll.to s m h5)
  | _, _, .dct h2 h4 h5 => .dct (m _ h2) (s _ _ h2 h4) (Dq.to s m h5)
theorem DqAll.to {F F' : Addr → Prop} {H H' : Hp} (s : ∀ a o, F a → H a = some o → H' a = some o) (m : ∀ a, F a → F' a) : ∀ {vs : List V} {ds : List PyData}, DqAll F H vs ds → DqAll F' H' vs ds
  | _, _, .nil => .nil
  | _, _, .cons h1 h2 => .cons (Dq.to s m h1) (DqAll.to s m h2)
end
theorem DqAll.snoc {F : Addr → Prop} {H : Hp} {v : V} {d : PyData} (h : Dq F H v d) : ∀ {vs : List V} {ds : List PyData}, DqAll F H vs ds → DqAll F H (vs ++ [v]) (ds ++ [d])
  | _, _, .nil => .cons h .nil
  | _, _, .cons h1 h2 => .cons h1 (DqAll.snoc h h2)
section
variable {X : Cx} {pins : List (Addr × Obj)} {σ : L2.St} {H : Hp} {s : Shared} {F : Addr → Prop}
theorem modules_not {as bs : List Addr} (h1 : sysModules ∉ as) (h2 : sysModules ∉ bs) : sysModules ∉ as ++ bs := fun h => (List.mem_append.mp h).elim h1 h2
mutual
theorem Dq.reads (I : Inv X pins σ H s) : ∀ (d : PyData) (v : V) (u : Value), Dq F H v d → RelV v u → ∃ as, Reads s.heap u d as ∧ sysModules ∉ as
  | .none, _, _, h, r => by
    cases h
    cases r
    exact ⟨_, Reads.none, by simp⟩
  | .bool b, _, _, h, r => by
    cases h
    cases r
    exact ⟨_, Reads.bool b, by simp⟩
  | .int i, _, _, h, r => by
    cases h
    obtain ⟨t, rfl⟩ := r
    exact ⟨_, Reads.int i t, by simp⟩
  | .str x, _, _, h, r => by
    cases h
    obtain ⟨t, rfl⟩ := r
    exact ⟨_, Reads.str x t, by simp⟩
  | .list ds, _, _, h, r => by
    cases h with
    | lst big n1 ha hd =>
      rename_i a xs
      cases r
      obtain ⟨_, its, n, rv, ho⟩ := (show ObjOk X.prog X.w H s.heap a (.lst xs) from I.hok a _ ha)
      obtain ⟨as, hr, hn⟩ := DqAll.reads I ds _ its hd rv
      refine ⟨_, Reads.list ho rfl rfl (by simpa using hr), ?_⟩
      intro hm
      rcases List.mem_cons.mp hm with e | e
      · exact absurd big (by rw [← e]; exact Nat.lt_irrefl _)
      · exact hn e
  | .tuple ds, _, _, h, r => by
    cases h with
    | tup n1 ha hd =>
      rename_i a xs
      cases r
      obtain ⟨_, its, rv, o, ho, hc, n, hdt⟩ := (show ObjOk X.prog X.w H s.heap a (.tup xs) from I.hok a _ ha)
      obtain ⟨as, hr, hn⟩ := DqAll.reads I ds _ its hd rv
      exact ⟨_, Reads.tuple ho hc hdt (by simpa using hr), hn⟩
  | .dict [], _, _, h, _ => by cases h
  | .dict [(k, d)], _, _, h, r => by
    cases h with
    | dct n1 ha hd =>
      rename_i a k v
      cases r
      obtain ⟨_, low, vs, rel, o, es, ep, ho, hx, hdt, _, hp, _⟩ := (show ObjOk X.prog X.w H s.heap a (.dK [(Sum.inr k, v)]) from I.hok a _ ha)
      rcases vs with _ | ⟨⟨kk, u⟩, _ | ⟨_, _⟩⟩
      · cases rel
      · have r1 : (Sum.inr k = kk) ∧ RelV v u := by
          cases rel with
          | cons r1 rn => exact r1
        obtain ⟨e1, rv⟩ := r1
        subst e1
        generalize hl : es.toList = l at hp
        cases hp with
        | cons hk hv hrest =>
          cases hrest
          rename_i en
          obtain ⟨as, hr, hn⟩ := Dq.reads I d v u hd rv
          obtain ⟨t, hk'⟩ : ∃ t, en.key = Value.str k t := by
            have hk2 : keyIs (Sum.inr k) en.key = true := hk
            rcases keyIs_shape hk2 with ⟨i, t, q, _⟩ | ⟨y, t, q, z⟩
            · cases q
            · cases q
              exact ⟨t, z⟩
          refine ⟨_, Reads.dict (es := es) (as := []) (bs := as ++ []) ho hx.1 hdt ?_ ?_, ?_⟩
          · rw [hl]
            show ReadsAll s.heap [en.key] [PyData.str k] []
            rw [hk']
            exact .cons (as := []) (bs := []) (.str k t) .nil
          · rw [hl]
            show ReadsAll s.heap [en.val] [d] (as ++ [])
            rw [show en.val = u from hv]
            exact .cons hr .nil
          · intro hm
            have hm' : sysModules ∈ a :: (as ++ []) := by simpa using hm
            rcases List.mem_cons.mp hm' with e | e
            · rw [← e] at low
              exact absurd low (by simp)
            · exact hn (by simpa using e)
      · cases rel with
        | cons _ rn => cases rn
  | .dict (_ :: _ :: _), _, _, h, _ => by cases h
theorem DqAll.reads (I : Inv X pins σ H s) : ∀ (ds : List PyData) (vs : List V) (us : List Value), DqAll F H vs ds → Vals vs us → ∃ as, ReadsAll s.heap us ds as ∧ sysModules ∉ as
  | [], _, _, h, r => by
    cases h
    cases r
    exact ⟨_, ReadsAll.nil, by simp⟩
  | d :: ds, _, _, h, r => by
    cases h with
    | cons h1 h2 =>
      cases r with
      | cons r1 r2 =>
        obtain ⟨as, q1, n1⟩ := Dq.reads I d _ _ h1 r1
        obtain ⟨bs, q2, n2⟩ := DqAll.reads I ds _ _ h2 r2
        exact ⟨_, ReadsAll.cons q1 q2, modules_not n1 n2⟩
end
/-! ### repr of such data -/
def rReprD (F : Addr → Prop) : List V → Hp → VK → Prop := fun xs H Q => ∃ v d, xs = [v] ∧ Dq F H v d ∧ d.showable = true ∧ d.depth ≤ 60 ∧ d.shown.length ≤ sizeLine ∧ Q (.str d.shown) H
theorem call_reprD (hg : X.A.guards = some []) (hu : X.A.units + 64 < cLine) : CallR X (.builtin "repr") (rReprD F) := by
  intro pins s σ H xs us Q I r h
  obtain ⟨v, d, rfl, hd, hs, hdp, hz, q⟩ := h
  obtain ⟨u, rfl, rx⟩ := vals1 r
  obtain ⟨as, hr, hn⟩ := Dq.reads I d v u hd rx
  cases hd with
  | non =>
    cases (show u = Value.none from rx)
    exact P.repr_of_none ⟨.str _, H, I.tok _, ⟨_, rfl⟩, q⟩
  | bl b =>
    cases (show u = Value.bool b from rx)
    exact P.repr_of_bool ⟨.str _, H, I.tok _, ⟨_, rfl⟩, q⟩
  | int i =>
    obtain ⟨t, rfl⟩ := (show ∃ t, u = Value.int i t from rx)
    exact P.repr_of_int (by simpa [PyData.showable] using hs) ⟨.str _, H, I.tok _, ⟨_, rfl⟩, q⟩
  | str x =>
    obtain ⟨t, rfl⟩ := (show ∃ t, u = Value.str x t from rx)
    exact P.repr_of_str ⟨.str _, H, I.tok _, ⟨_, rfl⟩, q⟩ (by simpa only [PyData.shown] using hz)
  | lst _ _ _ _ =>
    cases rx
    exact repr_of_reads' hr hs (fun _ => hn) hg (by omega) (fun _ _ e => e) (fun h' t tk k => ⟨.str _, H, I.kept k, ⟨t, rfl⟩, q⟩) hz
  | tup _ _ _ =>
    cases rx
    exact repr_of_reads' hr hs (fun _ => hn) hg (by omega) (fun _ _ e => e) (fun h' t tk k => ⟨.str _, H, I.kept k, ⟨t, rfl⟩, q⟩) hz
  | dct _ _ _ =>
    cases rx
    exact repr_of_reads' hr hs (fun _ => hn) hg (by omega) (fun _ _ e => e) (fun h' t tk k => ⟨.str _, H, I.kept k, ⟨t, rfl⟩, q⟩) hz
end
end My

-- ===== KS1 =====
set_option Elab.async false
set_option linter.all false
set_option maxRecDepth 100000
set_option maxHeartbeats 1600000
/-! Sets whose members are objects told by a key (tuples of texts, nested tuples): search and add. -/
namespace Kd
open PySem PySem.Spec PyProof.Rows L2

section
variable {P : Program} {w : World} {K : Type} [DecidableEq K]
/-- keys that a set can have for members: nothing of the program is asked when they are compared -/
structure SetKind (knd : HeapKind P w K) : Prop where
  st : knd.Stays
  cls : ∀ {A : Around} {E : Value → Shared → Prop} {s : Shared} {k : K} {b : Addr} {Q : Bool → Shared → Prop}, knd.is s.heap k b → Q false s → wpAny (model P w) A (ofAClassStatement 8 (.ref b)) Q E s
  byv : ∀ {A : Around} {E : Value → Shared → Prop} {s : Shared} {k : K} {b : Addr} {Q : Bool → Shared → Prop}, knd.is s.heap k b → (∀ c, Q c s) → wpAny (model P w) A (hashByValue 8 (.ref b)) Q E s

def rowsH (knd : HeapKind P w K) (L : List (Addr × K)) : List (Int × Value) := L.map fun q => (knd.hash q.2, Value.ref q.1)
def hashH (knd : HeapKind P w K) (L : List (Addr × K)) : List Int := L.map fun q => knd.hash q.2
theorem rowsH_len (knd : HeapKind P w K) (L : List (Addr × K)) : (rowsH knd L).length = L.length := List.length_map ..
theorem hashH_len (knd : HeapKind P w K) (L : List (Addr × K)) : (hashH knd L).length = L.length := List.length_map ..
/-- at a the set with the members L: their addresses and keys, in the order of the table -/
structure SetH (knd : HeapKind P w K) (h : Heap) (a : Addr) (L : List (Addr × K)) (es : Array (Int × Value)) (ep : Nat) (t : SetTable) : Prop where
  ob : ∃ o, h.get? a = some o ∧ o.ExactSet ∧ o.data = .set es ep t
  rows : es.toList = rowsH knd L
  tab : TabOk t (hashH knd L)
  nd : (L.map Prod.snd).Nodup
  key : ∀ q ∈ L, knd.is h q.2 q.1
  led : w.params.followText "set-order" = true ∨ t.led = true
  room : L.length * 5 < t.mask * 3
  few : L.length < 64
end

section
variable {P : Program} {w : World} {K : Type} [DecidableEq K] {knd : HeapKind P w K} {A : Around} {E : Value → Shared → Prop} {s : Shared} {h : Heap} {a : Addr} {L : List (Addr × K)} {es : Array (Int × Value)} {ep : Nat} {t : SetTable}

theorem SetH.esz (Z : SetH knd h a L es ep t) : es.size = L.length := by
  have q := congrArg List.length Z.rows
  rwa [rowsH_len, Array.length_toList] at q
theorem SetH.psz (Z : SetH knd h a L es ep t) : t.place.size = L.length := by
  have q := Z.tab.sz
  rwa [hashH_len] at q
theorem SetH.fit (Z : SetH knd h a L es ep t) : t.fits es.size = true := by
  have q1 := Z.psz
  have q2 := Z.esz
  have q3 := Z.room
  unfold SetTable.fits SetTable.fill
  rw [Z.tab.dm, Bool.and_eq_true, beq_iff_eq, decide_eq_true_eq, q1, q2]
  refine ⟨rfl, ?_⟩
  show L.length + 0 ≤ t.mask
  omega
theorem SetH.at_ (Z : SetH knd h a L es ep t) {i : Nat} {q : Addr × K} (e : L[i]? = some q) : es[i]? = some (knd.hash q.2, Value.ref q.1) := by
  have z : es.toList[i]? = some (knd.hash q.2, Value.ref q.1) := by
    rw [Z.rows]
    show (L.map _)[i]? = _
    rw [List.getElem?_map, e]
    rfl
  rwa [Array.getElem?_toList] at z
theorem SetH.stands (Z : SetH knd h a L es ep t) : ¬ t.gaveWay = true := by
  unfold SetTable.gaveWay
  rw [mask_odd Z.tab.mok]
  decide
theorem nth_plain (m : Nat) : ∀ (n : Nat) (p : SetTable.Probe), p.dummy = none → (nth m p n).dummy = none
  | 0, _, e => e
  | n + 1, p, e => nth_plain m n (adv m p) (by unfold adv; split <;> exact e)

/-- comparing keys shows nothing -/
theorem unseen (S : SetKind knd) {k : K} {b : Addr} {Q : Bool → Shared → Prop} (hb : knd.is s.heap k b) {ys : List Value} (hy : ∀ y ∈ ys, ∃ k' c, y = Value.ref c ∧ knd.is s.heap k' c) (q : Q false s) :
    wpAny (model P w) A (searchCouldBeSeen (.ref b) ys) Q E s := by
  unfold searchCouldBeSeen
  refine wpAny_bind (wpAny_forIn_list _ (fun todo r s1 => r.1 = none ∧ s1 = s ∧ ∀ y ∈ todo, ∃ k' c, y = Value.ref c ∧ knd.is s.heap k' c) _ (fun y todo r s1 hI => ?_) (fun r s1 hI => ?_) _ _ ⟨rfl, rfl, hy⟩)
  · obtain ⟨e1, e2, e3⟩ := hI
    subst e2
    obtain ⟨k', c, e4, hc⟩ := e3 y List.mem_cons_self
    subst e4
    have more : ∀ y ∈ todo, ∃ k' c, y = Value.ref c ∧ knd.is s1.heap k' c := fun u hu => e3 u (List.mem_cons_of_mem _ hu)
    dsimp only
    by_cases same : (b == c || (carriedByValue (.ref b) && carriedByValue (.ref c))) = true
    · exact wp_if_pos same (wpAny_pure ⟨rfl, rfl, more⟩)
    · refine wp_if_neg same (wpAny_bind (knd.quiet hb ?_))
      simp only [Bool.not_true, Bool.false_eq_true, if_false]
      refine wpAny_bind (knd.quiet hc ?_)
      simp only [Bool.not_true, Bool.false_eq_true, if_false]
      refine wpAny_bind (S.cls hb ?_)
      simp only [Bool.false_eq_true, if_false]
      refine wpAny_bind (S.cls hc ?_)
      simp only [Bool.false_eq_true, if_false]
      exact wpAny_pure ⟨rfl, rfl, more⟩
  · obtain ⟨r1, r2⟩ := r
    obtain ⟨e1, e2, _⟩ := hI
    have e1 : r1 = none := e1
    subst e1
    subst e2
    exact wpAny_pure q

/-- the probe's state behind c steps -/
abbrev prob (t : SetTable) (g : Int) (c : Nat) : SetTable.Probe := nth t.mask (runAt t.mask (SetTable.bits g % (t.mask + 1)) (SetTable.bits g)) c

theorem seek (S : SetKind knd) (Z : SetH knd s.heap a L es ep t) {x : Addr} {k : K} (hx : knd.is s.heap k x) (hr : knd.room A) {K0 : Nat} (kf : K0 < 10 * SetTable.turns t.mask)
    (kout : way t.mask (knd.hash k) K0 ∉ t.place.toList) (kin : ∀ c, c < K0 → way t.mask (knd.hash k) c ∈ t.place.toList) {Q : SetFound → Shared → Prop}
    (yes : k ∈ L.map Prod.snd → Q (.there none) s) (no : k ∉ L.map Prod.snd → Q (.free (way t.mask (knd.hash k) K0) false) s) :
    ∀ (m f c : Nat) (stand : Option SetTable.Probe), K0 - c = m → m < f → c ≤ K0 → stand.getD (t.probeStart (knd.hash k)) = prob t (knd.hash k) c →
      (∀ (i : Nat) q, L[i]? = some q → q.2 = k → ∃ d, c ≤ d ∧ d < K0 ∧ t.place.toList[i]? = some (way t.mask (knd.hash k) d)) →
      wpAny (model P w) A (setSearchFrom a (.ref x) (knd.hash k) true f stand) Q E s := by
  intro m
  induction m using Nat.strongRecOn with
  | ind m ih =>
    intro f c stand em mf ck es0 left
    obtain ⟨f, rfl⟩ : ∃ f', f = f' + 1 := ⟨f - 1, by omega⟩
    obtain ⟨o, ho, hex, hdat⟩ := Z.ob
    rw [setSearchFrom_succ]
    refine wpAny_bind (wpAny_setState_of ho hdat Z.fit ?_)
    dsimp only
    refine wp_if_neg Z.stands ?_
    have step : ∀ d, nth t.mask (prob t (knd.hash k) c) d = prob t (knd.hash k) (c + d) := fun d => (nth_add t.mask c _ d).symm
    have stepj : ∀ d, (nth t.mask (prob t (knd.hash k) c) d).j = way t.mask (knd.hash k) (c + d) := fun d => by rw [step d]
    have hend : c + (K0 - c) = K0 := by omega
    have hat : ∀ (i : Nat) q, L[i]? = some q → (fun i => (es[i]?.map (·.1)).getD 0) i = knd.hash q.2 := fun i q e => by
      show (es[i]?.map (·.1)).getD 0 = _
      rw [Z.at_ e]
      rfl
    rcases go_spec t Z.tab.ris Z.tab.dm (fun i => (es[i]?.map (·.1)).getD 0) (knd.hash k) (10 * SetTable.turns t.mask) (K0 - c) (prob t (knd.hash k) c) (nth_plain _ _ _ rfl) (by omega)
        (fun d hd => by rw [stepj]; exact kin _ (by omega)) (by rw [stepj, hend]; exact kout) with ⟨d, i, d1, d2, d3, d4, d5⟩ | ⟨d1, d2⟩
    · rw [stepj] at d2
      rw [stepj, step] at d5
      have pr : t.probe (fun i => (es[i]?.map (·.1)).getD 0) (knd.hash k) (stand.getD (t.probeStart (knd.hash k))) = some (.candidate (way t.mask (knd.hash k) (c + d)) i (prob t (knd.hash k) (c + (d + 1)))) := by
        rw [es0]
        exact d5
      rw [pr]
      dsimp only
      have il : i < L.length := by
        have z := (List.getElem?_eq_some_iff.mp d2).1
        rw [Array.length_toList, Z.psz] at z
        exact z
      obtain ⟨q, eq⟩ : ∃ q, L[i]? = some q := ⟨_, List.getElem?_eq_getElem il⟩
      have qm : q ∈ L := List.mem_of_getElem? eq
      have go : wpAny (model P w) A (searchRest a (.ref x) (knd.hash k) true f es t (way t.mask (knd.hash k) (c + d)) i (prob t (knd.hash k) (c + (d + 1)))) Q E s := by
        unfold searchRest
        rw [Z.at_ eq]
        dsimp only
        refine wpAny_bind (wpAny_holding (knd.eqBool hr (Z.key q qm) hx ?_))
        refine wpAny_bind (wpAny_setState_of ho hdat Z.fit ?_)
        dsimp only
        have live : t.slot (way t.mask (knd.hash k) (c + d)) = .live i := slot_live Z.tab.ris d2
        by_cases ek : q.2 = k
        · exact wp_if_pos (by simp [ek]) (wpAny_pure (yes (List.mem_map.mpr ⟨q, qm, ek⟩)))
        · refine wp_if_neg (by simp [ek]) ?_
          rw [sameMem]
          dsimp only
          simp only [if_true, live, Z.at_ eq]
          refine wpAny_bind (wpAny_isSame_ref_self (wpAny_bind (wpAny_pure ?_)))
          simp only [if_true]
          refine wp_if_neg (by simp [ek]) (ih (K0 - (c + (d + 1))) (by omega) f (c + (d + 1)) _ rfl (by omega) (by omega) rfl fun i0 q0 e0 ek0 => ?_)
          obtain ⟨v, v1, v2, v3⟩ := left i0 q0 e0 ek0
          refine ⟨v, ?_, v2, v3⟩
          rcases Nat.lt_trichotomy v (c + d) with lt | e | gt
          · exact absurd ((hat i0 q0 e0).trans (congrArg knd.hash ek0)) (d4 (v - c) i0 (by omega) (by rw [stepj, show c + (v - c) = v by omega]; exact v3))
          · rw [e] at v3
            have live2 := slot_live Z.tab.ris v3
            rw [live] at live2
            cases live2
            rw [eq] at e0
            cases e0
            exact absurd ek0 ek
          · omega
      by_cases ld : t.led = true
      · exact wp_if_neg (by simp [ld]) go
      · refine wp_if_pos (by simp [ld]) (wpAny_bind (unseen S hx (fun y hy => ?_) (wp_if_neg (by decide) go)))
        obtain ⟨u, hu, rfl⟩ := List.mem_map.mp hy
        have hu1 : u ∈ es := by
          have z : u ∈ es ∧ u.1 = knd.hash k := by simpa using hu
          exact z.1
        have hu2 : u ∈ rowsH knd L := by
          rw [← Z.rows]
          simpa using hu1
        obtain ⟨q2, h2, rfl⟩ := List.mem_map.mp hu2
        exact ⟨q2.2, q2.1, rfl, Z.key q2 h2⟩
    · rw [stepj, hend] at d2
      have pr : t.probe (fun i => (es[i]?.map (·.1)).getD 0) (knd.hash k) (stand.getD (t.probeStart (knd.hash k))) = some (.empty (way t.mask (knd.hash k) K0) none) := by
        rw [es0]
        exact d2
      rw [pr]
      dsimp only
      refine wpAny_pure (no fun km => ?_)
      obtain ⟨q0, m0, ek0⟩ := List.mem_map.mp km
      obtain ⟨i0, l0, e0⟩ := List.getElem_of_mem m0
      have e1 : L[i0]? = some q0 := by rw [List.getElem?_eq_getElem l0, e0]
      obtain ⟨v, v1, v2, v3⟩ := left i0 q0 e1 ek0
      exact d1 (v - c) i0 (by omega) (by rw [stepj, show c + (v - c) = v by omega]; exact v3) ((hat i0 q0 e1).trans (congrArg knd.hash ek0))

/-- the search before an add -/
theorem find_at (S : SetKind knd) (Z : SetH knd s.heap a L es ep t) {x : Addr} {k : K} (hx : knd.is s.heap k x) (hr : knd.room A) {Q : SetFound → Shared → Prop} (yes : k ∈ L.map Prod.snd → Q (.there none) s)
    (no : ∀ c, k ∉ L.map Prod.snd → way t.mask (knd.hash k) c ∉ t.place.toList → (∀ d, d < c → way t.mask (knd.hash k) d ∈ t.place.toList) → Q (.free (way t.mask (knd.hash k) c) false) s) :
    wpAny (model P w) A (setSearch a (.ref x) (knd.hash k) true) Q E s := by
  have hroom := Z.room
  obtain ⟨c, c1, c2, c3⟩ := Z.tab.first (by rw [hashH_len]; omega) (knd.hash k)
  have small : c < 100000 := by
    have z : 10 * SetTable.turns t.mask ≤ 1420 := by
      unfold SetTable.turns
      rcases Z.tab.mok with e | e | e <;> omega
    omega
  refine seek S Z hx hr c1 c2 c3 yes (fun h => no c h c2 c3) c 100000 0 none (by omega) small (Nat.zero_le _) rfl fun i q e ek => ?_
  have hi : (hashH knd L)[i]? = some (knd.hash k) := by
    show (L.map _)[i]? = _
    rw [List.getElem?_map, e, ← ek]
    rfl
  have il : i < t.place.toList.length := by
    rw [Array.length_toList, Z.psz]
    exact (List.getElem?_eq_some_iff.mp e).1
  obtain ⟨d, d1, d2⟩ := Z.tab.before c2 hi (List.getElem?_eq_getElem il)
  exact ⟨d, Nat.zero_le _, d1, by rw [d2]; exact List.getElem?_eq_getElem il⟩
end
end Kd

-- ===== KS2 =====
set_option Elab.async false
set_option linter.all false
set_option maxRecDepth 100000
set_option maxHeartbeats 1600000
namespace Kd
open PySem PySem.Spec PyProof.Rows L2

theorem range_pick {α : Type} (L : List α) : ∀ n, n ≤ L.length → (List.range n).filterMap (fun i => L[i]?) = L.take n
  | 0, _ => by simp
  | n + 1, le => by
    have lt : n < L.length := le
    rw [List.range_succ, List.filterMap_append, range_pick L n (Nat.le_of_lt lt), List.take_succ, List.getElem?_eq_getElem lt]
    simp [List.getElem?_eq_getElem lt]

section
variable {P : Program} {w : World} {K : Type} [DecidableEq K] {knd : HeapKind P w K} {A : Around} {E : Value → Shared → Prop} {s : Shared} {a : Addr} {L : List (Addr × K)} {es : Array (Int × Value)} {ep : Nat} {t : SetTable}

theorem rows_get {L : List (Addr × K)} {es : Array (Int × Value)} (hr : es.toList = rowsH knd L) (i : Nat) : es[i]? = (L[i]?).map fun q => (knd.hash q.2, Value.ref q.1) := by
  have z : es.toList[i]? = (rowsH knd L)[i]? := by rw [hr]
  rw [Array.getElem?_toList] at z
  rw [z]
  unfold rowsH
  rw [List.getElem?_map]
theorem rows_hash {L : List (Addr × K)} {es : Array (Int × Value)} (hr : es.toList = rowsH knd L) : ∀ l : List Nat, (∀ i ∈ l, i < L.length) → hashH knd (l.filterMap fun i => L[i]?) = l.map fun i => (es.map Prod.fst).getD i 0
  | [], _ => rfl
  | i :: l, hl => by
    have lt := hl i List.mem_cons_self
    have ih := rows_hash hr l fun j hj => hl j (List.mem_cons_of_mem _ hj)
    have g := rows_get hr i
    rw [List.getElem?_eq_getElem lt] at g
    have g2 : (es.map Prod.fst).getD i 0 = knd.hash (L[i]).2 := by
      rw [Array.getD_eq_getD_getElem?, Array.getElem?_map, g]
      rfl
    rw [List.filterMap_cons_some (List.getElem?_eq_getElem lt), List.map_cons, g2, ← ih]
    rfl
/-- a key stays a key when a set changes -/
theorem SetKind.keeps (S : SetKind knd) {h h' : Heap} {a b : Addr} {k : K} {o : Obj} {es : Array (Int × Value)} {ep : Nat} {t : SetTable} (ho : h.get? a = some o) (hd : o.data = .set es ep t) (sb : Heap.SameBut a h h') (x : knd.is h k b) : knd.is h' k b := by
  refine S.st.stays (fun c u vs n e d => ?_) x
  have ne : c ≠ a := fun z => by
    rw [z, ho] at e
    rw [← Option.some.inj e, hd] at d
    cases d
  rw [sb.2 c ne]
  exact e

/-- the table laid anew -/
theorem relay (S : SetKind knd) {o : Obj} (ho : s.heap.get? a = some o) (hex : o.ExactSet) (hd : o.data = .set es ep t) (hr : es.toList = rowsH knd L) (hp : t.place.size = es.size) (dm : t.dummies = #[]) (fl : es.size ≤ t.mask) (nd : (L.map Prod.snd).Nodup)
    (key : ∀ q ∈ L, knd.is s.heap q.2 q.1) (ld : w.params.followText "set-order" = true ∨ t.led = true) (few : L.length < 64) {wanted M : Nat} (hw : SetTable.sizeAbove wanted - 1 = M) (hM : MaskOk M) (hw2 : SetTable.sizeAbove wanted ≤ 128) (hn : L.length * 5 < M * 3)
    {Q : Unit → Shared → Prop} (q : ∀ h' L' es' ep' t', Heap.SameBut a s.heap h' → SetH knd h' a L' es' ep' t' → L'.Perm L → Q () { s with heap := h' }) : wpAny (model P w) A (setRelay a wanted) Q E s := by
  have sz : es.size = L.length := by
    have z := congrArg List.length hr
    rwa [rowsH_len, Array.length_toList] at z
  have fit : t.fits es.size = true := by
    unfold SetTable.fits SetTable.fill
    rw [dm, Bool.and_eq_true, beq_iff_eq, decide_eq_true_eq, hp]
    exact ⟨rfl, fl⟩
  obtain ⟨t', ord, e1, e2, e3, e4, e5, _, _⟩ := relaid_ok t (hs := es.map Prod.fst) (wanted := wanted) hw hM (by rw [Array.size_map]; omega)
  rw [Array.size_map, sz] at e2
  have lt : ∀ i ∈ ord.toList, i < L.length := fun i hi => List.mem_range.mp (e2.mem_iff.mp hi)
  have pm : (ord.toList.filterMap fun i => L[i]?).Perm L := by
    have z := e2.filterMap fun i => L[i]?
    rwa [range_pick L L.length (Nat.le_refl _), List.take_length] at z
  rw [← rows_hash hr ord.toList lt] at e3
  have er : (ord.filterMap (es[·]?)).toList = rowsH knd (ord.toList.filterMap fun i => L[i]?) := by
    rw [Array.toList_filterMap]
    unfold rowsH
    rw [List.map_filterMap]
    congr 1
    funext i
    exact rows_get hr i
  generalize ord.toList.filterMap (fun i => L[i]?) = L' at e3 er pm
  have sz' : (ord.filterMap (es[·]?)).size = L.length := by
    rw [← Array.length_toList, er, rowsH_len, pm.length_eq]
  rw [setRelay_eq]
  refine wpAny_bind (wpAny_setState_of ho hd fit ?_)
  dsimp only
  refine wp_if_neg (by rw [sizeLine_eq]; omega) ?_
  rw [e1]
  dsimp only
  refine wpAny_bind (wp_if_neg (by rw [sz', sz]; simp) (wpAny_pure ?_))
  dsimp only
  have sb : Heap.SameBut a s.heap (s.heap.update a (Obj.putSet (ord.filterMap (es[·]?)) t')) := Heap.SameBut.update ..
  refine wpAny_storeSet_of ho hd (q _ L' _ (ep + 1) t' sb ⟨⟨_, store_at ho hd, hex, rfl⟩, er, e3, ?_, fun p hp => S.keeps ho hd sb (key p (pm.mem_iff.mp hp)), ?_, ?_, ?_⟩ pm) (by rw [sz', sizeLine_eq]; omega)
  · exact (pm.map Prod.snd).nodup_iff.mpr nd
  · rw [e5]
    exact ld
  · rw [pm.length_eq, e4]
    exact hn
  · rw [pm.length_eq]
    exact few

/-- a member added -/
theorem add_key (S : SetKind knd) (Z : SetH knd s.heap a L es ep t) {x : Addr} {k : K} (hx : knd.is s.heap k x) (hr : knd.room A) (hfew : k ∉ L.map Prod.snd → L.length + 1 < 64) {Q : Bool → Shared → Prop}
    (q : ∀ b h' L' es' ep' t', Heap.SameBut a s.heap h' → SetH knd h' a L' es' ep' t' → (k ∈ L.map Prod.snd → L' = L) → (k ∉ L.map Prod.snd → L'.Perm ((x, k) :: L)) → Q b { s with heap := h' }) :
    wpAny (model P w) A (setAddHashed a (.ref x) (knd.hash k)) Q E s := by
  obtain ⟨o, ho, hex, hd⟩ := Z.ob
  have sz := Z.esz
  have rm := Z.room
  unfold setAddHashed
  refine wpAny_holding ?_
  rw [show (100000 : Nat) = 99999 + 1 from rfl, setAddHashedIn_succ]
  refine wpAny_bind (wpAny_setState_of ho hd Z.fit ?_)
  dsimp only
  refine wp_if_neg (by simp [byScan, Value.scannable]) (wpAny_bind (find_at S Z hx hr (fun km => ?_) fun c kn out inn => ?_))
  · exact wpAny_pure (q false s.heap L es ep t (Heap.SameBut.refl a s.heap) Z (fun _ => rfl) fun n => absurd km n)
  · have less := hfew kn
    dsimp only
    refine wpAny_bind (wpAny_setState_of ho hd Z.fit ?_)
    dsimp only
    obtain ⟨p1, p2, p3, p4, p5, _, _, _, p9⟩ := Z.tab.put out inn
    rw [hashH_len] at p2 p9
    generalize t.put (way t.mask (knd.hash k) c) = pt at p1 p3 p4 p5 p9 ⊢
    obtain ⟨t1, at_⟩ := pt
    dsimp only at p1 p3 p4 p5 p9 ⊢
    subst p1
    generalize SetTable.below t.place (way t.mask (knd.hash k) c) = n at p2 p3 ⊢
    have pm : (L.take n ++ (x, k) :: L.drop n).Perm ((x, k) :: L) := put_perm L n (x, k)
    have hh : hashH knd (L.take n ++ (x, k) :: L.drop n) = (hashH knd L).take n ++ knd.hash k :: (hashH knd L).drop n := by
      unfold hashH
      rw [List.map_append, List.map_cons, List.map_take, List.map_drop]
    have rr : (SetTable.insertAt es n (knd.hash k, Value.ref x)).toList = rowsH knd (L.take n ++ (x, k) :: L.drop n) := by
      rw [SetTable.toList_insertAt, Z.rows]
      unfold rowsH
      rw [List.map_append, List.map_cons, List.map_take, List.map_drop]
    rw [← hh] at p3
    generalize L.take n ++ (x, k) :: L.drop n = L1 at pm p3 rr
    have len1 : L1.length = L.length + 1 := pm.length_eq
    have esz1 : (SetTable.insertAt es n (knd.hash k, Value.ref x)).size = L.length + 1 := by
      rw [← Array.length_toList, rr, rowsH_len, len1]
    have nd1 : (L1.map Prod.snd).Nodup := (pm.map Prod.snd).nodup_iff.mpr (List.nodup_cons.mpr ⟨kn, Z.nd⟩)
    generalize SetTable.insertAt es n (knd.hash k, Value.ref x) = es1 at rr esz1 ⊢
    -- whatever is told of the hash, the table is the same but for a mark
    have fin : ∀ t2 : SetTable, t2.mask = t1.mask → TabOk t2 (hashH knd L1) → t2.led = t1.led → t2.fill = t1.fill →
        wpAny (model P w) A (do
          storeSet a es1 t2
          if (!false && t2.tooFull) = true then do
              let _ ← setRelay a (SetTable.grown (es.size + 1))
              pure true
            else pure true) Q E s := fun t2 m2 ok2 led2 fill2 => by
      have sb : Heap.SameBut a s.heap (s.heap.update a (Obj.putSet es1 t2)) := Heap.SameBut.update ..
      have ho1 := store_at (es' := es1) (t' := t2) ho hd
      refine wpAny_bind (wpAny_storeSet_of ho hd ?_ (by rw [esz1, sizeLine_eq]; omega))
      generalize s.heap.update a (Obj.putSet es1 t2) = h1 at sb ho1 ⊢
      have key1 : ∀ p ∈ L1, knd.is h1 p.2 p.1 := fun p hp => by
        rcases List.mem_cons.mp (pm.mem_iff.mp hp) with e | m
        · rw [e]
          exact S.keeps ho hd sb hx
        · exact S.keeps ho hd sb (Z.key p m)
      have led1 : w.params.followText "set-order" = true ∨ t2.led = true := by
        rw [led2, p5]
        exact Z.led
      have full : t2.tooFull = decide ((L.length + 1) * 5 ≥ t.mask * 3) := by
        unfold SetTable.tooFull
        rw [fill2, p9, m2, p4]
      by_cases hf : (L.length + 1) * 5 ≥ t.mask * 3
      · refine wp_if_pos (by rw [full, decide_eq_true hf]; rfl) (wpAny_bind ?_)
        have sized : (t.mask = 7 ∧ L.length = 4) ∨ (t.mask = 31 ∧ L.length = 18) := by
          rcases Z.tab.mok with e | e | e
          · exact .inl ⟨e, by omega⟩
          · exact .inr ⟨e, by omega⟩
          · omega
        have anew : ∀ M, SetTable.sizeAbove (SetTable.grown (L.length + 1)) - 1 = M → MaskOk M → SetTable.sizeAbove (SetTable.grown (L.length + 1)) ≤ 128 → (L.length + 1) * 5 < M * 3 →
            wpAny (model P w) A (setRelay a (SetTable.grown (es.size + 1))) (fun _ s' => wpAny (model P w) A (pure true) Q E s') E { s with heap := h1 } := fun M g1 g2 g3 g4 => by
          rw [sz]
          refine relay S (s := { s with heap := h1 }) ho1 hex rfl rr ?_ ok2.dm ?_ nd1 key1 led1 (by rw [len1]; exact less) g1 g2 g3 (by rw [len1]; exact g4) fun h2 L2 es2 ep2 t2' sb2 Z2 pm2 => ?_
          · rw [ok2.sz, hashH_len, len1, esz1]
          · rw [esz1, m2, p4]
            rcases sized with ⟨e, e'⟩ | ⟨e, e'⟩ <;> omega
          · exact wpAny_pure (q true h2 L2 es2 ep2 t2' (sb.trans sb2) Z2 (fun n => absurd n kn) fun _ => pm2.trans pm)
        rcases sized with ⟨_, e⟩ | ⟨_, e⟩
        · exact anew 31 (by rw [e, size_20]) (.inr (.inl rfl)) (by rw [e, size_20]; decide) (by omega)
        · exact anew 127 (by rw [e, size_76]) (.inr (.inr rfl)) (by rw [e, size_76]; decide) (by omega)
      · refine wp_if_neg (by rw [full, decide_eq_false hf]; decide) (wpAny_pure (q true h1 L1 es1 (ep + 1) t2 sb ⟨⟨_, ho1, hex, rfl⟩, rr, ok2, nd1, key1, led1, ?_, by rw [len1]; exact less⟩ (fun n => absurd n kn) fun _ => pm))
        rw [len1, m2, p4]
        omega
    by_cases pl : t1.plain = true
    · refine wp_if_pos pl (wpAny_bind (S.byv hx fun c => ?_))
      cases c with
      | true => exact fin t1 rfl p3 rfl rfl
      | false => exact fin { t1 with plain := false } rfl ⟨p3.ris, p3.dm, p3.sz, p3.mok, p3.bd, p3.reach⟩ rfl rfl
    · refine wp_if_neg pl (wpAny_bind (wpAny_pure ?_))
      exact fin t1 rfl p3 rfl rfl

/-- set.add as a call -/
theorem call_add (S : SetKind knd) (Z : SetH knd s.heap a L es ep t) {x : Addr} {k : K} (hx : knd.is s.heap k x) (hr : knd.room A.in1) (hfew : k ∉ L.map Prod.snd → L.length + 1 < 64) {Q : Value → Shared → Prop}
    (q : ∀ h' tk L' es' ep' t', Heap.SameBut a s.heap h' → SetH knd h' a L' es' ep' t' → (k ∈ L.map Prod.snd → L' = L) → (k ∉ L.map Prod.snd → L'.Perm ((x, k) :: L)) → s.toks ≤ tk → Q .none { s with heap := h', toks := tk }) :
    wpAny (model P w) A (call (.builtin "set.add") [.ref a, .ref x]) Q E s := by
  obtain ⟨o, ho, hex, hd⟩ := Z.ob
  refine wpAny_call_entry F.slot_set_add ⟨o, ho, hex.1⟩ F.entry_set_add ?_ (F.args_set_add_2 _ _)
  unfold Builtin.«set.add» Builtin.Frozenset.oneOther
  simp only [List.isEmpty_nil, bind_assoc]
  unfold Builtin.Frozenset.addrOf setAdd
  refine wpAny_bind (wpAny_pure ?_)
  try dsimp only
  refine wpAny_bind (wpAny_pure ?_)
  try dsimp only
  refine wpAny_bind (wpAny_holding (wpAny_bind (knd.pyHash hr hx ?_)))
  refine add_key (s := { s with toks := s.toks + knd.draws k }) S Z hx hr hfew fun b h' L' es' ep' t' sb Z' c1 c2 => ?_
  show wpAny _ _ (ret Value.none) _ _ _
  exact wpAny_pure ⟨_, rfl, q h' (s.toks + knd.draws k) L' es' ep' t' sb Z' c1 c2 (Nat.le_add_right _ _)⟩
end
end Kd

-- ===== KS3 =====
set_option Elab.async false
set_option linter.all false
set_option maxRecDepth 100000
set_option maxHeartbeats 1600000
namespace Kd
open PySem PySem.Spec PyProof.Rows L2

/-! ### tuples of ints and texts are keys -/
section
variable {P : Program} {w : World} {A : Around} {E : Value → Shared → Prop} {s : Shared}
theorem mixed {ks : List Key} {vs : List Value} (x : ItemsAre (mixKind P w) ks vs) : ∀ v ∈ vs, (∃ i t, v = Value.int i t) ∨ ∃ z t, v = Value.str z t := by
  induction x with
  | nil => exact fun v m => nomatch m
  | @cons k u ks vs h _ ih =>
    intro v m
    rcases List.mem_cons.mp m with e | m
    · subst e
      have h : keyIs k v = true := h
      cases k with
      | inl i =>
        obtain ⟨t, e⟩ := Value.isInt_shape (k := i) (v := v) h
        exact .inl ⟨i, t, e⟩
      | inr z =>
        obtain ⟨t, e⟩ := Value.isStrOf_shape (x := z) (v := v) h
        exact .inr ⟨z, t, e⟩
    · exact ih v m
theorem mixed_cls (n : Nat) {v : Value} (h : (∃ i t, v = Value.int i t) ∨ ∃ z t, v = Value.str z t) : ofAClassStatement n v = pure false := by
  rcases h with ⟨i, t, rfl⟩ | ⟨z, t, rfl⟩ <;> cases n <;> rfl
theorem mixed_byv (n : Nat) {v : Value} (h : (∃ i t, v = Value.int i t) ∨ ∃ z t, v = Value.str z t) : ∃ c, hashByValue n v = pure c := by
  rcases h with ⟨i, t, rfl⟩ | ⟨z, t, rfl⟩ <;> cases n <;> exact ⟨_, rfl⟩
theorem mix_cls {ks : List Key} {b : Addr} {Q : Bool → Shared → Prop} (x : IsTupleKey (mixKind P w) s.heap ks b) (q : Q false s) : wpAny (model P w) A (ofAClassStatement 8 (.ref b)) Q E s := by
  have T := x.typeIs
  obtain ⟨o, its, n, ho, _, hd, hi⟩ := x
  unfold ofAClassStatement
  refine wpAny_bind (wpAny_typeOf T ?_)
  dsimp only
  have e : (("tuple" : String) == "tuple") = true := by decide
  simp only [e, if_true, Bool.not_true, Bool.false_eq_true, if_false]
  try refine wpAny_bind (wpAny_pure ?_)
  try simp only [Bool.not_true, Bool.false_eq_true, if_false]
  show wpAny _ _ (seqItems? (.ref b) >>= _) _ _ s
  refine wpAny_bind (wpAny_seqItems ho hd ?_)
  dsimp only
  refine wpAny_bind ?_
  show wpAny _ _ (forIn its _ _) _ _ s
  rw [← Array.forIn_toList]
  refine wpAny_forIn_list _ (fun todo r s1 => r.1 = none ∧ s1 = s ∧ ∀ v ∈ todo, (∃ i t, v = Value.int i t) ∨ ∃ z t, v = Value.str z t) _ (fun v todo r s1 hI => ?_) (fun r s1 hI => ?_) _ _ ⟨rfl, rfl, mixed hi⟩
  · obtain ⟨_, e2, e3⟩ := hI
    rw [mixed_cls 7 (e3 v List.mem_cons_self)]
    refine wpAny_bind (wpAny_pure ?_)
    simp only [Bool.false_eq_true, if_false]
    exact wpAny_pure ⟨rfl, e2, fun u m => e3 u (List.mem_cons_of_mem _ m)⟩
  · obtain ⟨r1, r2⟩ := r
    obtain ⟨e1, e2, _⟩ := hI
    have e1 : r1 = none := e1
    subst e1
    subst e2
    exact wpAny_pure q
theorem mix_byv {ks : List Key} {b : Addr} {Q : Bool → Shared → Prop} (x : IsTupleKey (mixKind P w) s.heap ks b) (q : ∀ c, Q c s) : wpAny (model P w) A (hashByValue 8 (.ref b)) Q E s := by
  have T := x.typeIs
  obtain ⟨o, its, n, ho, _, hd, hi⟩ := x
  unfold hashByValue
  refine wpAny_bind (wpAny_specialOf T F.slot_tuple_hash.lookup ?_)
  show wpAny _ _ (seqItems? (.ref b) >>= _) _ _ s
  refine wpAny_bind (wpAny_seqItems ho hd ?_)
  refine wpAny_bind ?_
  show wpAny _ _ (forIn its _ _) _ _ s
  rw [← Array.forIn_toList]
  refine wpAny_forIn_list _ (fun todo r s1 => r.1 = none ∧ s1 = s ∧ ∀ v ∈ todo, (∃ i t, v = Value.int i t) ∨ ∃ z t, v = Value.str z t) _ (fun v todo r s1 hI => ?_) (fun r s1 hI => ?_) _ _ ⟨rfl, rfl, mixed hi⟩
  · obtain ⟨_, e2, e3⟩ := hI
    obtain ⟨c, ec⟩ := mixed_byv 7 (e3 v List.mem_cons_self)
    rw [ec]
    refine wpAny_bind (wpAny_pure ?_)
    cases c with
    | true =>
      simp only [Bool.not_true, Bool.false_eq_true, if_false]
      exact wpAny_pure ⟨rfl, e2, fun u m => e3 u (List.mem_cons_of_mem _ m)⟩
    | false =>
      simp only [Bool.not_false, if_true]
      subst e2
      exact wpAny_pure (wpAny_pure (q false))
  · obtain ⟨r1, r2⟩ := r
    obtain ⟨e1, e2, _⟩ := hI
    have e1 : r1 = none := e1
    subst e1
    subst e2
    exact wpAny_pure (q true)
theorem mixSet : SetKind (tupleKind (mixKind P w)) where
  st := tupleKind_stays
  cls := fun x q => mix_cls x q
  byv := fun x q => mix_byv x q
end
end Kd

-- ===== KS4 =====
set_option Elab.async false
set_option linter.all false
set_option maxRecDepth 100000
set_option maxHeartbeats 3200000
namespace Kd
open PySem PySem.Spec PyProof.Rows L2

section
variable {P : Program} {w : World} {K : Type} [DecidableEq K] {knd : HeapKind P w K}
theorem SetH.stay (S : SetKind knd) {h h' : Heap} {a : Addr} {L : List (Addr × K)} {es : Array (Int × Value)} {ep : Nat} {t : SetTable} (Z : SetH knd h a L es ep t) (ha : ∀ o, h.get? a = some o → h'.get? a = some o) (hk : ∀ q ∈ L, knd.is h' q.2 q.1) : SetH knd h' a L es ep t := by
  obtain ⟨o, ho, r⟩ := Z.ob
  exact ⟨⟨o, ha o ho, r⟩, Z.rows, Z.tab, Z.nd, hk, Z.led, Z.room, Z.few⟩
theorem SetKind.kept (S : SetKind knd) {h h' : Heap} {k : K} {b : Addr} (x : knd.is h k b) (hk : ∀ c o, h.get? c = some o → h'.get? c = some o) : knd.is h' k b := S.st.stays (fun c o _ _ e _ => hk c o e) x
/-- an empty set, just made -/
abbrev newO (w : World) : Obj := { cls := .type "set", dict := none, data := .set #[] 0 (.fresh 0 0 (!w.params.followText "set-order")) }
theorem setH_new {h : Heap} {a : Addr} (ho : h.get? a = some (newO w)) : SetH knd h a [] #[] 0 (.fresh 0 0 (!w.params.followText "set-order")) where
  ob := ⟨_, ho, ⟨rfl, rfl, rfl⟩, rfl⟩
  rows := rfl
  tab := { ris := List.Pairwise.nil, dm := rfl, sz := rfl, mok := .inl rfl, bd := (fun x hx => nomatch hx), reach := fun i g j e => by simp [hashH] at e }
  nd := List.nodup_nil
  key := fun q m => nomatch m
  led := by
    show _ ∨ (!w.params.followText "set-order") = true
    cases e : w.params.followText "set-order"
    · exact .inr rfl
    · exact .inl rfl
  room := by
    show 0 * 5 < 7 * 3
    decide
  few := by
    show 0 < 64
    decide

/-- what came of the first i of the rows ks -/
structure Came (ks : List (Addr × K)) (i : Nat) (L : List (Addr × K)) : Prop where
  inn : ∀ q ∈ L, q ∈ ks.take i
  got : ∀ q ∈ ks.take i, q.2 ∈ L.map Prod.snd
  most : L.length ≤ i
theorem Came.step {ks L L' : List (Addr × K)} {i : Nat} {x : Addr × K} (c : Came ks i L) (e : ks[i]? = some x) (h1 : x.2 ∈ L.map Prod.snd → L' = L) (h2 : x.2 ∉ L.map Prod.snd → L'.Perm (x :: L)) : Came ks (i + 1) L' := by
  have tk : ks.take (i + 1) = ks.take i ++ [x] := by rw [List.take_succ, e]; rfl
  by_cases m : x.2 ∈ L.map Prod.snd
  · rw [h1 m]
    refine ⟨fun q hq => by rw [tk]; exact List.mem_append_left _ (c.inn q hq), fun q hq => ?_, Nat.le_succ_of_le c.most⟩
    rw [tk] at hq
    rcases List.mem_append.mp hq with z | z
    · exact c.got q z
    · rw [List.mem_singleton.mp z]
      exact m
  · have pm := h2 m
    refine ⟨fun q hq => ?_, fun q hq => ?_, by rw [pm.length_eq]; exact Nat.succ_le_succ c.most⟩
    · rw [tk]
      rcases List.mem_cons.mp (pm.mem_iff.mp hq) with z | z
      · rw [z]
        exact List.mem_append_right _ List.mem_cons_self
      · exact List.mem_append_left _ (c.inn q z)
    · rw [(pm.map Prod.snd).mem_iff]
      rw [tk] at hq
      rcases List.mem_append.mp hq with z | z
      · exact List.mem_cons_of_mem _ (c.got q z)
      · rw [List.mem_singleton.mp z]
        exact List.mem_cons_self
end

section
variable {P : Program} {w : World} {K : Type} [DecidableEq K] {knd : HeapKind P w K} {A : Around} {E : Value → Shared → Prop}
theorem nodup_most {α : Type} [DecidableEq α] : ∀ (l D : List α), l.Nodup → (∀ x ∈ l, x ∈ D) → l.length ≤ D.length
  | [], _, _, _ => Nat.zero_le _
  | x :: l, D, nd, sub => by
    obtain ⟨n1, n2⟩ := List.nodup_cons.mp nd
    have mx := sub x List.mem_cons_self
    have ih := nodup_most l (D.erase x) n2 fun y my => (List.mem_erase_of_ne fun (e : y = x) => n1 (by rw [← e]; exact my)).2 (sub y (List.mem_cons_of_mem _ my))
    rw [List.length_erase_of_mem mx] at ih
    have pos := List.length_pos_of_mem mx
    rw [List.length_cons]
    omega
theorem few_of {ks L : List (Addr × K)} {i : Nat} {q : Addr × K} (less : ∃ ds : List K, (∀ q ∈ ks, q.2 ∈ ds) ∧ ds.length < 64) (inn : ∀ p ∈ L, p ∈ ks.take i) (nd : (L.map Prod.snd).Nodup) (mq : q ∈ ks) (nq : q.2 ∉ L.map Prod.snd) : L.length + 1 < 64 := by
  obtain ⟨ds, h1, h2⟩ := less
  have z := nodup_most (q.2 :: L.map Prod.snd) ds (List.nodup_cons.mpr ⟨nq, nd⟩) fun x mx => by
    rcases List.mem_cons.mp mx with rfl | mx
    · exact h1 q mq
    · obtain ⟨p, mp, rfl⟩ := List.mem_map.mp mx
      exact h1 p (List.mem_of_mem_take (inn p mp))
  rw [List.length_cons, List.length_map] at z
  omega
/-- all that is walked goes into the set -/
theorem filled (S : SetKind knd) {I B : Addr} {fp wr : List Addr} {G : Array GenState → Array GenState → Prop} {n : Nat} {Pv : Nat → Value → Prop} {St : Nat → Shared → Prop} {R : Result → Shared → Prop} (W : WalksS P w A.in1 I fp wr G n Pv St) (hB : B ∉ fp)
    (ks : List (Addr × K)) (hn : n = ks.length) (less : ∃ ds : List K, (∀ q ∈ ks, q.2 ∈ ds) ∧ ds.length < 64) (val : ∀ i v, Pv i v → ∃ q, ks[i]? = some q ∧ v = .ref q.1) (g : Heap) (gk : ∀ q ∈ ks, knd.is g q.2 q.1) (gB : g.get? B = none) (gw : ∀ b ∈ wr, g.get? b = none) (room : knd.room A.in1) :
    ∀ (m i : Nat) (s : Shared), n - i = m → i ≤ n → St i s → (∀ b o, g.get? b = some o → s.heap.get? b = some o) → (∃ L es ep t, SetH knd s.heap B L es ep t ∧ Came ks i L) →
      (∀ s' L es ep t, Moved (B :: wr) G s s' → SetH knd s'.heap B L es ep t → Came ks n L → (∀ b o, g.get? b = some o → s'.heap.get? b = some o) → R (.ok (.ret .none)) s') →
      codeAny (model P w) A (.builtin "set.update.loop" ⟨[.ref B, .ref I], []⟩) R s := by
  have nBw : B ∉ wr := fun m => hB (W.sub _ m)
  have more : ∀ b ∈ wr, b ∈ B :: wr := fun b m => List.mem_cons_of_mem _ m
  have on : ∀ {s s' : Shared}, Moved wr G s s' → (∀ b o, g.get? b = some o → s.heap.get? b = some o) → ∀ b o, g.get? b = some o → s'.heap.get? b = some o := fun mv k b o e =>
    mv.heap b o (fun m => by rw [gw b m] at e; cases e) (k b o e)
  intro m
  induction m with
  | zero =>
    intro i s em le st kp ⟨L, es, ep, t, Z, c⟩ fin
    obtain rfl : i = n := by omega
    refine codeAny_builtin F.entry_set_update_loop ?_
    rw [Around.under_plainId F.plain_set_update_loop _]
    show wpAny _ A.in1 (pyNext (.ref I) >>= _) _ _ s
    refine wpAny_bind (W.done s _ _ st fun s' mv => ?_)
    show wpAny _ A.in1 (ret Value.none) _ _ s'
    have kp' := on mv kp
    exact wpAny_pure (fin s' L es ep t (mv.mono more) (Z.stay S (fun o e => mv.heap B o nBw e) fun q hq => S.kept (gk q (List.mem_of_mem_take (c.inn q hq))) kp') c kp')
  | succ m ih =>
    intro i s em le st kp ⟨L, es, ep, t, Z, c⟩ fin
    have lt : i < n := by omega
    refine codeAny_builtin F.entry_set_update_loop ?_
    rw [Around.under_plainId F.plain_set_update_loop _]
    show wpAny _ A.in1 (pyNext (.ref I) >>= _) _ _ s
    refine wpAny_bind (W.item i s _ _ lt st fun v s' pv st' mv => ?_)
    obtain ⟨q, eq, rfl⟩ := val i v pv
    have kp' := on mv kp
    have Z' : SetH knd s'.heap B L es ep t := Z.stay S (fun o e => mv.heap B o nBw e) fun p hp => S.kept (gk p (List.mem_of_mem_take (c.inn p hp))) kp'
    have hx : knd.is s'.heap q.2 q.1 := S.kept (gk q (List.mem_of_getElem? eq)) kp'
    show wpAny _ A.in1 (holding [Value.ref q.1] (setAdd B (.ref q.1)) >>= _) _ _ s'
    refine wpAny_bind (wpAny_holding ?_)
    unfold setAdd
    refine wpAny_holding (wpAny_bind (knd.pyHash room hx ?_))
    refine add_key (s := { s' with toks := s'.toks + knd.draws q.2 }) S Z' hx room (few_of less c.inn Z.nd (List.mem_of_getElem? eq)) fun b h' L' es' ep' t' sb Z2 c1 c2 => ?_
    have nB : ∀ b o, g.get? b = some o → b ≠ B := fun b o e z => by
      rw [z, gB] at e
      cases e
    have kp2 : ∀ b o, g.get? b = some o → h'.get? b = some o := fun b o e => (sb.2 b (nB b o e)).trans (kp' b o e)
    refine wpAny_pure ⟨plainId_quiet F.plain_set_update_loop _, ih (i + 1) _ (by omega) lt (W.frame _ s' _ _ st' (Nat.le_add_right _ _) fun b m o e => ?_) kp2 ⟨L', es', ep', t', Z2, c.step eq c1 c2⟩ fun s'' L2 es2 ep2 t2 mv2 Z3 c3 kp3 => ?_⟩
    · rw [sb.2 b fun z => hB (z ▸ m)]
      exact e
    · refine fin s'' L2 es2 ep2 t2 (Moved.trans W.gtrans ((mv.mono more).then_heap (Nat.le_add_right _ _) fun b o m e => ?_) mv2) Z3 c3 kp3
      rw [sb.2 b fun z => m (by rw [z]; exact List.mem_cons_self)]
      exact e
end
end Kd

-- ===== KS5 =====
set_option Elab.async false
set_option linter.all false
set_option maxRecDepth 100000
set_option maxHeartbeats 3200000
namespace Kd
open PySem PySem.Spec PyProof.Rows L2
section
variable {P : Program} {w : World} {K : Type} [DecidableEq K] {knd : HeapKind P w K} {A : Around} {E : Value → Shared → Prop} {s : Shared}
/-- what is left when set(..) has run -/
def SetMade (knd : HeapKind P w K) (s : Shared) (ks : List (Addr × K)) (s2 : Shared) : Prop :=
  ∃ h' tk L es ep t, s2 = { s with heap := h', toks := tk } ∧ SetH knd h' s.heap.objs.size L es ep t ∧ Came ks ks.length L ∧ ∀ b o, s.heap.get? b = some o → h'.get? b = some o
theorem call_set_keys (S : SetKind knd) {l : Addr} {its : Array Value} (ks : List (Addr × K)) {Q : Value → Shared → Prop} (calm : A.handled = none) (il : s.heap.IsList l its) (ev : its.toList = ks.map fun q => Value.ref q.1) (kk : ∀ q ∈ ks, knd.is s.heap q.2 q.1)
    (less : ∃ ds : List K, (∀ q ∈ ks, q.2 ∈ ds) ∧ ds.length < 64) (room : knd.room A.in1.in1.in1) (q : ∀ s2, SetMade knd s ks s2 → Q (.ref s.heap.objs.size) s2) : wpAny (model P w) A (call (.type "set") [.ref l]) Q E s := by
  have isz : its.size = ks.length := by rw [← Array.length_toList, ev, List.length_map]
  obtain ⟨c, tl, mro⟩ := F.called_set.mro
  have made := F.called_set.made
  have sub := F.called_set.sub
  refine wpAny_call (codeAny_of_tree ?_)
  show wpAny _ _ (callAny (.type "set") _) _ _ _
  refine wpAny_pure ⟨Code.quiet_builtin _ (by decide +kernel), codeAny_builtin F.entry_type_call ?_⟩
  rw [Around.under_plain (weight_type_call_type "set" [.ref l] []) rfl]
  have z1 := F.called_set.notType
  have z2 := F.called_set.canCreate
  have z3 := F.typeCall_set_1 (.ref l)
  repeat (any_goals (first | assumption | wp_step))
  refine codeAny_mono (code_set_led1 (.ref l) (E := E) (Q₁ := fun v s1 => v = .ref s.heap.objs.size ∧ s1 = { s with heap := s.heap.push (newO w) }) ⟨rfl, rfl⟩) fun r s1 hr => ?_
  rcases r with e | fl
  · exact hr
  cases fl with
  | ret obj =>
    obtain ⟨rfl, rfl⟩ := hr
    have at0 : (s.heap.push (newO w)).get? s.heap.objs.size = some (newO w) := Heap.get?_push_size _ rfl
    have T0 : Shared.TypeIs { s with heap := s.heap.push (newO w) } (.ref s.heap.objs.size) "set" := ⟨_, at0, rfl⟩
    have li := F.called_set.init.lookup
    have bi := F.called_set.init.bind (.ref s.heap.objs.size)
    repeat (any_goals (first | assumption | wp_step))
    refine codeAny_mono (codeAny_call_builtin (R := wants (fun r s2 => r = .none ∧ SetMade knd s ks s2) E) F.called_set.init.plain F.entry_set_init (check_set_init_1 T0 ?_)) fun r s2 hr => ?_
    · obtain ⟨⟨oc, od, ob, os⟩, ol, oc', on, ob'⟩ := il
      simp only at oc' ob'
      subst oc'
      subst ob'
      have ol2 := Heap.get?_push_of_some (newO w) ol
      have y1 := F.sub_list_set
      have y2 := F.sub_list_frozenset
      have y3 : (Value.type "list" == Value.type "dict") = false := by decide
      have il2 : (s.heap.push (newO w)).IsList l its := ⟨_, ol2, rfl, on, rfl⟩
      unfold Builtin.«set.__init__» noKeywords Builtin.Frozenset.updateFrom
      generalize hPI : pyIter = PI
      wp_walk
      subst hPI
      refine wpAny_pyIter_list il2 (wpAny_bind (wpAny_runValue ?_))
      have lS : l < s.heap.objs.size := Heap.lt_size ol
      have calm3 : A.in1.in1.in1.handled = none := by simp [calm]
      have szp : (s.heap.push (newO w)).objs.size = s.heap.objs.size + 1 := Heap.size_push ..
      have lI : l ≠ (s.heap.push (newO w)).objs.size := by
        rw [szp]
        exact Nat.ne_of_lt (Nat.lt_succ_of_lt lS)
      have free : ∀ b, s.heap.objs.size ≤ b → s.heap.get? b = none := fun b le => by
        cases e : s.heap.get? b with
        | none => rfl
        | some o => exact absurd (Heap.lt_size e) (Nat.not_lt.mpr le)
      refine filled S ((Walks.list calm3 _ l lI its).toS) (B := s.heap.objs.size) (fun m => ?_) ks isz less (fun i v e => ?_) s.heap kk (free _ (Nat.le_refl _)) (fun b m => free b ?_) room (its.size - 0) 0 _ rfl (Nat.zero_le _)
        ⟨⟨_, Heap.get?_push_size _ rfl, rfl, rfl⟩, il2.push _⟩ (fun b o e => Heap.get?_push_of_some _ (Heap.get?_push_of_some _ e)) ⟨[], #[], 0, _, setH_new (Heap.get?_push_of_some _ at0), fun q m => (nomatch m), fun q m => (by simp at m), Nat.le_refl _⟩ fun s' L es ep t mv Z c kp => ?_
      · rcases List.mem_cons.mp m with e | m
        · rw [szp] at e
          exact absurd e (Nat.ne_of_lt (Nat.lt_succ_self _))
        · have e := List.mem_singleton.mp m
          rw [← e] at lS
          exact absurd lS (Nat.lt_irrefl _)
      · have e2 : its.toList[i]? = some v := by rw [Array.getElem?_toList]; exact e
        rw [ev, List.getElem?_map] at e2
        obtain ⟨q, e3, e4⟩ := Option.map_eq_some_iff.mp e2
        exact ⟨q, e3, e4.symm⟩
      · rw [List.mem_singleton.mp m, szp]
        exact Nat.le_succ _
      · obtain ⟨h', g', d', tk, os'⟩ := s'
        obtain rfl : g' = s.gens := mv.gens
        obtain rfl : d' = s.drawn := mv.drawn
        obtain rfl : os' = s.os := mv.os
        show wpAny _ _ _ _ _ _
        refine wpAny_pure ?_
        show wpAny _ _ (ret Value.none) _ _ _
        rw [isz] at c
        exact wpAny_pure ⟨rfl, h', tk, L, es, ep, t, rfl, Z, c, kp⟩
    · rcases r with e | fl
      · exact hr
      cases fl with
      | ret r =>
        obtain ⟨rfl, mk⟩ := hr
        repeat (any_goals (first | assumption | wp_step))
        exact q _ mk
      | _ => exact hr.elim
  | _ => exact hr.elim
end
end Kd

-- ===== KS6 =====
set_option Elab.async false
set_option linter.all false
set_option maxRecDepth 100000
set_option maxHeartbeats 3200000
namespace Kd
open PySem PySem.Spec PyProof.Rows L2 PySem.W

theorem perm_lift {α β : Type} (f : α → β) {l m : List β} (p : l.Perm m) : ∀ L : List α, m = L.map f → ∃ L1 : List α, L1.Perm L ∧ l = L1.map f := by
  induction p with
  | nil =>
    intro L e
    refine ⟨[], ?_, rfl⟩
    rw [List.map_eq_nil_iff.mp e.symm]
  | cons x _ ih =>
    intro L e
    obtain ⟨y, L', rfl, rfl, e2⟩ := List.map_eq_cons_iff.mp e.symm
    obtain ⟨L1, p1, e3⟩ := ih L' e2.symm
    exact ⟨y :: L1, p1.cons y, by rw [e3, List.map_cons]⟩
  | swap x y l =>
    intro L e
    obtain ⟨u, L', rfl, rfl, e2⟩ := List.map_eq_cons_iff.mp e.symm
    obtain ⟨v, L'', rfl, rfl, e3⟩ := List.map_eq_cons_iff.mp e2
    exact ⟨v :: u :: L'', List.Perm.swap .., by rw [← e3]; rfl⟩
  | trans _ _ ih1 ih2 =>
    intro L e
    obtain ⟨L1, p1, e1⟩ := ih2 L e
    obtain ⟨L2, p2, e2⟩ := ih1 L1 e1
    exact ⟨L2, p2.trans p1, e2⟩

/-- a key as data -/
def kD : Key → PyData
  | .inl i => .int i
  | .inr x => .str x
def tD (k : List Key) : PyData := .tuple (k.map kD)

/-! ### the set as a tracked thing -/
structure Held (P : Program) (w : World) (h : Heap) (a : Addr) (L : List (Addr × List Key)) : Prop where
  ex : ∃ (es : Array (Int × Value)) (ep : Nat) (t : SetTable), (∃ o, h.get? a = some o ∧ o.ExactSet ∧ o.data = .set es ep t) ∧ es.toList = rowsH (tupleKind (mixKind P w)) L ∧ TabOk t (hashH (tupleKind (mixKind P w)) L) ∧ (L.map Prod.snd).Nodup ∧
    (w.params.followText "set-order" = true ∨ t.led = true) ∧ L.length * 5 < t.mask * 3 ∧ L.length < 64
/-- the set at a with the members L -/
def SetO (P : Program) (w : World) (a : Addr) (L : List (Addr × List Key)) : HO := .ext fun h => Held P w h a L
section
variable {P : Program} {w : World} {h : Heap} {a : Addr} {L : List (Addr × List Key)}
theorem SetH.held {es : Array (Int × Value)} {ep : Nat} {t : SetTable} (Z : SetH (tupleKind (mixKind P w)) h a L es ep t) : Held P w h a L := ⟨es, ep, t, Z.ob, Z.rows, Z.tab, Z.nd, Z.led, Z.room, Z.few⟩
theorem Held.set (R : Held P w h a L) (key : ∀ q ∈ L, IsTupleKey (mixKind P w) h q.2 q.1) : ∃ es ep t, SetH (tupleKind (mixKind P w)) h a L es ep t := by
  obtain ⟨es, ep, t, r1, r2, r3, r4, r5, r6, r7⟩ := R.ex
  exact ⟨es, ep, t, r1, r2, r3, r4, key, r5, r6, r7⟩
theorem setO_ok {H : Hp} (R : Held P w h a L) : ObjOk P w H h a (SetO P w a L) := by
  obtain ⟨es, ep, t, ⟨o, ho, _⟩, _⟩ := R.ex
  refine ⟨R, ⟨o, ho⟩, fun g1 g2 (R1 : Held P w g1 a L) k => ?_⟩
  obtain ⟨es, ep, t, ⟨o, ho, r⟩, q⟩ := R1.ex
  exact ⟨es, ep, t, ⟨o, k o ho, r⟩, q⟩
end

section
variable {X : Cx} {pins : List (Addr × Obj)} {σ : L2.St} {H : Hp} {s : Shared}
theorem items_mix {P : Program} {w : World} : ∀ {k : List Key} {us : List Value}, Vals (k.map kV) us → ItemsAre (mixKind P w) k us
  | [], _, .nil => .nil
  | .inl i :: k, _, .cons r t => by
    obtain ⟨tk, rfl⟩ := r
    exact .cons (mixKind_int P w i tk) (items_mix t)
  | .inr x :: k, _, .cons r t => by
    obtain ⟨tk, rfl⟩ := r
    exact .cons (mixKind_str P w x tk) (items_mix t)
theorem reads_mix {h : Heap} : ∀ {k : List Key} {us : List Value}, Vals (k.map kV) us → ReadsAll h us (k.map kD) []
  | [], _, .nil => .nil
  | .inl i :: k, _, .cons r t => by
    obtain ⟨tk, rfl⟩ := r
    exact ReadsAll.cons (as := []) (bs := []) (Reads.int i tk) (reads_mix t)
  | .inr x :: k, _, .cons r t => by
    obtain ⟨tk, rfl⟩ := r
    exact ReadsAll.cons (as := []) (bs := []) (Reads.str x tk) (reads_mix t)
theorem key_raw (I : Inv X pins σ H s) {b : Addr} {k : List Key} (h : SqT X.K H b (k.map kV)) : IsTupleKey (mixKind X.prog X.w) s.heap k b ∧ Reads s.heap (.ref b) (tD k) [] := by
  obtain ⟨its, r, ⟨o, ho, hc, n, hd⟩, _⟩ := I.tuple h
  exact ⟨⟨o, its.toArray, n, ho, hc, hd, by simpa using items_mix r⟩, Reads.tuple ho hc hd (by simpa using reads_mix r)⟩
theorem refs_raw {α : Type} (f : α → Addr) : ∀ {ks : List α} {us : List Value}, Vals (ks.map fun q => V.ref (f q)) us → us = ks.map fun q => Value.ref (f q)
  | [], _, .nil => rfl
  | q :: ks, _, .cons r t => by
    cases r
    rw [refs_raw f t]
    rfl
theorem refs_vals {α : Type} (f : α → Addr) : ∀ (ks : List α), Vals (ks.map fun q => V.ref (f q)) (ks.map fun q => Value.ref (f q))
  | [] => .nil
  | q :: ks => .cons rfl (refs_vals f ks)

/-- set(xs), xs a list of tuples -/
def rSetOfD (K : PySem.W.Frag) (P : Program) (w : World) : List V → Hp → VK → Prop := fun vs H Q => ∃ (l : Addr) (ks : List (Addr × List Key)), vs = [V.ref l] ∧ SqL K H l (ks.map fun q => V.ref q.1) ∧ (∀ q ∈ ks, SqT K H q.1 (q.2.map kV)) ∧ (∃ ds : List (List Key), (∀ q ∈ ks, q.2 ∈ ds) ∧ ds.length < 64) ∧
  ∀ a L, H a = none → (∀ q ∈ L, q ∈ ks) → (∀ q ∈ ks, q.2 ∈ L.map Prod.snd) → (L.map Prod.snd).Nodup → Q (.ref a) (upd H a (SetO P w a L))
theorem cr_setOfD (hc : X.calm = true) (hu : X.A.units + 64 < cLine) : CallR X (.type "set") (rSetOfD X.K X.prog X.w) := by
  intro pins s σ H vs us Q I r h
  obtain ⟨l, ks, rfl, hl, hk, hf, q⟩ := h
  rw [Vals.ref1 r]
  obtain ⟨its, rv, il, _⟩ := I.list hl
  refine call_set_keys (P := X.prog) (w := X.w) (knd := tupleKind (mixKind X.prog X.w)) mixSet ks (I.ok.hd hc) il.isList (by simpa using refs_raw Prod.fst rv) (fun p hp => (key_raw I (hk p hp)).1) hf (by show X.A.in1.in1.in1.units < cLine; have z : X.A.in1.in1.in1.units ≤ X.A.units + 64 := (by simp only [Around.in1]; omega); omega) fun s2 mk => ?_
  obtain ⟨h', tk, L, es, ep, t, rfl, Z, c, kp⟩ := mk
  refine ⟨.ref s.heap.objs.size, upd H s.heap.objs.size (SetO X.prog X.w s.heap.objs.size L), I.laid (t' := tk) kp (Nat.le_refl _) (setO_ok Z.held), rfl, q _ L (I.hok.fresh (Nat.le_refl _)) (fun p m => List.mem_of_mem_take (c.inn p m)) (fun p m => c.got p (by rw [List.take_length]; exact m)) Z.nd⟩

/-- set(xs), xs short -/
def rSetOf (K : PySem.W.Frag) (P : Program) (w : World) : List V → Hp → VK → Prop := fun vs H Q => ∃ (l : Addr) (ks : List (Addr × List Key)), vs = [V.ref l] ∧ SqL K H l (ks.map fun q => V.ref q.1) ∧ (∀ q ∈ ks, SqT K H q.1 (q.2.map kV)) ∧ ks.length < 64 ∧
  ∀ a L, H a = none → (∀ q ∈ L, q ∈ ks) → (∀ q ∈ ks, q.2 ∈ L.map Prod.snd) → (L.map Prod.snd).Nodup → Q (.ref a) (upd H a (SetO P w a L))
theorem cr_setOf (hc : X.calm = true) (hu : X.A.units + 64 < cLine) : CallR X (.type "set") (rSetOf X.K X.prog X.w) := by
  intro pins s σ H vs us Q I r h
  obtain ⟨l, ks, e, hl, hk, hf, q⟩ := h
  exact cr_setOfD hc hu pins s σ H vs us Q I r ⟨l, ks, e, hl, hk, ⟨ks.map Prod.snd, fun q m => List.mem_map.mpr ⟨q, m, rfl⟩, by rw [List.length_map]; exact hf⟩, q⟩

/-- len of such a set -/
def rLenS (P : Program) (w : World) : List V → Hp → VK → Prop := fun vs H Q => ∃ (a : Addr) (L : List (Addr × List Key)), vs = [V.ref a] ∧ H a = some (SetO P w a L) ∧ Q (.int L.length) H
theorem held_fits {P : Program} {w : World} {h : Heap} {L : List (Addr × List Key)} {es : Array (Int × Value)} {t : SetTable} (r : es.toList = rowsH (tupleKind (mixKind P w)) L) (T : TabOk t (hashH (tupleKind (mixKind P w)) L)) (rm : L.length * 5 < t.mask * 3) : es.size = L.length ∧ t.fits es.size = true := by
  have e1 : es.size = L.length := by rw [← Array.length_toList, r, rowsH_len]
  have e2 := T.sz
  rw [hashH_len] at e2
  refine ⟨e1, ?_⟩
  unfold SetTable.fits SetTable.fill
  rw [T.dm, Bool.and_eq_true, beq_iff_eq, decide_eq_true_eq, e2, e1]
  refine ⟨rfl, ?_⟩
  show L.length + 0 ≤ t.mask
  omega
theorem cr_lenS : CallR X (.builtin "len") (rLenS X.prog X.w) := by
  intro pins s σ H vs us Q I r h
  obtain ⟨a, L, rfl, ha, q⟩ := h
  rw [Vals.ref1 r]
  have R : Held X.prog X.w s.heap a L := (I.hok a _ ha).1
  obtain ⟨es, ep, t, ⟨o, ho, hex, hd⟩, r2, r3, _, _, r6, r7⟩ := R.ex
  obtain ⟨e1, e2⟩ := held_fits (h := s.heap) r2 r3 r6
  refine call_len_set ho hex hd e2 (by rw [e1]; omega) ⟨.int L.length, H, I.tok _, ⟨_, by rw [e1]⟩, q⟩

/-- sorted(xs) of a list of tuples: one list -/
def rSortL (K : PySem.W.Frag) : List V → Hp → VK → Prop := fun vs H Q => ∃ (a : Addr) (L : List (Addr × List Key)), vs = [V.ref a] ∧ SqL K H a (L.map fun q => V.ref q.1) ∧ (∀ q ∈ L, SqT K H q.1 (q.2.map kV)) ∧ AllAlike (L.map fun q => tD q.2) ∧ Sortable (L.map fun q => tD q.2) ∧
  ∀ p, H p = none → Q (.ref p) (upd H p (.lst ((L.mergeSort (dataLe false fun q => tD q.2)).map fun q => V.ref q.1)))
theorem tD_depth (k : List Key) : (tD k).depth ≤ 1 := by
  have all : ∀ k : List Key, PyData.depthAll (k.map kD) = 0 := by
    intro k
    induction k with
    | nil => rfl
    | cons x k ih => cases x <;> simp [kD, PyData.depthAll, PyData.depth, ih]
  simp [tD, PyData.depth, all]
theorem cr_sortL (hu : X.A.units + 64 < cLine) : CallR X (.builtin "sorted") (rSortL X.K) := by
  intro pins s σ H vs us Q I r h
  obtain ⟨a, L, rfl, hl, hk, al, so, q⟩ := h
  rw [Vals.ref1 r]
  obtain ⟨its, rv, il, sz⟩ := I.list hl
  have ei := refs_raw Prod.fst rv
  have each : ∀ (R : Value → Addr × List Key → Prop) (M : List (Addr × List Key)), (∀ q ∈ M, R (.ref q.1) q) → EachIs R (M.map fun q => Value.ref q.1) M := by
    intro R M
    induction M with
    | nil => exact fun _ => .nil
    | cons x M ih => exact fun g => .cons (g x List.mem_cons_self) (ih fun y m => g y (List.mem_cons_of_mem _ m))
  rw [List.length_map] at sz
  subst ei
  refine sorted_data (R := fun v q => v = Value.ref q.1) (enc := fun q : Addr × List Key => tD q.2) (bs := L) il.isList (each _ L fun q _ => rfl) (each _ L fun q m => ⟨[], (key_raw I (hk q m)).2⟩) al so sz (fun b _ => by have z := tD_depth b.2; omega) fun out lo eo => ?_
  have eout : ∀ {o : List Value} {M : List (Addr × List Key)}, EachIs (fun v q => v = Value.ref q.1) o M → o = M.map fun q => Value.ref q.1 := by
    intro o M z
    induction z with
    | nil => rfl
    | cons e _ ih => rw [e, ih]; rfl
  have eo' := eout eo
  subst eo'
  obtain ⟨ep, he⟩ := PyProof.Rows.sortedAll_at s.heap (L.map fun q => Value.ref q.1) (((L.mergeSort (dataLe false fun q => tD q.2)).map fun q => Value.ref q.1).toArray)
  refine ⟨.ref _, upd H (s.heap.objs.size + 1) (.lst ((L.mergeSort (dataLe false fun q => tD q.2)).map fun q => V.ref q.1)), I.laid (t' := s.toks) (fun _ _ => PyProof.Rows.sortedAll_old) (Nat.le_succ _) ⟨?_, _, ep, refs_vals Prod.fst _, he⟩, rfl, q _ (I.hok.fresh (Nat.le_succ _))⟩
  rw [List.length_map, List.length_mergeSort]
  exact sz

/-- sorted(set): one list, of the members in some order sorted -/
def rSortS (K : PySem.W.Frag) (P : Program) (w : World) : List V → Hp → VK → Prop := fun vs H Q => ∃ (a : Addr) (L : List (Addr × List Key)), vs = [V.ref a] ∧ H a = some (SetO P w a L) ∧ (∀ q ∈ L, SqT K H q.1 (q.2.map kV)) ∧ (AllAlike (L.map fun q => tD q.2)) ∧ Sortable (L.map fun q => tD q.2) ∧
  ∀ (L1 : List (Addr × List Key)) p, L1.Perm L → L.length < 64 → (L.map Prod.snd).Nodup → H p = none → Q (.ref p) (upd H p (.lst ((L1.mergeSort (dataLe false fun q => tD q.2)).map fun q => V.ref q.1)))
theorem cr_sortS (hc : X.calm = true) (hu : X.A.units + 64 < cLine) : CallR X (.builtin "sorted") (rSortS X.K X.prog X.w) := by
  intro pins s σ H vs us Q I r h
  obtain ⟨a, L, rfl, ha, hk, al, so, q⟩ := h
  rw [Vals.ref1 r]
  have R : Held X.prog X.w s.heap a L := (I.hok a _ ha).1
  obtain ⟨es, ep, t, ⟨o, ho, hex, hd⟩, r2, r3, r4, r5, r6, r7⟩ := R.ex
  obtain ⟨e1, e2⟩ := held_fits (h := s.heap) r2 r3 r6
  refine Calls.call_function_entry kind_sorted plain_sorted entry_sorted (args_sorted1 _) ?_
  unfold Builtin.«sorted»
  refine wpAny_bind (m := checkCount "sorted" 1 1 _) (wpAny_pure ?_)
  refine wpAny_bind (collect_set (A := X.A.in1) (I.ok.hd hc) ⟨o, ho, hex.1, hd⟩ e2 (by unfold scanBound; omega) r3.ris r5 fun s1 vs kp gr g1 o1 pm => ?_)
  have em : es.toList.map (·.2) = L.map fun q => Value.ref q.1 := by
    rw [r2]
    unfold rowsH
    rw [List.map_map]
    rfl
  rw [em] at pm
  obtain ⟨L1, p1, ev⟩ := perm_lift (fun q : Addr × List Key => Value.ref q.1) pm L rfl
  have less : L1.length < 64 := by rw [p1.length_eq]; exact r7
  have vlen : vs.length = L1.length := by rw [ev, List.length_map]
  refine wpAny_bind (wpAny_newList ?_ (by rw [sizeLine_eq]; omega))
  have oL : (s1.heap.push (seqObj "list" vs.toArray 0)).get? s1.heap.objs.size = some (seqObj "list" vs.toArray 0) := Heap.get?_push_size _ rfl
  have each : ∀ (R : Value → Addr × List Key → Prop) (M : List (Addr × List Key)), (∀ q ∈ M, R (.ref q.1) q) → EachIs R (M.map fun q => Value.ref q.1) M := by
    intro R M
    induction M with
    | nil => exact fun _ => .nil
    | cons x M ih => exact fun g => .cons (g x List.mem_cons_self) (ih fun y m => g y (List.mem_cons_of_mem _ m))
  have pmap : (L1.map fun q => tD q.2).Perm (L.map fun q => tD q.2) := p1.map _
  refine wpAny_bind (wpAny_holding (list_sort_data (s := { s1 with heap := s1.heap.push (seqObj "list" vs.toArray 0) }) (R := fun v q => v = Value.ref q.1) (enc := fun q : Addr × List Key => tD q.2) (bs := L1) oL (by rw [ev]; exact each _ L1 fun q _ => rfl)
    (by rw [ev]; exact each _ L1 fun q m => ⟨[], PyProof.Rows.Reads.keeps (fun b u e => Heap.get?_push_of_some _ (kp b u e)) (key_raw I (hk q (p1.mem_iff.mp m))).2, fun z => nomatch z⟩)
    (fun d m d' m' => al d (pmap.mem_iff.mp m) d' (pmap.mem_iff.mp m')) ?_ (by rw [sizeLine_eq]; omega) (fun b _ => by have z := tD_depth b.2; have y : X.A.in1.units ≤ X.A.units + 32 := (by simp only [Around.in1]; omega); omega) fun out lo eo => ?_))
  · rcases so with g | g
    · exact .inl fun d m => g d (pmap.mem_iff.mp m)
    · exact .inr fun d m => g d (pmap.mem_iff.mp m)
  · have eout : ∀ {o : List Value} {M : List (Addr × List Key)}, EachIs (fun v q => v = Value.ref q.1) o M → o = M.map fun q => Value.ref q.1 := by
      intro o M z
      induction z with
      | nil => rfl
      | cons e _ ih => rw [e, ih]; rfl
    have eo' := eout eo
    subst eo'
    obtain ⟨c, hc2⟩ := sortedHeap_at (vs := vs) (out := (List.toArray ((L1.mergeSort (dataLe false fun q => tD q.2)).map fun q => Value.ref q.1))) oL
    have kp2 : ∀ b u, s.heap.get? b = some u → (sortedHeap (s1.heap.push (seqObj "list" vs.toArray 0)) s1.heap.objs.size vs (List.toArray ((L1.mergeSort (dataLe false fun q => tD q.2)).map fun q => Value.ref q.1))).get? b = some u := fun b u e => by
      have z := kp b u e
      have lt := Heap.lt_size z
      rw [sortedHeap_old (Nat.ne_of_lt lt) (by rw [size_push']; exact Nat.lt_succ_of_lt lt)]
      exact Heap.get?_push_of_some _ z
    have ll : ((L1.mergeSort (dataLe false fun q => tD q.2)).map fun q => V.ref q.1).length ≤ sizeLine := by
      rw [List.length_map, List.length_mergeSort, sizeLine_eq]
      omega
    have J : Inv X pins σ (upd H s1.heap.objs.size (.lst ((L1.mergeSort (dataLe false fun q => tD q.2)).map fun q => V.ref q.1))) { s with heap := sortedHeap (s1.heap.push (seqObj "list" vs.toArray 0)) s1.heap.objs.size vs (List.toArray ((L1.mergeSort (dataLe false fun q => tD q.2)).map fun q => Value.ref q.1)), gens := s1.gens, drawn := s1.drawn, toks := s1.toks } :=
      I.call (ch := []) (Un.laid kp2 gr (I.hok.fresh gr)) (I.hok.laid kp2 gr ⟨ll, _, c, refs_vals Prod.fst _, hc2⟩) (by rw [g1]; exact I.bare) (fun _ z => nomatch z)
    have es : ({ s1 with heap := sortedHeap (s1.heap.push (seqObj "list" vs.toArray 0)) s1.heap.objs.size vs (List.toArray ((L1.mergeSort (dataLe false fun q => tD q.2)).map fun q => Value.ref q.1)) } : Shared) = { s with heap := sortedHeap (s1.heap.push (seqObj "list" vs.toArray 0)) s1.heap.objs.size vs (List.toArray ((L1.mergeSort (dataLe false fun q => tD q.2)).map fun q => Value.ref q.1)), gens := s1.gens, drawn := s1.drawn, toks := s1.toks } := by
      rw [← o1]
    refine wpAny_pure ⟨_, rfl, ?_⟩
    rw [es]
    exact ⟨.ref s1.heap.objs.size, _, J, rfl, q L1 _ p1 r7 r4 (I.hok.fresh gr)⟩
end
end Kd

-- ===== KS7 =====
set_option Elab.async false
set_option linter.all false
set_option maxRecDepth 100000
set_option maxHeartbeats 3200000
namespace Kd
open PySem PySem.Spec PyProof.Rows L2

/-! ### {elt for a in A for b in B} -/
section
variable {prog : Program} {w : World} {A : Around} {R : Result → Shared → Prop} {s : Shared} {elt ta ia tb ib : Expr} {scope : Scope} {pos : Pos} {it acc : Value} {env : Env}
/-- the comprehension itself -/
abbrev two (elt ta ia tb ib : Expr) (scope : Scope) (pos : Pos) : Expr := .SetComp elt [⟨ta, ia, [], 0⟩, ⟨tb, ib, [], 0⟩] scope pos
theorem turn_a : compTurn (two elt ta ia tb ib scope pos) 0 it acc env = (do
    standAt ia.pos
    match ← pyNext it with
    | none => pure (.done .next)
    | some v =>
      letOwnedTupleGo ta it v
      assign ta env v
      let x ← eval ib env
      standAt ib.pos
      let x ← foldedSetIterable ib env x
      let _ ← runOwn (.compStart (two elt ta ia tb ib scope pos) 1 (← holding [x] (pyIter x)) acc env) env
      again (.compLoop (two elt ta ia tb ib scope pos) 0 it acc env)) := by rfl
theorem turn_b : compTurn (two elt ta ia tb ib scope pos) 1 it acc env = (do
    standAt ib.pos
    match ← pyNext it with
    | none => pure (.done .next)
    | some v =>
      letOwnedTupleGo tb it v
      assign tb env v
      (do let v ← eval elt env; standAt elt.pos; let _ ← call (.builtin "set.add") [acc, v])
      again (.compLoop (two elt ta ia tb ib scope pos) 1 it acc env)) := by rfl
/-- what fails leaves by the frame's note -/
abbrev fails (prog : Program) (w : World) (A : Around) (env : Env) (R : Result → Shared → Prop) : Value → Shared → Prop := notedBy (model prog w) A env fun e s' => R (.error e) s'
theorem loop_a (pureI : ∀ x, foldedSetIterable ib env x = pure x) (I : Nat → Shared → Prop)
    (turn : ∀ n s, I n s → wpAny (model prog w) A (pyNext it) (fun r s1 => match r with
      | none => R (.ok .next) s1
      | some v => wpAny (model prog w) A (letOwnedTupleGo ta it v) (fun _ s2 => wpAny (model prog w) A (assign ta env v) (fun _ s3 => wpAny (model prog w) A (eval ib env) (fun x s4 => wpAny (model prog w) A (pyIter x) (fun jt s5 =>
          codeAny (model prog w) A (.compStart (two elt ta ia tb ib scope pos) 1 jt acc env) (fun r s' => match r with
            | .ok _ => ∃ m, m < n ∧ I m s'
            | .error _ => False) s5) (fails prog w A env R) s4) (fails prog w A env R) s3) (fails prog w A env R) s2) (fails prog w A env R) s1) (fails prog w A env R) s)
    (n : Nat) (h : I n s) : codeAny (model prog w) A (.compLoop (two elt ta ia tb ib scope pos) 0 it acc env) R s := by
  refine codeAny_loop rfl I (fun n s hI => ?_) n h
  show wpAny _ A ((compTurn (two elt ta ia tb ib scope pos) 0 it acc env).onRaise (fun x => do noteFrame x env; theTreesLotGoes x)) _ _ s
  refine wpAny_noted ?_
  rw [turn_a]
  refine wpAny_bind (wpAny_standAt (wpAny_bind (wpAny_mono (turn n s hI) (fun r s1 g => ?_) fun _ _ x => x)))
  cases r with
  | none => exact wpAny_pure g
  | some v =>
    refine wpAny_bind (wpAny_mono g (fun _ s2 g2 => wpAny_bind (wpAny_mono g2 (fun _ s3 g3 => wpAny_bind (wpAny_mono g3 (fun x s4 g4 => ?_) fun _ _ x => x)) fun _ _ x => x)) fun _ _ x => x)
    refine wpAny_bind (wpAny_standAt (wpAny_bind (wpAny_of_eq (pureI x) (wpAny_bind (wpAny_holding (wpAny_mono g4 (fun jt s5 g5 => ?_) fun _ _ x => x))))))
    refine wpAny_bind (wpAny_runOwn ?_)
    rw [Around.mark_none]
    refine codeAny_mono g5 fun r s' hr => ?_
    cases r with
    | ok f => exact wpAny_pure ⟨rfl, hr⟩
    | error e => exact hr.elim
theorem loop_b (I : Nat → Shared → Prop)
    (turn : ∀ n s, I n s → wpAny (model prog w) A (pyNext it) (fun r s1 => match r with
      | none => R (.ok .next) s1
      | some v => wpAny (model prog w) A (letOwnedTupleGo tb it v) (fun _ s2 => wpAny (model prog w) A (assign tb env v) (fun _ s3 => wpAny (model prog w) A (eval elt env) (fun x s4 =>
          wpAny (model prog w) A (call (.builtin "set.add") [acc, x]) (fun _ s5 => ∃ m, m < n ∧ I m s5) (fails prog w A env R) s4) (fails prog w A env R) s3) (fails prog w A env R) s2) (fails prog w A env R) s1) (fails prog w A env R) s)
    (n : Nat) (h : I n s) : codeAny (model prog w) A (.compLoop (two elt ta ia tb ib scope pos) 1 it acc env) R s := by
  refine codeAny_loop rfl I (fun n s hI => ?_) n h
  show wpAny _ A ((compTurn (two elt ta ia tb ib scope pos) 1 it acc env).onRaise (fun x => do noteFrame x env; theTreesLotGoes x)) _ _ s
  refine wpAny_noted ?_
  rw [turn_b]
  refine wpAny_bind (wpAny_standAt (wpAny_bind (wpAny_mono (turn n s hI) (fun r s1 g => ?_) fun _ _ x => x)))
  cases r with
  | none => exact wpAny_pure g
  | some v =>
    refine wpAny_bind (wpAny_mono g (fun _ s2 g2 => wpAny_bind (wpAny_mono g2 (fun _ s3 g3 => ?_) fun _ _ x => x)) fun _ _ x => x)
    exact wpAny_bind (wpAny_bind (wpAny_mono g3 (fun x s4 g4 => wpAny_bind (wpAny_standAt (wpAny_bind (wpAny_mono g4 (fun _ s5 g5 => wpAny_pure (wpAny_pure ⟨rfl, g5⟩)) fun _ _ x => x)))) fun _ _ x => x))
/-- a clause's start, the first's or the second's -/
theorem start_b (h0 : codeAny (model prog w) A (.compLoop (two elt ta ia tb ib scope pos) 1 it acc env) R s)
    (h : wpAny (model prog w) A (pyIter it) (fun it' s' => codeAny (model prog w) A (.compLoop (two elt ta ia tb ib scope pos) 1 it' acc env) R s') (fails prog w A env R) s) : codeAny (model prog w) A (.compStart (two elt ta ia tb ib scope pos) 1 it acc env) R s := by
  refine codeAny_of_tree ?_
  show wpAny _ _ ((compStart (two elt ta ia tb ib scope pos) 1 it acc env).onRaise (fun x => do noteFrame x env; standAt theWindowsPlace)) _ _ s
  refine wpAny_notedAt ?_
  unfold compStart
  show wpAny _ _ (ask >>= _) _ _ s
  refine wpAny_bind (wpAny_askSetting (wpAny_ite ?_))
  split
  · exact wpAny_pure (And.intro rfl h0)
  · refine wpAny_bind (wpAny_rule ?_)
    show wpAny _ _ (standAt ib.pos >>= _) _ _ s
    exact wpAny_bind (wpAny_standAt (wpAny_bind (wpAny_mono h (fun it' s' g => wpAny_pure (And.intro rfl g)) fun _ _ x => x)))
end

section
variable {X : Cx} {pins : List (Addr × Obj)} {σ : L2.St} {H : Hp} {s : Shared}
/-- a key added to a tracked set -/
theorem add_ok {E : Value → Shared → Prop} {D e : Addr} {k : List Key} {L : List (Addr × List Key)} {Q : Value → Shared → Prop} (I : Inv X pins σ H s) (hD : H D = some (SetO X.prog X.w D L)) (he : SqT X.K H e (k.map kV)) (hL : ∀ q ∈ L, SqT X.K H q.1 (q.2.map kV))
    (room : k ∉ L.map Prod.snd → L.length + 1 < 64) (hu : X.A.units + 2 < cLine) (h : ∀ L' s', (k ∈ L.map Prod.snd → L' = L) → (k ∉ L.map Prod.snd → L'.Perm ((e, k) :: L)) → Inv X pins σ (upd H D (SetO X.prog X.w D L')) s' → Q .none s') :
    wpAny (model X.prog X.w) X.A (call (.builtin "set.add") [.ref D, .ref e]) Q E s := by
  have R : Held X.prog X.w s.heap D L := (I.hok D _ hD).1
  obtain ⟨es, ep, t, Z⟩ := R.set fun q m => (key_raw I (hL q m)).1
  refine call_add mixSet Z (key_raw I he).1 (by show X.A.in1.units < cLine; have z : X.A.in1.units ≤ X.A.units + 2 := (by simp only [Around.in1]; omega); omega) room fun h' tk L' es' ep' t' sb Z' c1 c2 le => ?_
  obtain ⟨o, ho, _⟩ := Z'.ob
  exact h L' _ c1 c2 (I.write (e := D) (t' := tk) (by rw [hD]; trivial) (.inl rfl) (fun b u hb hu => (sb.2 b hb).trans hu) ⟨o, ho⟩ (setO_ok Z'.held))
end
end Kd

-- ===== KS8 =====
set_option Elab.async false
set_option linter.all false
set_option maxRecDepth 100000
set_option maxHeartbeats 3200000
namespace Kd
open PySem PySem.Spec PyProof.Rows L2
section
variable {X : Cx}
/-- the contexts in which a comprehension's parts run -/
abbrev Blks (X : Cx) (scope : Scope) (p : Cx → Prop) : Prop := ∀ (s : Shared) (H : Hp) (C : Addr) (cl : List (PySem.Str × Addr)) (fp : List Addr), p (X.blk s H scope (compEnvC scope cl C X.env) fp)
/-- {elt for ta in ia for tb in ib}, elt a tuple: D the new set. vs: the block's names; us: those of the second target -/
def tSc2 (K : PySem.W.Frag) (P : Program) (w : World) (wa : TI) (ga : TG) (wb : TI) (gb : TG) (te : TE) (vs us : List Nat) : TE := fun σ H Q => wa σ H fun J H1 => ∀ D, H1 D = none → ∃ W : Nat → Nat → Hp → Prop, (∃ m, W 0 m (upd H1 D (SetO P w D []))) ∧ ∀ i m H2, W i m H2 →
  (J.stop i H2 ∧ Q (.ref D) H2) ∨ (J.go i H2 ∧ ∃ Nx : Hp → Prop, (∀ H3, Nx H3 → ∃ m', m' < m ∧ W (i + 1) m' H3) ∧ ∀ x H3, J.yld i H2 x H3 → ga x (wipe σ vs) H3 fun σ4 H4 => wipe σ4 vs = wipe σ vs ∧ wb σ4 H4 fun J1 H5 =>
    ∃ W1 : Nat → Nat → Hp → Prop, (∃ m, W1 0 m H5) ∧ ∀ j k H6, W1 j k H6 → (J1.stop j H6 ∧ Nx H6) ∨ (J1.go j H6 ∧ ∃ Nx1 : Hp → Prop, (∀ H7, Nx1 H7 → ∃ k', k' < k ∧ W1 (j + 1) k' H7) ∧ ∀ x H7, J1.yld j H6 x H7 →
      gb x (wipe σ4 us) H7 fun σ8 H8 => wipe σ8 us = wipe σ4 us ∧ te σ8 H8 fun y H9 => ∃ (e : Addr) (c : List Key) (L : List (Addr × List Key)), y = .ref e ∧ SqT K H9 e (c.map kV) ∧ H9 D = some (SetO P w D L) ∧ (∀ q ∈ L, SqT K H9 q.1 (q.2.map kV)) ∧ (c ∉ L.map Prod.snd → L.length + 1 < 64) ∧
        ∀ L', (c ∈ L.map Prod.snd → L' = L) → (c ∉ L.map Prod.snd → L'.Perm ((e, c) :: L)) → Nx1 (upd H9 D (SetO P w D L'))))

theorem pe_sc2 {elt ta ia tb ib : Expr} {scope : Scope} {own : List (PySem.Str × Nat)} {us : List Nat} {pos : Pos} {wa wb : TI} {ga gb : TG} {te : TE} (hc : X.calm = true) (hN : X.N.Nodup) (hu : X.A.units + 2 < cLine) (hia : PI X ta ia wa) (ok : BlkOk X.N X.env.scope scope own) (hus : ∀ i ∈ us, i ∈ own.map (·.2))
    (hga : Blks X scope fun Y => PG Y ta ga) (hib : Blks X scope fun Y => PI Y tb ib wb) (hgb : Blks X scope fun Y => PG Y tb gb) (hel : Blks X scope fun Y => PE Y elt te)
    (pa : ∀ x, foldedSetIterable ia X.env x = pure x := by intro _; rfl) (pb : ∀ env x, foldedSetIterable ib env x = pure x := by intro _ _; rfl) :
    PE X (two elt ta ia tb ib scope pos) (tSc2 X.K X.prog X.w wa ga wb gb te (own.map (·.2)) us) := by
  refine ⟨fun pins s σ H Q I h => ?_⟩
  rw [PpSet.eval_SetComp]
  have caught : ∀ y ∈ scope.names, y.2 = .free → ∃ c, X.env.cells.lookup y.1 = some c := fun y m e => (ok.free y m e).elim (fun k => I.ok.has _ (.inl k)) (fun k => I.ok.has _ (.inr k))
  refine wpAny_comprehension_free (use := none) rfl pa (closure_ok caught) ok.kind (fun y m e => by rw [ok.uniq y m, e]) (thn (hia.run pins s σ H _ I h) fun xv s1 hx => thn hx fun itv s2 h2 => ?_)
  obtain ⟨it, fp, tn, J, H2, rfl, I2, T, st2, f2, q⟩ := h2
  refine PpSet.newSet_ok (newEnv_comp ?_)
  generalize eD : s2.heap.objs.size = D
  have D0 : H2 D = none := I2.hok.fresh (Nat.le_of_eq eD)
  obtain ⟨W, ⟨m0, w0⟩, turn⟩ := q D D0
  -- the new set stands
  generalize e3 : ({ s2 with heap := s2.heap.push (newO X.w) } : Shared) = s3
  have hp3 : s3.heap = s2.heap.push (newO X.w) := by rw [← e3]
  have I3 : Inv X pins σ (upd H2 D (SetO X.prog X.w D [])) s3 := by
    rw [← e3]
    refine I2.laid (t' := s2.toks) (fun b o e => Heap.get?_push_of_some _ e) (Nat.le_of_eq eD) (setO_ok (SetH.held (ep := 0) (setH_new ?_)))
    rw [← eD]
    exact Heap.get?_push_size _ rfl
  have low : ∀ b ∈ fp, b < s2.heap.objs.size := fun b m => by
    obtain ⟨o, e, _⟩ := T.obj _ _ st2 b m
    exact Heap.lt_size e
  have f3 : ∀ b ∈ fp, FpOk X pins (upd H2 D (SetO X.prog X.w D [])) b ∧ b < s3.heap.objs.size := fun b m => by
    refine ⟨⟨?_, (f2 b m).2⟩, by rw [hp3, Heap.size_push]; exact Nat.lt_succ_of_lt (low b m)⟩
    rw [upd_ne (by rw [← eD]; exact Nat.ne_of_lt (low b m))]
    exact (f2 b m).1
  have st3 : tn 0 s3.heap := T.keep _ _ _ st2 fun b _ o e => by rw [hp3]; exact Heap.get?_push_of_some _ e
  have I4 := block_start I3 ok hN f3
  have ga4 := hga s3 (upd H2 D (SetO X.prog X.w D [])) s3.heap.objs.size (cellsFrom (s3.heap.objs.size + 1) scope.names (cloFrom X.env.cells scope.names [])) fp
  have ib4 := hib s3 (upd H2 D (SetO X.prog X.w D [])) s3.heap.objs.size (cellsFrom (s3.heap.objs.size + 1) scope.names (cloFrom X.env.cells scope.names [])) fp
  have gb4 := hgb s3 (upd H2 D (SetO X.prog X.w D [])) s3.heap.objs.size (cellsFrom (s3.heap.objs.size + 1) scope.names (cloFrom X.env.cells scope.names [])) fp
  have el4 := hel s3 (upd H2 D (SetO X.prog X.w D [])) s3.heap.objs.size (cellsFrom (s3.heap.objs.size + 1) scope.names (cloFrom X.env.cells scope.names [])) fp
  show codeAny _ _ (.compStart (two elt ta ia tb ib scope pos) 0 (.ref it) (.ref D) (compEnvC scope (cellsFrom (s3.heap.objs.size + 1) scope.names (cloFrom X.env.cells scope.names [])) s3.heap.objs.size X.env)) (compPost (model X.prog X.w) X.A X.xe none _ (.ref D) s3.heap.objs.size) { s3 with heap := pushCells (s3.heap.push { cls := .type "dict", data := .dict #[] }) scope.names }
  have fp0 : ∀ b ∈ fp, (upd H2 D (SetO X.prog X.w D [])) b = none := fun b m => (f3 b m).1.1
  generalize ece : compEnvC scope (cellsFrom (s3.heap.objs.size + 1) scope.names (cloFrom X.env.cells scope.names [])) s3.heap.objs.size X.env = ce at I4 ga4 ib4 gb4 el4 ⊢
  have loc : ce.locals = s3.heap.objs.size := by subst ece; rfl
  generalize upd H2 D (SetO X.prog X.w D []) = H3 at I3 I4 ga4 ib4 gb4 el4 w0 fp0 f3
  generalize e4 : ({ s3 with heap := pushCells (s3.heap.push { cls := .type "dict", data := .dict #[] }) scope.names } : Shared) = s4 at I4 ⊢
  have st4 : tn 0 s4.heap := T.keep _ _ _ st3 fun b _ o e => by rw [← e4]; exact pushCells_keeps _ _ _ _ (Heap.get?_push_of_some _ e)
  have still : ∀ {τ : L2.St} {G : Hp} {u : Shared}, Inv (X.blk s3 H3 scope ce fp) [] τ G u → (∀ b ∈ fp, G b = none) → ∀ b ∈ fp, FpOk (X.blk s3 H3 scope ce fp) [] G b := fun {τ G u} Iu no b m =>
    ⟨no b m, (Iu.ok.exf b m).1, Iu.ok.exfs b m, .inl m, fun x c e => (Iu.ok.exf b m).2 x c e, fun p z => absurd (show p ∈ ([] : List (Addr × Obj)) ++ [] from z) (by simp)⟩
  refine PpSet.codeAny_compStart_set ?loop (T.self X.A 0 _ _ _ st4 ?loop)
  refine loop_a (pb ce) (fun n u => ∃ i G, Inv (X.blk s3 H3 scope ce fp) [] (wipe σ (own.map (·.2))) G u ∧ tn i u.heap ∧ (∀ b ∈ fp, G b = none) ∧ W i n G) (fun n s5 hI => ?_) m0 ⟨0, H3, I4, st4, fp0, w0⟩
  obtain ⟨i, H5, I5, st5, no5, w5⟩ := hI
  rcases turn i n H5 w5 with ⟨stop, fin⟩ | ⟨go, Nx, hNx, step⟩
  · -- at the end: back in the def
    refine thnF (T.done (X.blk s3 H3 scope ce fp) rfl rfl rfl hc i [] s5 _ H5 (fun _ _ => False) I5 (still I5 no5) st5 stop) fun r s6 ⟨hr, I6⟩ => ?_
    subst hr
    have I7 : Inv X pins σ H5 s6 := I3.call' (ch := fp) I6.os I6.base I6.hok I6.bare fun b m => ⟨(f3 b m).1.2.2.2.1, (f3 b m).1.2.1, (f3 b m).1.2.2.2.2.1, (f3 b m).1.2.2.2.2.2⟩
    have none5 : H5 s3.heap.objs.size = none := by
      have z : H5 ce.locals = none := I6.free
      rwa [loc] at z
    obtain ⟨m, hn, _⟩ := I6.loc
    have hn : s6.heap.Ns ce.locals m := hn
    rw [loc] at hn
    obtain ⟨g0, g1, g2, g3, g4, g5⟩ := I3.fpOk (Nat.le_refl _) none5
    exact ⟨m, hn, fun h'' sb => ⟨.ref D, H5, I7.turned (t' := s6.toks) (fun b o ne e => (sb.2 b ne).trans e) g0 g1 g3 g4 g5, rfl, fin⟩⟩
  · refine thnF (T.item (X.blk s3 H3 scope ce fp) rfl rfl rfl hc i [] s5 _ H5 (fun _ _ => False) I5 (still I5 no5) st5 go) fun r s6 ⟨u, hr, h6⟩ => ?_
    subst hr
    refine thnF h6 fun _ s7 ⟨x, H7, I7, r7, y7, st7, no7⟩ => ?_
    have I7p := I7.pinned (still I7 no7) (T.obj _ _ st7)
    refine thnF (ga4.run _ s7 _ H7 x u _ I7p r7 (step x H7 y7)) fun _ s8 ⟨σ8, H8, I8, wp8, q8⟩ => ?_
    have len8 : (wipe σ (own.map (·.2))).length = σ8.length := by rw [← wp8, wipe_length]
    -- what the turn comes to
    have next : ∀ {τ : L2.St} {v : Shared} {G : Hp}, Inv (X.blk s3 H3 scope ce fp) ([] ++ pinsAt fp s7.heap) τ G v → (wipe σ (own.map (·.2))).length = τ.length → (∀ (j : Nat) z, (wipe σ (own.map (·.2)))[j]? = some (some z) → τ[j]? = some (some z)) → Nx G →
        ∃ m, m < n ∧ ∃ i G, Inv (X.blk s3 H3 scope ce fp) [] (wipe σ (own.map (·.2))) G v ∧ tn i v.heap ∧ (∀ b ∈ fp, G b = none) ∧ W i m G := fun {τ v G} Iv le ke nx => by
      obtain ⟨m', lt, w'⟩ := hNx G nx
      have pinned : ∀ b ∈ fp, ∀ o, s7.heap.get? b = some o → v.heap.get? b = some o ∧ G b = none := fun b m o e =>
        have z := Iv.pin (b, o) (List.mem_append_right _ (List.mem_append_right _ (mem_pinsAt m e)))
        ⟨z.1, z.2.1⟩
      refine ⟨m', lt, i + 1, G, (Iv.unpinned (pins := [])).weak le ke, T.keep _ _ _ st7 fun b m o e => (pinned b m o e).1, fun b m => ?_, w'⟩
      obtain ⟨o, e, _⟩ := T.obj _ _ st7 b m
      exact (pinned b m o e).2
    refine thnF (ib4.run _ s8 σ8 H8 _ I8 q8) fun xv s9 hx => thnF hx fun jt s10 h10 => ?_
    obtain ⟨jt, gp, un, J1, H10, rfl, I10, U, su10, f10, W1, ⟨m1, v1⟩, turn1⟩ := h10
    have still1 : ∀ {G : Hp}, (∀ b ∈ gp, G b = none) → ∀ b ∈ gp, FpOk (X.blk s3 H3 scope ce fp) ([] ++ pinsAt fp s7.heap) G b := fun no b m => ⟨no b m, (f10 b m).2⟩
    have inner : codeAny (model X.prog X.w) X.A (.compLoop (two elt ta ia tb ib scope pos) 1 (.ref jt) (.ref D) ce) (fun r v => match r with
        | .ok _ => ∃ m, m < n ∧ ∃ i G, Inv (X.blk s3 H3 scope ce fp) [] (wipe σ (own.map (·.2))) G v ∧ tn i v.heap ∧ (∀ b ∈ fp, G b = none) ∧ W i m G
        | .error _ => False) s10 := by
      refine loop_b (fun k v => ∃ j G, Inv (X.blk s3 H3 scope ce fp) ([] ++ pinsAt fp s7.heap) (wipe σ8 us) G v ∧ un j v.heap ∧ (∀ b ∈ gp, G b = none) ∧ W1 j k G) (fun k s12 hI => ?_) m1 ⟨0, H10, I10.weak (wipe_length _ _) (fun j v e => (wipe_some e).1), su10, fun b m => (f10 b m).1, v1⟩
      obtain ⟨j, H12, I12, su12, no12, w12⟩ := hI
      rcases turn1 j k H12 w12 with ⟨stop1, nx⟩ | ⟨go1, Nx1, hNx1, step1⟩
      · refine thnF (U.done (X.blk s3 H3 scope ce fp) rfl rfl rfl hc j _ s12 (wipe σ8 us) H12 (fun _ _ => False) I12 (still1 no12) su12 stop1) fun r s13 ⟨hr, I13⟩ => ?_
        subst hr
        refine next I13 (len8.trans (wipe_length σ8 us).symm) (fun j v e => ?_) nx
        rw [← wp8] at e
        obtain ⟨a1, a2⟩ := wipe_some e
        rw [wipe_out fun z => a2 (hus j z)]
        exact a1
      · refine thnF (U.item (X.blk s3 H3 scope ce fp) rfl rfl rfl hc j _ s12 (wipe σ8 us) H12 (fun _ _ => False) I12 (still1 no12) su12 go1) fun r s13 ⟨u1, hr, h13⟩ => ?_
        subst hr
        refine thnF h13 fun _ s14 ⟨x1, H14, I14, r14, y14, su14, no14⟩ => ?_
        have I14p := I14.pinned (still1 no14) (U.obj _ _ su14)
        refine thnF (gb4.run _ s14 (wipe σ8 us) H14 x1 u1 _ I14p r14 (step1 x1 H14 y14)) fun _ s15 ⟨σ15, H15, I15, wp15, q15⟩ => ?_
        refine thnF (el4.run _ s15 σ15 H15 _ I15 q15) fun z s17 ⟨yv, H17, I17, r17, e, c, L, ey, he, hD, hL, room, nx⟩ => ?_
        subst ey
        cases r17
        refine add_ok (X := X.blk s3 H3 scope ce fp) I17 hD he hL room hu fun L' s18 c1 c2 I18 => ?_
        obtain ⟨m', lt, w'⟩ := hNx1 _ (nx L' c1 c2)
        have pinned : ∀ b ∈ gp, ∀ o, s14.heap.get? b = some o → s18.heap.get? b = some o ∧ (upd H17 D (SetO X.prog X.w D L')) b = none := fun b m o e =>
          have z := I18.pin (b, o) (List.mem_append_right _ (List.mem_append_right _ (mem_pinsAt m e)))
          ⟨z.1, z.2.1⟩
        refine ⟨m', lt, j + 1, _, I18.unpinned.weak (by rw [← wp15, wipe_length]) (fun j v e => by rw [← wp15] at e; exact (wipe_some e).1), U.keep _ _ _ su14 fun b m o e => (pinned b m o e).1, fun b m => ?_, w'⟩
        obtain ⟨o, e, _⟩ := U.obj _ _ su14 b m
        exact (pinned b m o e).2
    exact start_b inner (U.self X.A 0 _ _ _ su10 inner)
end
end Kd

-- ===== KS9 =====
set_option Elab.async false
set_option linter.all false
set_option maxRecDepth 100000
set_option maxHeartbeats 3200000
namespace Kd
open PySem PySem.Spec PyProof.Rows L2
section
variable {X : Cx} {pins : List (Addr × Obj)} {σ : L2.St} {H : Hp} {s : Shared}
/-- an entry with a tuple for its key, by a comprehension -/
theorem put_ok {E : Value → Shared → Prop} {D b : Addr} {kvs : List (List Key × V)} {k : List Key} {v : V} {r : Value} {Q : Unit → Shared → Prop} (hu : X.A.units + 2 < cLine) (I : Inv X pins σ H s) (hD : H D = some (.dT kvs)) (hb : H b = some (.tup (k.map kV))) (room : kvs.length < sizeLine) (rv : RelV v r)
    (h : ∀ s', Inv X pins σ (upd H D (.dT (putK kvs k v))) s' → Q () s') : wpAny (model X.prog X.w) X.A (dictSet D (.ref b) r) Q E s := by
  obtain ⟨z, nsys, xs, rel, dd⟩ := dt_of I.hok hD
  have xz : xs.length ≤ sizeLine := by rw [← Paired.length rel]; exact z
  have pz : (putK kvs k v).length ≤ sizeLine := by have := length_putK kvs k v; omega
  refine wpAny_dictSet_heap (hsz := xz) (show X.A.units < cLine by omega) (key_of I.hok hb) dd fun h' dd' sb => h _ ?_
  obtain ⟨o, es, ep, ho, o2, o3, o4, _, o5⟩ := dd'
  refine d_write I (by rw [hD]; exact True.intro) sb ⟨o, ho⟩ ⟨pz, nsys, _, (rel.put k hb rv).keeps fun c ys e => ?_, o, es, ep, ho, o2, o3, o4, o5⟩
  rw [upd_ne (ne_of e hD (fun z => nomatch z))]
  exact e
end
section
variable {X : Cx}
/-- {key: val for ta in ia}, the key a tuple: D the new dict -/
def tDcT (wa : TI) (ga : TG) (tk tv : TE) (vs : List Nat) : TE := fun σ H Q => wa σ H fun J H1 => ∀ D, H1 D = none → ∃ W : Nat → Nat → Hp → Prop, (∃ m, W 0 m (upd H1 D (.dT []))) ∧ ∀ i m H2, W i m H2 →
  (J.stop i H2 ∧ Q (.ref D) H2) ∨ (J.go i H2 ∧ ∃ Nx : Hp → Prop, (∀ H3, Nx H3 → ∃ m', m' < m ∧ W (i + 1) m' H3) ∧ ∀ x H3, J.yld i H2 x H3 → ga x (wipe σ vs) H3 fun σ4 H4 => wipe σ4 vs = wipe σ vs ∧ tk σ4 H4 fun y H5 => tv σ4 H5 fun z H6 =>
    ∃ (kvs : List (List Key × V)) (k : List Key) (b : Addr), y = .ref b ∧ H6 b = some (.tup (k.map kV)) ∧ H6 D = some (.dT kvs) ∧ kvs.length < sizeLine ∧ Nx (upd H6 D (.dT (putK kvs k z))))
theorem pe_dcT {kx vx ta ia : Expr} {scope : Scope} {own : List (PySem.Str × Nat)} {pos : Pos} {wa : TI} {ga : TG} {tk tv : TE} (hc : X.calm = true) (hN : X.N.Nodup) (hu : X.A.units + 2 < cLine) (hia : PI X ta ia wa) (ok : BlkOk X.N X.env.scope scope own)
    (hga : Blks X scope fun Y => PG Y ta ga) (hk : Blks X scope fun Y => PE Y kx tk) (hv : Blks X scope fun Y => PE Y vx tv) (pa : ∀ x, foldedSetIterable ia X.env x = pure x := by intro _; rfl) :
    PE X (.DictComp kx vx [⟨ta, ia, [], 0⟩] scope pos) (tDcT wa ga tk tv (own.map (·.2))) := by
  refine ⟨fun pins s σ H Q I h => ?_⟩
  rw [arm_eval_DictComp]
  have caught : ∀ y ∈ scope.names, y.2 = .free → ∃ c, X.env.cells.lookup y.1 = some c := fun y m e => (ok.free y m e).elim (fun k => I.ok.has _ (.inl k)) (fun k => I.ok.has _ (.inr k))
  refine wpAny_comprehension_free (use := none) rfl pa (closure_ok caught) ok.kind (fun y m e => by rw [ok.uniq y m, e]) (thn (hia.run pins s σ H _ I h) fun xv s1 hx => thn hx fun itv s2 h2 => ?_)
  obtain ⟨it, fp, tn, J, H2, rfl, I2, T, st2, f2, q⟩ := h2
  refine wpAny_newObj_type (newEnv_comp ?_)
  generalize eD : s2.heap.objs.size = D
  have D0 : H2 D = none := I2.hok.fresh (Nat.le_of_eq eD)
  obtain ⟨W, ⟨m0, w0⟩, turn⟩ := q D D0
  generalize e3 : ({ s2 with heap := s2.heap.push { cls := .type "dict", data := .dict #[] } } : Shared) = s3
  have hp3 : s3.heap = s2.heap.push { cls := .type "dict", data := .dict #[] } := by rw [← e3]
  have I3 : Inv X pins σ (upd H2 D (.dT [])) s3 := by
    rw [← e3]
    refine I2.laid (t' := s2.toks) (fun b o e => Heap.get?_push_of_some _ e) (Nat.le_of_eq eD) ?_
    rw [← eD]
    exact dt_empty s2.heap I2.big
  have low : ∀ b ∈ fp, b < s2.heap.objs.size := fun b m => by
    obtain ⟨o, e, _⟩ := T.obj _ _ st2 b m
    exact Heap.lt_size e
  have f3 : ∀ b ∈ fp, FpOk X pins (upd H2 D (.dT [])) b ∧ b < s3.heap.objs.size := fun b m => by
    refine ⟨⟨?_, (f2 b m).2⟩, by rw [hp3, Heap.size_push]; exact Nat.lt_succ_of_lt (low b m)⟩
    rw [upd_ne (by rw [← eD]; exact Nat.ne_of_lt (low b m))]
    exact (f2 b m).1
  have st3 : tn 0 s3.heap := T.keep _ _ _ st2 fun b _ o e => by rw [hp3]; exact Heap.get?_push_of_some _ e
  have I4 := block_start I3 ok hN f3
  have ga4 := hga s3 (upd H2 D (.dT [])) s3.heap.objs.size (cellsFrom (s3.heap.objs.size + 1) scope.names (cloFrom X.env.cells scope.names [])) fp
  have k4 := hk s3 (upd H2 D (.dT [])) s3.heap.objs.size (cellsFrom (s3.heap.objs.size + 1) scope.names (cloFrom X.env.cells scope.names [])) fp
  have v4 := hv s3 (upd H2 D (.dT [])) s3.heap.objs.size (cellsFrom (s3.heap.objs.size + 1) scope.names (cloFrom X.env.cells scope.names [])) fp
  show codeAny _ _ (.compStart (.DictComp kx vx [⟨ta, ia, [], 0⟩] scope pos) 0 (.ref it) (.ref D) (compEnvC scope (cellsFrom (s3.heap.objs.size + 1) scope.names (cloFrom X.env.cells scope.names [])) s3.heap.objs.size X.env)) (compPost (model X.prog X.w) X.A X.xe none _ (.ref D) s3.heap.objs.size) { s3 with heap := pushCells (s3.heap.push { cls := .type "dict", data := .dict #[] }) scope.names }
  have fp0 : ∀ b ∈ fp, (upd H2 D (.dT [])) b = none := fun b m => (f3 b m).1.1
  generalize ece : compEnvC scope (cellsFrom (s3.heap.objs.size + 1) scope.names (cloFrom X.env.cells scope.names [])) s3.heap.objs.size X.env = ce at I4 ga4 k4 v4 ⊢
  have loc : ce.locals = s3.heap.objs.size := by subst ece; rfl
  generalize upd H2 D (.dT []) = H3 at I3 I4 ga4 k4 v4 w0 fp0 f3
  generalize e4 : ({ s3 with heap := pushCells (s3.heap.push { cls := .type "dict", data := .dict #[] }) scope.names } : Shared) = s4 at I4 ⊢
  have st4 : tn 0 s4.heap := T.keep _ _ _ st3 fun b _ o e => by rw [← e4]; exact pushCells_keeps _ _ _ _ (Heap.get?_push_of_some _ e)
  have still : ∀ {τ : L2.St} {G : Hp} {u : Shared}, Inv (X.blk s3 H3 scope ce fp) [] τ G u → (∀ b ∈ fp, G b = none) → ∀ b ∈ fp, FpOk (X.blk s3 H3 scope ce fp) [] G b := fun {τ G u} Iu no b m =>
    ⟨no b m, (Iu.ok.exf b m).1, Iu.ok.exfs b m, .inl m, fun x c e => (Iu.ok.exf b m).2 x c e, fun p z => absurd (show p ∈ ([] : List (Addr × Obj)) ++ [] from z) (by simp)⟩
  refine codeAny_compStart_dict ?loop (T.self X.A 0 _ _ _ st4 ?loop)
  refine compLoop_anyD (fun n u => ∃ i G, Inv (X.blk s3 H3 scope ce fp) [] (wipe σ (own.map (·.2))) G u ∧ tn i u.heap ∧ (∀ b ∈ fp, G b = none) ∧ W i n G) (fun n s5 hI => ?_) m0 ⟨0, H3, I4, st4, fp0, w0⟩
  obtain ⟨i, H5, I5, st5, no5, w5⟩ := hI
  rcases turn i n H5 w5 with ⟨stop, fin⟩ | ⟨go, Nx, hNx, step⟩
  · refine thnF (T.done (X.blk s3 H3 scope ce fp) rfl rfl rfl hc i [] s5 _ H5 (fun _ _ => False) I5 (still I5 no5) st5 stop) fun r s6 ⟨hr, I6⟩ => ?_
    subst hr
    have I7 : Inv X pins σ H5 s6 := I3.call' (ch := fp) I6.os I6.base I6.hok I6.bare fun b m => ⟨(f3 b m).1.2.2.2.1, (f3 b m).1.2.1, (f3 b m).1.2.2.2.2.1, (f3 b m).1.2.2.2.2.2⟩
    have none5 : H5 s3.heap.objs.size = none := by
      have z : H5 ce.locals = none := I6.free
      rwa [loc] at z
    obtain ⟨m, hn, _⟩ := I6.loc
    have hn : s6.heap.Ns ce.locals m := hn
    rw [loc] at hn
    obtain ⟨g0, g1, g2, g3, g4, g5⟩ := I3.fpOk (Nat.le_refl _) none5
    exact ⟨m, hn, fun h'' sb => ⟨.ref D, H5, I7.turned (t' := s6.toks) (fun b o ne e => (sb.2 b ne).trans e) g0 g1 g3 g4 g5, rfl, fin⟩⟩
  · refine thnF (T.item (X.blk s3 H3 scope ce fp) rfl rfl rfl hc i [] s5 _ H5 (fun _ _ => False) I5 (still I5 no5) st5 go) fun r s6 ⟨u, hr, h6⟩ => ?_
    subst hr
    refine thnF h6 fun _ s7 ⟨x, H7, I7, r7, y7, st7, no7⟩ => ?_
    have I7p := I7.pinned (still I7 no7) (T.obj _ _ st7)
    refine thnF (ga4.run _ s7 _ H7 x u _ I7p r7 (step x H7 y7)) fun _ s8 ⟨σ8, H8, I8, wp8, q8⟩ => ?_
    refine thnF ((pts_nil (X := X.blk s3 H3 scope ce fp)).run _ s8 σ8 H8 (fun b G => b = true ∧ tk σ8 G _) I8 ⟨rfl, q8⟩) fun b s9 ⟨H9, I9, eb, q9⟩ => ?_
    subst eb
    simp only [if_true]
    refine thnF (k4.run _ s9 σ8 H9 _ I9 q9) fun z1 s10 ⟨yk, H10, I10, r10, q10⟩ => ?_
    refine thnF (v4.run _ s10 σ8 H10 _ I10 q10) fun z2 s11 ⟨yv, H11, I11, r11, kvs, k, b, ek, hb, hD, room, nx⟩ => ?_
    subst ek
    cases r10
    refine put_ok (X := X.blk s3 H3 scope ce fp) hu I11 hD hb room r11 fun s12 I12 => ?_
    obtain ⟨m', lt, w'⟩ := hNx _ nx
    have pinned : ∀ b ∈ fp, ∀ o, s7.heap.get? b = some o → s12.heap.get? b = some o ∧ (upd H11 D (.dT (putK kvs k yv))) b = none := fun b m o e =>
      have z := I12.pin (b, o) (List.mem_append_right _ (List.mem_append_right _ (mem_pinsAt m e)))
      ⟨z.1, z.2.1⟩
    refine ⟨m', lt, i + 1, _, (I12.unpinned (pins := [])).weak (by rw [← wp8, wipe_length]) (fun j v e => by rw [← wp8] at e; exact (wipe_some e).1), T.keep _ _ _ st7 fun b m o e => (pinned b m o e).1, fun b m => ?_, w'⟩
    obtain ⟨o, e, _⟩ := T.obj _ _ st7 b m
    exact (pinned b m o e).2
end
end Kd

-- ===== K7B =====
set_option Elab.async false
set_option linter.all false
set_option maxRecDepth 100000
set_option maxHeartbeats 4000000
namespace My
open PySem L2 PyProof.Rows PySem.Spec Kd
abbrev sMoves : Stmt := top 6
abbrev sText : Stmt := top 11
abbrev sLine : Stmt := top 12
abbrev sUntext : Stmt := top 13
abbrev sUnline : Stmt := top 14
abbrev sUnstep : Stmt := top 15
abbrev sWord : Stmt := top 21
abbrev sNumber : Stmt := top 22
abbrev sStates : Stmt := top 23
abbrev sState : Stmt := top 24
abbrev sStep : Stmt := top 25
/-! ### data of tuples, texts and ints -/
mutual
inductive TD (H : Hp) : V → PyData → Prop
  | int (i : Int) : TD H (.int i) (.int i)
  | str (x : Str) : TD H (.str x) (.str x)
  | tup {a : Addr} {xs : List V} {ds : List PyData} : H a = some (.tup xs) → TDs H xs ds → TD H (.ref a) (.tuple ds)
inductive TDs (H : Hp) : List V → List PyData → Prop
  | nil : TDs H [] []
  | cons {v : V} {vs : List V} {d : PyData} {ds : List PyData} : TD H v d → TDs H vs ds → TDs H (v :: vs) (d :: ds)
end
/-- tuples that stood stand -/
def Tup (H H' : Hp) : Prop := ∀ a xs, H a = some (.tup xs) → H' a = some (.tup xs)
theorem Tup.refl (H : Hp) : Tup H H := fun _ _ e => e
theorem Tup.trans {H H1 H2 : Hp} (a : Tup H H1) (b : Tup H1 H2) : Tup H H2 := fun x xs e => b x xs (a x xs e)
theorem Tup.of {H H' : Hp} (s : Same H H') : Tup H H' := fun a xs e => s a _ e
theorem Tup.new {H : Hp} {p : Addr} {o : HO} (n : H p = none) : Tup H (upd H p o) := fun a xs e => by
  rw [upd_ne (ne_of_none e n)]
  exact e
theorem Tup.at_ {H : Hp} {p : Addr} {o o' : HO} (n : H p = some o') (h : ∀ xs, o' ≠ .tup xs) : Tup H (upd H p o) := fun a xs e => by
  rw [upd_ne (fun z => by rw [z, n] at e; exact h xs (Option.some.inj e))]
  exact e
mutual
theorem TD.to {H H' : Hp} (s : Tup H H') : ∀ {v : V} {d : PyData}, TD H v d → TD H' v d
  | _, _, .int i => .int i
  | _, _, .str x => .str x
  | _, _, .tup h1 h2 => .tup (s _ _ h1) (TDs.to s h2)
theorem TDs.to {H H' : Hp} (s : Tup H H') : ∀ {vs : List V} {ds : List PyData}, TDs H vs ds → TDs H' vs ds
  | _, _, .nil => .nil
  | _, _, .cons h1 h2 => .cons (TD.to s h1) (TDs.to s h2)
end
mutual
theorem TD.dp {K : PySem.W.Frag} {H : Hp} : ∀ {v : V} {d : PyData}, TD H v d → Dp K H v d
  | _, _, .int i => .int i
  | _, _, .str x => .str x
  | _, _, .tup h1 h2 => .tup (SqT.of h1) (TDs.dp h2)
theorem TDs.dp {K : PySem.W.Frag} {H : Hp} : ∀ {vs : List V} {ds : List PyData}, TDs H vs ds → DpAll K H vs ds
  | _, _, .nil => .nil
  | _, _, .cons h1 h2 => .cons (TD.dp h1) (TDs.dp h2)
end
mutual
theorem TD.dq {H : Hp} : ∀ {v : V} {d : PyData}, TD H v d → Dq (fun _ => True) H v d
  | _, _, .int i => .int i
  | _, _, .str x => .str x
  | _, _, .tup h1 h2 => .tup trivial h1 (TDs.dq h2)
theorem TDs.dq {H : Hp} : ∀ {vs : List V} {ds : List PyData}, TDs H vs ds → DqAll (fun _ => True) H vs ds
  | _, _, .nil => .nil
  | _, _, .cons h1 h2 => .cons (TD.dq h1) (TDs.dq h2)
end
theorem TDs.len {H : Hp} : ∀ {vs : List V} {ds : List PyData}, TDs H vs ds → vs.length = ds.length
  | _, _, .nil => rfl
  | _, _, .cons _ h2 => by rw [List.length_cons, List.length_cons, h2.len]
theorem TDs.get {H : Hp} : ∀ {vs : List V} {ds : List PyData}, TDs H vs ds → ∀ {i : Nat} {v : V}, vs[i]? = some v → ∃ d, ds[i]? = some d ∧ TD H v d
  | _, _, .nil, i, v, e => by simp at e
  | _, _, .cons h1 h2, 0, v, e => ⟨_, rfl, by have z := Option.some.inj e; rw [← z]; exact h1⟩
  | _, _, .cons h1 h2, i + 1, v, e => h2.get (i := i) e
theorem TDs.snoc {H : Hp} {v : V} {d : PyData} (h : TD H v d) : ∀ {vs : List V} {ds : List PyData}, TDs H vs ds → TDs H (vs ++ [v]) (ds ++ [d])
  | _, _, .nil => .cons h .nil
  | _, _, .cons h1 h2 => .cons h1 (TDs.snoc h h2)

/-! ### kinds as mathematics -/
abbrev Stp := Str × Str × Int
def stepD (x : Stp) : PyData := .tuple [.str x.1, .str x.2.1, .int x.2.2]
def stateD (st : List Stp) : PyData := .tuple (st.map stepD)
def statesD (ss : List (List Stp)) : PyData := .tuple (ss.map stateD)
abbrev evOf (x : Stp) : Str × Str := (x.1, x.2.1)
def LETS : Str := "abcdefghijklmnopqrstuvwxyz0123456789"
def Wrd (z : Str) : Prop := 1 ≤ z.length ∧ z.length ≤ 12 ∧ ∀ c ∈ z.cps.toList, c ∈ LETS.cps.toList
def evLt (x y : Str × Str) : Prop := x.1.cps.toList < y.1.cps.toList ∨ (x.1 = y.1 ∧ x.2.cps.toList < y.2.cps.toList)
structure StpOk (n : Nat) (x : Stp) : Prop where
  w1 : Wrd x.1
  w2 : Wrd x.2.1
  lo : 0 ≤ x.2.2
  hi : x.2.2 < n
structure StOk (n : Nat) (st : List Stp) : Prop where
  all : ∀ x ∈ st, StpOk n x
  asc : (st.map evOf).Pairwise evLt
  few : st.length ≤ 24
structure KOk (ss : List (List Stp)) : Prop where
  one : 1 ≤ ss.length
  most : ss.length ≤ 40
  all : ∀ st ∈ ss, StOk ss.length st
  evs : ∃ es : List (Str × Str), es.length ≤ 24 ∧ ∀ st ∈ ss, ∀ x ∈ st, evOf x ∈ es

/-- what the module's names hold -/
structure Gs (mg : Str → Option Value) : Prop where
  isi : mg "isinstance" = none
  str : mg "str" = none
  int : mg "int" = none
  bool : mg "bool" = none
  tuple : mg "tuple" = none
  len : mg "len" = none
  all : mg "all" = none
  set : mg "set" = none
  sorted : mg "sorted" = none
  range : mg "range" = none
  repr : mg "repr" = none
  enum : mg "enumerate" = none
  list : mg "list" = none
  min : mg "min" = none
  c40 : ∃ t, mg "MOST_STATES" = some (.int 40 t)
  c24 : ∃ t, mg "MOST_EVENTS" = some (.int 24 t)
  c12 : ∃ t, mg "MOST_LETTERS" = some (.int 12 t)
  lets : ∃ t, mg "LETTERS" = some (.str LETS t)

theorem same_at {H H2 : Hp} {D : Addr} {o : HO} (s : Same H H2) (n : H D = none) : Same H (upd H2 D o) := fun b u e => by
  rw [upd_ne (ne_of_none e n)]
  exact s b u e
theorem small_len {n m : Nat} (h : n ≤ m) (hm : m ≤ 16777216 := by decide) : n ≤ sizeLine := by rw [sizeLine_eq]; omega
theorem small_lt {n m : Nat} (h : n ≤ m) (hm : m < 16777216 := by decide) : n < sizeLine := by rw [sizeLine_eq]; omega
/-! ### walks of comprehensions -/
/-- what a list comprehension's loop over J asks, the list at D -/
def LcW (J : It) (g : TG) (tt : TT) (te : TE) (vs : List Nat) (σ : L2.St) (H1 : Hp) (D : Addr) (Qd : Hp → Prop) : Prop := ∃ W : Nat → Nat → Hp → Prop, (∃ m, W 0 m (upd H1 D (.lst []))) ∧ ∀ i m H, W i m H →
  (J.stop i H ∧ Qd H) ∨ (J.go i H ∧ ∃ Nx : Hp → Prop, (∀ H', Nx H' → ∃ m', m' < m ∧ W (i + 1) m' H') ∧ ∀ x H', J.yld i H x H' → g x (wipe σ vs) H' fun σ2 H2 => wipe σ2 vs = wipe σ vs ∧ tt σ2 H2 fun b H3 =>
    if b = true then te σ2 H3 fun y H4 => ∃ acc, H4 D = some (.lst acc) ∧ acc.length < sizeLine ∧ Nx (upd H4 D (.lst (acc ++ [y]))) else Nx H3)
theorem lc_text {x : Str} {g : TG} {tt : TT} {te : TE} {vs : List Nat} {σ : L2.St} {H1 : Hp} {D : Addr} {Qd : Hp → Prop} (Pv : Nat → Hp → Prop) (first : Pv 0 (upd H1 D (.lst [])))
    (turn : ∀ i c H, x.cps[i]? = some c → Pv i H → g (.str ⟨#[c]⟩) (wipe σ vs) H fun σ2 H2 => wipe σ2 vs = wipe σ vs ∧ tt σ2 H2 fun b H3 => if b = true then te σ2 H3 fun y H4 => ∃ acc, H4 D = some (.lst acc) ∧ acc.length < sizeLine ∧ Pv (i + 1) (upd H4 D (.lst (acc ++ [y]))) else Pv (i + 1) H3)
    (last : ∀ H, Pv x.cps.size H → Qd H) : LcW (Its x) g tt te vs σ H1 D Qd := by
  refine ⟨fun i m H => m = x.cps.size - i ∧ i ≤ x.cps.size ∧ Pv i H, ⟨_, rfl, Nat.zero_le _, first⟩, fun i m H ⟨em, le, p⟩ => ?_⟩
  subst em
  rcases Nat.lt_or_ge i x.cps.size with lt | ge
  · refine .inr ⟨lt, Pv (i + 1), fun H' p' => ⟨_, by omega, rfl, lt, p'⟩, fun v H' ⟨eH, c, ec, ev⟩ => ?_⟩
    subst eH
    subst ev
    exact turn i c _ ec p
  · have e : i = x.cps.size := by omega
    subst e
    exact .inl ⟨Nat.le_refl _, last H p⟩
/-! ### is_word -/
def spWord : Sp := fun vs H Q _ => ∃ z : Str, vs = [.str z] ∧ Wrd z ∧ ∀ H', Same H H' → Q (.bl true) H'
def spNumber : Sp := fun vs H Q _ => ∃ i : Int, vs = [.int i] ∧ 0 ≤ i ∧ Q (.bl true) H
def spStep : Sp := fun vs H Q _ => ∃ (a : Addr) (x : Stp) (n : Nat), vs = [.ref a, .int n] ∧ TD H (.ref a) (stepD x) ∧ StpOk n x ∧ ∀ H', Same H H' → Q (.bl true) H'
theorem small_str {z : Str} (h : z.length ≤ 12) : z.length ≤ sizeLine := by rw [sizeLine_eq]; omega
section
variable {P : Program} {w : World} {K : PySem.W.Frag} {mg : Str → Option Value} {base : Heap}
theorem scW : FnScope ["thing", "letter"] ["thing"] (defScope sWord) := ⟨rfl, rfl, rfl, by decide +kernel, rfl, by decide +kernel, by decide +kernel⟩
theorem ok_word {f : Addr} {fd : FuncData} (F : Fun K "is_word" "is_word" sWord f fd) (G : Gs mg) : FnOk P w K mg base CX0 1 f fd ["thing"] spWord := by
  obtain ⟨t12, m12⟩ := G.c12
  obtain ⟨tl, mlet⟩ := G.lets
  refine F.ok scW (fun vs H Q E h => ?_) (fun cdv A outer s H vs Q E hr h => ?_)
  · obtain ⟨z, rfl, _⟩ := h
    rfl
  · obtain ⟨z, rfl, wz, k⟩ := h
    refine ⟨_, pss_cons (ps_if (PW.pt (pw_or (pt_not (pt_val (pe_callB call_isi (by rfl) G.isi boot_isinstance (pa_cons (pv 0) (pa_cons (pe_bltn (v := .ty "str") (by rfl) G.str PyProof.Rows.boot_str rfl) pa_nil)))))
          (pw_or1 (pt_not (pt_chain op_le op_le pe_int (pe_callB call_len_str (by rfl) G.len PySem.boot_len (pa_cons (pv 0) pa_nil)) (pe_glob (v := .int 12) (by rfl) m12 ⟨_, rfl⟩)))))) (pss_one (ps_ret pe_bl)) pss_nil)
      (pss_one (ps_ret (pe_callB (cr_all rfl) (by rfl) G.all PyProof.Rows.boot_all (pa_cons (pe_lc (own := [("letter", 1)]) (g := gName 1) (tt := tYes) rfl scW.nd (pi_str (pv 0)) (blkOk_by (N := ["thing", "letter"]) (sc := defScope sWord) (by decide +kernel))
        (fun _ _ _ _ _ => pg_name (i := 1) scW.nd rfl (Or.inl rfl)) (fun _ _ _ _ _ => pts_nil) (fun _ _ _ _ _ => pe_cmpR op_in_sign (pv 1) (pe_glob (v := .str LETS) (by rfl) mlet ⟨_, rfl⟩) (by rfl))) pa_nil)))), ?_⟩
    refine ⟨_, rfl, _, _, _, _, _, rfl, .ty "str", .base (.str z), kit_ty (a := "str") (b := "str") (r := true) (by decide +kernel), _, rfl, iteF ?_⟩
    refine ⟨_, rfl, z, rfl, small_str wz.2.1, _, _, rfl, rfl, _, rfl, ?_⟩
    have l1 := wz.1
    have l2 := wz.2.1
    rw [decide_eq_true (show (1 : Int) ≤ z.length by omega)]
    refine iteT ⟨_, _, rfl, rfl, _, rfl, ?_⟩
    rw [decide_eq_true (show (z.length : Int) ≤ 12 by omega)]
    refine iteF ?_
    refine ⟨_, rfl, z, rfl, fun D hD => lc_text (x := z) (fun i H2 => Same H H2 ∧ H2 D = some (.lst ((List.replicate i true).map V.bl))) ⟨?_, upd_same⟩ (fun i c H2 ec ⟨s2, d2⟩ => ?_) fun H2 ⟨s2, d2⟩ => ?_⟩
    · exact same_at (Same.refl H) hD
    · have lt : i < z.cps.size := (Array.getElem?_eq_some_iff.mp ec).1
      have mem : c ∈ z.cps.toList := List.mem_of_getElem? (by rw [Array.getElem?_toList]; exact ec)
      refine ⟨rfl, _, rfl, c, LETS, rfl, rfl, ?_⟩
      rw [decide_eq_true (wz.2.2 c mem)]
      refine ⟨_, d2, ?_, same_at s2 hD, ?_⟩
      · rw [List.length_map, List.length_replicate]
        exact small_lt (m := 12) (Nat.le_trans (Nat.le_of_lt lt) l2)
      · rw [upd_same, List.replicate_succ', List.map_append]
        rfl
    · refine ⟨D, _, rfl, SqL.of d2, ?_⟩
      have e : ((List.replicate z.cps.size true).all id) = true := by simp
      rw [e]
      exact k _ s2
theorem scNu : FnScope ["thing"] ["thing"] (defScope sNumber) := ⟨rfl, rfl, rfl, by decide +kernel, rfl, by decide +kernel, by decide +kernel⟩
theorem ok_number {f : Addr} {fd : FuncData} (F : Fun K "is_number" "is_number" sNumber f fd) (G : Gs mg) : FnOk P w K mg base CX0 1 f fd ["thing"] spNumber := by
  refine F.ok scNu (fun vs H Q E h => ?_) (fun cdv A outer s H vs Q E hr h => ?_)
  · obtain ⟨i, rfl, _⟩ := h
    rfl
  · obtain ⟨i, rfl, i0, k⟩ := h
    refine ⟨_, pss_one (ps_ret (pe_and (pe_callB call_isi (by rfl) G.isi boot_isinstance (pa_cons (pv 0) (pa_cons (pe_bltn (v := .ty "int") (by rfl) G.int PyProof.Rows.boot_int rfl) pa_nil)))
      (pe_and (pe_not (pe_callB call_isi (by rfl) G.isi boot_isinstance (pa_cons (pv 0) (pa_cons (pe_bltn (v := .ty "bool") (by rfl) G.bool PyProof.Rows.boot_bool rfl) pa_nil)))) (pe_one (pe_cmpR op_ge (pv 0) pe_int (nomark _)))))), ?_⟩
    refine ⟨_, rfl, _, _, _, _, _, rfl, .ty "int", .base (.int i), kit_ty (a := "int") (b := "int") (r := true) (by decide +kernel), _, rfl, ?_⟩
    refine ⟨_, rfl, _, _, _, _, _, rfl, .ty "bool", .base (.int i), kit_ty (a := "int") (b := "bool") (r := false) (by decide +kernel), _, rfl, ?_⟩
    refine ⟨_, rfl, iteT ⟨_, rfl, _, _, rfl, rfl, ?_⟩⟩
    show Q (V.bl (decide (0 ≤ i))) H
    rw [decide_eq_true i0]
    exact k
theorem scSp : FnScope ["thing", "many"] ["thing", "many"] (defScope sStep) := ⟨rfl, rfl, rfl, by decide +kernel, rfl, by decide +kernel, by decide +kernel⟩
theorem TD.tup_of {H : Hp} {a : Addr} {ds : List PyData} (h : TD H (.ref a) (.tuple ds)) : ∃ xs, H a = some (.tup xs) ∧ TDs H xs ds := by
  cases h with
  | tup h1 h2 => exact ⟨_, h1, h2⟩
theorem TD.ref_of {H : Hp} {v : V} {ds : List PyData} (h : TD H v (.tuple ds)) : ∃ a xs, v = .ref a ∧ H a = some (.tup xs) ∧ TDs H xs ds := by
  cases h with
  | tup h1 h2 => exact ⟨_, _, rfl, h1, h2⟩
theorem step_of {H : Hp} {v : V} {x : Stp} (h : TD H v (stepD x)) : ∃ a, v = .ref a ∧ H a = some (.tup [.str x.1, .str x.2.1, .int x.2.2]) := by
  obtain ⟨a, xs, rfl, ha, hx⟩ := h.ref_of
  refine ⟨a, rfl, ?_⟩
  cases hx with
  | cons h1 t1 =>
    cases h1
    cases t1 with
    | cons h2 t2 =>
      cases h2
      cases t2 with
      | cons h3 t3 =>
        cases h3
        cases t3
        exact ha
theorem ok_step {f fW fN : Addr} {fd fdW fdN : FuncData} (F : Fun K "_is_step" "_is_step" sStep f fd) (G : Gs mg)
    (GW : FnOk P w K mg base CX0 1 fW fdW ["thing"] spWord) (mW : mg "is_word" = some (.ref fW)) (kW : PySem.W.keepIn K (.ref fW) = true) (bW : Binds K fdW ["thing"] [])
    (GN : FnOk P w K mg base CX0 1 fN fdN ["thing"] spNumber) (mN : mg "is_number" = some (.ref fN)) (kN : PySem.W.keepIn K (.ref fN) = true) (bN : Binds K fdN ["thing"] []) :
    FnOk P w K mg base CX0 2 f fd ["thing", "many"] spStep := by
  refine F.ok scSp (fun vs H Q E h => ?_) (fun cdv A outer s H vs Q E hr h => ?_)
  · obtain ⟨a, x, n, rfl, _⟩ := h
    rfl
  · obtain ⟨a, x, n, rfl, hx, xo, k⟩ := h
    refine ⟨_, pss_cons (ps_if (PW.pt (pw_or (pt_not (pt_val (pe_callB call_isi (by rfl) G.isi boot_isinstance (pa_cons (pv 0) (pa_cons (pe_bltn (v := .ty "tuple") (by rfl) G.tuple PyProof.Rows.boot_tuple rfl) pa_nil)))))
          (pw_or1 (pt_cmpR op_ne (pe_callB call_len_seq (by rfl) G.len PySem.boot_len (pa_cons (pv 0) pa_nil)) pe_int (nomark _))))) (pss_one (ps_ret pe_bl)) pss_nil)
      (pss_one (ps_ret (pe_and (pe_call GW hr (by rfl) mW kW bW .nil pass0 (pa_cons (pe_ix ix_tup (pv 0) pe_int (fun _ _ => rfl)) pa_nil))
        (pe_and (pe_call GW hr (by rfl) mW kW bW .nil pass0 (pa_cons (pe_ix ix_tup (pv 0) pe_int (fun _ _ => rfl)) pa_nil))
        (pe_and (pe_call GN hr (by rfl) mN kN bN .nil pass0 (pa_cons (pe_ix ix_tup (pv 0) pe_int (fun _ _ => rfl)) pa_nil))
        (pe_one (pe_cmpR op_lt (pe_ix ix_tup (pv 0) pe_int (fun _ _ => rfl)) (pv 1) (nomark _)))))))), ?_⟩
    obtain ⟨a', e, ha⟩ := step_of hx
    cases e
    refine ⟨_, rfl, _, _, _, _, _, rfl, .ty "tuple", .base (.tup ha), kit_ty (a := "tuple") (b := "tuple") (r := true) (by decide +kernel), _, rfl, iteF ?_⟩
    refine ⟨_, rfl, a, _, rfl, .inr (SqT.of ha), ?_⟩
    refine ⟨rfl, _, rfl, iteF ?_⟩
    refine ⟨_, rfl, a, _, _, _, rfl, rfl, SqT.of ha, rfl, x.1, rfl, xo.w1, fun H1 s1 => ⟨_, rfl, iteT ?_⟩⟩
    have h1 := s1 _ _ ha
    refine ⟨_, rfl, a, _, _, _, rfl, rfl, SqT.of h1, rfl, x.2.1, rfl, xo.w2, fun H2 s2 => ⟨_, rfl, iteT ?_⟩⟩
    have h2 := s2 _ _ h1
    refine ⟨_, rfl, a, _, _, _, rfl, rfl, SqT.of h2, rfl, x.2.2, rfl, xo.lo, ⟨_, rfl, iteT ?_⟩⟩
    refine ⟨_, rfl, a, _, _, _, rfl, rfl, SqT.of h2, rfl, _, rfl, _, _, rfl, rfl, ?_⟩
    show Q (V.bl (decide (x.2.2 < (n : Int)))) H2
    rw [decide_eq_true xo.hi]
    exact k _ (s1.trans s2)
end
end My

-- ===== K7M =====
set_option Elab.async false
set_option linter.all false
set_option maxRecDepth 100000
set_option maxHeartbeats 1600000
namespace My
open PySem L2 PyProof.Rows PySem.Spec Kd PySem.W
theorem cps_inj {x y : Str} (h : x.cps.toList = y.cps.toList) : x = y := by
  cases x
  cases y
  simp only [Str.mk.injEq]
  exact Array.toList_inj.mp h
/-- a pair of texts as a key -/
def evK (x : Str × Str) : List Key := [Sum.inr x.1, Sum.inr x.2]
theorem evK_inj {x y : Str × Str} (h : evK x = evK y) : x = y := by
  unfold evK at h
  injection h with h1 h2
  injection h2 with h3 _
  exact Prod.ext (Sum.inr.inj h1) (Sum.inr.inj h3)
theorem evLt_irrefl (x : Str × Str) : ¬ evLt x x := fun h => by
  rcases h with h | ⟨_, h⟩
  · exact List.lt_irrefl _ h
  · exact List.lt_irrefl _ h
theorem evLt_trans {x y z : Str × Str} (h1 : evLt x y) (h2 : evLt y z) : evLt x z := by
  rcases h1 with a | ⟨a, b⟩
  · rcases h2 with c | ⟨c, d⟩
    · exact .inl (List.lt_trans a c)
    · exact .inl (by rw [← c]; exact a)
  · rcases h2 with c | ⟨c, d⟩
    · exact .inl (by rw [a]; exact c)
    · exact .inr ⟨a.trans c, List.lt_trans b d⟩
theorem evLt_tri (x y : Str × Str) (h1 : ¬ evLt x y) (h2 : ¬ evLt y x) : x = y := by
  unfold evLt at h1 h2
  have a : x.1 = y.1 := cps_inj (List.le_antisymm (List.not_lt.mp fun z => h2 (.inl z)) (List.not_lt.mp fun z => h1 (.inl z)))
  have b : x.2 = y.2 := cps_inj (List.le_antisymm (List.not_lt.mp fun z => h2 (.inr ⟨a.symm, z⟩)) (List.not_lt.mp fun z => h1 (.inr ⟨a, z⟩)))
  exact Prod.ext a b
theorem eqv_str (x y : Str) : PyData.eqv (.str x) (.str y) = decide (x = y) := by
  by_cases e : x = y
  · subst e
    simp [PyData.eqv]
  · rw [decide_eq_false e]
    simp [PyData.eqv, e]
/-- the order of sorted on such keys -/
theorem lt_evK (x y : Str × Str) : dataLt (tD (evK x)) (tD (evK y)) = true ↔ evLt x y := by
  unfold tD evK evLt
  simp only [List.map_cons, List.map_nil, kD]
  rw [dataLt_pair rfl rfl, eqv_str, eqv_str]
  by_cases e : x.1 = y.1
  · have e0 : ¬ x.1.cps.toList < y.1.cps.toList := by rw [e]; exact List.lt_irrefl _
    rw [decide_eq_true e, if_pos rfl]
    by_cases e2 : x.2 = y.2
    · have e3 : ¬ x.2.cps.toList < y.2.cps.toList := by rw [e2]; exact List.lt_irrefl _
      rw [decide_eq_true e2, if_pos rfl]
      simp [e0, e3]
    · rw [decide_eq_false e2, if_neg (by decide), dataLt_str, decide_eq_true_eq]
      exact ⟨fun h => .inr ⟨e, h⟩, fun h => h.elim (fun z => absurd z e0) fun z => z.2⟩
  · rw [decide_eq_false e, if_neg (by decide), dataLt_str, decide_eq_true_eq]
    simp [e]
theorem le_evK {q r : Addr × List Key} {x y : Str × Str} (hq : q.2 = evK x) (hr : r.2 = evK y) : dataLe false (fun q : Addr × List Key => tD q.2) q r = true ↔ ¬ evLt y x := by
  rw [dataLe_eq]
  show (!dataLt (tD r.2) (tD q.2)) = true ↔ _
  rw [hq, hr, Bool.not_eq_true', ← Bool.not_eq_true, lt_evK]
theorem asc_nodup {es : List (Str × Str)} (h : es.Pairwise evLt) : es.Nodup := List.Pairwise.imp (fun {x y} lt e => by rw [e] at lt; exact evLt_irrefl _ lt) h
/-- whatever is sorted of what has just these keys -/
theorem sorted_is (L : List (Addr × List Key)) (es : List (Str × Str)) (asc : es.Pairwise evLt) (nd : (L.map Prod.snd).Nodup) (mem : ∀ k, k ∈ L.map Prod.snd ↔ k ∈ es.map evK) :
    (L.mergeSort (dataLe false fun q : Addr × List Key => tD q.2)).map Prod.snd = es.map evK := by
  have tot := sortLe_total (listOrd itemOrd) false fun q : Addr × List Key => keyToks (tD q.2)
  have srt : (L.mergeSort (dataLe false fun q : Addr × List Key => tD q.2)).Pairwise fun q r => dataLe false (fun q : Addr × List Key => tD q.2) q r = true := List.pairwise_mergeSort tot.trans (fun a b => by rw [Bool.or_eq_true]; exact tot.total a b) L
  have pm : (L.mergeSort (dataLe false fun q : Addr × List Key => tD q.2)).Perm L := List.mergeSort_perm _ _
  generalize L.mergeSort (dataLe false fun q : Addr × List Key => tD q.2) = M at srt pm
  have key : ∀ q ∈ M, ∃ x, q.2 = evK x := fun q hq => by
    have z := (mem q.2).mp (List.mem_map.mpr ⟨q, pm.mem_iff.mp hq, rfl⟩)
    obtain ⟨x, _, e⟩ := List.mem_map.mp z
    exact ⟨x, e.symm⟩
  -- as pairs of texts
  have back : ∃ xs : List (Str × Str), M.map Prod.snd = xs.map evK := by
    clear srt pm
    induction M with
    | nil => exact ⟨[], rfl⟩
    | cons q M ih =>
      obtain ⟨x, e⟩ := key q List.mem_cons_self
      obtain ⟨xs, e2⟩ := ih fun r hr => key r (List.mem_cons_of_mem _ hr)
      exact ⟨x :: xs, by rw [List.map_cons, List.map_cons, e, e2]⟩
  obtain ⟨xs, ex⟩ := back
  have px : (xs.map evK).Perm (es.map evK) := by
    rw [← ex]
    refine (pm.map Prod.snd).trans ((List.perm_ext_iff_of_nodup nd ?_).mpr mem)
    exact List.Pairwise.map _ (fun {x y} ne e => ne (evK_inj e)) (asc_nodup asc)
  have sx : xs.Pairwise fun x y => ¬ evLt y x := by
    have z : (M.map Prod.snd).Pairwise fun k l => ∀ x y, k = evK x → l = evK y → ¬ evLt y x := List.pairwise_map.mpr (List.Pairwise.imp (fun {q r} h x y e1 e2 => (le_evK e1 e2).mp h) srt)
    rw [ex] at z
    exact List.Pairwise.imp (fun {x y} h => h x y rfl rfl) (List.pairwise_map.mp z)
  have inj : Function.Injective evK := fun _ _ e => evK_inj e
  have p2 : xs.Perm es := by
    obtain ⟨ys, p1, e1⟩ := Kd.perm_lift evK px es rfl
    have e2 : xs = ys := by
      have : ∀ (l m : List (Str × Str)), l.map evK = m.map evK → l = m := by
        intro l
        induction l with
        | nil => intro m e; cases m with | nil => rfl | cons _ _ => cases e
        | cons x l ih =>
          intro m e
          cases m with
          | nil => cases e
          | cons y m =>
            injection e with a b
            rw [evK_inj a, ih m b]
      exact this _ _ e1
    rw [e2]
    exact p1
  have fin : xs = es := List.Perm.eq_of_pairwise (le := fun x y => ¬ evLt y x) (fun a b _ _ h1 h2 => evLt_tri a b h2 h1) sx (List.Pairwise.imp (fun {x y} lt gt => evLt_irrefl _ (evLt_trans lt gt)) asc) p2
  rw [ex, fin]
end My

-- ===== K7C =====
set_option Elab.async false
set_option linter.all false
set_option maxRecDepth 100000
set_option maxHeartbeats 4000000
namespace My
open PySem L2 PyProof.Rows PySem.Spec Kd
def spState : Sp := fun vs H Q _ => ∃ (a : Addr) (st : List Stp) (n : Nat), vs = [.ref a, .int n] ∧ TD H (.ref a) (stateD st) ∧ StOk n st ∧ ∀ H', Same H H' → Q (.bl true) H'
theorem same_new {H : Hp} {p : Addr} {o : HO} (n : H p = none) : Same H (upd H p o) := same_at (Same.refl H) n
theorem dp_keys {K : PySem.W.Frag} {H : Hp} : ∀ k : List Key, DpAll K H (k.map kV) (k.map kD)
  | [] => .nil
  | .inl i :: k => .cons (.int i) (dp_keys k)
  | .inr x :: k => .cons (.str x) (dp_keys k)
theorem dp_rows {K : PySem.W.Frag} {H : Hp} : ∀ M : List (Addr × List Key), (∀ q ∈ M, H q.1 = some (.tup (q.2.map kV))) → DpAll K H (M.map fun q => V.ref q.1) ((M.map Prod.snd).map tD)
  | [], _ => .nil
  | q :: M, h => .cons (.tup (SqT.of (h q List.mem_cons_self)) (dp_keys q.2)) (dp_rows M fun r m => h r (List.mem_cons_of_mem _ m))
theorem lets_low : ∀ c ∈ LETS.cps.toList, c < 1114112 := by decide +kernel
theorem wrd_ok {z : Str} (h : Wrd z) : PyData.strOk z = true := by
  unfold PyData.strOk
  rw [Array.all_eq_true']
  intro c hc
  have := lets_low c (h.2.2 c (Array.mem_toList_iff.mpr hc))
  simpa using this
theorem lay_rows : ∀ es : List (Str × Str), (∀ e ∈ es, Wrd e.1 ∧ Wrd e.2) → PyData.canLayAll0 ((es.map evK).map tD) = true
  | [], _ => by simp only [List.map_nil, PyData.canLayAll0]
  | e :: es, h => by
    have h1 := wrd_ok (h e List.mem_cons_self).1
    have h2 := wrd_ok (h e List.mem_cons_self).2
    simp only [List.map_cons, List.map_nil, tD, evK, kD, PyData.canLayAll0, PyData.canLay0, h1, h2, lay_rows es fun x m => h x (List.mem_cons_of_mem _ m), Bool.and_self]
theorem deep_rows : ∀ ks : List (List Key), PyData.depthAll (ks.map tD) ≤ 1
  | [] => by simp only [List.map_nil, PyData.depthAll]; omega
  | k :: ks => by
    have h1 := tD_depth k
    have h2 := deep_rows ks
    simp only [List.map_cons, PyData.depthAll]
    omega
theorem shaped_rows (es : List (Str × Str)) (w : ∀ e ∈ es, Wrd e.1 ∧ Wrd e.2) : SeqAt.shaped (.list ((es.map evK).map tD)) = true := by
  have h := deep_rows (es.map evK)
  unfold SeqAt.shaped
  rw [Bool.and_eq_true]
  refine ⟨by simp only [PyData.canLay0, lay_rows es w], decide_eq_true ?_⟩
  simp only [PyData.depth]
  omega
section
variable {P : Program} {w : World} {K : PySem.W.Frag} {mg : Str → Option Value} {base : Heap}
abbrev nSt : List Str := ["thing", "many", "events", "step"]
theorem scSt : FnScope nSt ["thing", "many"] (defScope sState) := ⟨rfl, rfl, rfl, by decide +kernel, rfl, by decide +kernel, by decide +kernel⟩
theorem ok_state {f fS : Addr} {fd fdS : FuncData} (F : Fun K "_is_state" "_is_state" sState f fd) (G : Gs mg)
    (GS : FnOk P w K mg base CX0 2 fS fdS ["thing", "many"] spStep) (mS : mg "_is_step" = some (.ref fS)) (kS : PySem.W.keepIn K (.ref fS) = true) (bS : Binds K fdS ["thing", "many"] []) :
    FnOk P w K mg base CX0 3 f fd ["thing", "many"] spState := by
  refine F.ok scSt (fun vs H Q E h => ?_) (fun cdv A outer s H vs Q E hr h => ?_)
  · obtain ⟨a, st, n, rfl, _⟩ := h
    rfl
  · obtain ⟨a, st, n, rfl, hx, so, k⟩ := h
    have hu := hr.units
    refine ⟨_, pss_cons (ps_if (PW.pt (pw_or (pt_not (pt_val (pe_callB call_isi (by rfl) G.isi boot_isinstance (pa_cons (pv 0) (pa_cons (pe_bltn (v := .ty "tuple") (by rfl) G.tuple PyProof.Rows.boot_tuple rfl) pa_nil)))))
          (pw_or1 (pt_not (pt_val (pe_callB (cr_all rfl) (by rfl) G.all PyProof.Rows.boot_all (pa_cons (pe_lc (own := [("step", 3)]) (g := gName 3) (tt := tYes) rfl scSt.nd (pi_tup (pv 0)) (blkOk_by (N := nSt) (sc := defScope sState) (by decide +kernel))
            (fun _ _ _ _ _ => pg_name (i := 3) scSt.nd rfl (Or.inl rfl)) (fun _ _ _ _ _ => pts_nil) (fun _ _ _ _ _ => pe_call GS hr (by rfl) mS kS bS .nil pass0 (pa_cons (pv 3) (pa_cons (pv 1) pa_nil)))) pa_nil))))))) (pss_one (ps_ret pe_bl)) pss_nil)
      (pss_cons (ps_setLc (i := 2) (own := [("step", 3)]) (g := gName 3) (tt := tYes) rfl scSt.nd rfl rfl (sw_true rfl rfl rfl (by decide +kernel)) (pi_tup (pv 0)) (blkOk_by (N := nSt) (sc := defScope sState) (by decide +kernel))
            (fun _ _ _ _ _ => pg_name (i := 3) scSt.nd rfl (Or.inl rfl)) (fun _ _ _ _ _ => pts_nil) (fun _ _ _ _ _ => pe_slice (r := rSlT K) sl_tup (pv 3) po_none (po_some pe_int)))
      (pss_one (ps_ret (pe_cmpR (op_eqD hu) (pv 2) (pe_callB (cr_sortS rfl hu) (by rfl) G.sorted PyProof.Rows.boot_sorted (pa_cons (pe_callTy (cr_setOf rfl hu) (by rfl) G.set PyProof.Rows.boot_set (pa_cons (pv 2) pa_nil)) pa_nil)) (nomark _))))), ?_⟩
    obtain ⟨xs, ha, hxs⟩ := hx.tup_of
    have sx : ∀ {i : Nat} {x : V}, xs[i]? = some x → ∃ y a', st[i]? = some y ∧ x = .ref a' ∧ TD H (.ref a') (stepD y) := fun {i x} e => by
      obtain ⟨d, ed, td⟩ := hxs.get e
      rw [List.getElem?_map] at ed
      obtain ⟨y, ey, rfl⟩ := Option.map_eq_some_iff.mp ed
      obtain ⟨a', rfl, _⟩ := step_of td
      exact ⟨y, a', ey, rfl, td⟩
    have len : xs.length = st.length := by
      have z := hxs.len
      rwa [List.length_map] at z
    have few := so.few
    refine ⟨_, rfl, _, _, _, _, _, rfl, .ty "tuple", .base (.tup ha), kit_ty (a := "tuple") (b := "tuple") (r := true) (by decide +kernel), _, rfl, iteF ?_⟩
    refine ⟨_, rfl, a, rfl, ⟨_, SqT.of ha⟩, fun D hD => lc_tup (K := K) (a := a) (xs := xs) (fun i H2 => Same H H2 ∧ H2 D = some (.lst ((List.replicate i true).map V.bl))) ⟨same_at (Same.refl H) hD, upd_same⟩ (fun i H2 _ ⟨s2, _⟩ => SqT.of (s2 _ _ ha)) (fun i x H2 ex ⟨s2, d2⟩ => ?_) fun H2 ⟨s2, d2⟩ => ?_⟩
    · obtain ⟨y, a', ey, rfl, td⟩ := sx ex
      have lt : i < st.length := (List.getElem?_eq_some_iff.mp ey).1
      refine ⟨rfl, _, rfl, _, rfl, a', y, n, rfl, td.to (Tup.of s2), so.all y (List.mem_of_getElem? ey), fun H3 s3 => ⟨_, s3 _ _ d2, ?_, same_at (s2.trans s3) hD, ?_⟩⟩
      · rw [List.length_map, List.length_replicate]
        exact small_lt (m := 24) (by omega)
      · rw [upd_same, List.replicate_succ', List.map_append]
        rfl
    · refine ⟨D, _, rfl, SqL.of d2, _, rfl, ?_⟩
      have e : ((List.replicate xs.length true).all id) = true := by simp
      rw [e]
      refine iteF ?_
      -- events
      have ha2 := s2 _ _ ha
      refine ⟨_, rfl, a, rfl, ⟨_, SqT.of ha2⟩, fun D2 hD2 => lc_tup (K := K) (a := a) (xs := xs) (fun i H3 => Same H2 H3 ∧ ∃ ks : List (Addr × List Key), ks.map Prod.snd = ((st.take i).map evOf).map evK ∧ H3 D2 = some (.lst (ks.map fun q => V.ref q.1)) ∧ ∀ q ∈ ks, H3 q.1 = some (.tup (q.2.map kV)))
        ⟨same_at (Same.refl H2) hD2, [], by simp, upd_same, fun q m => nomatch m⟩ (fun i H3 _ ⟨s3, _⟩ => SqT.of (s3 _ _ ha2)) (fun i x H3 ex ⟨s3, ks, k1, k2, k3⟩ => ?_) fun H3 ⟨s3, ks, k1, k2, k3⟩ => ?_⟩
      · obtain ⟨y, a', ey, rfl, td⟩ := sx ex
        obtain ⟨a'', e', hy⟩ := step_of (td.to (Tup.of (s2.trans s3)))
        cases e'
        have lt : i < st.length := (List.getElem?_eq_some_iff.mp ey).1
        have kl : ks.length ≤ 24 := by
          have z := congrArg List.length k1
          rw [List.length_map, List.length_map, List.length_map, List.length_take] at z
          omega
        refine ⟨rfl, _, rfl, 2, rfl, a', _, rfl, SqT.of hy, (fun z => absurd (show HT.sIx 3 3 (some 2) = 3 from z.2) (by decide)), fun p hp => ⟨ks.map fun q => V.ref q.1, ?_, ?_, ?_, ks ++ [(p, evK (evOf y))], ?_, ?_, ?_⟩⟩
        · rw [upd_ne (ne_of_none k2 hp)]
          exact k2
        · rw [List.length_map]
          exact small_lt (m := 24) kl
        · exact same_at (s3.trans (same_new hp)) hD2
        · rw [List.map_append, k1, List.take_succ, ey]
          simp
        · rw [upd_same, List.map_append]
          rfl
        · intro q hq
          have nD : ∀ (b : Addr) (xs : List V), (upd H3 p (.tup (cutV [V.str y.1, V.str y.2.1, V.int y.2.2] none (some 2)))) b = some (.tup xs) → b ≠ D2 := fun b xs e z => by
            rw [z, upd_ne (ne_of_none k2 hp), k2] at e
            cases e
          have at_ : (upd H3 p (.tup (cutV [V.str y.1, V.str y.2.1, V.int y.2.2] none (some 2)))) q.1 = some (.tup (q.2.map kV)) := by
            rcases List.mem_append.mp hq with m | m
            · rw [upd_ne (ne_of_none (k3 q m) hp)]
              exact k3 q m
            · rw [List.mem_singleton.mp m, upd_same]
              rfl
          rw [upd_ne (nD _ _ at_)]
          exact at_
      · -- events == sorted(set(events))
        rw [len, List.take_length] at k1
        have kl : ks.length ≤ 24 := by
          have z := congrArg List.length k1
          rw [List.length_map, List.length_map, List.length_map] at z
          omega
        have evs : ∀ q ∈ ks, ∃ e, q.2 = evK e := fun q m => by
          have z : q.2 ∈ (st.map evOf).map evK := by
            rw [← k1]
            exact List.mem_map.mpr ⟨q, m, rfl⟩
          obtain ⟨e, _, h⟩ := List.mem_map.mp z
          exact ⟨e, h.symm⟩
        refine ⟨_, rfl, _, rfl, D2, ks, rfl, SqL.of k2, fun q m => SqT.of (k3 q m), by omega, fun a2 L ha2 sub all nd => ?_⟩
        have keep : ∀ q ∈ ks, (upd H3 a2 (SetO P w a2 L)) q.1 = some (.tup (q.2.map kV)) := fun q m => by
          rw [upd_ne (ne_of_none (k3 q m) ha2)]
          exact k3 q m
        refine ⟨a2, L, rfl, upd_same, fun q m => SqT.of (keep q (sub q m)), ?_, ?_, fun L1 p pm less nd1 hp => ?_⟩
        · intro d hd d' hd'
          obtain ⟨q, m, rfl⟩ := List.mem_map.mp hd
          obtain ⟨r, m', rfl⟩ := List.mem_map.mp hd'
          obtain ⟨x, ex⟩ := evs q (sub q m)
          obtain ⟨y, ey⟩ := evs r (sub r m')
          rw [ex, ey]
          rfl
        · refine .inl fun d hd => ?_
          obtain ⟨q, m, rfl⟩ := List.mem_map.mp hd
          obtain ⟨x, ex⟩ := evs q (sub q m)
          rw [ex]
          exact ⟨_, _, rfl⟩
        have srt := sorted_is L1 (st.map evOf) so.asc ((pm.map Prod.snd).nodup_iff.mpr nd) fun k => by
          rw [(pm.map Prod.snd).mem_iff, ← k1]
          refine ⟨fun z => ?_, fun z => ?_⟩
          · obtain ⟨q, m, rfl⟩ := List.mem_map.mp z
            exact List.mem_map.mpr ⟨q, sub q m, rfl⟩
          · obtain ⟨q, m, rfl⟩ := List.mem_map.mp z
            exact all q m
        have mem1 : ∀ q ∈ L1.mergeSort (PySem.W.dataLe false fun q : Addr × List Key => tD q.2), q ∈ ks := fun q m => sub q (pm.mem_iff.mp ((List.mergeSort_perm _ _).mem_iff.mp m))
        generalize L1.mergeSort (PySem.W.dataLe false fun q : Addr × List Key => tD q.2) = M at srt mem1 ⊢
        have keep2 : ∀ q ∈ ks, (upd (upd H3 a2 (SetO P w a2 L)) p (.lst (M.map fun q => V.ref q.1))) q.1 = some (.tup (q.2.map kV)) := fun q m => by
          rw [upd_ne (ne_of_none (keep q m) hp)]
          exact keep q m
        have words : ∀ e ∈ st.map evOf, Wrd e.1 ∧ Wrd e.2 := fun e m => by
          obtain ⟨x, hx, rfl⟩ := List.mem_map.mp m
          exact ⟨(so.all x hx).w1, (so.all x hx).w2⟩
        have sh := shaped_rows (st.map evOf) words
        have hev : (upd (upd H3 a2 (SetO P w a2 L)) p (.lst (M.map fun q => V.ref q.1))) D2 = some (.lst (ks.map fun q => V.ref q.1)) := by
          have z : (upd H3 a2 (SetO P w a2 L)) D2 = some (.lst (ks.map fun q => V.ref q.1)) := by
            rw [upd_ne (ne_of_none k2 ha2)]
            exact k2
          rw [upd_ne (ne_of_none z hp)]
          exact z
        have d1 := dp_rows (K := K) ks keep2
        have d2' := dp_rows (K := K) M fun q m => keep2 q (mem1 q m)
        rw [k1] at d1
        rw [srt] at d2'
        refine ⟨_, _, .lst (SqL.of hev) d1, .lst (SqL.of upd_same) d2', sh, sh, ?_⟩
        rw [SeqAt.eqv_refl _ (by simp only [PyData.canLay0]; exact lay_rows _ words)]
        refine k _ ((s2.trans s3).trans ((same_new ha2).trans (same_new hp)))
end
end My

-- ===== K7E =====
set_option Elab.async false
set_option linter.all false
set_option maxRecDepth 100000
set_option maxHeartbeats 4000000
namespace My
open PySem L2 PyProof.Rows PySem.Spec Kd
theorem nodup_most {α : Type} [DecidableEq α] : ∀ (l D : List α), l.Nodup → (∀ x ∈ l, x ∈ D) → l.length ≤ D.length
  | [], _, _, _ => Nat.zero_le _
  | x :: l, D, nd, sub => by
    obtain ⟨n1, n2⟩ := List.nodup_cons.mp nd
    have mx := sub x List.mem_cons_self
    have ih := nodup_most l (D.erase x) n2 fun y my => (List.mem_erase_of_ne fun (e : y = x) => n1 (by rw [← e]; exact my)).2 (sub y (List.mem_cons_of_mem _ my))
    rw [List.length_erase_of_mem mx] at ih
    have pos := List.length_pos_of_mem mx
    rw [List.length_cons]
    omega
/-- what a set comprehension over J asks -/
def Sc2W (K : PySem.W.Frag) (P : Program) (w : World) (ga : TG) (wb : TI) (gb : TG) (te : TE) (vs us : List Nat) (σ : L2.St) (Q : VK) (J : It) (H1 : Hp) : Prop := ∀ D, H1 D = none → ∃ W : Nat → Nat → Hp → Prop, (∃ m, W 0 m (upd H1 D (SetO P w D []))) ∧ ∀ i m H2, W i m H2 →
  (J.stop i H2 ∧ Q (.ref D) H2) ∨ (J.go i H2 ∧ ∃ Nx : Hp → Prop, (∀ H3, Nx H3 → ∃ m', m' < m ∧ W (i + 1) m' H3) ∧ ∀ x H3, J.yld i H2 x H3 → ga x (wipe σ vs) H3 fun σ4 H4 => wipe σ4 vs = wipe σ vs ∧ wb σ4 H4 fun J1 H5 =>
    ∃ W1 : Nat → Nat → Hp → Prop, (∃ m, W1 0 m H5) ∧ ∀ j k H6, W1 j k H6 → (J1.stop j H6 ∧ Nx H6) ∨ (J1.go j H6 ∧ ∃ Nx1 : Hp → Prop, (∀ H7, Nx1 H7 → ∃ k', k' < k ∧ W1 (j + 1) k' H7) ∧ ∀ x H7, J1.yld j H6 x H7 →
      gb x (wipe σ4 us) H7 fun σ8 H8 => wipe σ8 us = wipe σ4 us ∧ te σ8 H8 fun y H9 => ∃ (e : Addr) (c : List Key) (L : List (Addr × List Key)), y = .ref e ∧ SqT K H9 e (c.map kV) ∧ H9 D = some (SetO P w D L) ∧ (∀ q ∈ L, SqT K H9 q.1 (q.2.map kV)) ∧ (c ∉ L.map Prod.snd → L.length + 1 < 64) ∧
        ∀ L', (c ∈ L.map Prod.snd → L' = L) → (c ∉ L.map Prod.snd → L'.Perm ((e, c) :: L)) → Nx1 (upd H9 D (SetO P w D L'))))
def stOf {H : Hp} {v : V} {st : List Stp} (h : TD H v (stateD st)) := h
/-- the set at D has the events that p tells -/
structure Evs (P : Program) (w : World) (H H' : Hp) (D : Addr) (p : List Key → Prop) : Prop where
  same : Same H H'
  ex : ∃ L : List (Addr × List Key), H' D = some (SetO P w D L) ∧ (∀ q ∈ L, H' q.1 = some (.tup (q.2.map kV))) ∧ (L.map Prod.snd).Nodup ∧ ∀ k, k ∈ L.map Prod.snd ↔ p k
theorem Evs.like {P : Program} {w : World} {H H' : Hp} {D : Addr} {p q : List Key → Prop} (h : Evs P w H H' D p) (e : ∀ k, p k ↔ q k) : Evs P w H H' D q := by
  obtain ⟨s, L, h1, h2, h3, h4⟩ := h
  exact ⟨s, L, h1, h2, h3, fun k => (h4 k).trans (e k)⟩
theorem ev_set {K : PySem.W.Frag} {P : Program} {w : World} {o : Option V} {a : Addr} {xs : List V} {ss : List (List Stp)} {es : List (Str × Str)} {H : Hp} (ha : H a = some (.tup xs)) (hx : TDs H xs (ss.map stateD)) (les : es.length ≤ 24) (hes : ∀ st ∈ ss, ∀ x ∈ st, evOf x ∈ es) {Q : VK}
    (q : ∀ D H' (L : List (Addr × List Key)), Same H H' → H' D = some (SetO P w D L) → (∀ q ∈ L, H' q.1 = some (.tup (q.2.map kV))) → (L.map Prod.snd).Nodup → (∀ k, k ∈ L.map Prod.snd ↔ ∃ st ∈ ss, ∃ x ∈ st, k = evK (evOf x)) → L.length ≤ 24 → Q (.ref D) H') :
    Sc2W K P w (gName 1) (iTup K (tVar 1)) (gName 2) (tSl (rSlT K) (tVar 2) tNoPart (tPart (tC (V.int 2)))) [1, 2] [2] [o, none, none] Q (Itt K a) H := by
  intro D hD
  have len : xs.length = ss.length := by
    have z := hx.len
    rwa [List.length_map] at z
  have few : ∀ {L : List (Addr × List Key)} {p : List Key → Prop}, (L.map Prod.snd).Nodup → (∀ k, k ∈ L.map Prod.snd ↔ p k) → (∀ k, p k → ∃ st ∈ ss, ∃ x ∈ st, k = evK (evOf x)) → L.length ≤ 24 := fun {L p} nd me im => by
    have z := nodup_most (L.map Prod.snd) (es.map evK) nd fun k hk => by
      obtain ⟨st, m1, x, m2, rfl⟩ := im k ((me k).mp hk)
      exact List.mem_map.mpr ⟨_, hes st m1 x m2, rfl⟩
    rw [List.length_map, List.length_map] at z
    omega
  refine ⟨fun i m H2 => m = xs.length - i ∧ i ≤ xs.length ∧ Evs P w H H2 D fun k => ∃ st ∈ ss.take i, ∃ x ∈ st, k = evK (evOf x), ⟨_, rfl, Nat.zero_le _, same_new hD, [], upd_same, (fun q m => nomatch m), List.nodup_nil, fun k => by simp⟩, fun i m H2 ⟨em, le, ev⟩ => ?_⟩
  subst em
  have ha2 := ev.same _ _ ha
  rcases Nat.lt_or_ge i xs.length with lt | ge
  · obtain ⟨x, ex⟩ : ∃ x, xs[i]? = some x := ⟨_, List.getElem?_eq_getElem lt⟩
    obtain ⟨d, ed, td⟩ := hx.get ex
    rw [List.getElem?_map] at ed
    obtain ⟨st, est, rfl⟩ := Option.map_eq_some_iff.mp ed
    obtain ⟨b, ys, rfl, hb, hy⟩ := td.ref_of
    have stm : st ∈ ss := List.mem_of_getElem? est
    have leny : ys.length = st.length := by
      have z := hy.len
      rwa [List.length_map] at z
    refine .inr ⟨⟨xs, _, SqT.of ha2, ex⟩, fun H3 => Evs P w H H3 D fun k => ∃ st ∈ ss.take (i + 1), ∃ x ∈ st, k = evK (evOf x), fun H3 e3 => ⟨_, by omega, rfl, lt, e3⟩, fun v H3 yl => ?_⟩
    obtain ⟨eH, yv⟩ := yl
    subst eH
    have e0 : xs[i]? = some v := yv _ (SqT.of ha2)
    rw [ex] at e0
    cases e0
    have hb2 := ev.same _ _ hb
    refine ⟨rfl, _, rfl, b, rfl, ⟨_, SqT.of hb2⟩, fun j m H4 => m = ys.length - j ∧ j ≤ ys.length ∧ Evs P w H H4 D fun k => (∃ st ∈ ss.take i, ∃ x ∈ st, k = evK (evOf x)) ∨ ∃ x ∈ st.take j, k = evK (evOf x), ⟨_, rfl, Nat.zero_le _, ev.like fun k => by simp⟩, fun j k H4 ⟨ek, lej, ev4⟩ => ?_⟩
    subst ek
    have hb4 := ev4.same _ _ hb
    rcases Nat.lt_or_ge j ys.length with ltj | gej
    · obtain ⟨y, ey⟩ : ∃ y, ys[j]? = some y := ⟨_, List.getElem?_eq_getElem ltj⟩
      obtain ⟨d, ed, td4⟩ := hy.get ey
      rw [List.getElem?_map] at ed
      obtain ⟨sx, esx, rfl⟩ := Option.map_eq_some_iff.mp ed
      obtain ⟨c, rfl, hc⟩ := step_of td4
      refine .inr ⟨⟨ys, _, SqT.of hb4, ey⟩, fun H5 => Evs P w H H5 D fun k => (∃ st ∈ ss.take i, ∃ x ∈ st, k = evK (evOf x)) ∨ ∃ x ∈ st.take (j + 1), k = evK (evOf x), fun H5 e5 => ⟨_, by omega, rfl, ltj, e5⟩, fun v H5 yl => ?_⟩
      obtain ⟨eH, yv⟩ := yl
      subst eH
      have e0 : ys[j]? = some v := yv _ (SqT.of hb4)
      rw [ey] at e0
      cases e0
      obtain ⟨s4, L, l1, l2, l3, l4⟩ := ev4
      have hc4 := s4 _ _ hc
      refine ⟨rfl, _, rfl, 2, rfl, c, _, rfl, SqT.of hc4, (fun z => absurd (show HT.sIx 3 3 (some 2) = 3 from z.2) (by decide)), fun p hp => ?_⟩
      have at_ : ∀ q ∈ L, (upd H5 p (.tup (cutV [V.str sx.1, V.str sx.2.1, V.int sx.2.2] none (some 2)))) q.1 = some (.tup (q.2.map kV)) := fun q m => by
        rw [upd_ne (ne_of_none (l2 q m) hp)]
        exact l2 q m
      have atD : (upd H5 p (.tup (cutV [V.str sx.1, V.str sx.2.1, V.int sx.2.2] none (some 2)))) D = some (SetO P w D L) := by
        rw [upd_ne (ne_of_none l1 hp)]
        exact l1
      have llen : L.length ≤ 24 := few l3 l4 fun k h => by
        rcases h with ⟨st', m1, x, m2, e⟩ | ⟨x, m2, e⟩
        · exact ⟨st', List.mem_of_mem_take m1, x, m2, e⟩
        · exact ⟨st, stm, x, List.mem_of_mem_take m2, e⟩
      refine ⟨p, evK (evOf sx), L, rfl, SqT.of upd_same, atD, fun q m => SqT.of (at_ q m), fun _ => by omega, fun L' c1 c2 => ?_⟩
      have tk : st.take (j + 1) = st.take j ++ [sx] := by rw [List.take_succ, esx]; rfl
      have tup2 : ∀ {b : Addr} {zs : List V}, (upd H5 p (.tup (cutV [V.str sx.1, V.str sx.2.1, V.int sx.2.2] none (some 2)))) b = some (.tup zs) → (upd (upd H5 p (.tup (cutV [V.str sx.1, V.str sx.2.1, V.int sx.2.2] none (some 2)))) D (SetO P w D L')) b = some (.tup zs) := fun {b zs} e => by
        rw [upd_ne fun z => by rw [z, atD] at e; cases e]
        exact e
      refine ⟨same_at (s4.trans (same_new hp)) hD, L', upd_same, fun q m => ?_, ?_, fun k => ?_⟩
      · by_cases h : evK (evOf sx) ∈ L.map Prod.snd
        · rw [c1 h] at m
          exact tup2 (at_ q m)
        · rcases List.mem_cons.mp ((c2 h).mem_iff.mp m) with e | m
          · rw [e]
            exact tup2 upd_same
          · exact tup2 (at_ q m)
      · by_cases h : evK (evOf sx) ∈ L.map Prod.snd
        · rw [c1 h]
          exact l3
        · exact ((c2 h).map Prod.snd).nodup_iff.mpr (List.nodup_cons.mpr ⟨h, l3⟩)
      · have step : k ∈ L'.map Prod.snd ↔ k = evK (evOf sx) ∨ k ∈ L.map Prod.snd := by
          by_cases h : evK (evOf sx) ∈ L.map Prod.snd
          · rw [c1 h]
            exact ⟨.inr, fun z => z.elim (fun e => by rw [e]; exact h) id⟩
          · rw [((c2 h).map Prod.snd).mem_iff, List.map_cons, List.mem_cons]
        rw [step, l4 k, tk]
        simp only [List.mem_append, List.mem_singleton]
        constructor
        · rintro (e | e | ⟨x, m, e⟩)
          · exact .inr ⟨sx, .inr rfl, e⟩
          · exact .inl e
          · exact .inr ⟨x, .inl m, e⟩
        · rintro (e | ⟨x, m | m, e⟩)
          · exact .inr (.inl e)
          · exact .inr (.inr ⟨x, m, e⟩)
          · rw [m] at e
            exact .inl e
    · have e : j = ys.length := by omega
      subst e
      refine .inl ⟨⟨ys, SqT.of hb4, Nat.le_refl _⟩, ev4.like fun k => ?_⟩
      have tk : ss.take (i + 1) = ss.take i ++ [st] := by rw [List.take_succ, est]; rfl
      rw [leny, List.take_length, tk]
      simp only [List.mem_append, List.mem_singleton]
      constructor
      · rintro (⟨s, m, z⟩ | z)
        · exact ⟨s, .inl m, z⟩
        · exact ⟨st, .inr rfl, z⟩
      · rintro ⟨s, m | m, z⟩
        · exact .inl ⟨s, m, z⟩
        · rw [m] at z
          exact .inr z
  · have e : i = xs.length := by omega
    subst e
    obtain ⟨s2, L, l1, l2, l3, l4⟩ := ev
    rw [len, List.take_length] at l4
    exact .inl ⟨⟨xs, SqT.of ha2, Nat.le_refl _⟩, q D H2 L s2 l1 l2 l3 l4 (few l3 l4 fun k h => h)⟩
def rLenQ (K : PySem.W.Frag) : List V → Hp → VK → Prop := fun xs H Q => ∃ p ys, xs = [.ref p] ∧ (SqL K H p ys ∨ SqT K H p ys) ∧ Q (.int ys.length) H
def spStates : Sp := fun vs H Q _ => ∃ (a : Addr) (ss : List (List Stp)), vs = [.ref a] ∧ TD H (.ref a) (statesD ss) ∧ KOk ss ∧ ∀ H', Same H H' → Q (.bl true) H'
section
variable {P : Program} {w : World} {K : PySem.W.Frag} {mg : Str → Option Value} {base : Heap}
abbrev nSs : List Str := ["thing", "state", "step"]
theorem scSs : FnScope nSs ["thing"] (defScope sStates) := ⟨rfl, rfl, rfl, by decide +kernel, rfl, by decide +kernel, by decide +kernel⟩
theorem ok_states {f fS : Addr} {fd fdS : FuncData} (F : Fun K "is_states" "is_states" sStates f fd) (G : Gs mg)
    (GS : FnOk P w K mg base CX0 3 fS fdS ["thing", "many"] spState) (mS : mg "_is_state" = some (.ref fS)) (kS : PySem.W.keepIn K (.ref fS) = true) (bS : Binds K fdS ["thing", "many"] []) :
    FnOk P w K mg base CX0 4 f fd ["thing"] spStates := by
  obtain ⟨t40, m40⟩ := G.c40
  obtain ⟨t24, m24⟩ := G.c24
  refine F.ok scSs (fun vs H Q E h => ?_) (fun cdv A outer s H vs Q E hr h => ?_)
  · obtain ⟨a, ss, rfl, _⟩ := h
    rfl
  · obtain ⟨a, ss, rfl, hx, so, k⟩ := h
    have hu := hr.units
    have hu2 : (A.deeper (envOfC "is_states" (defScope sStates) s.heap.objs.size f cdv)).units + 2 < cLine := by omega
    refine ⟨_, pss_cons (ps_if (PW.pt (pw_or (pt_not (pt_val (pe_callB call_isi (by rfl) G.isi boot_isinstance (pa_cons (pv 0) (pa_cons (pe_bltn (v := .ty "tuple") (by rfl) G.tuple PyProof.Rows.boot_tuple rfl) pa_nil)))))
          (pw_or1 (pt_not (pt_chain op_le op_le pe_int (pe_callB call_len_seq (by rfl) G.len PySem.boot_len (pa_cons (pv 0) pa_nil)) (pe_glob (v := .int 40) (by rfl) m40 ⟨_, rfl⟩)))))) (pss_one (ps_ret pe_bl)) pss_nil)
      (pss_cons (ps_if (pt_not (pt_val (pe_callB (cr_all rfl) (by rfl) G.all PyProof.Rows.boot_all (pa_cons (pe_lc (own := [("state", 1)]) (g := gName 1) (tt := tYes) rfl scSs.nd (pi_tup (pv 0)) (blkOk_by (N := nSs) (sc := defScope sStates) (by decide +kernel))
            (fun _ _ _ _ _ => pg_name (i := 1) scSs.nd rfl (Or.inl rfl)) (fun _ _ _ _ _ => pts_nil) (fun _ _ _ _ _ => pe_call GS hr (by rfl) mS kS bS .nil pass0 (pa_cons (pv 1) (pa_cons (pe_callB (r := rLenQ K) call_len_seq (by rfl) G.len PySem.boot_len (pa_cons (pv 0) pa_nil)) pa_nil)))) pa_nil)))) (pss_one (ps_ret pe_bl)) pss_nil)
      (pss_one (ps_ret (pe_cmpR op_le (pe_callB cr_lenS (by rfl) G.len PySem.boot_len (pa_cons (pe_sc2 (own := [("state", 1), ("step", 2)]) (us := [2]) (wa := iTup K (tVar 0)) (wb := iTup K (tVar 1)) (te := tSl (rSlT K) (tVar 2) tNoPart (tPart (tC (V.int 2)))) rfl scSs.nd hu2 (pi_tup (pv 0)) (blkOk_by (N := nSs) (sc := defScope sStates) (by decide +kernel)) (by decide)
            (fun _ _ _ _ _ => pg_name (i := 1) scSs.nd rfl (Or.inl rfl)) (fun _ _ _ _ _ => pi_tup (pv 1)) (fun _ _ _ _ _ => pg_name (i := 2) scSs.nd rfl (Or.inl rfl)) (fun _ _ _ _ _ => pe_slice (r := rSlT K) sl_tup (pv 2) po_none (po_some pe_int))) pa_nil)) (pe_glob (v := .int 24) (by rfl) m24 ⟨_, rfl⟩) (nomark _))))), ?_⟩
    obtain ⟨xs, ha, hxs⟩ := hx.tup_of
    have len : xs.length = ss.length := by
      have z := hxs.len
      rwa [List.length_map] at z
    have l1 := so.one
    have l2 := so.most
    refine ⟨_, rfl, _, _, _, _, _, rfl, .ty "tuple", .base (.tup ha), kit_ty (a := "tuple") (b := "tuple") (r := true) (by decide +kernel), _, rfl, iteF ?_⟩
    refine ⟨_, rfl, a, _, rfl, .inr (SqT.of ha), _, _, rfl, rfl, _, rfl, ?_⟩
    rw [decide_eq_true (show (1 : Int) ≤ xs.length by omega)]
    refine iteT ⟨_, _, rfl, rfl, _, rfl, ?_⟩
    rw [decide_eq_true (show (xs.length : Int) ≤ 40 by omega)]
    refine iteF ?_
    refine ⟨_, rfl, a, rfl, ⟨_, SqT.of ha⟩, fun D hD => lc_tup (K := K) (a := a) (xs := xs) (fun i H2 => Same H H2 ∧ H2 D = some (.lst ((List.replicate i true).map V.bl))) ⟨same_new hD, upd_same⟩ (fun i H2 _ ⟨s2, _⟩ => SqT.of (s2 _ _ ha)) (fun i x H2 ex ⟨s2, d2⟩ => ?_) fun H2 ⟨s2, d2⟩ => ?_⟩
    · obtain ⟨d, ed, td⟩ := hxs.get ex
      rw [List.getElem?_map] at ed
      obtain ⟨st, ey, rfl⟩ := Option.map_eq_some_iff.mp ed
      obtain ⟨b, ys, rfl, _⟩ := td.ref_of
      have lt : i < ss.length := (List.getElem?_eq_some_iff.mp ey).1
      refine ⟨rfl, _, rfl, _, rfl, a, _, rfl, .inr (SqT.of (s2 _ _ ha)), b, st, ss.length, by rw [len]; rfl, td.to (Tup.of s2), so.all st (List.mem_of_getElem? ey), fun H3 s3 => ⟨_, s3 _ _ d2, ?_, same_at (s2.trans s3) hD, ?_⟩⟩
      · rw [List.length_map, List.length_replicate]
        exact small_lt (m := 40) (by omega)
      · rw [upd_same, List.replicate_succ', List.map_append]
        rfl
    · refine ⟨D, _, rfl, SqL.of d2, _, rfl, ?_⟩
      have e : ((List.replicate xs.length true).all id) = true := by simp
      rw [e]
      refine iteF ?_
      obtain ⟨es, e1, e2⟩ := so.evs
      refine ⟨_, rfl, a, rfl, ⟨_, SqT.of (s2 _ _ ha)⟩, ev_set (K := K) (P := P) (w := w) (o := some (V.ref a)) (Q := fun x H1 => rLenS P w [x] H1 fun y H2 => rI0 (fun i j => V.bl (decide (i ≤ j))) y (.int 24) H2 Q) (s2 _ _ ha) (hxs.to (Tup.of s2)) e1 e2 fun D2 H3 L s3 h1 h2 h3 h4 h5 => ⟨D2, L, rfl, h1, _, _, rfl, rfl, ?_⟩⟩
      show Q (V.bl (decide ((L.length : Int) ≤ 24))) H3
      rw [decide_eq_true (show (L.length : Int) ≤ 24 by omega)]
      exact k _ (s2.trans s3)
end
end My

-- ===== K7F =====
set_option Elab.async false
set_option linter.all false
set_option maxRecDepth 100000
set_option maxHeartbeats 4000000
namespace My
open PySem L2 PyProof.Rows PySem.Spec Kd
def DcW (ga : TG) (tk tv : TE) (vs : List Nat) (σ : L2.St) (Q : VK) (J : It) (H1 : Hp) : Prop := ∀ D, H1 D = none → ∃ W : Nat → Nat → Hp → Prop, (∃ m, W 0 m (upd H1 D (.dT []))) ∧ ∀ i m H2, W i m H2 →
  (J.stop i H2 ∧ Q (.ref D) H2) ∨ (J.go i H2 ∧ ∃ Nx : Hp → Prop, (∀ H3, Nx H3 → ∃ m', m' < m ∧ W (i + 1) m' H3) ∧ ∀ x H3, J.yld i H2 x H3 → ga x (wipe σ vs) H3 fun σ4 H4 => wipe σ4 vs = wipe σ vs ∧ tk σ4 H4 fun y H5 => tv σ4 H5 fun z H6 =>
    ∃ (kvs : List (List Key × V)) (k : List Key) (b : Addr), y = .ref b ∧ H6 b = some (.tup (k.map kV)) ∧ H6 D = some (.dT kvs) ∧ kvs.length < sizeLine ∧ Nx (upd H6 D (.dT (putK kvs k z))))
def mvOf (x : Stp) : List Key × V := (evK (evOf x), .int x.2.2)
theorem putK_new {kvs : List (List Key × V)} {k : List Key} {v : V} (h : ∀ p ∈ kvs, p.1 ≠ k) : putK kvs k v = kvs ++ [(k, v)] := by
  unfold putK
  rw [if_neg]
  intro z
  obtain ⟨p, m, e⟩ := List.any_eq_true.mp z
  exact h p m (of_decide_eq_true e)
theorem mv_dict {K : PySem.W.Frag} {o0 o1 : Option V} {b : Addr} {ys : List V} {st : List Stp} {H : Hp} (hb : H b = some (.tup ys)) (hy : TDs H ys (st.map stepD)) (asc : (st.map evOf).Pairwise evLt) (few : st.length ≤ 24) {Q : VK}
    (q : ∀ D H', Same H H' → H' D = some (.dT (st.map mvOf)) → Q (.ref D) H') :
    DcW (gTup K 3 (gCons (gName 2) (gCons (gName 3) (gCons (gName 4) gNil)))) (tTup (tCons (tVar 2) (tCons (tVar 3) tNil))) (tVar 4) [2, 3, 4] [o0, o1, none, none, none] Q (Itt K b) H := by
  intro D hD
  have len : ys.length = st.length := by
    have z := hy.len
    rwa [List.length_map] at z
  refine ⟨fun i m H2 => m = ys.length - i ∧ i ≤ ys.length ∧ Same H H2 ∧ H2 D = some (.dT ((st.take i).map mvOf)), ⟨_, rfl, Nat.zero_le _, same_new hD, by simp [upd_same]⟩, fun i m H2 ⟨em, le, s2, d2⟩ => ?_⟩
  subst em
  have hb2 := s2 _ _ hb
  rcases Nat.lt_or_ge i ys.length with lt | ge
  · obtain ⟨y, ey⟩ : ∃ y, ys[i]? = some y := ⟨_, List.getElem?_eq_getElem lt⟩
    obtain ⟨d, ed, td⟩ := hy.get ey
    rw [List.getElem?_map] at ed
    obtain ⟨x, ex, rfl⟩ := Option.map_eq_some_iff.mp ed
    obtain ⟨c, rfl, hc⟩ := step_of td
    refine .inr ⟨⟨ys, _, SqT.of hb2, ey⟩, fun H3 => Same H H3 ∧ H3 D = some (.dT ((st.take (i + 1)).map mvOf)), fun H3 ⟨s3, d3⟩ => ⟨_, by omega, rfl, lt, s3, d3⟩, fun v H3 yl => ?_⟩
    obtain ⟨eH, yv⟩ := yl
    have e0 : ys[i]? = some v := yv _ (SqT.of hb2)
    rw [ey] at e0
    cases e0
    subst eH
    have hc3 := s2 _ _ hc
    refine ⟨c, _, rfl, SqT.of hc3, rfl, _, _, rfl, _, _, rfl, _, _, rfl, rfl, rfl, ?_⟩
    refine ⟨_, rfl, _, rfl, by show 2 ≤ sizeLine; decide, fun p hp => ⟨_, rfl, (st.take i).map mvOf, evK (evOf x), p, rfl, upd_same, ?_, ?_, ?_, ?_⟩⟩
    · rw [upd_ne (ne_of_none d2 hp)]
      exact d2
    · rw [List.length_map, List.length_take]
      exact small_lt (m := 24) (by omega)
    · exact same_at (s2.trans (same_new hp)) hD
    · have tk : st.take (i + 1) = st.take i ++ [x] := by rw [List.take_succ, ex]; rfl
      rw [upd_same, tk, List.map_append, putK_new]
      · rfl
      · intro p hp e
        obtain ⟨z, hz, rfl⟩ := List.mem_map.mp hp
        have e2 : evOf z = evOf x := evK_inj e
        have nd := asc_nodup asc
        have sub : (st.take (i + 1)).map evOf = (st.map evOf).take (i + 1) := List.map_take
        have nd2 : ((st.take (i + 1)).map evOf).Nodup := by
          rw [sub]
          exact List.Pairwise.sublist (List.take_sublist _ _) nd
        rw [tk, List.map_append] at nd2
        exact (List.nodup_append.mp nd2).2.2 (evOf z) (List.mem_map.mpr ⟨z, hz, rfl⟩) (evOf x) (by simp) e2
  · have e : i = ys.length := by omega
    subst e
    rw [len, List.take_length] at d2
    exact .inl ⟨⟨ys, SqT.of hb2, Nat.le_refl _⟩, q D H2 s2 d2⟩
/-- the moves of a kind stand at m -/
def MovesAt (H : Hp) (m : Addr) (ss : List (List Stp)) : Prop := ∃ bs : List Addr, H m = some (.lst (bs.map V.ref)) ∧ bs.length = ss.length ∧ ∀ (i : Nat) (b : Addr) (st : List Stp), bs[i]? = some b → ss[i]? = some st → H b = some (.dT (st.map mvOf))
def spMoves : Sp := fun vs H Q _ => ∃ (a : Addr) (ss : List (List Stp)), vs = [.ref a] ∧ TD H (.ref a) (statesD ss) ∧ KOk ss ∧ ∀ m H', Same H H' → H m = none → MovesAt H' m ss → Q (.ref m) H'
def lcScope : Stmt → Scope
  | .FunctionDef _ _ [.Return (some (.ListComp _ _ sc _)) _] .. => sc
  | _ => { kind := .function, names := [], isGenerator := false, isCoroutine := false }
section
variable {P : Program} {w : World} {K : PySem.W.Frag} {mg : Str → Option Value} {base : Heap}
abbrev nMv : List Str := ["states", "state", "operation", "answer", "goal"]
theorem scMv : FnScope nMv ["states"] (defScope sMoves) := ⟨rfl, rfl, rfl, by decide +kernel, rfl, by decide +kernel, by decide +kernel⟩
theorem ok_moves {f : Addr} {fd : FuncData} (F : Fun K "moves_of" "moves_of" sMoves f fd) : FnOk P w K mg base CX0 1 f fd ["states"] spMoves := by
  refine F.ok scMv (fun vs H Q E h => ?_) (fun cdv A outer s H vs Q E hr h => ?_)
  · obtain ⟨a, ss, rfl, _⟩ := h
    rfl
  · obtain ⟨a, ss, rfl, hx, so, k⟩ := h
    have hu := hu_of hr
    have hu2 : (A.deeper (envOfC "moves_of" (defScope sMoves) s.heap.objs.size f cdv)).units + 2 < cLine := by have := hr.units; omega
    refine ⟨_, pss_one (ps_ret (pe_lc (own := [("state", 1)]) (g := gName 1) (tt := tYes) (te := tDcT (iTup K (tVar 1)) (gTup K 3 (gCons (gName 2) (gCons (gName 3) (gCons (gName 4) gNil)))) (tTup (tCons (tVar 2) (tCons (tVar 3) tNil))) (tVar 4) [2, 3, 4]) rfl scMv.nd (pi_tup (pv 0)) (blkOk_by (N := nMv) (sc := defScope sMoves) (by decide +kernel))
            (fun _ _ _ _ _ => pg_name (i := 1) scMv.nd rfl (Or.inl rfl)) (fun _ _ _ _ _ => pts_nil)
            (fun _ _ _ _ _ => pe_dcT (own := [("operation", 2), ("answer", 3), ("goal", 4)]) rfl scMv.nd hu2 (pi_tup (pv 1)) (blkOk_by (N := nMv) (sc := relS (lcScope sMoves) (defScope sMoves)) (by decide +kernel))
              (fun _ _ _ _ _ => pg_tup (by rfl) (pgs_cons (pg_name (i := 2) scMv.nd rfl (Or.inl rfl)) (pgs_cons (pg_name (i := 3) scMv.nd rfl (Or.inl rfl)) (pgs_cons (pg_name (i := 4) scMv.nd rfl (Or.inl rfl)) pgs_nil))))
              (fun _ _ _ _ _ => pe_tup (pa_cons (pv 2) (pa_cons (pv 3) pa_nil))) (fun _ _ _ _ _ => pv 4)))), ?_⟩
    obtain ⟨xs, ha, hxs⟩ := hx.tup_of
    have len : xs.length = ss.length := by
      have z := hxs.len
      rwa [List.length_map] at z
    have l2 := so.most
    refine ⟨_, rfl, a, rfl, ⟨_, SqT.of ha⟩, fun D hD => lc_tup (K := K) (a := a) (xs := xs) (fun i H2 => Same H H2 ∧ ∃ bs : List Addr, H2 D = some (.lst (bs.map V.ref)) ∧ bs.length = i ∧ ∀ (j : Nat) (b : Addr) (st : List Stp), bs[j]? = some b → ss[j]? = some st → H2 b = some (.dT (st.map mvOf)))
      ⟨same_new hD, [], upd_same, rfl, fun j b st e => by simp at e⟩ (fun i H2 _ ⟨s2, _⟩ => SqT.of (s2 _ _ ha)) (fun i x H2 ex ⟨s2, bs, d2, bl, hbs⟩ => ?_) fun H2 ⟨s2, bs, d2, bl, hbs⟩ => ?_⟩
    · obtain ⟨d, ed, td⟩ := hxs.get ex
      rw [List.getElem?_map] at ed
      obtain ⟨st, ey, rfl⟩ := Option.map_eq_some_iff.mp ed
      obtain ⟨b, ys, rfl, hb, hy⟩ := td.ref_of
      have lt : i < ss.length := (List.getElem?_eq_some_iff.mp ey).1
      have sto := so.all st (List.mem_of_getElem? ey)
      refine ⟨rfl, _, rfl, b, rfl, ⟨_, SqT.of (s2 _ _ hb)⟩, mv_dict (K := K) (o0 := some (V.ref a)) (o1 := some (V.ref b)) (Q := fun y H4 => ∃ acc, H4 D = some (.lst acc) ∧ acc.length < sizeLine ∧ Same H (upd H4 D (.lst (acc ++ [y]))) ∧ ∃ bs : List Addr, (upd H4 D (.lst (acc ++ [y]))) D = some (.lst (bs.map V.ref)) ∧ bs.length = i + 1 ∧ ∀ (j : Nat) (b : Addr) (st : List Stp), bs[j]? = some b → ss[j]? = some st → (upd H4 D (.lst (acc ++ [y]))) b = some (.dT (st.map mvOf)))
        (s2 _ _ hb) (hy.to (Tup.of s2)) sto.asc sto.few fun D2 H3 s3 d3 => ⟨_, s3 _ _ d2, ?_, same_at (s2.trans s3) hD, bs ++ [D2], ?_, ?_, fun j c sj ec es => ?_⟩⟩
      · rw [List.length_map]
        exact small_lt (m := 40) (by omega)
      · rw [upd_same, List.map_append]
        rfl
      · rw [List.length_append, bl]
        rfl
      · have at_ : H3 c = some (.dT (sj.map mvOf)) := by
          rcases Nat.lt_or_ge j bs.length with l | g
          · rw [List.getElem?_append_left l] at ec
            exact s3 _ _ (hbs j c sj ec es)
          · rw [List.getElem?_append_right g] at ec
            have ej : j - bs.length = 0 := by
              have z := (List.getElem?_eq_some_iff.mp ec).1
              simp at z
              omega
            have ej2 : j = i := by omega
            rw [ej] at ec
            have e2 : D2 = c := Option.some.inj ec
            rw [ej2, ey] at es
            rw [← Option.some.inj es, ← e2]
            exact d3
        rw [upd_ne fun z => by rw [z, s3 _ _ d2] at at_; cases at_]
        exact at_
    · exact k D H2 s2 hD ⟨bs, d2, by rw [bl, len], hbs⟩
end
end My

-- ===== K7G =====
set_option Elab.async false
set_option linter.all false
set_option maxRecDepth 100000
set_option maxHeartbeats 4000000
namespace My
open PySem L2 PyProof.Rows PySem.Spec Kd StX ClX
abbrev sKind : Stmt := top 26
abbrev sInit : Stmt := inClass sKind 0
abbrev sOf : Stmt := inClass sKind 1
abbrev sRead : Stmt := inClass sKind 2
abbrev sEq : Stmt := inClass sKind 3
abbrev sKtext : Stmt := inClass sKind 8
/-! ### C(*xs), C in a local name -/
section
variable {X : Cx} {CX : CXT} {k i : Nat} {f C : Addr} {sp : Sp} {E : XK} {x : PySem.Str} {e : Expr} {te : TE} {p sp_ pos : Pos}
theorem pe_makeL (M : Mk X.K C f) (F : FnR X.prog X.w X.K X.mg X.base CX k f sp) (hr : Room (k + 1) X.A) (hN : X.N[i]? = some x) (hv : Vis X.env.scope x) (hx : Passes CX X E) (he : PE X e te) (hdb : (x == ("__debug__" : PySem.Str)) = false := by decide) (hcd : (x == ("__classdict__" : PySem.Str)) = false := by decide)
    (hst : starEach [.Starred e sp_] X.env = [(true, eval e X.env)] := by rfl) :
    PE X (.Call (.Name x p) [.Starred e sp_] [] pos) (fun σ H Q => σ[i]? = some (some (.ref C)) ∧ te σ H fun y H1 => ∃ a xs, y = V.ref a ∧ (SqT X.K H1 a xs ∨ SqL X.K H1 a xs) ∧ ∀ o dx, H1 o = none → H1 dx = none → dx ≠ o →
      sp (V.ref o :: xs) (upd (upd H1 dx (.own o)) o (.ins C dx [])) (fun v H2 => v = .non ∧ Q (.ref o) H2) E) := by
  refine ⟨fun pins s σ H Q I h => ?_⟩
  obtain ⟨hs, ht⟩ := h
  refine wpAny_Call_Name_kw (thn ((pe_var (pos := p) hN hv hdb hcd).run pins s σ H (fun v H1 => v = .ref C ∧ H1 = H) I ⟨.ref C, hs, rfl, rfl⟩) fun u s1 ⟨v, H1, I1, r1, q1⟩ => ?_)
  obtain ⟨rfl, rfl⟩ := q1
  cases r1
  refine PySem.W.callWith_S (h₀ := X.base) I.ok.mod.kin M.kp (thn (he.run pins s1 σ _ _ I1 ht) fun w s2 ⟨y, H2, I2, ry, a, xs, ey, hxs, q⟩ => ?_) hst
  subst ey
  obtain rfl : w = Value.ref a := ry
  exact star_any I2 hxs fun us s3 I3 rv => ⟨I3.kIn, run_makeR M F hr hx I3 rv q⟩
end
/-! ### the class -/
def KindAt (C : Addr) (H : Hp) (v : V) (ss : List (List Stp)) : Prop := ∃ o dx a m, v = .ref o ∧ H o = some (.ins C dx [("states", .ref a), ("moves", .ref m)]) ∧ TD H (.ref a) (statesD ss) ∧ MovesAt H m ss
theorem MovesAt.same {H H' : Hp} {m : Addr} {ss : List (List Stp)} (s : Same H H') (h : MovesAt H m ss) : MovesAt H' m ss := by
  obtain ⟨bs, h1, h2, h3⟩ := h
  exact ⟨bs, s _ _ h1, h2, fun i b st e1 e2 => s _ _ (h3 i b st e1 e2)⟩
theorem KindAt.same {C : Addr} {H H' : Hp} {v : V} {ss : List (List Stp)} (s : Same H H') (h : KindAt C H v ss) : KindAt C H' v ss := by
  obtain ⟨o, dx, a, m, e, h1, h2, h3⟩ := h
  exact ⟨o, dx, a, m, e, s _ _ h1, h2.to (Tup.of s), h3.same s⟩
/-- as it was but for one address -/
def But (o : Addr) (H H' : Hp) : Prop := ∀ b u, H b = some u → b ≠ o → H' b = some u
def spInit (C : Addr) : Sp := fun vs H Q _ => ∃ (o t dx : Addr) (ss : List (List Stp)), vs = [.ref o, .ref t] ∧ H o = some (.ins C dx []) ∧ TD H (.ref t) (statesD ss) ∧ KOk ss ∧
  ∀ H' m, But o H H' → H' o = some (.ins C dx [("states", .ref t), ("moves", .ref m)]) → MovesAt H' m ss → Q .non H'
def spInitR (C : Addr) : Sp := fun vs H Q E => ∃ ws rest, vs = ws ++ rest ∧ ws.length = ["self"].length ∧ rest.length ≤ sizeLine ∧ ∀ p, H p = Option.none → spInit C (ws ++ [V.ref p]) (upd H p (.tup rest)) Q E
def spOf (C : Addr) : Sp := fun vs H Q _ => ∃ (a : Addr) (ss : List (List Stp)), vs = [.ref C, .ref a] ∧ TD H (.ref a) (statesD ss) ∧ KOk ss ∧ ∀ v H', Same H H' → KindAt C H' v ss → Q v H'
section
variable {P : Program} {w : World} {K : PySem.W.Frag} {mg : Str → Option Value} {base : Heap}
theorem scIn : FnScope ["self", "states"] ["self", "states"] (defScope sInit) := ⟨rfl, rfl, rfl, by decide +kernel, rfl, by decide +kernel, by decide +kernel⟩
theorem ok_init {f C fS fM : Addr} {fd fdS fdM : FuncData} (F : Fun K "__init__" "Kind.__init__" sInit f fd) (cl : Cls K C) (n1 : NoAttr K C "states") (n2 : NoAttr K C "moves")
    (GS : FnOk P w K mg base CX0 4 fS fdS ["thing"] spStates) (mS : mg "is_states" = some (.ref fS)) (kS : PySem.W.keepIn K (.ref fS) = true) (bS : Binds K fdS ["thing"] [])
    (GM : FnOk P w K mg base CX0 1 fM fdM ["states"] spMoves) (mM : mg "moves_of" = some (.ref fM)) (kM : PySem.W.keepIn K (.ref fM) = true) (bM : Binds K fdM ["states"] []) :
    FnR P w K mg base CX0 5 f (spInitR C) := by
  obtain ⟨oc, od, kV, doc, pm, an, cdv, ct, osl, rfl, lk, hcd⟩ := F.ex
  refine fn_star (ps := ["self"]) (pv := "states") (sp := spInit C) lk hcd scIn cxUp_none (bind_star1 (B := fun l => bindArgs (PySem.W.fnOf "__init__" "Kind.__init__" (defArgs sInit) (defBody sInit) (defScope sInit) .none kV doc pm an cdv ct) ⟨l, []⟩) (p1 := "self") (pv := "states") (fun a => rfl) (fun a r rs => rfl)) fun A outer s H vs Q E hr h => ?_
  obtain ⟨o, t, dx, ss, rfl, ho, hx, so, k⟩ := h
  refine ⟨_, PSs.nox (pss_cons (ps_if (pt_not (pt_val (pe_call GS hr (by rfl) mS kS bS .nil pass0 (pa_cons (pv 1) pa_nil)))) (pss_one ps_never) pss_nil)
      (pss_cons (ps_fld (pv 0) (pv 1) rfl) (pss_one (ps_fld (pv 0) (pe_call GM (hr.mono (by decide)) (by rfl) mM kM bM .nil pass0 (pa_cons (pv 1) pa_nil)) rfl)))), ?_⟩
  refine ⟨_, rfl, t, ss, rfl, hx, so, fun H1 s1 => ⟨true, rfl, iteF ?_⟩⟩
  refine ⟨_, rfl, _, rfl, o, C, dx, [], rfl, s1 _ _ ho, cl, n1, by decide, ?_⟩
  have tp : Tup H1 (upd H1 o (.ins C dx [("states", .ref t)])) := Tup.at_ (s1 _ _ ho) fun xs z => nomatch z
  refine ⟨_, rfl, t, ss, rfl, (hx.to (Tup.of s1)).to tp, so, fun m H3 s3 nm mv => ?_⟩
  have ho3 : H3 o = some (.ins C dx [("states", .ref t)]) := s3 _ _ upd_same
  refine ⟨_, rfl, o, C, dx, _, rfl, ho3, cl, n2, (by show (1 : Nat) < 1000; decide), ?_⟩
  refine k _ m (fun b u e ne => ?_) upd_same ?_
  · rw [upd_ne ne]
    exact s3 _ _ (by rw [upd_ne ne]; exact s1 _ _ e)
  · obtain ⟨bs, h1, h2, h3⟩ := mv
    have ne : ∀ {b : Addr} {u : HO}, H3 b = some u → (∀ C dx fs, u ≠ .ins C dx fs) → (upd H3 o (.ins C dx (putF "moves" (V.ref m) [("states", .ref t)]))) b = some u := fun {b u} e n => by
      rw [upd_ne fun z => by rw [z, ho3] at e; exact n _ _ _ (Option.some.inj e).symm]
      exact e
    exact ⟨bs, ne h1 (fun _ _ _ z => nomatch z), h2, fun i b st e1 e2 => ne (h3 i b st e1 e2) (fun _ _ _ z => nomatch z)⟩
theorem scOf : FnScope ["cls", "states"] ["cls", "states"] (defScope sOf) := ⟨rfl, rfl, rfl, by decide +kernel, rfl, by decide +kernel, by decide +kernel⟩
theorem ok_of {f C fI : Addr} {fd : FuncData} (F : Fun K "of" "Kind.of" sOf f fd) (G : Gs mg) (M : Mk K C fI) (FI : FnR P w K mg base CX0 5 fI (spInitR C)) : FnOk P w K mg base CX0 7 f fd ["cls", "states"] (spOf C) := by
  refine F.ok scOf (fun vs H Q E h => ?_) (fun cdv A outer s H vs Q E hr h => ?_)
  · obtain ⟨a, ss, rfl, _⟩ := h
    rfl
  · obtain ⟨a, ss, rfl, hx, so, k⟩ := h
    refine ⟨_, pss_cons (ps_if (pt_not (pt_val (pe_callB call_isi (by rfl) G.isi boot_isinstance (pa_cons (pv 1) (pa_cons (pe_bltn (v := .ty "tuple") (by rfl) G.tuple PyProof.Rows.boot_tuple rfl) pa_nil))))) (pss_one ps_never) pss_nil)
      (pss_one (ps_ret (pe_makeL (i := 0) M FI hr rfl (.inl rfl) pass0 (pv 1)))), ?_⟩
    obtain ⟨xs, ha, hxs⟩ := hx.tup_of
    have l2 := so.most
    have len : xs.length = ss.length := by
      have z := hxs.len
      rwa [List.length_map] at z
    refine ⟨_, rfl, _, _, _, _, _, rfl, .ty "tuple", .base (.tup ha), kit_ty (a := "tuple") (b := "tuple") (r := true) (by decide +kernel), _, rfl, iteF ?_⟩
    refine ⟨rfl, _, rfl, a, xs, rfl, .inl (SqT.of ha), fun o dx no nd ne => ?_⟩
    refine ⟨[.ref o], xs, rfl, rfl, small_len (m := 40) (by omega), fun p hp => ?_⟩
    have hp1 : p ≠ o := fun z => by
      rw [z, upd_same] at hp
      cases hp
    have hp2 : (upd H dx (.own o)) p = none := by
      rw [upd_ne hp1] at hp
      exact hp
    have hp3 : p ≠ dx := fun z => by
      rw [z, upd_same] at hp2
      cases hp2
    have hp0 : H p = none := by
      rw [upd_ne hp3] at hp2
      exact hp2
    have no1 : (upd H dx (.own o)) o = none := by
      rw [upd_ne (Ne.symm ne)]
      exact no
    have s0 : Same H (upd (upd (upd H dx (.own o)) o (.ins C dx [])) p (.tup xs)) := ((same_new nd).trans (same_new no1)).trans (same_new hp)
    refine ⟨o, p, dx, ss, rfl, by rw [upd_ne (Ne.symm hp1)]; exact upd_same, .tup upd_same (hxs.to (Tup.of s0)), so, fun H' m but ho mv => ⟨rfl, ?_⟩⟩
    have s1 : Same H H' := fun b u e => but b u (s0 b u e) (ne_of_none e no)
    refine k _ _ s1 ⟨o, dx, p, m, rfl, ho, .tup (but p _ upd_same hp1) ?_, mv⟩
    exact hxs.to (Tup.of s1)
end
end My

-- ===== KS10 =====
set_option Elab.async false
set_option linter.all false
set_option maxRecDepth 100000
set_option maxHeartbeats 4000000
namespace Kd
open PySem L2 PyProof.Rows PySem.Spec
/-! ### enumerate of a tuple -/
theorem meets_enum1 {v : Value} {o : Obj} {H : Heap → Prop} (B : Begins v o H) :
    Meets (Builtin.«enumerate.__new__» ⟨[.type "enumerate", v], []⟩) (fun _ R s => H s.heap ∧
      R (.ok (.ret (.ref (s.heap.push o).objs.size))) { s with heap := (s.heap.push o).push { cls := .type "enumerate", data := .fields #[.none, .bool false, .ref s.heap.objs.size, rawInt 0, .none, .none] } }) :=
  .of_wp fun prog w A R s h => by
    obtain ⟨hp, g, d, tk, os⟩ := s
    obtain ⟨h1, h⟩ := h
    have hsub := sub_enumerate
    have it : ∀ {A' : Around} {E : Value → Shared → Prop} {Q : Value → Shared → Prop}, Q (.ref hp.objs.size) ⟨hp.push o, g, d, tk, os⟩ → wpAny (model prog w) A' (pyIter v) Q E ⟨hp, g, d, tk, os⟩ :=
      fun q => B.iter prog w _ _ ⟨hp, g, d, tk, os⟩ _ h1 q
    wp_walk using it
    refine wpAny_stack_any fun st => wpAny_pure ?_
    split
    · rename_i c _ _ _ _ _
      cases (c == Value.type "enumerate") <;> (wp_walk using it; exact ⟨_, rfl, h⟩)
    · wp_walk using it
      exact ⟨_, rfl, h⟩
theorem enum_tuple {prog : Program} {w : World} {A : Around} {E : Value → Shared → Prop} {s : Shared} {t : Addr} {items : Array Value} {Q : Value → Shared → Prop} (ht : s.heap.IsTuple t items)
    (h : ∀ h', IsEnum h' (s.heap.objs.size + 1) s.heap.objs.size 0 .none → h'.IsTupleIter s.heap.objs.size t 0 → (∀ b o, s.heap.get? b = some o → h'.get? b = some o) → Q (.ref (s.heap.objs.size + 1)) { s with heap := h' }) :
    wpAny (model prog w) A (call (.type "enumerate") [.ref t]) Q E s := by
  refine callType_new F.called_enumerate (by decide) (F.typeCall_enumerate_1 _) (F.newCall_enumerate_1 _) (fun obj => F.args_object_init_2 obj _) F.entry_enumerate_new (meets_enum1 (begins_tuple t items)) ⟨ht, ?_⟩
  generalize ho : ({ cls := .type "tuple_iterator", data := .fields #[.ref t, .int 0 0] } : Obj) = o
  have sz : (s.heap.push o).objs.size = s.heap.objs.size + 1 := Heap.size_push ..
  have e1 : ((s.heap.push o).push { cls := .type "enumerate", data := .fields #[.none, .bool false, .ref s.heap.objs.size, rawInt 0, .none, .none] }).get? (s.heap.push o).objs.size = some _ := Heap.get?_push_size _ rfl
  rw [sz] at e1
  show _ ∧ _
  rw [sz]
  subst ho
  exact ⟨⟨_, e1, rfl⟩, h _ e1 ⟨_, Heap.get?_push_of_some _ (Heap.get?_push_size _ rfl), rfl, rfl⟩ fun b u x => Heap.get?_push_of_some _ (Heap.get?_push_of_some _ x)⟩
/-- the tuple at a, each item beside its place in a new pair -/
def IteT (K : PySem.W.Frag) (a : Addr) : It :=
  ⟨fun i H => ∃ (xs : List V) (x : V), SqT K H a xs ∧ xs[i]? = some x, fun i H v H' => ∃ T x, v = .ref T ∧ H T = none ∧ H' = upd H T (.tup [.int (i : Nat), x]) ∧ ∀ xs, SqT K H a xs → xs[i]? = some x, fun i H => ∃ xs : List V, SqT K H a xs ∧ xs.length = i⟩
theorem turn_enumT {P : Program} {w : World} {K : PySem.W.Frag} {elts : List Expr} {kk : Nat} {tpos : Pos} (a e it : Addr) :
    Turn P w K (.Tuple elts kk tpos) (IteT K a) [e, it] e (fun i h => (∃ old, IsEnum h e it ((i : Nat) : Int) old) ∧ h.IsTupleIter it a i ∧ e ≠ it ∧ a ≠ it ∧ a ≠ e) where
  mem := by simp
  obj := fun i h st b hb => by
    obtain ⟨⟨old, he⟩, ⟨o, ho, _, hd⟩, _⟩ := st
    rcases (show b = e ∨ b = it by simpa using hb) with z | z
    · rw [z]
      exact ⟨_, he, fun v q => nomatch q⟩
    · rw [z]
      exact ⟨o, ho, fun v q => by rw [hd] at q; cases q⟩
  keep := fun i h h' st k => let ⟨⟨old, he⟩, hi, ne⟩ := st; ⟨⟨old, k e (by simp) _ he⟩, hi.at fun o q => k it (by simp) o q, ne⟩
  item := by
    intro X hP hw hK hc i pins s σ H E I hf st hg
    subst hP hw hK
    obtain ⟨⟨old, he⟩, hit, ne, nai, nae⟩ := st
    obtain ⟨xs, x, hq, hx⟩ := hg
    obtain ⟨its, rv, p, _⟩ := I.tuple hq
    obtain ⟨u, hu, ru⟩ := rv.get hx
    have pt : s.heap.IsTuple a its.toArray := p
    have lt : i < its.toArray.size := by
      rw [List.size_toArray]
      exact (List.getElem?_eq_some_iff.mp hu).1
    have el : e < s.heap.objs.size := Heap.lt_size he
    have il : it < s.heap.objs.size := by obtain ⟨_, q, _⟩ := hit; exact Heap.lt_size q
    refine wpAny_pyNext_enum_itemD (n := its.toArray.size) (Draws.tuple (A := X.A.in1) (I.ok.hd hc) it a nai its.toArray) he ⟨hit, pt⟩ lt ne (by simp [ne, Ne.symm nae]) fun y h' tk hy ho hst hT hsz hk => ?_
    have ey : y = u := by
      have z : its.toArray[i]? = some y := hy
      rw [show its.toArray[i]? = some u by simpa using hu] at z
      exact (Option.some.inj z).symm
    subst ey
    refine ⟨_, rfl, wpAny_letOwnedTupleGo_enum (s := { s with heap := h', toks := tk + 1 }) ho fun h'' he' sb => ?_⟩
    have hT2 : h''.get? s.heap.objs.size = some { cls := .type "tuple", data := .seq #[.int i tk, y] } := (sb.2 _ (Nat.ne_of_gt el)).trans hT
    have new : ObjOk X.prog X.w (upd H s.heap.objs.size (.tup [.int (i : Nat), x])) h'' s.heap.objs.size (.tup [.int (i : Nat), x]) :=
      ⟨by show 2 ≤ sizeLine; decide, [.int i tk, y], .cons ⟨_, rfl⟩ (.cons ru .nil), ⟨_, hT2, rfl, _, rfl⟩⟩
    have I1 : Inv X pins σ (upd H s.heap.objs.size (.tup [.int (i : Nat), x])) { s with heap := h'', toks := tk + 1 } :=
      I.turnedNew (ch := [e, it]) (fun b ob hb q => (sb.2 b (fun z => hb (by simp [z]))).trans (hk b ob (fun z => hb (by simp [z])) (fun z => hb (by simp [z])) q)) hf (Nat.le_refl _) new
    refine ⟨.ref s.heap.objs.size, _, I1, rfl, ⟨_, x, rfl, I.hok.fresh (Nat.le_refl _), rfl, fun ys hy => by rw [I.tuple_inj hy hq]; exact hx⟩, ⟨⟨y, ?_⟩, hst.1.at fun o q => (sb.2 it (Ne.symm ne)).trans q, ne, nai, nae⟩, fun b hb => ?_⟩
    · rw [show ((i + 1 : Nat) : Int) = (i : Int) + 1 by omega]
      exact he'
    · have bl : b < s.heap.objs.size := by
        rcases (show b = e ∨ b = it by simpa using hb) with z | z
        · rw [z]; exact el
        · rw [z]; exact il
      rw [upd_ne (Nat.ne_of_lt bl)]
      exact (hf b hb).1
  done := by
    intro X hP hw hK hc i pins s σ H E I hf st hg
    subst hP hw hK
    obtain ⟨⟨old, he⟩, hit, ne, nai, nae⟩ := st
    obtain ⟨xs, hq, hx⟩ := hg
    obtain ⟨its, rv, p, _⟩ := I.tuple hq
    obtain ⟨f0, f1, f2, f3, f4, f5⟩ := hf it (by simp)
    have hl := rv.length
    have pt : s.heap.IsTuple a its.toArray := p
    have hst : s.heap.IsTupleIter it a its.toArray.size ∧ s.heap.IsTuple a its.toArray := ⟨by rw [show its.toArray.size = i by rw [List.size_toArray]; omega]; exact hit, pt⟩
    exact wpAny_pyNext_enum_endD (n := its.toArray.size) (Draws.tuple (A := X.A.in1) (I.ok.hd hc) it a nai its.toArray) he hst fun h' eb => ⟨rfl, I.turned (t' := s.toks) (fun b o hb q => eb b o hb q) f0 f1 f3 f4 f5⟩
  self := fun A i s Q E st h => let ⟨⟨_, he⟩, _⟩ := st; wpAny_pyIter_enum he h
def iEnumT (K : PySem.W.Frag) (ta : TA) : TI := fun σ H R => ta σ H fun vs H1 => ∃ a xs, vs = [.ref a] ∧ SqT K H1 a xs ∧ R (IteT K a) H1
theorem pi_enumT {X : Cx} {e : Expr} {ta : TA} {p pos tpos : Pos} {elts : List Expr} {kk : Nat} (hg : Gl X "enumerate") (hm : X.mg "enumerate" = none) (ha : PA X [e] ta) (hs : starEach [e] X.env = [(false, eval e X.env)] := by rfl) :
    PI X (.Tuple elts kk tpos) (.Call (.Name "enumerate" p) [e] [] pos) (iEnumT X.K ta) := by
  refine ⟨fun pins s σ H R I h => ?_⟩
  refine Call_ (ld_blt I hg hm boot_enumerate (PyProof.Rows.callWith_type1 (thn (ha.run pos pins s σ H _ I h) fun us s1 ⟨vs, H1, I1, r1, q1⟩ => ?_) hs rfl))
  obtain ⟨a, xs, ex, hq, q⟩ := q1
  subst ex
  cases r1 with
  | cons r rr =>
    cases rr
    cases r
    obtain ⟨its, rv, p', _⟩ := I1.tuple hq
    have pt : s1.heap.IsTuple a its.toArray := p'
    have al : a < s1.heap.objs.size := by obtain ⟨_, z, _⟩ := pt; exact Heap.lt_size z
    refine enum_tuple pt fun h' he hit hk => wpAny_pyIter_enum he ?_
    have I2 : Inv X pins σ H1 { s1 with heap := h' } := I1.kept (t' := s1.toks) hk
    refine ⟨s1.heap.objs.size + 1, [s1.heap.objs.size + 1, s1.heap.objs.size], _, _, H1, rfl, I2, turn_enumT a (s1.heap.objs.size + 1) s1.heap.objs.size, ⟨⟨.none, he⟩, hit, Nat.succ_ne_self _, Nat.ne_of_lt al, Nat.ne_of_lt (Nat.lt_succ_of_lt al)⟩, fun b hb => ?_, q⟩
    have le : s1.heap.objs.size ≤ b := by
      rcases (show b = s1.heap.objs.size + 1 ∨ b = s1.heap.objs.size by simpa using hb) with z | z
      · rw [z]; exact Nat.le_add_right _ _
      · rw [z]; exact Nat.le_refl _
    exact I1.fpOk le (I1.hok.fresh le)
end Kd

-- ===== KS11 =====
set_option Elab.async false
set_option linter.all false
set_option maxRecDepth 100000
set_option maxHeartbeats 4000000
namespace Kd
open PySem L2 PyProof.Rows PySem.Spec PySem.W Builtin
/-! ### x != y where the class has __eq__ alone -/
section
variable {prog : Program} {w : World} {A : Around} {E : Value → Shared → Prop} {s : Shared} {K : Frag} {x C f : Addr} {ox : Obj} {od : Option Obj}
theorem bound_slot {M : Model} {id : String} {name : Str} {args : List Value} {Q : Option Value → Shared → Prop} (X : K.In s.heap) (I : InstAt s.heap x ox C od) (hs : findIn K (.ref C) name = some (some (.builtin id)))
    (hb : bindSpecial (.builtin id) (.ref x) = pure (.builtin id, [.ref x])) (h : wpAny M A (call (.builtin id) (.ref x :: args)) (fun v => Q (some v)) E s) : wpAny M A (callSpecialIfBound? (.ref x) name args) Q E s := by
  simp only [callSpecialIfBound?, bindSpecialIfBound?]
  refine wpAny_holding (wpAny_bind (wpAny_bind (wpAny_bind (I.type.here ((looks_findIn X hs).here ?_)))))
  simp only [hb]
  have fin : wpAny M A (call (.builtin id) ([.ref x] ++ args) >>= fun v => pure (some v)) Q E s := wpAny_bind (wpAny_mono h (fun v s' h' => wpAny_pure h') fun _ _ h' => h')
  refine wpAny_bind (wpAny_askSetting (wpAny_ite ?_))
  split
  · exact wpAny_bind (wpAny_pure (wpAny_pure fin))
  · exact wpAny_tryCatch (wpAny_bind (wpAny_pure (wpAny_pure fin)))
theorem obj_ne {y : Addr} {Q : Fin → Shared → Prop} (X : K.In s.heap) (I : InstAt s.heap x ox C od) (hs : findIn K (.ref C) "__eq__" = some (some (.ref f))) (hf : isFn K (.ref f) = true) (hu : A.units < cLine)
    (h : wpAny (model prog w) A (call (.ref f) [.ref x, .ref y]) (fun v s' => ∃ b, v = .bool b ∧ Q (.done (.ret (.bool (!b)))) s') E s) : wpAny (model prog w) A (Builtin.«object.__ne__» ⟨[.ref x, .ref y], []⟩) Q E s := by
  unfold Builtin.«object.__ne__»
  repeat (first
    | with_reducible refine wpAny_cRoomFor hu ?_
    | (refine wpAny_bind (m := callSpecialIfBound? (.ref x) (Str.ofString "__eq__") [.ref y]) (ifBound_K X I hs hf (wpAny_mono h (fun r s' hr => by
          obtain ⟨b, rfl, hq⟩ := hr
          repeat (first | exact hq | exact wpAny_pure hq | exact wpAny_truthy_bool hq | (refine wpAny_bind (m := truthy (.bool _)) (wpAny_truthy_bool ?_)) | wp_step)) fun _ _ e => e)))
    | wp_step)
theorem try_ne {y : Addr} {Q : Option Value → Shared → Prop} (X : K.In s.heap) (I : InstAt s.heap x ox C od) (hs : findIn K (.ref C) "__eq__" = some (some (.ref f))) (hf : isFn K (.ref f) = true)
    (hn : findIn K (.ref C) "__ne__" = some (some (.builtin "object.__ne__"))) (ho : subIn K (.ref C) (.type "object") = some true) (hu : A.units + 1 < cLine)
    (h : wpAny (model prog w) A.in1 (call (.ref f) [.ref x, .ref y]) (fun v s' => ∃ b, v = .bool b ∧ Q (some (.bool (!b))) s') E s) : wpAny (model prog w) A (tryCompare (.ref x) "__ne__" (.ref y)) Q E s := by
  simp only [tryCompare]
  refine wpAny_bind (bound_slot X I hn (PySem.F.cmp_object.ne.bind _) (wpAny_call (codeAny_call_builtin PySem.F.cmp_object.ne.plain PySem.F.cmpEntry_ne
    (check_slot PySem.F.cmpKind_ne PySem.F.cmpSplit_ne (I.type.andThen (looks_subIn X ho)) (PySem.F.cmpArgs_ne _ _) (obj_ne (A := A.in1) X I hs hf hu (wpAny_mono h (fun v s' hv => ?_) fun _ _ e => e))))))
  obtain ⟨b, rfl, hq⟩ := hv
  first | exact ⟨b, rfl, wpAny_pure hq⟩ | exact ⟨b, rfl, wpAny_pure (wpAny_pure hq)⟩ | exact ⟨b, rfl, hq⟩
theorem ne_own {m : Str → Option Value} {h₀ : Heap} {L y : Addr} {oy : Obj} {ody : Option Obj} {Q : Value → Shared → Prop} (X₀ : K.In h₀) (F : Fr h₀ L s.heap m) (I : InstAt s.heap x ox C od) (J : InstAt s.heap y oy C ody) (hs : findIn K (.ref C) "__eq__" = some (some (.ref f))) (hf : isFn K (.ref f) = true)
    (hn : findIn K (.ref C) "__ne__" = some (some (.builtin "object.__ne__"))) (ho : subIn K (.ref C) (.type "object") = some true) (hu : A.units + 1 < cLine)
    (h : wpAny (model prog w) A.in1 (call (.ref f) [.ref x, .ref y]) (fun v s' => ∃ b, v = .bool b ∧ Q (.bool (!b)) s') E s) : wpAny (model prog w) A (compareOp .NotEq (.ref x) (.ref y)) Q E s := by
  have X := X₀.keeps F.keep
  show wpAny _ _ (richCompare .NotEq (.ref x) (.ref y)) Q E s
  unfold richCompare
  simp only [oneThing_ref]
  refine wpAny_holding (wpAny_bind (wpAny_cRoomFor (Nat.lt_of_succ_lt hu) ?_))
  rw [cmpInfo_NotEq]
  dsimp only
  refine wpAny_bind (I.type.here (wpAny_bind (J.type.here ?_)))
  rw [show (Value.ref C != Value.ref C) = false from by simp]
  simp only [Bool.false_eq_true, if_false]
  refine wpAny_bind (wpAny_pure ?_)
  simp only [Bool.false_eq_true, if_false]
  refine wpAny_bind (try_ne X I hs hf hn ho hu (wpAny_mono h (fun v s' hv => ?_) fun _ _ e => e))
  obtain ⟨b, rfl, hq⟩ := hv
  first | exact ⟨b, rfl, wpAny_pure hq⟩ | exact ⟨b, rfl, wpAny_pure (wpAny_pure hq)⟩
end
/-- x != y, both of the class at C, whose __eq__ is at g -/
def rNeIns (C : Addr) (sp : Sp) (E : XK) : R2 := fun x y H Q => ∃ a b dx dy fs gs, x = .ref a ∧ y = .ref b ∧ H a = some (.ins C dx fs) ∧ H b = some (.ins C dy gs) ∧ sp [x, y] H (fun v H' => ∃ k, v = .bl k ∧ Q (.bl (!k)) H') E
section
variable {X : Cx} {CX : CXT} {n : Nat} {C g : Addr} {sp : Sp} {E : XK}
theorem op_neIns (hs : findIn X.K (.ref C) "__eq__" = some (some (.ref g))) (hf : isFn X.K (.ref g) = true) (hn : findIn X.K (.ref C) "__ne__" = some (some (.builtin "object.__ne__"))) (ho : subIn X.K (.ref C) (.type "object") = some true)
    (F : FnR X.prog X.w X.K X.mg X.base CX n g sp) (hr : Room (n + 1) X.A) (hx : Passes CX X E) : OpR X (compareOp .NotEq) (rNeIns C sp E) := by
  intro pins s σ H x y v u Q I rx ry h
  obtain ⟨a, b, dx, dy, fs, gs, rfl, rfl, ha, hb, q⟩ := h
  cases (show v = Value.ref a from rx)
  cases (show u = Value.ref b from ry)
  obtain ⟨mA, J, _⟩ := ins_get I.hok ha
  obtain ⟨mB, J', _⟩ := ins_get I.hok hb
  obtain ⟨od, J, _⟩ := J.look
  obtain ⟨od', J', _⟩ := J'.look
  obtain ⟨m, hF⟩ := I.fr
  refine ne_own I.ok.mod.kin hF J J' hs hf hn ho (by have := hr.un; omega) ?_
  refine wpAny_mono (wpAny_call (SlX.run_at (us := [.ref a, .ref b]) (ws := [.ref a, .ref b]) F hr.in1 I.env0.in1 hx I (.cons rfl (.cons rfl .nil)) q)) (fun r s' z => ?_) fun _ _ x => x
  obtain ⟨z', H', I', rz, k, ek, qz⟩ := z
  subst ek
  cases (show r = Value.bool k from rz)
  exact ⟨k, rfl, .bl (!k), H', I', rfl, qz⟩
end
end Kd

-- ===== KS12 =====
set_option Elab.async false
set_option linter.all false
set_option maxRecDepth 100000
set_option maxHeartbeats 4000000
namespace Kd
open PySem L2 PyProof.Rows PySem.Spec PySem.W PySem.Calls
/-! ### sorted(d), the keys being tuples -/
theorem walk_raw {prog : Program} {w : World} {A : Around} {it d : Addr} {od : Obj} {es : Array DictEntry} {ep : Nat} (hh : A.handled = none) (ne : d ≠ it) (hd : od.data = .dict es ep) :
    Walks prog w A it [it, d] [it] es.size (fun i v => ∃ en, es[i]? = some en ∧ v = en.key) (fun i h => h.IsKeyIter it d i es.size ep ∧ h.get? d = some od) where
  sub := fun b hb => by simp at hb; simp [hb]
  frame := fun _ _ _ st hk => ⟨st.1.at fun o e => hk it (by simp) o e, hk d (by simp) _ st.2⟩
  item := fun i s Q E hi st hQ => by
    obtain ⟨en, hx⟩ : ∃ en, es[i]? = some en := ⟨es[i], by simp [hi]⟩
    refine next_key_item st.1 st.2 hd rfl hx fun h' st' sb => hQ en.key h' s.toks ⟨en, hx, rfl⟩ ⟨st', (sb.2 d ne).trans st.2⟩ fun b o hb e => (sb.2 b fun z => hb (by simp [z])).trans e
  done := fun s Q E st hQ => next_key_end hh st.1 st.2 hd rfl (Nat.le_refl _) fun h' eb => hQ h' s.toks fun b o hb e => eb b o (fun z => hb (by simp [z])) e
  self := fun _ _ _ _ st hQ => wpAny_pyIter_keyiter st.1 hQ
theorem src_raw {prog : Program} {w : World} {d : Addr} {od : Obj} {es : Array DictEntry} {ep : Nat} (lo : (d == sysModules) = false) (ex : od.ExactDict) (hd : od.data = .dict es ep) :
    KdlSrc prog w "dict" d d es.size (fun i v => ∃ en, es[i]? = some en ∧ v = en.key) (fun h => h.get? d = some od) where
  type := fun _ hm => ⟨od, hm, ex.1⟩
  there := fun _ hm => ⟨Heap.lt_size hm, Heap.lt_size hm⟩
  keep := fun _ _ hm hk => hk d (.inl rfl) _ hm
  notList := by decide
  notTuple := by decide
  hint := fun _ _ _ _ hm hq => kdl_hint_dict ⟨od, hm, ex.1⟩ hq
  iter := fun _ _ hh hm => ⟨_, _, (fun _ _ hq => iter_keys lo hm ex hd hq), walk_raw hh (Nat.ne_of_lt (Heap.lt_size hm)) hd, ⟨⟨_, Heap.get?_push_size _ rfl, rfl, rfl⟩, Heap.get?_push_of_some _ hm⟩⟩
/-- one for each place -/
theorem pick_each {α : Type} (R : Nat → α → Prop) : ∀ n : Nat, (∀ i, i < n → ∃ x, R i x) → ∃ L : List α, L.length = n ∧ ∀ i x, L[i]? = some x → R i x
  | 0, _ => ⟨[], rfl, fun i x e => by simp at e⟩
  | n + 1, h => by
    obtain ⟨L, l, g⟩ := pick_each R n fun i hi => h i (by omega)
    obtain ⟨y, hy⟩ := h n (by omega)
    refine ⟨L ++ [y], by rw [List.length_append, l]; rfl, fun i x e => ?_⟩
    rcases Nat.lt_or_ge i L.length with lt | ge
    · rw [List.getElem?_append_left lt] at e
      exact g i x e
    · rw [List.getElem?_append_right ge] at e
      have ei : i - L.length = 0 := by
        have z := (List.getElem?_eq_some_iff.mp e).1
        simp at z
        omega
      rw [ei] at e
      have e2 : y = x := Option.some.inj e
      rw [← e2, show i = n by omega]
      exact hy
def rSortD : List V → Hp → VK → Prop := fun vs H Q => ∃ (a : Addr) (kvs : List (List Key × V)), vs = [V.ref a] ∧ H a = some (.dT kvs) ∧ kvs.length < 64 ∧ AllAlike (kvs.map fun p => tD p.1) ∧ Sortable (kvs.map fun p => tD p.1) ∧
  ∀ (L : List (Addr × List Key)) p, L.map Prod.snd = kvs.map Prod.fst → (∀ q ∈ L, H q.1 = some (.tup (q.2.map kV))) → H p = none → Q (.ref p) (upd H p (.lst ((L.mergeSort (dataLe false fun q => tD q.2)).map fun q => V.ref q.1)))
section
variable {X : Cx}
theorem cr_sortD (hc : X.calm = true) (hu : X.A.units + 64 < cLine) : CallR X (.builtin "sorted") rSortD := by
  intro pins s σ H vs us Q I r h
  obtain ⟨a, kvs, rfl, ha, less, al, so, q⟩ := h
  rw [Vals.ref1 r]
  obtain ⟨od, J⟩ := I.lock ha trivial
  obtain ⟨lo, hod, hex, es, ep, hdt, hsz, ent⟩ := J.frzT upd_same
  obtain ⟨L, ll, hL⟩ := pick_each (fun i (q : Addr × List Key) => (∃ v, kvs[i]? = some (q.2, v)) ∧ (∃ en, es[i]? = some en ∧ en.key = Value.ref q.1) ∧ H q.1 = some (.tup (q.2.map kV))) kvs.length fun i hi => by
    obtain ⟨⟨k, v⟩, hkv⟩ : ∃ p, kvs[i]? = some p := ⟨kvs[i], List.getElem?_eq_getElem hi⟩
    obtain ⟨en, b, hen, hkey, hb⟩ := ent i k v hkv
    refine ⟨(b, k), ⟨v, hkv⟩, ⟨en, hen, hkey⟩, ?_⟩
    rw [upd_ne fun z => by rw [z, upd_same] at hb; cases hb] at hb
    exact hb
  have keys : L.map Prod.snd = kvs.map Prod.fst := by
    refine List.ext_getElem? fun i => ?_
    rw [List.getElem?_map, List.getElem?_map]
    rcases Nat.lt_or_ge i L.length with lt | ge
    · obtain ⟨⟨v, e⟩, _⟩ := hL i L[i] (List.getElem?_eq_getElem lt)
      rw [List.getElem?_eq_getElem lt, e]
      rfl
    · rw [List.getElem?_eq_none ge, List.getElem?_eq_none (by omega)]
      rfl
  have tups : ∀ q ∈ L, H q.1 = some (.tup (q.2.map kV)) := fun q m => by
    obtain ⟨i, e⟩ := List.mem_iff_getElem?.mp m
    exact (hL i q e).2.2
  have en2 : (L.map fun q => tD q.2) = kvs.map fun p => tD p.1 := by
    have z := congrArg (List.map tD) keys
    rw [List.map_map, List.map_map] at z
    exact z
  refine Calls.call_function_entry kind_sorted plain_sorted entry_sorted (args_sorted1 _) ?_
  unfold Builtin.«sorted»
  refine wpAny_bind (m := checkCount "sorted" 1 1 _) (wpAny_pure ?_)
  refine wpAny_bind (kdu_collect (A := X.A.in1) (src_raw lo hex hdt) (I.ok.hd hc) hod (by rw [hsz, sizeLine_eq]; omega) fun h' tk acc hk hacc => ?_)
  have I1 : Inv X pins σ H { s with heap := h', toks := tk } := I.kept hk
  have ev : acc.toList = L.map fun q => Value.ref q.1 := by
    refine List.ext_getElem? fun i => ?_
    rw [List.getElem?_map]
    have al : acc.size = L.length := by rw [hacc.1, hsz, ll]
    rcases Nat.lt_or_ge i L.length with lt | ge
    · obtain ⟨v, hv⟩ : ∃ v, acc[i]? = some v := ⟨acc[i]'(by omega), by simp [al, lt]⟩
      obtain ⟨en, h1, rfl⟩ := hacc.2 i v hv
      obtain ⟨_, ⟨en', h2, h3⟩, _⟩ := hL i L[i] (List.getElem?_eq_getElem lt)
      rw [h1] at h2
      cases h2
      rw [Array.getElem?_toList, hv, h3, List.getElem?_eq_getElem lt]
      rfl
    · rw [List.getElem?_eq_none ge, List.getElem?_eq_none (by rw [Array.length_toList]; omega)]
      rfl
  rw [ev]
  refine wpAny_bind (wpAny_newList ?_ (by rw [List.length_map, sizeLine_eq]; omega))
  have oL : (h'.push (seqObj "list" (L.map fun q => Value.ref q.1).toArray 0)).get? h'.objs.size = some (seqObj "list" (L.map fun q => Value.ref q.1).toArray 0) := Heap.get?_push_size _ rfl
  have each : ∀ (R : Value → Addr × List Key → Prop) (M : List (Addr × List Key)), (∀ q ∈ M, R (.ref q.1) q) → EachIs R (M.map fun q => Value.ref q.1) M := by
    intro R M
    induction M with
    | nil => exact fun _ => .nil
    | cons x M ih => exact fun g => .cons (g x List.mem_cons_self) (ih fun y m => g y (List.mem_cons_of_mem _ m))
  refine wpAny_bind (wpAny_holding (list_sort_data (s := { s with heap := h'.push (seqObj "list" (L.map fun q => Value.ref q.1).toArray 0), toks := tk }) (R := fun v q => v = Value.ref q.1) (enc := fun q : Addr × List Key => tD q.2) (bs := L) oL (each _ L fun q _ => rfl)
    (each _ L fun q m => ⟨[], PyProof.Rows.Reads.keeps (fun b u e => Heap.get?_push_of_some _ e) (key_raw I1 (SqT.of (tups q m))).2, fun z => nomatch z⟩)
    (by rw [en2]; exact al) ?_ (by rw [sizeLine_eq]; omega) (fun b _ => by have z := tD_depth b.2; have y : X.A.in1.units ≤ X.A.units + 32 := (by simp only [Around.in1]; omega); omega) fun out lo2 eo => ?_))
  · rw [← en2] at so
    rcases so with g | g
    · exact .inl fun d m => g d m
    · exact .inr fun d m => g d m
  · have eout : ∀ {o : List Value} {M : List (Addr × List Key)}, EachIs (fun v q => v = Value.ref q.1) o M → o = M.map fun q => Value.ref q.1 := by
      intro o M z
      induction z with
      | nil => rfl
      | cons e _ ih => rw [e, ih]; rfl
    have eo' := eout eo
    subst eo'
    obtain ⟨c, hc2⟩ := sortedHeap_at (vs := L.map fun q => Value.ref q.1) (out := (List.toArray ((L.mergeSort (dataLe false fun q => tD q.2)).map fun q => Value.ref q.1))) oL
    have kp2 : ∀ b u, h'.get? b = some u → (sortedHeap (h'.push (seqObj "list" (L.map fun q => Value.ref q.1).toArray 0)) h'.objs.size (L.map fun q => Value.ref q.1) (List.toArray ((L.mergeSort (dataLe false fun q => tD q.2)).map fun q => Value.ref q.1))).get? b = some u := fun b u z => by
      have lt := Heap.lt_size z
      rw [sortedHeap_old (Nat.ne_of_lt lt) (by rw [size_push']; exact Nat.lt_succ_of_lt lt)]
      exact Heap.get?_push_of_some _ z
    have lz : ((L.mergeSort (dataLe false fun q => tD q.2)).map fun q => V.ref q.1).length ≤ sizeLine := by
      rw [List.length_map, List.length_mergeSort, sizeLine_eq]
      omega
    refine wpAny_pure ⟨_, rfl, ?_⟩
    exact ⟨.ref h'.objs.size, upd H h'.objs.size (.lst ((L.mergeSort (dataLe false fun q => tD q.2)).map fun q => V.ref q.1)), I1.laid (t' := tk) kp2 (Nat.le_refl _) ⟨lz, _, c, refs_vals Prod.fst _, hc2⟩, rfl, q L _ keys tups (I1.hok.fresh (Nat.le_refl _))⟩
end
end Kd

-- ===== KS13 =====
set_option Elab.async false
set_option linter.all false
set_option maxRecDepth 100000
set_option maxHeartbeats 4000000
namespace Kd
open PySem L2 PyProof.Rows PySem.Spec ClX
/-! ### C.m(k = v), m a classmethod -/
def tCMethK (C : Addr) (sp : Sp) (gV : List V → List V → List V) (E : XK) (ta : TE) (tk : TA) : TE := fun σ H Q => ta σ H fun x H1 => x = .ref C ∧ tk σ H1 fun zs H2 => sp (gV [.ref C] zs) H2 Q E
section
variable {X : Cx} {CX : CXT} {k : Nat} {C p g : Addr} {mc : Value} {fd : FuncData} {ps ks : List Str} {sp : Sp} {E : XK} {o : Expr} {kws : List Keyword} {m : Str} {pos apos : Pos} {ta : TE} {tk : TA} {pl : Sem Bool} {gg : List Value → List Value → List Value} {gV : List V → List V → List V}
theorem pe_cmethK (he : PE X o ta) (r : CRead X.K C mc) (c : CMet X.K C mc m p g) (F : FnOk X.prog X.w X.K X.mg X.base CX k g fd ps sp) (hr : Room k X.A) (hb : KBinds X.K fd ps ks gg gV) (hx : Passes CX X E) (hkw : PK X kws tk)
    (hall : (backToKw pos (keywordEach kws X.env)).all (·.1.isSome) = true := by rfl) (hks : (backToKw pos (keywordEach kws X.env)).filterMap (·.1) = ks := by rfl)
    (hpl : ((backTo pos (starEach [] X.env)).any (·.1) || (backToKw pos (keywordEach kws X.env)).any (·.1.isNone)) = false := by rfl)
    (ht : eval (.Call (.Attribute o m apos) [] kws pos) X.env = (do
      let ov ← eval o X.env
      standAt apos.atName
      let (f, first) ← holding [ov] (getMethod ov m pl)
      callWith pos f first (backTo pos (starEach [] X.env)) (backToKw pos (keywordEach kws X.env))) := by rfl) :
    PE X (.Call (.Attribute o m apos) [] kws pos) (tCMethK C sp gV E ta tk) := by
  refine ⟨fun pins s σ H Q I h => ?_⟩
  refine PySem.W.methodCall_KW (pl := pl) (thn (he.run pins s σ H _ I h) fun u s1 ⟨x, H1, I1, rx, ex, q⟩ => ?_) ht
  subst ex
  obtain rfl : u = Value.ref C := rx
  refine getmethcm_ok I1 r c fun s2 I2 => ?_
  refine PySem.W.callWith_of hpl (PySem.W.keeps_M c.fi) (evalArgs_kw2_nil hall (thn (hkw.run pos _ s2 σ H1 _ I2 q) fun ws s3 ⟨zs, H2, I3, rz, q2⟩ => ⟨⟨pin_at I3, I3.kIn⟩, ?_⟩))
  rw [hks]
  have r2 := hb.rel (.cons (show RelV (.ref C) (.ref C) from rfl) .nil : Vals [.ref C] [.ref C]) rz
  have hl : (gg [.ref C] ws).length = ps.length := by rw [← r2.length]; exact F.len _ _ _ _ q2
  have z : wpAny (model X.prog X.w) X.A (call (.ref s1.heap.objs.size) [] (ks.zip ws)) (EP X ((s1.heap.objs.size, PySem.W.methodObj (.ref g) (.ref C)) :: pins) σ Q) X.xe s3 := by
    refine wpAny_call (PySem.W.method_call (pin_at I3) (codeAny_mono (F.run X.A X.stack s3 H2 ⟨[.ref C], ks.zip ws⟩ (gg [.ref C] ws) (gV [.ref C] zs) Q E hr I3.env0 (hb.to s3 [.ref C] ws I3.kIn hl) r2 q2) fun r s' hq => ?_))
    cases r with
    | error e => exact (hx _ σ H2 s3 e s' I3 hq)
    | ok fl =>
      cases fl with
      | ret u => exact I3.after hq
      | next => exact False.elim hq
      | brk => exact False.elim hq
      | cont => exact False.elim hq
  exact thn z fun _ _ y => unpinE y
end
end Kd

-- ===== K7K =====
set_option Elab.async false
set_option linter.all false
set_option maxRecDepth 100000
set_option maxHeartbeats 4000000
namespace My
open PySem L2 PyProof.Rows PySem.Spec Kd TL StX ClX
/-! ### kinds' data compared -/
theorem lay_steps {n : Nat} : ∀ st : List Stp, (∀ x ∈ st, StpOk n x) → PyData.canLayAll0 (st.map stepD) = true
  | [], _ => by simp only [List.map_nil, PyData.canLayAll0]
  | x :: st, h => by
    have h0 := h x List.mem_cons_self
    have h1 := wrd_ok h0.w1
    have h2 := wrd_ok h0.w2
    simp only [List.map_cons, stepD, PyData.canLayAll0, PyData.canLay0, h1, h2, lay_steps st fun y m => h y (List.mem_cons_of_mem _ m), Bool.and_self]
theorem lay_states {n : Nat} : ∀ ss : List (List Stp), (∀ st ∈ ss, StOk n st) → PyData.canLayAll0 (ss.map stateD) = true
  | [], _ => by simp only [List.map_nil, PyData.canLayAll0]
  | st :: ss, h => by
    have h0 := lay_steps st (h st List.mem_cons_self).all
    simp only [List.map_cons, stateD, PyData.canLayAll0, PyData.canLay0, h0, lay_states ss fun y m => h y (List.mem_cons_of_mem _ m), Bool.and_self]
theorem deep_steps : ∀ st : List Stp, PyData.depthAll (st.map stepD) ≤ 2
  | [] => by simp only [List.map_nil, PyData.depthAll]; omega
  | x :: st => by
    have h := deep_steps st
    simp only [List.map_cons, stepD, PyData.depthAll, PyData.depth]
    omega
theorem deep_states : ∀ ss : List (List Stp), PyData.depthAll (ss.map stateD) ≤ 3
  | [] => by simp only [List.map_nil, PyData.depthAll]; omega
  | st :: ss => by
    have h1 := deep_steps st
    have h := deep_states ss
    simp only [List.map_cons, stateD, PyData.depthAll, PyData.depth]
    omega
theorem lay_kind {ss : List (List Stp)} (h : KOk ss) : PyData.canLay0 (statesD ss) = true := by
  unfold statesD
  simp only [PyData.canLay0]
  exact lay_states ss h.all
theorem deep_kind (ss : List (List Stp)) : PyData.depth (statesD ss) ≤ 4 := by
  have h := deep_states ss
  unfold statesD
  simp only [PyData.depth]
  omega
theorem shaped_kind {ss : List (List Stp)} (h : KOk ss) : SeqAt.shaped (statesD ss) = true := by
  unfold SeqAt.shaped
  rw [Bool.and_eq_true]
  have z := deep_kind ss
  exact ⟨lay_kind h, decide_eq_true (by omega)⟩
theorem eqv_map {α : Type} [DecidableEq α] (f : α → PyData) (h : ∀ x y, PyData.eqv (f x) (f y) = decide (x = y)) : ∀ l m : List α, PyData.eqvAll (l.map f) (m.map f) = decide (l = m)
  | [], [] => by simp [PyData.eqvAll]
  | [], _ :: _ => by simp [PyData.eqvAll]
  | _ :: _, [] => by simp [PyData.eqvAll]
  | x :: l, y :: m => by
    simp only [List.map_cons, PyData.eqvAll, h, eqv_map f h l m, List.cons.injEq]
    exact (Bool.decide_and _ _).symm
theorem eqv_step (x y : Stp) : PyData.eqv (stepD x) (stepD y) = decide (x = y) := by
  obtain ⟨a, b, i⟩ := x
  obtain ⟨c, d, j⟩ := y
  unfold stepD
  simp only [PyData.eqvAll, PyData.eqv, eqv_str, Prod.mk.injEq, Bool.and_true, Bool.decide_and]
  first | rfl | simp
theorem eqv_state (x y : List Stp) : PyData.eqv (stateD x) (stateD y) = decide (x = y) := by
  unfold stateD
  rw [← eqv_map stepD eqv_step]
  simp only [PyData.eqv]
theorem eqv_kind (x y : List (List Stp)) : PyData.eqv (statesD x) (statesD y) = decide (x = y) := by
  unfold statesD
  rw [← eqv_map stateD eqv_state]
  simp only [PyData.eqv]
/-- what the module's class has -/
structure KCls (K : PySem.W.Frag) (C : Addr) : Prop where
  cl : Cls K C
  n1 : NoAttr K C "states"
  n2 : NoAttr K C "moves"
  ha : PySem.W.findIn K (.ref C) "__class__" = some (some (.builtin "object.__class__"))
  hn : PySem.W.specialIn K (.builtin "object.__class__") "__get__" = some (some (.builtin "getset_descriptor.__get__"))
  htk : PySem.W.takesIn K (.builtin "object.__class__") = some true
  hm : PySem.W.mroIn K C (.type "object") = some true
  one : PySem.W.kitOne K (.ref C) (.ref C) = some true
/-! ### numbers as texts -/
def numT (i : Int) : Str := (toString i : String)
theorem num_tl (n : Nat) : tl (numT n) = numL n := tl_num n
theorem num_len {i : Int} (h0 : 0 ≤ i) (h1 : i < 100) : (numT i).length ≤ 2 := by
  obtain ⟨n, rfl⟩ := Int.eq_ofNat_of_zero_le h0
  rw [len_tl, num_tl]
  exact numL_len (by decide) (by omega)
theorem num_log {i : Int} (h0 : 0 ≤ i) (h1 : i < 100) : i.natAbs.log2 < 1920 := by
  rcases Nat.eq_zero_or_pos i.natAbs with e | e
  · rw [e]
    decide
  · have h : i.natAbs < 2 ^ 7 := by omega
    exact Nat.lt_trans ((Nat.log2_lt (by omega)).mpr h) (by decide)
end My

-- ===== K7Q =====
set_option Elab.async false
set_option linter.all false
set_option maxRecDepth 100000
set_option maxHeartbeats 4000000
namespace My
open PySem L2 PyProof.Rows PySem.Spec
/-! ### a def's promise under a condition on what is around -/
structure FnG (c : Bool) (G : Around → Prop) (P : Program) (w : World) (K : PySem.W.Frag) (mg : Str → Option Value) (base : Heap) (CX : CXT) (k : Nat) (f : Addr) (fd : FuncData) (ps : List Str) (sp : Sp) : Prop where
  len : ∀ vs H Q E, sp vs H Q E → vs.length = ps.length
  run : ∀ (A : Around) (outer : List Env) (s : Shared) (H : Hp) (args : Args) (us : List Value) (vs : List V) (Q : VK) (E : XK), (c = true → A.handled = none) → G A → L2H.RoomH k A →
    Env0 P w K mg base A outer s H → BindsTo s fd args (ps.zip us) → Vals vs us → sp vs H Q E → codeAny (model P w) A (.call (.ref f) args) (CR CX outer P w H s Q E) s
def cxG (c : Bool) (CX : CXT) (P : Program) (w : World) (K : PySem.W.Frag) (mg : Str → Option Value) (base : Heap) (N : List Str) (qual : Str) (scope : Scope) (f : Addr) (cd : Value) (A : Around) (outer : List Env) (s : Shared) (H : Hp) (E : XK) : Cx :=
  { cxOf CX P w K mg base N qual scope f cd A outer s H E with calm := c }
section
variable {c : Bool} {G : Around → Prop} {CX : CXT} {P : Program} {w : World} {K : PySem.W.Frag} {mg : Str → Option Value} {base : Heap} {N ps : List Str} {qual : Str} {scope : Scope} {f : Addr} {cd : Value} {A : Around} {outer : List Env} {s s1 : Shared} {H : Hp} {E : XK}
theorem inv_startG {us : List Value} {vs : List V} (S : FnScope N ps scope) (hd : c = true → A.handled = none) (e0 : Env0 P w K mg base A outer s H) (hl : vs.length = ps.length) (r : Vals vs us)
    (x : InCallC s s.heap.objs.size (bindL (envOfC qual scope s.heap.objs.size f cd).kindOf (ps.zip us) fun _ => none) (cellsFrom (s.heap.objs.size + 1) scope.names []) (bindC (envOfC qual scope s.heap.objs.size f cd).kindOf (ps.zip us) fun _ => none) s1) :
    Inv (cxG c CX P w K mg base N qual scope f cd A outer s H E) [] (start N vs) H s1 := by
  have J : Inv (cxOf CX P w K mg base N qual scope f cd { A with handled := none } outer s H E) [] (start N vs) H s1 := inv_start S rfl ⟨e0.frames, e0.mod, e0.bs, e0.bsz, e0.funs, e0.frf, e0.hok, e0.bare⟩ hl r x
  have o := J.ok
  exact ⟨⟨o.mod, o.kind, o.glob, o.blt, o.above, o.inj, o.has, o.cab, hd, Around.frames_deeper e0.frames, o.stk, o.exf, o.bs, o.bsz, o.noex, o.exfs, o.funs, o.frf⟩, J.os, J.bare, J.base, J.loc, J.cell, J.free, J.freeC, J.pin, J.hok, J.len⟩
theorem fn_ofG {k : Nat} {name : Str} {params : Arguments} {body : List Stmt} {dV kV doc pm cdv ct oc : Value} {an od : Option Addr} {osl : Array (Option Value)} {sp : Sp}
    (lk : K.lookup f = some ⟨oc, od, .func (PySem.W.fnOf name qual params body scope dV kV doc pm an cdv ct), osl⟩) (hcd : PySem.W.codeIn K cdv qual = true) (S : FnScope N ps scope) (len : ∀ vs H Q E, sp vs H Q E → vs.length = ps.length)
    (hbody : ∀ (A : Around) (outer : List Env) (s : Shared) (H : Hp) (vs : List V) (Q : VK) (E : XK), (c = true → A.handled = none) → G A → L2H.RoomH k (A.deeper (envOfC qual scope s.heap.objs.size f cdv)) → sp vs H Q E →
      ∃ t, PSs (cxG c CX P w K mg base N qual scope f cdv A outer s H E) body t ∧ t { nx := fun _ H' => Q .non H', rt := Q } (start N vs) H) :
    FnG c G P w K mg base CX (k + 1) f (PySem.W.fnOf name qual params body scope dV kV doc pm an cdv ct) ps sp := by
  refine ⟨len, fun A outer s H args us vs Q E hh hG hr e0 hb r hsp => ?_⟩
  have hl := len _ _ _ _ hsp
  have KX : K.In s.heap := e0.mod.kin.keeps fun b o e => (e0.bs b o e).1
  have lim : s.heap.NoLimit := e0.mod.nolimit.keeps fun b o e => (e0.bs b o e).1
  refine codeAny_call_function hr.depth (KX _ _ lk) rfl S.co S.gen rfl (PySem.W.codeRec_of KX hcd) (hb _ _ _ _ ?_)
  refine wpAny_newFunctionEnv_cells S.kind (fun ⟨n, v⟩ hy => ?_) fun env he s1 x => ?_
  · rcases S.par n (List.of_mem_zip hy).1 with q | q
    · exact .inl q
    · exact .inr ⟨q, PySem.W.cellsFrom_some _ _ _ (.inl q)⟩
  subst he
  refine ⟨lim.keeps x.toInCall.keep, codeAny_func ?_⟩
  obtain ⟨t, ht, hq⟩ := hbody A outer s H vs Q E hh hG (hr.deeper _) hsp
  refine wpAny_mono (ht.run [] s1 (start N vs) H _ (inv_startG S hh e0 hl r x) hq) (fun fl s' hs => ?_) fun e s' hs => hs
  cases fl with
  | ret u =>
    obtain ⟨v, σ', H', J, rv, q⟩ := hs
    exact ⟨v, H', J.os, J.bare, J.base, J.hok, rv, q⟩
  | next =>
    obtain ⟨σ', H', J, q⟩ := hs
    exact ⟨V.non, H', J.os, J.bare, J.base, J.hok, rfl, q⟩
  | brk =>
    obtain ⟨_, _, _, q⟩ := hs
    exact False.elim q
  | cont =>
    obtain ⟨_, _, _, q⟩ := hs
    exact False.elim q
/-- by its body, nothing is raised -/
theorem okG {x : Str} {st : Stmt} {fd : FuncData} {k : Nat} {sp : Sp} (F : Fun K x qual st f fd) (S : FnScope N ps (defScope st)) (len : ∀ vs H Q E, sp vs H Q E → vs.length = ps.length)
    (hbody : ∀ (cdv : Value) (A : Around) (outer : List Env) (s : Shared) (H : Hp) (vs : List V) (Q : VK) (E : XK), (c = true → A.handled = none) → G A → L2H.RoomH k (A.deeper (envOfC qual (defScope st) s.heap.objs.size f cdv)) → sp vs H Q E →
      ∃ t, PSs (cxG c CX P w K mg base N qual (defScope st) f cdv A outer s H E) (defBody st) t ∧ t { nx := fun _ H' => Q .non H', rt := Q } (start N vs) H) : FnG c G P w K mg base CX (k + 1) f fd ps sp := by
  obtain ⟨oc, od, kV, doc, pm, an, cdv, ct, osl, rfl, lk, hcd⟩ := F.ex
  exact fn_ofG lk hcd S len fun A outer s H vs Q E hh hG hr hsp => hbody cdv A outer s H vs Q E hh hG hr hsp
end
section
variable {c : Bool} {G : Around → Prop} {X : Cx} {CX : CXT} {k : Nat} {f : Addr} {fd : FuncData} {ps : List Str} {sp : Sp} {x : Str} {p pos : Pos} {e : Expr} {es : List Expr} {t : TA} {E : XK}
theorem pe_callG (F : FnG c G X.prog X.w X.K X.mg X.base CX k f fd ps sp) (hh : c = true → X.A.handled = none) (hG : G X.A) (hr : L2H.RoomH k X.A) (hg : Gl X x) (hm : X.mg x = some (.ref f)) (hk : PySem.W.keepIn X.K (.ref f) = true) (hb : Binds X.K fd ps []) (hx : Passes CX X E)
    (ha : PA X (e :: es) t) (hdb : (x == ("__debug__" : Str)) = false := by decide) (he : starEach (e :: es) X.env = (false, eval e X.env) :: starEach es X.env := by rfl) (hpl : (backTo pos (starEach es X.env)).any (·.1) = false := by rfl) :
    PE X (.Call (.Name x p) (e :: es) [] pos) (tCall sp [] E t) := by
  refine ⟨fun pins s σ H Q I h => ?_⟩
  refine wpAny_Call_Name_kw (ld_glob I hg hm ?_ hdb)
  refine PySem.W.callWith_K (h₀ := X.base) I.ok.mod.kin hk (thn (ha.run pos pins s σ H _ I h) fun us s1 ⟨vs, H1, I1, r, q⟩ => ⟨I1.kIn, ?_⟩) he hpl
  have r2 : Vals (vs ++ []) (us ++ []) := by rw [List.append_nil, List.append_nil]; exact r
  have hl : (us ++ []).length = ps.length := by rw [← r2.length]; exact F.len _ _ _ _ q
  refine wpAny_call (codeAny_mono (F.run X.A X.stack s1 H1 ⟨us, []⟩ (us ++ []) (vs ++ []) Q E hh hG hr I1.env0 (hb s1 us I1.kIn hl) r2 q) fun r s' hq => ?_)
  cases r with
  | error e => exact hx pins σ H1 s1 e s' I1 hq
  | ok fl =>
    cases fl with
    | ret u => exact I1.after hq
    | next => exact False.elim hq
    | brk => exact False.elim hq
    | cont => exact False.elim hq
end
theorem law_callG {P : Program} {w : World} {K : PySem.W.Frag} {mg mb : Str → Option Value} {CX : CXT} {k : Nat} {fa a : Addr} {fd : FuncData} {x : Str} {sp : Sp} {s₁ : Shared} {vs : List Value} {ns : List Int}
    (KX : K.In s₁.heap) (hns : s₁.heap.Ns mainGlobals mg) (hb : s₁.heap.Ns builtinsNs mb) (hbb : ∀ x : Str, x ≠ "__name__" → mb x = bootBuiltins x) (hlim : s₁.heap.NoLimit) (hg : s₁.gens = #[])
    (ha : s₁.heap.get? a = some { cls := .type "list", data := .seq vs.toArray }) (hi : IntsAre vs ns) (hl : ns.length ≤ sizeLine) (hr : Room k callerA)
    (F : ∀ base : Heap, K.In base → base.Ns mainGlobals mg → FnG true (fun A => A.guards = some []) P w K mg base CX k fa fd [x] sp) (hbind : ∀ (s : Shared) (u : Value), BindsTo s fd ⟨[u], []⟩ [(x, u)])
    (hsp : ∀ H : Hp, Only H → SqL K H a (ns.map V.int) → sp [.ref a] H (fun v _ => v = .bl true) fun _ _ _ => False)
    (hCX : ∀ H e s', CX [] H s₁ (fun _ _ _ => False) e s' → False) :
    codeAny (model P w) callerA (.call (.ref fa) ⟨[.ref a], []⟩) (fun r s' => r = .ok (.ret (.bool true)) ∧ OldK s₁.heap s'.heap ∧ s'.os = s₁.os ∧ AllBare s'.gens) s₁ := by
  have rv := vals_ints hi
  have lenV := hi.length
  -- from an abstract heap in which nothing but the script may be tracked
  have core : ∀ H : Hp, Only H → SqL K H a (ns.map V.int) → HOk P w H s₁.heap → (∀ b, H b ≠ none → b = a) → (H a ≠ none → K.lookup a = none) →
      codeAny (model P w) callerA (.call (.ref fa) ⟨[.ref a], []⟩) (fun r s' => r = .ok (.ret (.bool true)) ∧ OldK s₁.heap s'.heap ∧ s'.os = s₁.os ∧ AllBare s'.gens) s₁ := by
    intro H hO hS hok hA hK
    have base_of : ∀ {b : Addr} {o : Obj}, s₁.heap.get? b = some o → H b = none → (hidT s₁.heap H).get? b = some o := fun e n => hidT_get e n
    have noA : ∀ {b : Addr} {o : Obj} {es : Array DictEntry} {ep : Nat}, s₁.heap.get? b = some o → o.data = .dict es ep → H b = none := fun {b o es ep} e d => by
      cases q : H b with
      | none => rfl
      | some u =>
        have e' : b = a := hA b (by rw [q]; simp)
        subst e'
        rw [ha] at e; cases e
        have d' : Data.seq vs.toArray _ = Data.dict es ep := d
        cases d'
    have nsK : ∀ {b : Addr} {m : Str → Option Value}, s₁.heap.Ns b m → (hidT s₁.heap H).Ns b m := fun {b m} ⟨o, es, ep, e, d, r⟩ => ⟨o, es, ep, base_of e (noA e d), d, r⟩
    have hKb : K.In (hidT s₁.heap H) := fun b o e => base_of (KX b o e) (by
      cases q : H b with
      | none => rfl
      | some u =>
        have e' : b = a := hA b (by rw [q]; simp)
        subst e'
        rw [hK (by rw [q]; simp)] at e; cases e)
    have hM : Mod K mg (hidT s₁.heap H) := ⟨hKb, nsK hns, ⟨mb, nsK hb, hbb⟩, let ⟨mc, h1, h2⟩ := hlim; ⟨mc, nsK h1, h2⟩⟩
    have e0 : Env0 P w K mg (hidT s₁.heap H) callerA [] s₁ H := ⟨rfl, hM, fun b o e => of_hidT e, Nat.le_of_eq (hidT_size _ _), trivial, fun b hb => absurd (show b ∈ ([] : List Addr) from hb) (by simp), hok, .of_eq hg⟩
    refine codeAny_mono ((F _ hKb (nsK hns)).run callerA [] s₁ H ⟨[.ref a], []⟩ [.ref a] [.ref a] _ _ (fun _ => rfl) rfl (L2H.roomH_of hr) e0 (hbind s₁ (.ref a)) (.cons rfl .nil) (hsp H hO hS)) fun r s' h => ?_
    cases r with
    | error e => exact (hCX H e s' h).elim
    | ok fl =>
      cases fl with
      | next => exact False.elim h
      | brk => exact False.elim h
      | cont => exact False.elim h
      | ret u =>
        obtain ⟨v, H', os, bare, un, hok', r', q⟩ := h
        have q' : v = .bl true := q
        subst q'
        obtain rfl : u = Value.bool true := r'
        refine ⟨rfl, OldK.of_keep fun b o e => ?_, os, bare⟩
        cases q : H b with
        | none => exact un.keep b o e q (by intro z; exact absurd (show b ∈ ([] : List Addr) from z) (by simp)) (by simp)
        | some u =>
          rcases hO b with z | ⟨ob, xs, z⟩
          · rw [q] at z; cases z
          · have z2 := un.frzs b ob _ z
            obtain ⟨e1, _⟩ := hok b _ z
            obtain ⟨e2, _⟩ := hok' b _ z2
            rw [e] at e1; cases e1
            exact e2
  cases hk : K.lookup a with
  | some o =>
    -- the script is one of the module's own objects
    have e := KX a o hk
    rw [ha] at e
    cases e
    refine core (fun _ => none) (fun _ => .inl rfl) (.inr ⟨_, vs.toArray, _, hk, rfl, rfl, rfl, by rw [List.size_toArray, lenV]; exact hl, by simpa using rv⟩) (fun b u z => by have z' : (none : Option HO) = some u := z; cases z') (fun b z => absurd rfl z) fun z => absurd rfl z
  | none =>
    refine core (fun b => if b = a then some (.frz { cls := .type "list", data := .seq vs.toArray } (.lst (ns.map V.int))) else none) (fun b => ?_) (.inl (.inr ⟨{ cls := .type "list", data := .seq vs.toArray }, if_pos rfl⟩)) (fun b u z => ?_) (fun b z => ?_) fun _ => hk
    · by_cases hb : b = a
      · exact .inr ⟨_, _, if_pos hb⟩
      · exact .inl (if_neg hb)
    · by_cases hb : b = a
      · have z' := (if_pos hb).symm.trans z
        cases z'
        subst hb
        exact ⟨ha, by rw [List.length_map]; exact hl, vs, _, rv, ha⟩
      · have z' := (if_neg hb).symm.trans z
        cases z'
    · by_cases hb : b = a
      · exact hb
      · exact absurd (if_neg hb) z

theorem walk_ofG {l : PySem.W.OpenLaw} {n k : Nat} {q : Program} {loose : List Str} {XP : (Str → Option Value) → Heap → Prop} {YP : World → Heap → Prop} {d : DefRec} {K : Params → PySem.W.Frag} {sp : PySem.W.Frag → Sp} {x : Str}
    (hn : l.most = some n) (hn2 : n ≤ sizeLine) (hdf : d.params.defaults = []) (hr : Room k callerA) (hY : ∀ (w : World) (h : Heap), YP w h → (K w.params).In h)
    (F : ∀ (w : World) (mg : Str → Option Value) (fa : Addr) (h : Heap), (K w.params).In h → h.Ns mainGlobals mg → mg d.name = some (.ref fa) →
      ∃ fd : FuncData, (∀ (s : Shared) (u : Value), BindsTo s fd ⟨[u], []⟩ [(x, u)]) ∧ ∀ base : Heap, (K w.params).In base → base.Ns mainGlobals mg → FnG true (fun A => A.guards = some []) l.prog w (K w.params) mg base CX0 k fa fd [x] (sp (K w.params)))
    (hsp : ∀ (K : PySem.W.Frag) (H : Hp) (a : Addr) (ns : List Int), ns.length ≤ n → (∀ z ∈ ns, Builtin.Int.intBits z ≤ 1048576) → Only H → SqL K H a (ns.map V.int) → sp K [.ref a] H (fun v _ => v = .bl true) fun _ _ _ => False) :
    PySem.W.WalkO q loose XP YP l.row.toRowW d [] (fun f vs => PySem.call f vs) := by
  refine Att.attach_callB hn hdf fun w s₀ s₁ mg mb fa o pm cd doc a vs ns G Y ho hd hcd hmg hobj hints hlen hbits hg => ?_
  have KX := hY w _ Y
  obtain ⟨fd, hb, hF⟩ := F w mg fa _ KX G.T.g hmg
  exact law_callG KX G.T.g G.T.b G.T.builtins G.T.nolimit hg hobj hints (Nat.le_trans hlen hn2) hr hF hb (fun H hO hS => hsp _ H a ns hlen hbits hO hS) fun _ _ _ z => z
/-! ### displays, told that the new object is none of the model's own -/
def tLstL (t : TA) : TE := fun σ H Q => t σ H fun xs H1 => xs.length ≤ sizeLine ∧ ∀ q, H1 q = none → sysModules < q → Q (.ref q) (upd H1 q (.lst xs))
theorem pe_lstL {X : Cx} {es : List Expr} {t : TA} {pos : Pos} (h : PA X es t) : PE X (.List es pos) (tLstL t) := by
  refine ⟨fun pins s σ H Q I hq => ?_⟩
  refine wpAny_List_spliced (thn (h.run pos pins s σ H _ I hq) fun us s1 hh => ?_)
  obtain ⟨xs, H1, I1, r, z, q⟩ := hh
  have big := I1.big
  exact ⟨by rw [← r.length]; exact z, .ref s1.heap.objs.size, _, I1.laid (t' := s1.toks) (o := .lst xs) (fun b u e => Heap.get?_push_of_some _ e) (Nat.le_refl _) ⟨z, us, 0, r, Heap.get?_push_size _ rfl⟩, rfl, q _ (I1.hok.fresh (Nat.le_refl _)) big⟩

open Kd TL
theorem num_low {i : Int} (h : 0 ≤ i) {c : Nat} (m : c ∈ tl (numT i)) : c < 256 := by
  obtain ⟨n, rfl⟩ := Int.eq_ofNat_of_zero_le h
  rw [num_tl] at m
  have := numL_digits n c m
  omega
theorem wrd_low {z : Str} (h : Wrd z) {c : Nat} (m : c ∈ tl z) : c < 256 := by
  have low : ∀ c ∈ LETS.cps.toList, c < 256 := by decide +kernel
  exact low c (h.2.2 c m)
theorem repr_len {z : Str} {k : Nat} (hl : z.length ≤ k) (hc : ∀ c ∈ tl z, c < 256) : (reprText z).length ≤ 10 * k + 2 := by
  have := PySem.StrLaws.reprText_len z fun c m => Nat.lt_trans (hc c m) (by decide)
  omega
/-- data that is shown within k signs -/
structure Sh (k : Nat) (d : PyData) : Prop where
  sh : d.showable = true
  sz : d.shown.length ≤ k
theorem sh_all {k : Nat} : ∀ {ds : List PyData}, (∀ d ∈ ds, Sh k d) → PyData.showableAll ds = true ∧ ((PyData.shownAll ds).map (·.length)).sum ≤ ds.length * k ∧ (PyData.shownAll ds).length = ds.length
  | [], _ => ⟨by simp only [PyData.showableAll], by simp [PyData.shownAll], by simp [PyData.shownAll]⟩
  | d :: r, h => by
    have g := h d List.mem_cons_self
    obtain ⟨h1, h3, h4⟩ := sh_all (ds := r) fun x hx => h x (List.mem_cons_of_mem _ hx)
    have := g.sz
    refine ⟨by simp only [PyData.showableAll, g.sh, h1, Bool.and_true], ?_, by simp only [PyData.shownAll, List.length_cons, h4]⟩
    simp only [PyData.shownAll, List.map_cons, List.sum_cons, List.length_cons]
    rw [Nat.succ_mul]
    omega
theorem sh_tuple {k m : Nat} {ds : List PyData} (h : ∀ d ∈ ds, Sh k d) (hl : ds.length ≤ m) : Sh (m * k + 2 * m + 3) (.tuple ds) := by
  obtain ⟨h1, h3, h4⟩ := sh_all h
  refine ⟨by simp only [PyData.showable, h1], ?_⟩
  have h5 := tupleText_len_le (PyData.shownAll ds)
  simp only [PyData.shown]
  rw [h4] at h5
  have h6 : ds.length * k ≤ m * k := Nat.mul_le_mul_right _ hl
  omega
theorem sh_mono {k m : Nat} {d : PyData} (h : Sh k d) (l : k ≤ m) : Sh m d := ⟨h.sh, Nat.le_trans h.sz l⟩
theorem sh_step {n : Nat} {x : Stp} (h : StpOk n x) (hn : n ≤ 40) : Sh 375 (stepD x) := by
  refine sh_tuple (k := 122) (m := 3) (fun d hd => ?_) (Nat.le_refl _)
  rcases List.mem_cons.mp hd with rfl | hd
  · exact ⟨by simp only [PyData.showable], repr_len h.w1.2.1 fun c m => wrd_low h.w1 m⟩
  rcases List.mem_cons.mp hd with rfl | hd
  · exact ⟨by simp only [PyData.showable], repr_len h.w2.2.1 fun c m => wrd_low h.w2 m⟩
  · rw [List.mem_singleton.mp hd]
    have lo := h.lo
    have hi := h.hi
    have z := num_len lo (by omega)
    have z2 := num_log lo (by omega)
    refine ⟨by simp [PyData.showable, z2], ?_⟩
    simp only [PyData.shown]
    exact Nat.le_trans z (by decide)
theorem sh_state {n : Nat} {st : List Stp} (h : StOk n st) (hn : n ≤ 40) : Sh 9051 (stateD st) :=
  sh_tuple (k := 375) (m := 24) (fun d hd => by
    obtain ⟨x, m, rfl⟩ := List.mem_map.mp hd
    exact sh_step (h.all x m) hn) (by rw [List.length_map]; exact h.few)
theorem sh_kind {ss : List (List Stp)} (h : KOk ss) : Sh 362123 (statesD ss) :=
  sh_tuple (k := 9051) (m := 40) (fun d hd => by
    obtain ⟨x, m, rfl⟩ := List.mem_map.mp hd
    exact sh_state (h.all x m) h.most) (by rw [List.length_map]; exact h.most)
end My

-- ===== K7L =====
set_option Elab.async false
set_option linter.all false
set_option maxRecDepth 100000
set_option maxHeartbeats 4000000
namespace My
open PySem L2 PyProof.Rows PySem.Spec Kd TL
abbrev sPick : Stmt := top 30
abbrev sLaw : Stmt := top 39
theorem FeedAt.same {H H' : Hp} {p c : Addr} {ks : List Int} {w n : Int} (s : Same H H') (F : FeedAt H p c ks w n) : FeedAt H' p c ks w n := ⟨s _ _ F.ob, s _ _ F.cs, F.bits, F.len, F.w0, F.w1, F.n0⟩
open PySem.W in
theorem sorted_asc (L : List (Addr × List Key)) (key : ∀ q ∈ L, ∃ e, q.2 = evK e) (nd : (L.map Prod.snd).Nodup) :
    ∃ es : List (Str × Str), (L.mergeSort (PySem.W.dataLe false fun q : Addr × List Key => tD q.2)).map Prod.snd = es.map evK ∧ es.Pairwise evLt ∧ ∀ e ∈ es, evK e ∈ L.map Prod.snd := by
  have tot := sortLe_total (listOrd itemOrd) false fun q : Addr × List Key => keyToks (tD q.2)
  have srt : (L.mergeSort (PySem.W.dataLe false fun q : Addr × List Key => tD q.2)).Pairwise fun q r => PySem.W.dataLe false (fun q : Addr × List Key => tD q.2) q r = true := List.pairwise_mergeSort tot.trans (fun a b => by rw [Bool.or_eq_true]; exact tot.total a b) L
  have pm : (L.mergeSort (PySem.W.dataLe false fun q : Addr × List Key => tD q.2)).Perm L := List.mergeSort_perm _ _
  generalize L.mergeSort (PySem.W.dataLe false fun q : Addr × List Key => tD q.2) = M at srt pm
  have keyM : ∀ q ∈ M, ∃ x, q.2 = evK x := fun q hq => key q (pm.mem_iff.mp hq)
  have ndM : (M.map Prod.snd).Nodup := (pm.map Prod.snd).nodup_iff.mpr nd
  have back : ∃ xs : List (Str × Str), M.map Prod.snd = xs.map evK := by
    clear srt pm ndM
    induction M with
    | nil => exact ⟨[], rfl⟩
    | cons q M ih =>
      obtain ⟨x, e⟩ := keyM q List.mem_cons_self
      obtain ⟨xs, e2⟩ := ih fun r hr => keyM r (List.mem_cons_of_mem _ hr)
      exact ⟨x :: xs, by rw [List.map_cons, List.map_cons, e, e2]⟩
  obtain ⟨xs, ex⟩ := back
  have sx : xs.Pairwise fun x y => ¬ evLt y x := by
    have z : (M.map Prod.snd).Pairwise fun k l => ∀ x y, k = evK x → l = evK y → ¬ evLt y x := List.pairwise_map.mpr (List.Pairwise.imp (fun {q r} h x y e1 e2 => (le_evK e1 e2).mp h) srt)
    rw [ex] at z
    exact List.Pairwise.imp (fun {x y} h => h x y rfl rfl) (List.pairwise_map.mp z)
  rw [ex] at ndM
  have nx : xs.Pairwise fun x y => x ≠ y := List.Pairwise.imp (fun {x y} h e => h (by rw [e])) (List.pairwise_map.mp ndM)
  refine ⟨xs, ex, List.Pairwise.imp₂ (fun x y h1 h2 => Classical.byContradiction fun z => h2 (evLt_tri x y z h1)) sx nx, fun e he => ?_⟩
  rw [← (pm.map Prod.snd).mem_iff, ex]
  exact List.mem_map.mpr ⟨e, he, rfl⟩
theorem putK_keys {kvs : List (List Key × V)} {k : List Key} {v : V} : (k ∈ kvs.map Prod.fst → (putK kvs k v).map Prod.fst = kvs.map Prod.fst) ∧ (k ∉ kvs.map Prod.fst → (putK kvs k v).map Prod.fst = kvs.map Prod.fst ++ [k]) := by
  refine ⟨fun h => ?_, fun h => ?_⟩
  · unfold putK
    rw [if_pos]
    · rw [List.map_map]
      refine List.map_congr_left fun p _ => ?_
      show (if p.1 = k then (p.1, v) else p).1 = p.1
      split <;> rfl
    · obtain ⟨p, m, e⟩ := List.mem_map.mp h
      exact List.any_eq_true.mpr ⟨p, m, decide_eq_true e⟩
  · rw [putK_new fun p m e => h (List.mem_map.mpr ⟨p, m, e⟩), List.map_append]
    rfl
/-- what the menu holds -/
structure Menu (kvs : List (List Key × V)) : Prop where
  nd : (kvs.map Prod.fst).Nodup
  ev : ∀ p ∈ kvs, ∃ e : Str × Str, p.1 = evK e ∧ Wrd e.1 ∧ Wrd e.2
theorem Menu.put {kvs : List (List Key × V)} {e : Str × Str} {v : V} (m : Menu kvs) (h1 : Wrd e.1) (h2 : Wrd e.2) : Menu (putK kvs (evK e) v) ∧ (putK kvs (evK e) v).length ≤ kvs.length + 1 := by
  have keys := putK_keys (kvs := kvs) (k := evK e) (v := v)
  have len : ∀ l : List (List Key × V), l.length = (l.map Prod.fst).length := fun l => List.length_map .. |>.symm
  by_cases h : evK e ∈ kvs.map Prod.fst
  · have k1 := keys.1 h
    refine ⟨⟨by rw [k1]; exact m.nd, fun p hp => ?_⟩, by rw [len, k1, ← len]; omega⟩
    have z : p.1 ∈ kvs.map Prod.fst := by rw [← k1]; exact List.mem_map.mpr ⟨p, hp, rfl⟩
    obtain ⟨q, mq, eq⟩ := List.mem_map.mp z
    rw [← eq]
    exact m.ev q mq
  · have k1 := keys.2 h
    refine ⟨⟨by rw [k1]; exact List.nodup_append.mpr ⟨m.nd, by simp, fun a ha b hb => by rw [List.mem_singleton.mp hb]; exact fun z => h (by rw [← z]; exact ha)⟩, fun p hp => ?_⟩, by rw [len, k1, List.length_append, ← len]; exact Nat.le_refl _⟩
    have z : p.1 ∈ kvs.map Prod.fst ++ [evK e] := by rw [← k1]; exact List.mem_map.mpr ⟨p, hp, rfl⟩
    rcases List.mem_append.mp z with z | z
    · obtain ⟨q, mq, eq⟩ := List.mem_map.mp z
      rw [← eq]
      exact m.ev q mq
    · rw [List.mem_singleton.mp z]
      exact ⟨e, rfl, h1, h2⟩
theorem Save.tup {H H' : Hp} {p c : Addr} {ks : List Int} {w n : Int} (F : FeedAt H p c ks w n) (s : Save p c H H') : Tup H H' := fun a xs e =>
  s a _ e (fun z => by rw [z, F.ob] at e; cases e) (fun z => by rw [z, F.cs] at e; cases e)
theorem Save.wr {H H2 : Hp} {p c D : Addr} {o : HO} (s : Save p c H H2) (n : H D = none) : Save p c H (upd H2 D o) := fun b u e h1 h2 => by
  rw [upd_ne (ne_of_none e n)]
  exact s b u e h1 h2
theorem FeedAt.wr {H : Hp} {p c D : Addr} {o : HO} {ks : List Int} {w n : Int} (F : FeedAt H p c ks w n) (h1 : D ≠ p) (h2 : D ≠ c) : FeedAt (upd H D o) p c ks w n :=
  ⟨by rw [upd_ne (Ne.symm h1)]; exact F.ob, by rw [upd_ne (Ne.symm h2)]; exact F.cs, F.bits, F.len, F.w0, F.w1, F.n0⟩
theorem cutTo (xs : List V) (n : Nat) : cutV xs none (some (n : Int)) = xs.take n := by
  unfold cutV HT.sIx
  simp [List.take_eq_take_min, show ¬ ((n : Int) < 0) from by omega]
theorem at_nat {α : Type} {xs : List α} {i : Int} (h0 : 0 ≤ i) (h1 : i < xs.length) : ∃ x, x ∈ xs ∧ atI xs i = some x := by
  have lt : i.toNat < xs.length := by omega
  have z := atI_nat (List.getElem?_eq_getElem lt)
  rw [Int.toNat_of_nonneg h0] at z
  exact ⟨xs[i.toNat], List.getElem_mem lt, z⟩
/-- one of a list's items -/
def spPick : Sp := fun vs H Q _ => ∃ (p c a : Addr) (ks : List Int) (xs : List V) (w n : Int), vs = [.ref p, .ref a] ∧ FeedAt H p c ks w n ∧ n < 999999 ∧ H a = some (.lst xs) ∧ a ≠ p ∧ a ≠ c ∧ 1 ≤ xs.length ∧ xs.length ≤ 100 ∧
  ∀ (v : V) (ks' : List Int) (H' : Hp), v ∈ xs → FeedAt H' p c ks' w (n + 1) → Save p c H H' → Q v H'
section
variable {P : Program} {w : World} {K : PySem.W.Frag} {mg : Str → Option Value} {base : Heap}
theorem scPi : FnScope ["_law_feed_here", "_law_some"] ["_law_feed_here", "_law_some"] (defScope sPick) := ⟨rfl, rfl, rfl, by decide +kernel, rfl, by decide +kernel, by decide +kernel⟩
theorem ok_pick {f fD : Addr} {fd fdD : FuncData} (F : Fun K "_law_pick" "_law_pick" sPick f fd) (mlen : mg "len" = none)
    (GD : FnOk P w K mg base CX0 1 fD fdD ["_law_feed_here", "_law_many"] spDigit) (mD : mg "_law_digit" = some (.ref fD)) (kD : PySem.W.keepIn K (.ref fD) = true) (bD : Binds K fdD ["_law_feed_here", "_law_many"] []) :
    FnOk P w K mg base CX0 2 f fd ["_law_feed_here", "_law_some"] spPick := by
  refine F.ok scPi (fun vs H Q E h => ?_) (fun cdv A outer s H vs Q E hr h => ?_)
  · obtain ⟨p, c, a, ks, xs, y, n, rfl, _⟩ := h
    rfl
  · obtain ⟨p, c, a, ks, xs, y, n, rfl, FA, hn, ha, np, nc, l0, l1, k⟩ := h
    refine ⟨_, pss_one (ps_ret (pe_ix ix_list (pv 1) (pe_call GD hr (by rfl) mD kD bD .nil pass0 (pa_cons (pv 0) (pa_cons (pe_callB (r := rLenQ K) call_len_seq (by rfl) mlen PySem.boot_len (pa_cons (pv 1) pa_nil)) pa_nil))) (fun _ _ => rfl))), ?_⟩
    refine ⟨_, rfl, _, rfl, _, rfl, a, _, rfl, .inl (SqL.of ha), p, c, ks, y, n, _, rfl, FA, by omega, by omega, by omega, fun i ks' H' i0 i1 FA' sv => ?_⟩
    obtain ⟨x, hx, e⟩ := at_nat (xs := xs) i0 i1
    exact ⟨a, _, i, _, rfl, rfl, SqL.of (sv a _ ha np nc), e, k x ks' H' hx FA' sv⟩
end
end My

-- ===== KS14 =====
set_option Elab.async false
set_option linter.all false
set_option maxRecDepth 100000
set_option maxHeartbeats 4000000
namespace Kd
open PySem L2 PyProof.Rows PySem.Spec ClX
/-! ### o.m(k = v, ..), m a def of o's class -/
def tMethK (C : Addr) (m : Str) (sp : Sp) (gV : List V → List V → List V) (E : XK) (ta : TE) (tk : TA) : TE := fun σ H Q => ta σ H fun x H1 => ∃ a dx fs, x = .ref a ∧ H1 a = some (.ins C dx fs) ∧ fs.lookup m = none ∧ tk σ H1 fun zs H2 => sp (gV [.ref a] zs) H2 Q E
section
variable {X : Cx} {CX : CXT} {k : Nat} {C g : Addr} {fd : FuncData} {ps ks : List Str} {sp : Sp} {E : XK} {o : Expr} {kws : List Keyword} {m : Str} {pos apos : Pos} {ta : TE} {tk : TA} {pl : Sem Bool} {gg : List Value → List Value → List Value} {gV : List V → List V → List V}
theorem pe_methK (he : PE X o ta) (c : Cls X.K C) (hm : Meth X.K C m g) (F : FnOk X.prog X.w X.K X.mg X.base CX k g fd ps sp) (hr : Room k X.A) (hb : KBinds X.K fd ps ks gg gV) (hx : Passes CX X E) (hkw : PK X kws tk)
    (hall : (backToKw pos (keywordEach kws X.env)).all (·.1.isSome) = true := by rfl) (hks : (backToKw pos (keywordEach kws X.env)).filterMap (·.1) = ks := by rfl)
    (hpl : ((backTo pos (starEach [] X.env)).any (·.1) || (backToKw pos (keywordEach kws X.env)).any (·.1.isNone)) = false := by rfl)
    (ht : eval (.Call (.Attribute o m apos) [] kws pos) X.env = (do
      let ov ← eval o X.env
      standAt apos.atName
      let (f, first) ← holding [ov] (getMethod ov m pl)
      callWith pos f first (backTo pos (starEach [] X.env)) (backToKw pos (keywordEach kws X.env))) := by rfl) :
    PE X (.Call (.Attribute o m apos) [] kws pos) (tMethK C m sp gV E ta tk) := by
  refine ⟨fun pins s σ H Q I h => ?_⟩
  refine PySem.W.methodCall_KW (pl := pl) (thn (he.run pins s σ H _ I h) fun u s1 ⟨x, H1, I1, rx, a, dx, fs, ex, ea, l, q⟩ => ?_) ht
  subst ex
  obtain rfl : u = Value.ref a := rx
  refine getmeth_ok I1 ea c hm l ?_
  refine PySem.W.callWith_KW0 (first := [.ref a]) (h₀ := X.base) I.ok.mod.kin hm.kp hall (thn (hkw.run pos pins s1 σ H1 _ I1 q) fun ws s2 ⟨zs, H2, I2, rz, q2⟩ => ⟨I2.kIn, ?_⟩) hpl
  rw [hks]
  exact run_fnk (us := [.ref a]) (vs := [.ref a]) F hr hb hx I2 (.cons rfl .nil) rz q2
end
end Kd

-- ===== KS15 =====
set_option Elab.async false
set_option linter.all false
set_option maxRecDepth 100000
set_option maxHeartbeats 4000000
namespace Kd
open PySem L2 PyProof.Rows PySem.Spec
/-! ### dict(xs) of pairs whose keys are tuples -/
/-- pairs one behind the other into a dict -/
def pour (kvs : List (List Key × V)) (ps : List (Addr × List Key × V)) : List (List Key × V) := ps.foldl (fun acc q => putK acc q.2.1 q.2.2) kvs
theorem pour_le : ∀ (ps : List (Addr × List Key × V)) (kvs : List (List Key × V)), (pour kvs ps).length ≤ kvs.length + ps.length
  | [], kvs => Nat.le_refl _
  | q :: ps, kvs => by
    have h := pour_le ps (putK kvs q.2.1 q.2.2)
    have h2 := length_putK kvs q.2.1 q.2.2
    show (pour (putK kvs q.2.1 q.2.2) ps).length ≤ _
    rw [List.length_cons]
    omega
/-- the pair at b -/
def PairAt (H : Hp) (q : Addr × List Key × V) : Prop := ∃ kb, H q.1 = some (.tup [.ref kb, q.2.2]) ∧ H kb = some (.tup (q.2.1.map kV))
section
variable {X : Cx} {pins : List (Addr × Obj)} {σ : L2.St} {H : Hp} {A : Around}
theorem pour_loop {R : Result → Shared → Prop} {S I l : Addr} {all : List (Addr × List Key × V)} {res : Value} (hh : A.handled = none) (hu : A.units + 40 < cLine) (hl : H l = some (.lst (all.map fun q => V.ref q.1))) (hS : H S = none) (fI : FpOk X pins H I) (nSI : S ≠ I) (ok : ∀ q ∈ all, PairAt H q) :
    ∀ (rest : List (Addr × List Key × V)) (i : Nat) (acc : List (List Key × V)) (ix : Int) (t : Tok) (s : Shared), all.drop i = rest → acc.length + rest.length ≤ 1000 → Inv X pins σ (upd H S (.dT acc)) s → s.heap.IsListIter I l i →
      (∀ s', Inv X pins σ (upd H S (.dT (pour acc rest))) s' → R (.ok (.ret res)) s') → codeAny (model X.prog X.w) A (.builtin "dict.update.loop" ⟨[.ref S, .ref I, .int ix t, res], []⟩) R s := by
  intro rest
  induction rest with
  | nil =>
    intro i acc ix t s ed hln J hit hR
    have nlS : l ≠ S := fun z => by rw [z, hS] at hl; cases hl
    have hl2 : (upd H S (.dT acc)) l = some (.lst (all.map fun q => V.ref q.1)) := by rw [upd_ne nlS]; exact hl
    obtain ⟨its, rv, pl, hz⟩ := J.list (SqL.of hl2)
    refine codeAny_builtin ud_entry ?_
    rw [Around.under_plainId ud_plain _]
    show wpAny _ A.in1 (pyNext (.ref I) >>= _) _ _ s
    have le : all.length ≤ i := List.drop_eq_nil_iff.mp ed
    have lz := rv.length
    rw [List.length_map] at lz
    refine wpAny_bind (wpAny_pyNext_list_end (A := A.in1) hh hit pl.isList (by simp; omega) fun h' he => ?_)
    show wpAny _ A.in1 (Builtin.Dict.addKeywords S [] >>= _) _ _ _
    refine wpAny_bind (wpAny_pure (wpAny_pure ?_))
    have f2 : FpOk X pins (upd H S (.dT acc)) I := ⟨by rw [upd_ne (Ne.symm nSI)]; exact fI.1, fI.2.1, fI.2.2.1, fI.2.2.2.1, fI.2.2.2.2.1, fI.2.2.2.2.2⟩
    obtain ⟨f0, f1, _, f3, f4, f5⟩ := f2
    exact hR _ (J.turned (t' := s.toks) (fun b o hb e => he b o hb e) f0 f1 f3 f4 f5)
  | cons q rest ih =>
    intro i acc ix t s ed hln J hit hR
    rw [List.length_cons] at hln
    have ei : all[i]? = some q := by
      have z : (all.drop i)[0]? = some q := by rw [ed]; rfl
      rwa [List.getElem?_drop, Nat.add_zero] at z
    have ed2 : all.drop (i + 1) = rest := by rw [← List.tail_drop, ed]; rfl
    have nlS : l ≠ S := fun z => by rw [z, hS] at hl; cases hl
    have hl2 : (upd H S (.dT acc)) l = some (.lst (all.map fun q => V.ref q.1)) := by rw [upd_ne nlS]; exact hl
    obtain ⟨its, rv, pl, hz⟩ := J.list (SqL.of hl2)
    have eits := refs_raw (fun q : Addr × List Key × V => q.1) rv
    subst eits
    obtain ⟨kb, e1, e2⟩ := ok q (List.mem_of_getElem? ei)
    have n1 : q.1 ≠ S := ne_of_none e1 hS
    have n2 : kb ≠ S := ne_of_none e2 hS
    have e1' : (upd H S (.dT acc)) q.1 = some (.tup [.ref kb, q.2.2]) := by rw [upd_ne n1]; exact e1
    have e2' : (upd H S (.dT acc)) kb = some (.tup (q.2.1.map kV)) := by rw [upd_ne n2]; exact e2
    have f2 : FpOk X pins (upd H S (.dT acc)) I := ⟨by rw [upd_ne (Ne.symm nSI)]; exact fI.1, fI.2.1, fI.2.2.1, fI.2.2.2.1, fI.2.2.2.2.1, fI.2.2.2.2.2⟩
    obtain ⟨f0, f1, _, f3, f4, f5⟩ := f2
    refine codeAny_builtin ud_entry ?_
    rw [Around.under_plainId ud_plain _]
    show wpAny _ A.in1 (pyNext (.ref I) >>= _) _ _ s
    refine wpAny_bind (wpAny_pyNext_list_item (x := .ref q.1) hit pl.isList (by simp [ei]) fun h1 hit1 hs1 => ?_)
    have J1 : Inv X pins σ (upd H S (.dT acc)) { s with heap := h1 } := J.turned (t' := s.toks) (fun b o hb e => (hs1.2 b hb).trans e) f0 f1 f3 f4 f5
    obtain ⟨its2, rv2, ⟨o, ho, hc, n, hd⟩, _⟩ := J1.tuple (SqT.of e1')
    obtain ⟨u, y, ex, ru, ry⟩ := vals2 rv2
    subst ex
    cases (show u = Value.ref kb from ru)
    show wpAny _ A.in1 (holding [Value.ref q.1] _ >>= _) _ _ _
    refine wpAny_bind (wpAny_holding ?_)
    refine wpAny_bind (wpAny_tryCatch ?_)
    unfold Builtin.Dict.pairItems
    refine wpAny_bind (wpAny_typeOf (T := "tuple") ⟨o, ho, hc⟩ ?_)
    rw [if_pos (by first | decide | rfl | simp)]
    refine wpAny_bind (wpAny_seqItems ho hd (wpAny_pure ?_))
    show wpAny _ A.in1 (holding [Value.ref kb, y] (dictSet S (.ref kb) y)) _ _ _
    obtain ⟨z, nsys, xs, rel, dd⟩ := dt_of J1.hok (upd_same (H := H) (a := S) (o := .dT acc))
    have xz : xs.length ≤ sizeLine := by rw [← Paired.length rel]; exact z
    have big := sizeLine_eq
    have pz : (putK acc q.2.1 q.2.2).length ≤ sizeLine := by have := length_putK acc q.2.1 q.2.2; omega
    refine wpAny_holding (wpAny_dictSet_heap (hsz := xz) (show A.in1.units < cLine by simp only [Around.in1]; omega) (key_of J1.hok e2') dd fun h2 dd2 sb => ?_)
    obtain ⟨o2, es, ep, g1, g2, g3, g4, _, g5⟩ := dd2
    have J2 : ∀ t2, Inv X pins σ (upd (upd H S (.dT acc)) S (.dT (putK acc q.2.1 q.2.2))) { s with heap := h2, toks := t2 } := fun t2 => by
      refine d_write (s := { s with heap := h1 }) (t' := t2) J1 (by rw [upd_same]; exact True.intro) sb ⟨o2, g1⟩ ⟨pz, nsys, _, (rel.put q.2.1 e2' ry).keeps fun c ys e => ?_, o2, es, ep, g1, g2, g3, g4, g5⟩
      rw [upd_ne (ne_of e upd_same (fun z => nomatch z))]
      exact e
    rw [L2.upd_upd] at J2
    refine wpAny_pure ⟨plainId_quiet ud_plain _, ih (i + 1) (putK acc q.2.1 q.2.2) (ix + 1) 0 _ ed2 (by have := length_putK acc q.2.1 q.2.2; omega) (J2 _) (hit1.at fun o e => (sb.2 I (Ne.symm nSI)).trans e) hR⟩
/-- dict(xs), xs a list of pairs -/
theorem call_dictT (hc : X.calm = true) (hu : X.A.units + 200 < cLine) : CallR X (.type "dict") (fun xs H Q => ∃ (a : Addr) (all : List (Addr × List Key × V)), xs = [.ref a] ∧ H a = some (.lst (all.map fun q => V.ref q.1)) ∧ (∀ q ∈ all, PairAt H q) ∧ all.length ≤ 1000 ∧
    ∀ p, H p = none → Q (.ref p) (upd H p (.dT (pour [] all)))) := by
  intro pins s σ H xs us Q I r h
  obtain ⟨a, all, rfl, ha, ok, few, q⟩ := h
  rw [Vals.ref1 r]
  have hh : X.A.handled = none := I.ok.hd hc
  have hS : H s.heap.objs.size = none := I.hok.fresh (Nat.le_refl _)
  refine callType_codes (Q₁ := fun obj s₁ => obj = .ref s.heap.objs.size ∧ s₁ = { s with heap := s.heap.push { cls := .type "dict", data := .dict #[] } }) PySem.F.kt_called_dict (PySem.F.kt_typeCall_dict_1 _) PySem.F.entry_dict_init (kt_code_dict_new _ ⟨rfl, rfl⟩) ?_
  rintro obj s₁ ⟨rfl, rfl⟩
  have I1 : Inv X pins σ (upd H s.heap.objs.size (.dT [])) { s with heap := s.heap.push { cls := .type "dict", data := .dict #[] } } := I.laid (t' := s.toks) (fun _ _ z => Heap.get?_push_of_some _ z) (Nat.le_refl _) (dt_empty s.heap I.big)
  have oS : (s.heap.push { cls := .type "dict", data := .dict #[] }).get? s.heap.objs.size = some { cls := .type "dict", data := .dict #[] } := Heap.get?_push_size _ rfl
  have tS : Shared.TypeIs { s with heap := s.heap.push { cls := .type "dict", data := .dict #[] } } (.ref s.heap.objs.size) "dict" := ⟨_, oS, rfl⟩
  have nS : a ≠ s.heap.objs.size := ne_of_none ha hS
  obtain ⟨its, rv, ⟨ol, n, hol, hcl, hdn, hdat⟩, hz⟩ := I1.list (SqL.of (show (upd H s.heap.objs.size (.dT [])) a = some (.lst (all.map fun q => V.ref q.1)) by rw [upd_ne nS]; exact ha))
  refine ⟨tS, PySem.F.args_dict_init_2 _ _, ?_⟩
  unfold Builtin.«dict.__init__»
  refine wpAny_bind ?_
  unfold Builtin.Dict.selfAndRest
  refine wpAny_bind (wpAny_notOrdered_dict tS ?_)
  show wpAny _ _ (pure (s.heap.objs.size, [Value.ref a])) _ _ _
  refine wpAny_pure ?_
  show wpAny _ _ (Builtin.Dict.updateFrom "dict.__init__" s.heap.objs.size (.ref a) [] .none) _ _ _
  unfold Builtin.Dict.updateFrom
  refine wpAny_bind (wpAny_typeOf (T := "list") ⟨ol, hol, hcl⟩ ?_)
  rw [if_pos (by first | decide | rfl | simp)]
  refine wpAny_bind (miss_list hol hcl hdat hdn hh fun h1 tk1 hk1 => ?_)
  rw [if_pos (show (none : Option Value).isNone = true from rfl)]
  refine wpAny_bind (wpAny_rule ?_)
  have I2 : Inv X pins σ (upd H s.heap.objs.size (.dT [])) { s with heap := h1, toks := tk1 } := I1.kept hk1
  have l1 : h1.IsList a its.toArray := ⟨ol, hk1 _ _ hol, hcl, n, hdat⟩
  have lS : s.heap.objs.size < h1.objs.size := Heap.lt_size (hk1 _ _ oS)
  refine wpAny_bind (wpAny_pyIter_list l1 ?_)
  have I3 : Inv X pins σ (upd H s.heap.objs.size (.dT [])) { s with heap := h1.push { cls := .type "list_iterator", data := .fields #[.ref a, .int 0 0] }, toks := tk1 } := I2.kept (t' := tk1) fun b o e => Heap.get?_push_of_some _ e
  have fI : FpOk X pins H h1.objs.size := I2.fpOk (Nat.le_refl _) (I.hok.fresh (Nat.le_of_lt lS))
  have key := pour_loop (X := X) (A := X.A.in1) (R := wants (fun r s₂ => r = .none ∧ EP X pins σ Q (.ref s.heap.objs.size) s₂) X.xe) (res := Value.none) hh (by simp only [Around.in1]; omega) ha hS fI (Nat.ne_of_lt lS) ok all 0 [] 0 0
    { s with heap := h1.push { cls := .type "list_iterator", data := .fields #[.ref a, .int 0 0] }, toks := tk1 } rfl (by rw [List.length_nil]; omega) I3 ⟨_, Heap.get?_push_size _ rfl, rfl, rfl⟩ (fun s' J => ⟨rfl, .ref _, _, J, rfl, q _ hS⟩)
  first
    | exact wpAny_pure ⟨plainId_quiet ud_plain _, key⟩
    | exact wpAny_bind (wpAny_pure (wpAny_pure ⟨plainId_quiet ud_plain _, key⟩))
end
end Kd

-- ===== KS16 =====
set_option Elab.async false
set_option linter.all false
set_option maxRecDepth 100000
set_option maxHeartbeats 4000000
namespace Kd
open PySem L2 PyProof.Rows PySem.Spec PySem.W
/-! ### for v in d.values(), the keys being tuples -/
section
variable {X : Cx} {pins : List (Addr × Obj)} {σ : L2.St} {H : Hp} {s : Shared} {d : Addr} {o : Obj}
theorem frz_vals {kvs : List (List Key × V)} (I : Inv X pins σ H s) (h : H d = some (.frz o (.dT kvs))) :
    s.heap.get? d = some o ∧ o.ExactDict ∧ ∃ (es : Array DictEntry) (ep : Nat), o.data = .dict es ep ∧ es.size = kvs.length ∧ ∀ (i : Nat) (k : List Key) (v : V), kvs[i]? = some (k, v) → ∃ en : DictEntry, es[i]? = some en ∧ RelV v en.val := by
  obtain ⟨hd, z, hs, xs, pr, o', es, ep, ho, hx, hdt, he, _⟩ := I.hok d _ h
  rw [hd] at ho
  cases ho
  refine ⟨hd, hx, es, ep, hdt, ?_, fun i k v e => ?_⟩
  · have l1 : es.size = xs.length := size_of_entries he
    have l2 : kvs.length = xs.length := Paired.length pr
    omega
  · obtain ⟨b, hb, _, _, e3⟩ := paired_get pr e
    have q := entry_at he i
    rw [hb] at q
    exact ⟨_, q, e3⟩
end
/-- the values, in their order -/
def ItdT (d : Addr) (o : Obj) (kvs : List (List Key × V)) : It :=
  ⟨fun i H => H d = some (.frz o (.dT kvs)) ∧ i < kvs.length, fun i H x H' => H' = H ∧ ∃ k, kvs[i]? = some (k, x), fun i H => H d = some (.frz o (.dT kvs)) ∧ kvs.length = i⟩
theorem turn_valsT {P : Program} {w : World} {K : Frag} {tg : Expr} {d : Addr} {o : Obj} {es : Array DictEntry} {ep : Nat} {kvs : List (List Key × V)} (it : Addr) (ni : d ≠ it) (hod : o.data = .dict es ep) (hz : es.size = kvs.length) :
    Turn P w K tg (ItdT d o kvs) [it] it (fun i h => h.IsValIter it d i es.size ep) where
  mem := by simp
  obj := fun i h st b hb => by
    have e : b = it := by simpa using hb
    subst e
    obtain ⟨oi, e, _, dd⟩ := st
    exact ⟨oi, e, fun v z => by rw [dd] at z; cases z⟩
  keep := fun i h h' st k => st.at fun oi e => k it (by simp) oi e
  item := by
    intro X hP hw hK hc i pins s σ H E I hf st hg
    subst hP hw hK
    obtain ⟨hd, hi⟩ := hg
    obtain ⟨f0, f1, f2, f3, f4, f5⟩ := hf it (by simp)
    obtain ⟨hgd, hx, es', ep', hdt, hsz, ent⟩ := frz_vals I hd
    obtain ⟨rfl, rfl⟩ := dict_ep hod hdt
    obtain ⟨⟨k, v⟩, hkv⟩ : ∃ p, kvs[i]? = some p := ⟨kvs[i], List.getElem?_eq_getElem hi⟩
    obtain ⟨en, hen, rv⟩ := ent i k v hkv
    have W := Walks.rawValues (prog := X.prog) (w := X.w) (I.ok.hd hc) it d ni es' ep'
    refine W.item i s _ _ (by omega) ⟨st, o, hgd, hx, hdt⟩ fun u h' tk hu st' kk => ?_
    obtain ⟨lt, rfl⟩ := hu
    have eu : en = es'[i] := by
      rw [Array.getElem?_eq_getElem lt] at hen
      exact (Option.some.inj hen).symm
    subst eu
    have I1 : Inv X pins σ H { s with heap := h', toks := tk } := I.turned (fun b o hb e => kk b o (by simpa using hb) e) f0 f1 f3 f4 f5
    obtain ⟨oi, e, c, dd⟩ := id st'.1
    exact ⟨_, rfl, go_of (s := { s with heap := h', toks := tk }) e c dd (by decide) ⟨v, H, I1, rv, ⟨rfl, k, hkv⟩, st'.1, fun b hb => (hf b hb).1⟩⟩
  done := by
    intro X hP hw hK hc i pins s σ H E I hf st hg
    subst hP hw hK
    obtain ⟨hd, hi⟩ := hg
    obtain ⟨f0, f1, f2, f3, f4, f5⟩ := hf it (by simp)
    obtain ⟨hgd, hx, es', ep', hdt, hsz, ent⟩ := frz_vals I hd
    obtain ⟨rfl, rfl⟩ := dict_ep hod hdt
    have W := Walks.rawValues (prog := X.prog) (w := X.w) (I.ok.hd hc) it d ni es' ep'
    have e : i = es'.size := by omega
    subst e
    exact W.done s _ _ ⟨st, o, hgd, hx, hdt⟩ fun h' tk eb => ⟨rfl, I.turned (fun b o hb q => eb b o (by simpa using hb) q) f0 f1 f3 f4 f5⟩
  self := fun A i s Q E st h => wpAny_pyIter_valiter st h
/-- the dict is locked (tLock, or by the caller) -/
def iValsT (td : TE) : TI := fun σ H R => td σ H fun x H1 => ∃ d o kvs, x = .ref d ∧ H1 d = some (.frz o (.dT kvs)) ∧ R (ItdT d o kvs) H1
theorem walk_valsT {d : Addr} {o : Obj} {kvs : List (List Key × V)} : Walk (ItdT d o kvs) kvs.length (fun H => H d = some (.frz o (.dT kvs))) (fun i H x H' => H' = H ∧ ∃ k, kvs[i]? = some (k, x)) :=
  ⟨fun _ _ hi q => ⟨q, hi⟩, fun _ q => ⟨q, rfl⟩, fun _ _ _ _ _ _ y => y⟩
section
variable {X : Cx} {tg e : Expr} {td : TE} {apos cpos : Pos}
theorem pi_valuesT (he : PE X e td) (hbase : attributeBase e "values" X.env (eval e X.env) = eval e X.env := by rfl) (hline : (apos.endLine == cpos.line) = true := by rfl) : PI X tg (.Call (.Attribute e "values" apos) [] [] cpos) (iValsT td) := by
  refine ⟨fun pins s σ H R I h => ?_⟩
  refine wpAny_Call_method (T := "dict") (id := "dict.values") hbase rfl hline F.plainAttrs_dict F.slot_dict_values F.type_dict_values (thn (he.run pins s σ H _ I h) fun u s1 ⟨x, H1, I1, rx, d, o, kvs, ex, hd, q⟩ => ?_)
  subst ex
  obtain rfl : u = Value.ref d := rx
  have lo := (I1.frzT hd).1
  obtain ⟨hgd, hx, es, ep, hdt, hsz, ent⟩ := frz_vals I1 hd
  have raw : s1.heap.DictRaw d es ep := ⟨o, hgd, hx, hdt⟩
  have ty : s1.TypeIs (.ref d) "dict" := ⟨o, hgd, hx.1⟩
  refine ⟨ty, (fun b z => by cases z; exact ⟨o, hgd, hx.2.1⟩), ?_⟩
  have I2 : Inv X pins σ H1 { s1 with heap := s1.heap.push { cls := .type "dict_values", data := .fields #[.ref d] } } := I1.kept (t' := s1.toks) fun b ob z => Heap.get?_push_of_some _ z
  have lt : d < s1.heap.objs.size := Heap.lt_size hgd
  have fin : wpAny (model X.prog X.w) X.A (pyIter (.ref s1.heap.objs.size)) (PIE X pins σ tg R) X.xe { s1 with heap := s1.heap.push { cls := .type "dict_values", data := .fields #[.ref d] } } := by
    refine wpAny_pyIter_values_raw (d := d) ⟨_, Heap.get?_push_size _ rfl, rfl, rfl⟩ (raw.push _) (pi_one (tk := s1.toks) I2 _ (turn_valsT _ (Nat.ne_of_lt (by show d < (s1.heap.push _).objs.size; rw [Heap.size_push]; exact Nat.lt_succ_of_lt lt)) hdt hsz) ⟨_, Heap.get?_push_size _ rfl, rfl, rfl⟩ q)
  show wpAny _ _ (callWith cpos (.builtin "dict.values") [.ref d] [] []) _ X.xe s1
  exact method_meetsIn F.slot_dict_values F.entry_dict_values rfl (PySem.evalArgs_none ⟨rfl, ty, F.args_dict_values_1 _, _, meets_dict_values_raw d lo, ⟨es, ep, raw⟩, fin⟩)
end
end Kd

-- ===== KS19 =====
set_option Elab.async false
set_option linter.all false
set_option maxRecDepth 100000
set_option maxHeartbeats 4000000
namespace Kd
open PySem L2 PyProof.Rows PySem.Spec PySem.W
/-! ### for k, v in d.items(), the keys being tuples -/
section
variable {X : Cx} {pins : List (Addr × Obj)} {σ : L2.St} {H : Hp} {s : Shared} {d : Addr} {o : Obj}
theorem frz_both {kvs : List (List Key × V)} (I : Inv X pins σ H s) (h : H d = some (.frz o (.dT kvs))) :
    (d == sysModules) = false ∧ s.heap.get? d = some o ∧ o.ExactDict ∧ ∃ (es : Array DictEntry) (ep : Nat), o.data = .dict es ep ∧ es.size = kvs.length ∧ ∀ (i : Nat) (k : List Key) (v : V), kvs[i]? = some (k, v) → ∃ (en : DictEntry) (q : Addr), es[i]? = some en ∧ en.key = .ref q ∧ H q = some (.tup (k.map kV)) ∧ RelV v en.val := by
  obtain ⟨hs, hd, hx, es, ep, hdt, hz, f⟩ := I.frzT h
  obtain ⟨_, _, es2, ep2, hdt2, _, g⟩ := frz_vals I h
  obtain ⟨rfl, rfl⟩ := dict_ep hdt2 hdt
  refine ⟨hs, hd, hx, es, ep, hdt, hz, fun i k v e => ?_⟩
  obtain ⟨en, q, e1, e2, e3⟩ := f i k v e
  obtain ⟨en2, e4, e5⟩ := g i k v e
  rw [e1] at e4
  cases e4
  exact ⟨en, q, e1, e2, e3, e5⟩
end
/-- key and value, in their order, each in a new tuple -/
def ItdI (d : Addr) (o : Obj) (kvs : List (List Key × V)) : It :=
  ⟨fun i H => H d = some (.frz o (.dT kvs)) ∧ i < kvs.length, fun i H x H' => ∃ (T q : Addr) (k : List Key) (v : V), kvs[i]? = some (k, v) ∧ x = .ref T ∧ H T = none ∧ H q = some (.tup (k.map kV)) ∧ H' = upd H T (.tup [.ref q, v]), fun i H => H d = some (.frz o (.dT kvs)) ∧ kvs.length ≤ i⟩
theorem turn_itemsT {P : Program} {w : World} {K : Frag} {elts : List Expr} {kk : Nat} {tpos : Pos} {d : Addr} {o : Obj} {es : Array DictEntry} {ep : Nat} {kvs : List (List Key × V)} (it : Addr) (hod : o.data = .dict es ep) (hz : es.size = kvs.length) :
    Turn P w K (.Tuple elts kk tpos) (ItdI d o kvs) [it] it (fun i h => ∃ ok ov, IsItemIter h it d i es.size ep ok ov) where
  mem := by simp
  obj := fun i h st b hb => by
    have e : b = it := by simpa using hb
    subst e
    obtain ⟨ok, ov, e⟩ := st
    exact ⟨_, e, fun v z => nomatch z⟩
  keep := fun i h h' ⟨ok, ov, e⟩ k => ⟨ok, ov, k it (by simp) _ e⟩
  item := by
    intro X hP hw hK hc i pins s σ H E I hf st hg
    subst hP hw hK
    obtain ⟨hd, hi⟩ := hg
    obtain ⟨hs, hgd, hx, es', ep', hdt, hsz, ent⟩ := frz_both I hd
    obtain ⟨rfl, rfl⟩ := dict_ep hod hdt
    obtain ⟨⟨k, v⟩, hkv⟩ : ∃ p, kvs[i]? = some p := ⟨kvs[i], List.getElem?_eq_getElem hi⟩
    obtain ⟨en, q, e1, e2, e3, e4⟩ := ent i k v hkv
    obtain ⟨ok, ov, he⟩ := st
    have lt : i < es'.size := by omega
    have hlt : it < s.heap.objs.size := Heap.lt_size he
    have een : es'[i] = en := by
      rw [Array.getElem?_eq_getElem lt] at e1
      exact Option.some.inj e1
    refine wpAny_pyNext_items_item_raw he ⟨o, hgd, hx, hdt⟩ lt fun h' ho hT hz2 hk => ?_
    refine ⟨_, rfl, wpAny_letOwnedTupleGo_items (s := { s with heap := h' }) ho fun h'' he' sb => ?_⟩
    have hT2 : h''.get? s.heap.objs.size = some { cls := .type "tuple", data := .seq #[es'[i].key, es'[i].val] } := (sb.2 _ (Nat.ne_of_gt hlt)).trans hT
    rw [een] at hT2
    have new : ObjOk X.prog X.w (upd H s.heap.objs.size (.tup [.ref q, v])) h'' s.heap.objs.size (.tup [.ref q, v]) := ⟨by show 2 ≤ sizeLine; decide, [en.key, en.val], .cons e2 (.cons e4 .nil), ⟨_, hT2, rfl, _, rfl⟩⟩
    have I1 : L2.Inv X pins σ (upd H s.heap.objs.size (.tup [.ref q, v])) { s with heap := h'' } :=
      I.turnedNew (t' := s.toks) (ch := [it]) (fun b ob hb e => (sb.2 b (by simpa using hb)).trans (hk b ob (by simpa using hb) e)) hf (Nat.le_refl _) new
    refine ⟨.ref s.heap.objs.size, _, I1, rfl, ⟨_, q, k, v, hkv, rfl, I.hok.fresh (Nat.le_refl _), e3, rfl⟩, ⟨_, _, he'⟩, fun b hb => ?_⟩
    have e : b = it := by simpa using hb
    rw [e, upd_ne (Nat.ne_of_lt hlt)]
    exact (hf it (by simp)).1
  done := by
    intro X hP hw hK hc i pins s σ H E I hf st hg
    subst hP hw hK
    obtain ⟨hd, hi⟩ := hg
    obtain ⟨f0, f1, f2, f3, f4, f5⟩ := hf it (by simp)
    obtain ⟨hs, hgd, hx, es', ep', hdt, hsz, ent⟩ := frz_both I hd
    obtain ⟨rfl, rfl⟩ := dict_ep hod hdt
    obtain ⟨ok, ov, he⟩ := st
    exact wpAny_pyNext_items_end_raw (I.ok.hd hc) he ⟨o, hgd, hx, hdt⟩ (by omega) fun h' eb => ⟨rfl, I.turned (t' := s.toks) (fun b ob hb e => eb b ob hb e) f0 f1 f3 f4 f5⟩
  self := fun A i s Q E ⟨_, _, e⟩ h => PySem.W.kcp_self e h
def iItemsT (td : TE) : TI := fun σ H R => td σ H fun x H1 => ∃ d o kvs, x = .ref d ∧ H1 d = some (.frz o (.dT kvs)) ∧ R (ItdI d o kvs) H1
section
variable {X : Cx} {e : Expr} {td : TE} {apos cpos tpos : Pos} {elts : List Expr} {kk : Nat}
theorem pi_itemsT (he : PE X e td) (hbase : attributeBase e "items" X.env (eval e X.env) = eval e X.env := by rfl) (hline : (apos.endLine == cpos.line) = true := by rfl) : PI X (.Tuple elts kk tpos) (.Call (.Attribute e "items" apos) [] [] cpos) (iItemsT td) := by
  refine ⟨fun pins s σ H R I h => ?_⟩
  refine wpAny_Call_method (T := "dict") (id := "dict.items") hbase rfl hline F.plainAttrs_dict F.slot_dict_items F.type_dict_items (thn (he.run pins s σ H _ I h) fun u s1 ⟨x, H1, I1, rx, d, o, kvs, ex, hd, q⟩ => ?_)
  subst ex
  obtain rfl : u = Value.ref d := rx
  obtain ⟨lo, hgd, hx, es, ep, hdt, hsz, ent⟩ := frz_both I1 hd
  have raw : s1.heap.DictRaw d es ep := ⟨o, hgd, hx, hdt⟩
  have ty : s1.TypeIs (.ref d) "dict" := ⟨o, hgd, hx.1⟩
  refine ⟨ty, (fun b z => by cases z; exact ⟨o, hgd, hx.2.1⟩), ?_⟩
  have I2 : L2.Inv X pins σ H1 { s1 with heap := s1.heap.push { cls := .type "dict_items", data := .fields #[.ref d] } } := I1.kept (t' := s1.toks) fun b ob z => Heap.get?_push_of_some _ z
  have fin : wpAny (model X.prog X.w) X.A (pyIter (.ref s1.heap.objs.size)) (PIE X pins σ (.Tuple elts kk tpos) R) X.xe { s1 with heap := s1.heap.push { cls := .type "dict_items", data := .fields #[.ref d] } } := by
    refine wpAny_pyIter_items_raw (d := d) ⟨_, Heap.get?_push_size _ rfl, rfl, rfl⟩ (raw.push _) (pi_one (tk := s1.toks) I2 _ (turn_itemsT _ hdt hsz) ⟨.none, .none, Heap.get?_push_size _ rfl⟩ q)
  show wpAny _ _ (callWith cpos (.builtin "dict.items") [.ref d] [] []) _ X.xe s1
  exact method_meetsIn F.slot_dict_items F.entry_dict_items rfl (PySem.evalArgs_none ⟨rfl, ty, F.args_dict_items_1 _, _, meets_dict_items_raw d lo, ⟨es, ep, raw⟩, fin⟩)
end
end Kd
namespace Kd
open PySem L2 PyProof.Rows PySem.Spec PySem.W
theorem walk_itemsT {d : Addr} {o : Obj} {kvs : List (List Key × V)} : Walk (ItdI d o kvs) kvs.length (fun H => H d = some (.frz o (.dT kvs))) (fun i H x H' => ∃ (T q : Addr) (k : List Key) (v : V), kvs[i]? = some (k, v) ∧ x = .ref T ∧ H T = none ∧ H q = some (.tup (k.map kV)) ∧ H' = upd H T (.tup [.ref q, v])) :=
  ⟨fun _ _ hi q => ⟨q, hi⟩, fun _ q => ⟨q, Nat.le_refl _⟩, fun _ _ _ _ _ _ y => y⟩
end Kd

-- ===== KN7 =====
set_option Elab.async false
set_option linter.all false
set_option maxRecDepth 100000
set_option maxHeartbeats 4000000
namespace Kd
open PySem L2 PyProof.Rows PySem.Spec PySem.W
/-! ### {k: v}, k a tuple -/
def tDisp1T (tk tv : TE) : TE := fun σ H Q => ∀ p, H p = none → tk σ (upd H p (.dT [])) fun x H1 => tv σ H1 fun y H2 => H2 p = some (.dT []) ∧ ∃ (q : Addr) (ks : List Key), x = .ref q ∧ H2 q = some (.tup (ks.map kV)) ∧ Q (.ref p) (upd H2 p (.dT (putK [] ks y)))
theorem pe_disp1T {X : Cx} {pos : Pos} {k v : Expr} {tk tv : TE} (hu : X.A.units + 1 < cLine) (hk : PE X k tk) (hv : PE X v tv) : PE X (.Dict [some k] [v] pos) (tDisp1T tk tv) := by
  refine ⟨fun pins s σ H Q I h => ?_⟩
  have hn := I.hok.fresh (Nat.le_refl s.heap.objs.size)
  have I1 := I.laid (a := s.heap.objs.size) (o := .dT []) (h' := s.heap.push { cls := .type "dict", data := .dict #[] }) (t' := s.toks) (fun _ _ q => Heap.get?_push_of_some _ q) (Nat.le_refl _) (dt_empty s.heap I.big)
  rw [arm_eval_Dict, zip_pairTrees [some k] [v] X.env pos rfl rfl, dictDisplay_pairs (pairTrees [some k] [v] X.env pos) (by show _ ≠ _; intro z; cases z) (by show (1 : Nat) < _; decide)]
  refine wpAny_bind (wpAny_standAt (wpAny_bind (wpAny_subDictH (knd := tupleKind (mixKind X.prog X.w)) (show (tupleKind (mixKind X.prog X.w)).room X.A from Nat.lt_of_succ_lt hu) (by show (1 : Nat) ≤ 15; decide) ?_)))
  refine pairTrees_cons_walk (thn (hk.run pins _ σ _ _ I1 (h _ hn)) fun u s1 ⟨x, H1, I2, rx, q1⟩ => thn (hv.run pins s1 σ H1 _ I2 q1) fun w s2 ⟨y, H2, I3, ry, e, q, ks, ex, eq, q2⟩ => ?_)
  subst ex
  cases (show u = Value.ref q from rx)
  refine pairTrees_nil_walk ⟨[(ks, q, w)], ⟨rfl, rfl, key_of I3.hok eq, True.intro⟩, ?_, fun h' tk dd hs => ?_⟩
  · obtain ⟨z, hd, xs, rel, dd⟩ := dt_of I3.hok e
    cases rel
    exact dd
  · obtain ⟨z, hd, xs, rel, _⟩ := dt_of I3.hok e
    obtain ⟨o2, es, ep, g1, g2, g3, g4, _, g5⟩ := dd
    refine wpAny_pure ⟨.ref s.heap.objs.size, _, ?_, rfl, q2⟩
    have rel0 : KT H2 [] [] := .nil
    refine d_write (t' := tk) I3 (by rw [e]; exact True.intro) hs ⟨o2, g1⟩ ⟨by have := length_putK ([] : List (List Key × V)) ks y; rw [List.length_nil] at this; have := sizeLine_eq; omega, hd, _, (rel0.put ks eq ry).keeps fun c ys e2 => ?_, o2, es, ep, g1, g2, g3, g4, g5⟩
    rw [upd_ne (ne_of e2 e (fun z => nomatch z))]
    exact e2
end Kd

-- ===== KN1 =====
set_option Elab.async false
set_option linter.all false
set_option maxRecDepth 100000
set_option maxHeartbeats 4000000
namespace Kd
open PySem L2 PyProof.Rows PySem.Spec PySem.W
theorem paired_snocV {α β : Type} {R : α → β → Prop} {l : List α} {m : List β} {a : α} {b : β} (r : Paired R l m) (h : R a b) : Paired R (l ++ [a]) (m ++ [b]) := by
  induction r with
  | nil => exact .cons h .nil
  | cons x _ ih => exact .cons x ih
/-! ### dicts whose keys are nested tuples (of numbers, truth values, texts), their values anything -/
mutual
/-- v is the key k -/
inductive NqV (H : Hp) : V → NestedKey → Prop
  | num (i : Int) : NqV H (.int i) (.num i)
  | bool (b : Bool) : NqV H (.bl b) (.num (if b = true then 1 else 0))
  | text (x : Str) : NqV H (.str x) (.text x)
  | tup {a : Addr} {vs : List V} {ks : List NestedKey} : H a = some (.tup vs) → NqVs H vs ks → NqV H (.ref a) (.tup ks)
inductive NqVs (H : Hp) : List V → List NestedKey → Prop
  | nil : NqVs H [] []
  | cons {v : V} {vs : List V} {k : NestedKey} {ks : List NestedKey} : NqV H v k → NqVs H vs ks → NqVs H (v :: vs) (k :: ks)
end
mutual
theorem NqV.to {H H' : Hp} (s : ∀ a xs, H a = some (.tup xs) → H' a = some (.tup xs)) : ∀ {v : V} {k : NestedKey}, NqV H v k → NqV H' v k
  | _, _, .num i => .num i
  | _, _, .bool b => .bool b
  | _, _, .text x => .text x
  | _, _, .tup h1 h2 => .tup (s _ _ h1) (NqVs.to s h2)
theorem NqVs.to {H H' : Hp} (s : ∀ a xs, H a = some (.tup xs) → H' a = some (.tup xs)) : ∀ {vs : List V} {ks : List NestedKey}, NqVs H vs ks → NqVs H' vs ks
  | _, _, .nil => .nil
  | _, _, .cons h1 h2 => .cons (NqV.to s h1) (NqVs.to s h2)
end
section
variable {X : Cx} {pins : List (Addr × Obj)} {σ : L2.St} {H : Hp} {s : Shared}
mutual
theorem nq_is (I : Inv X pins σ H s) : ∀ (k : NestedKey) {v : V} {u : Value}, NqV H v k → RelV v u → NestedIs s.heap k u
  | .none, _, _, h, _ => by cases h
  | .num i, _, _, h, r => by
    cases h with
    | num i =>
      obtain ⟨t, rfl⟩ := r
      exact .int i t
    | bool b =>
      have e : _ = Value.bool b := r
      subst e
      exact .bool rfl
  | .text x, _, _, h, r => by
    cases h
    obtain ⟨t, rfl⟩ := r
    exact .text x t
  | .tup ks, _, _, h, r => by
    cases h with
    | tup h1 h2 =>
      cases r
      obtain ⟨_, its, rv, o, ho, hc, n, hd⟩ := (show ObjOk X.prog X.w H s.heap _ (.tup _) from I.hok _ _ h1)
      exact .tup ho hc hd (by simpa using nqs_are I ks h2 rv)
theorem nqs_are (I : Inv X pins σ H s) : ∀ (ks : List NestedKey) {vs : List V} {us : List Value}, NqVs H vs ks → Vals vs us → NestedAll s.heap ks us
  | [], _, _, h, r => by
    cases h
    cases r
    exact .nil
  | k :: ks, _, _, h, r => by
    cases h with
    | cons h1 h2 =>
      cases r with
      | cons r1 r2 => exact .cons (nq_is I k h1 r1) (nqs_are I ks h2 r2)
end
end
/-- a key, where its tuple stands, its value -/
abbrev VRow := NestedKey × Addr × V
def VRows (L : List VRow) (xs : List (NestedKey × Addr × Value)) : Prop := Paired (fun (p : VRow) x => p.1 = x.1 ∧ p.2.1 = x.2.1 ∧ RelV p.2.2 x.2.2) L xs
def VHeld (P : Program) (w : World) (a : Addr) (L : List VRow) (h : Heap) : Prop := ∃ (xs : List (NestedKey × Addr × Value)) (o : Obj) (es : Array DictEntry) (ep : Nat), h.get? a = some o ∧ o.ExactDict ∧ o.data = .dict es ep ∧ es.toList = xs.map (entryOfKey (nestedKind P w)) ∧ (xs.map (·.1)).Nodup ∧ VRows L xs ∧ (a == sysModules) = false ∧ L.length ≤ 1000
def VDict (P : Program) (w : World) (a : Addr) (L : List VRow) : HO := .ext (VHeld P w a L)
theorem vdict_ok {P : Program} {w : World} {H : Hp} {h : Heap} {a : Addr} {L : List VRow} (x : VHeld P w a L h) : ObjOk P w H h a (VDict P w a L) := by
  refine ⟨x, ?_, fun h1 h2 y k => ?_⟩
  · obtain ⟨_, o, _, _, ho, _⟩ := x
    exact ⟨o, ho⟩
  · obtain ⟨xs, o, es, ep, ho, r⟩ := y
    exact ⟨xs, o, es, ep, k o ho, r⟩
/-- the keys' tuples stand -/
def VKeys (H : Hp) (L : List VRow) : Prop := ∀ p ∈ L, NqV H (.ref p.2.1) p.1 ∧ p.1.depth ≤ 8
theorem VKeys.to {H H' : Hp} {L : List VRow} (s : ∀ a xs, H a = some (.tup xs) → H' a = some (.tup xs)) (k : VKeys H L) : VKeys H' L := fun p m => ⟨(k p m).1.to s, (k p m).2⟩
theorem VKeys.snoc {H : Hp} {L : List VRow} {k : NestedKey} {b : Addr} {v : V} (h : VKeys H L) (hk : NqV H (.ref b) k) (hd : k.depth ≤ 8) : VKeys H (L ++ [(k, b, v)]) := fun p m => by
  rcases List.mem_append.mp m with m | m
  · exact h p m
  · rw [List.mem_singleton.mp m]
    exact ⟨hk, hd⟩
def valW (L : List VRow) (k : NestedKey) : Option V := (L.find? fun p => decide (p.1 = k)).map (·.2.2)
theorem valW_none {L : List VRow} {k : NestedKey} : valW L k = none ↔ k ∉ L.map (·.1) := by
  unfold valW
  rw [Option.map_eq_none_iff, List.find?_eq_none]
  constructor
  · intro h m
    obtain ⟨p, hp, e⟩ := List.mem_map.mp m
    exact h p hp (decide_eq_true e)
  · intro h p hp e
    exact h (List.mem_map.mpr ⟨p, hp, of_decide_eq_true e⟩)
theorem valW_some {L : List VRow} {k : NestedKey} {v : V} (h : valW L k = some v) : ∃ b, (k, b, v) ∈ L := by
  unfold valW at h
  obtain ⟨p, hp, e⟩ := Option.map_eq_some_iff.mp h
  have h1 := List.mem_of_find?_eq_some hp
  have h2 : p.1 = k := of_decide_eq_true (by simpa using List.find?_some hp)
  exact ⟨p.2.1, by rw [← h2, ← e]; exact h1⟩
theorem valW_mem {L : List VRow} (nd : (L.map (·.1)).Nodup) {k : NestedKey} {b : Addr} {v : V} (h : (k, b, v) ∈ L) : valW L k = some v := by
  induction L with
  | nil => cases h
  | cons p L ih =>
    rw [List.map_cons, List.nodup_cons] at nd
    unfold valW
    rw [List.find?_cons]
    by_cases e : p.1 = k
    · rw [decide_eq_true e]
      rcases List.mem_cons.mp h with rfl | m
      · rfl
      · exact absurd (List.mem_map.mpr ⟨_, m, rfl⟩) (by rw [e] at nd; exact nd.1)
    · rw [decide_eq_false e]
      rcases List.mem_cons.mp h with rfl | m
      · exact absurd rfl e
      · exact ih nd.2 m
theorem valW_is {L : List VRow} {k : NestedKey} : (valW L k).isSome = decide (k ∈ L.map (·.1)) := by
  cases e : valW L k with
  | none => exact (decide_eq_false (valW_none.mp e)).symm
  | some v =>
    obtain ⟨b, m⟩ := valW_some e
    exact (decide_eq_true (List.mem_map.mpr ⟨_, m, rfl⟩)).symm
theorem rows_atV {L : List VRow} {xs : List (NestedKey × Addr × Value)} (r : VRows L xs) (k : NestedKey) : (∀ v, valW L k = some v → ∃ b u, atKey xs k = some (b, u) ∧ RelV v u) ∧ (valW L k = none → atKey xs k = none) := by
  unfold VRows at r
  induction r with
  | nil => exact ⟨fun i e => (nomatch (show (none : Option V) = some i from e)), fun _ => rfl⟩
  | @cons p x ps xs h t ih =>
    obtain ⟨h1, h2, h3⟩ := h
    unfold valW atKey at ih ⊢
    rw [List.find?_cons, List.find?_cons, ← h1]
    by_cases e : p.1 = k
    · rw [decide_eq_true e]
      refine ⟨fun i q => ?_, fun q => by cases q⟩
      have q2 : p.2.2 = i := Option.some.inj q
      exact ⟨x.2.1, x.2.2, rfl, by rw [← q2]; exact h3⟩
    · rw [decide_eq_false e]
      exact ih
section
variable {X : Cx} {pins : List (Addr × Obj)} {σ : L2.St} {H : Hp} {s : Shared}
theorem vheld_rd {a : Addr} {L : List VRow} (I : Inv X pins σ H s) (h : VHeld X.prog X.w a L s.heap) (ks : VKeys H L) : ∃ xs, s.heap.DictOfH (nestedKind X.prog X.w) a xs ∧ VRows L xs ∧ (a == sysModules) = false ∧ L.length ≤ 1000 := by
  obtain ⟨xs, o, es, ep, ho, hx, hd, he, hn, r, lo, few⟩ := h
  refine ⟨xs, ⟨o, es, ep, ho, hx, hd, he, fun x hx => ?_, hn⟩, r, lo, few⟩
  have all : ∀ {L : List VRow} {xs : List (NestedKey × Addr × Value)}, VRows L xs → VKeys H L → ∀ x ∈ xs, NestedIs s.heap x.1 (.ref x.2.1) ∧ x.1.depth ≤ 8 := by
    intro L xs r
    unfold VRows at r
    induction r with
    | nil => exact fun _ x m => nomatch m
    | @cons p y ps ys h t ih =>
      intro k x m
      rcases List.mem_cons.mp m with rfl | m
      · obtain ⟨h1, h2, _⟩ := h
        rw [← h1, ← h2]
        have q := k p List.mem_cons_self
        exact ⟨nq_is I _ q.1 rfl, q.2⟩
      · exact ih (fun q mq => k q (List.mem_cons_of_mem _ mq)) x m
  exact all r ks x hx
theorem vdict_rd {a : Addr} {L : List VRow} (I : Inv X pins σ H s) (ha : H a = some (VDict X.prog X.w a L)) (ks : VKeys H L) : ∃ xs, s.heap.DictOfH (nestedKind X.prog X.w) a xs ∧ VRows L xs ∧ (a == sysModules) = false ∧ L.length ≤ 1000 :=
  vheld_rd I (show VHeld X.prog X.w a L s.heap from (I.hok a _ ha).1) ks
theorem vheld_new {P : Program} {w : World} (h : Heap) (big : sysModules < h.objs.size) : VHeld P w h.objs.size [] (h.push { cls := .type "dict", data := .dict #[] }) :=
  ⟨[], _, #[], 0, Heap.get?_push_size _ rfl, ⟨rfl, rfl, rfl⟩, rfl, rfl, List.nodup_nil, .nil, beq_eq_false_iff_ne.mpr (Ne.symm (Nat.ne_of_lt big)), Nat.zero_le _⟩
theorem vheld_put {a b : Addr} {L : List VRow} {k : NestedKey} {v : V} {u : Value} {xs : List (NestedKey × Addr × Value)} {h' : Heap} {P : Program} {w : World} (rr : VRows L xs) (rv : RelV v u) (lo : (a == sysModules) = false) (hn : valW L k = none) (few : L.length < 1000)
    (D2 : h'.DictOfH (nestedKind P w) a (storedH xs k b u)) : VHeld P w a (L ++ [(k, b, v)]) h' := by
  rw [storedH_new ((rows_atV rr k).2 hn)] at D2
  obtain ⟨o2, es, ep, g1, g2, g3, g4, _, g5⟩ := D2
  refine ⟨xs ++ [(k, b, u)], o2, es, ep, g1, g2, g3, g4, g5, ?_, lo, by rw [List.length_append]; exact few⟩
  exact paired_snocV rr ⟨rfl, rfl, rv⟩
end
/-- {}, to be such a dict -/
def tDNewV (P : Program) (w : World) : TE := fun _ H Q => ∀ p, H p = none → Q (.ref p) (upd H p (VDict P w p []))
/-- k in d -/
def rInV (P : Program) (w : World) : R2 := fun x y H Q => ∃ b a k L, x = .ref b ∧ y = .ref a ∧ NqV H (.ref b) k ∧ k.depth ≤ 8 ∧ H a = some (VDict P w a L) ∧ VKeys H L ∧ Q (.bl (valW L k).isSome) H
/-- d[k] -/
def tGetV (P : Program) (w : World) (td ty : TE) : TE := fun σ H Q => td σ H fun x H1 => ty σ H1 fun y H2 => ∃ a b k L v, x = .ref a ∧ y = .ref b ∧ NqV H2 (.ref b) k ∧ k.depth ≤ 8 ∧ H2 a = some (VDict P w a L) ∧ VKeys H2 L ∧ valW L k = some v ∧ Q v H2
/-- d[k] = v, the key being new there -/
def sPutV (P : Program) (w : World) (td ty tv : TE) : TS := fun D σ H => tv σ H fun v H1 => td σ H1 fun x H2 => ty σ H2 fun y H3 => ∃ a b k L, x = .ref a ∧ y = .ref b ∧ NqV H3 (.ref b) k ∧ k.depth ≤ 8 ∧ H3 a = some (VDict P w a L) ∧ VKeys H3 L ∧ valW L k = none ∧ L.length < 1000 ∧
  D.nx σ (upd H3 a (VDict P w a (L ++ [(k, b, v)])))
/-- d.setdefault(k, x) -/
def tSetdV (P : Program) (w : World) (td ty tx : TE) : TE := fun σ H Q => td σ H fun x H1 => ∃ a L0, x = .ref a ∧ H1 a = some (VDict P w a L0) ∧ ty σ H1 fun y H2 => tx σ H2 fun z H3 => ∃ b k L, y = .ref b ∧ NqV H3 (.ref b) k ∧ k.depth ≤ 8 ∧ H3 a = some (VDict P w a L) ∧ VKeys H3 L ∧ L.length < 1000 ∧
  (∀ v, valW L k = some v → Q v H3) ∧ (valW L k = none → Q z (upd H3 a (VDict P w a (L ++ [(k, b, z)]))))
section
variable {X : Cx} {o i e f value : Expr} {pos pos' apos cpos : Pos} {td ty tv tx : TE}
theorem pe_dnewV : PE X (.Dict [] [] pos) (tDNewV X.prog X.w) := ⟨fun pins s σ H Q I h =>
  wpAny_Dict_empty ⟨.ref s.heap.objs.size, _, I.laid (a := s.heap.objs.size) (t' := s.toks) (fun _ _ q => Heap.get?_push_of_some _ q) (Nat.le_refl _)
    (vdict_ok (vheld_new s.heap I.big)), rfl, h _ (I.hok.fresh (Nat.le_refl _))⟩⟩
theorem roomV {X : Cx} (hu : X.A.units + 64 < cLine) : (nestedKind X.prog X.w).room X.A.in1 := (show X.A.in1.units + 8 < cLine by simp only [Around.in1]; omega)
theorem op_inV (hu : X.A.units + 64 < cLine) : OpR X (compareOp .In) (rInV X.prog X.w) := by
  intro pins s σ H x y v u Q I rx ry h
  obtain ⟨b, a, k, L, rfl, rfl, hk, hd, ha, ks, q⟩ := h
  cases (show v = Value.ref b from rx)
  cases (show u = Value.ref a from ry)
  obtain ⟨xs, D, r, lo, few⟩ := vdict_rd I ha ks
  refine wpAny_in_heap (roomV hu) ⟨nq_is I k hk rfl, hd⟩ lo D ⟨.bl (valW L k).isSome, H, I.tok _, ?_, q⟩
  have z := rows_atV r k
  cases e : valW L k with
  | none => rw [z.2 e]; rfl
  | some i =>
    obtain ⟨c, t, q, _⟩ := z.1 i e
    rw [q]
    rfl
theorem pe_getV (hu : X.A.units + 64 < cLine) (ho : PE X o td) (hi : PE X i ty) (hs : NoSl i) : PE X (.Subscript o i pos) (tGetV X.prog X.w td ty) := by
  refine ⟨fun pins s σ H Q I h => ?_⟩
  refine subD_of PySem.F.slot_dict_getitem.lookup hs (thn (ho.run pins s σ H _ I h) fun u s1 ⟨x, H1, I1, rx, q1⟩ => thn (hi.run pins s1 σ H1 _ I1 q1) fun iv s2 ⟨y, H2, I2, ry, a, b, k, L, j, ex, ey, hk, hd, ha, ks, hv, q2⟩ => ?_)
  subst ex ey
  obtain rfl : u = Value.ref a := rx
  obtain rfl : iv = Value.ref b := ry
  obtain ⟨xs, D, r, lo, few⟩ := vdict_rd I2 ha ks
  obtain ⟨c, t, q, rv⟩ := (rows_atV r k).1 j hv
  exact ⟨D.typeIs, wpAny_getItem_heap (roomV hu) ⟨nq_is I2 k hk rfl, hd⟩ D q ⟨j, H2, I2.tok _, rv, q2⟩⟩
theorem ps_putV (hu : X.A.units + 64 < cLine) (ho : PE X o td) (hi : PE X i ty) (hv : PE X value tv) (hs : swapsWith value (some (.Subscript o i pos')) pos.line X.env = pure false) :
    PS X (.Assign [.Subscript o i pos'] value pos) (sPutV X.prog X.w td ty tv) := by
  refine ⟨fun pins s σ H D I h => ?_⟩
  refine wpAny_Assign_Subscript (thn (hv.run pins s σ H _ I h) fun r s1 ⟨v, H1, I1, rv, q1⟩ => thn (ho.run pins s1 σ H1 _ I1 q1) fun u s2 ⟨x, H2, I2, rx, q2⟩ => thn (hi.run pins s2 σ H2 _ I2 q2) fun iv s3 ⟨y, H3, I3, ry, a, b, k, L, ex, ey, hk, hd, ha, ks, hn, few, q3⟩ => ?_) hs
  subst ex ey
  obtain rfl : u = Value.ref a := rx
  obtain rfl : iv = Value.ref b := ry
  obtain ⟨xs, Dd, rr, lo, _⟩ := vdict_rd I3 ha ks
  have lx : L.length = xs.length := Paired.length rr
  have big := sizeLine_eq
  refine wpAny_setItem_heap (hsz := by omega) (roomV hu) ⟨nq_is I3 k hk rfl, hd⟩ Dd fun h' D2 sb => ?_
  have VH := vheld_put rr rv lo hn few D2
  obtain ⟨_, o2, _, _, g1, _⟩ := id VH
  exact ⟨σ, _, d_write I3 (by rw [ha]; exact True.intro) sb ⟨o2, g1⟩ (vdict_ok VH), q3⟩
theorem pe_setdV (hu : X.A.units + 64 < cLine) (ho : PE X o td) (he : PE X e ty) (hf : PE X f tx) (m : M2 X o "setdefault" apos e f cpos) : PE X (.Call (.Attribute o "setdefault" apos) [e, f] [] cpos) (tSetdV X.prog X.w td ty tx) := by
  refine ⟨fun pins s σ H Q I h => ?_⟩
  refine wpAny_Call_method m.base m.few m.line PySem.F.plainAttrs_dict PySem.F.slot_dict_setdefault PySem.F.type_dict_setdefault (thn (ho.run pins s σ H _ I h) fun u s1 ⟨x, H1, I1, rx, a, L0, ex, d, q1⟩ => ?_)
  subst ex
  obtain rfl : u = Value.ref a := rx
  obtain ⟨_, o1, _, _, ho1, hx1, _⟩ := (show VHeld X.prog X.w a L0 s1.heap from (I1.hok a _ d).1)
  refine ⟨⟨o1, ho1, hx1.1⟩, (fun b z => by cases z; exact ⟨o1, ho1, hx1.2.1⟩), ?_⟩
  rw [m.trees]
  refine Calls.callWith_builtin rfl (Calls.evalArgs_plain (Calls.spliced_cons (thn (he.run pins s1 σ H1 _ I1 q1) fun iv s2 ⟨y, H2, I2, ry, q2⟩ =>
    Calls.spliced_cons (thn (hf.run pins s2 σ H2 _ I2 q2) fun fv s3 ⟨z, H3, I3, rz, b, k, L, ey, hk, hd, ha, ks, few, q3, q4⟩ => Calls.spliced_nil ?_))))
  subst ey
  obtain rfl : iv = Value.ref b := ry
  obtain ⟨xs, Dd, rr, lo, _⟩ := vdict_rd I3 ha ks
  have lx : L.length = xs.length := Paired.length rr
  have big := sizeLine_eq
  refine call_setdefault_heap (hsz := by omega) (roomV hu) ⟨nq_is I3 k hk rfl, hd⟩ lo Dd (fun p hp => ?_) fun hn h' D2 sb => ?_
  · cases ev : valW L k with
    | none => rw [(rows_atV rr k).2 ev] at hp; cases hp
    | some v =>
      obtain ⟨c, t, q, rv⟩ := (rows_atV rr k).1 v ev
      rw [q] at hp
      cases hp
      exact ⟨v, H3, I3.tok _, rv, q3 v ev⟩
  · have ev : valW L k = none := by
      cases ev : valW L k with
      | none => rfl
      | some v =>
        obtain ⟨c, t, q, rv⟩ := (rows_atV rr k).1 v ev
        rw [q] at hn
        cases hn
    have VH := vheld_put rr rz lo ev few D2
    obtain ⟨_, o2, _, _, g1, _⟩ := id VH
    exact ⟨z, _, d_write I3 (by rw [ha]; exact True.intro) sb ⟨o2, g1⟩ (vdict_ok VH), rz, q4 ev⟩
end
/-! ### its values, walked -/
section
variable {X : Cx} {pins : List (Addr × Obj)} {σ : L2.St} {H : Hp} {s : Shared} {d : Addr} {o : Obj}
theorem frz_valsV {P : Program} {w : World} {kvs : List VRow} (I : Inv X pins σ H s) (h : H d = some (.frz o (VDict P w d kvs))) :
    s.heap.get? d = some o ∧ o.ExactDict ∧ (d == sysModules) = false ∧ ∃ (es : Array DictEntry) (ep : Nat), o.data = .dict es ep ∧ es.size = kvs.length ∧ ∀ (i : Nat) (p : VRow), kvs[i]? = some p → ∃ en : DictEntry, es[i]? = some en ∧ RelV p.2.2 en.val := by
  obtain ⟨hd, hv, _⟩ := I.hok d _ h
  obtain ⟨xs, o', es, ep, ho, hx, hdt, he, _, pr, lo, _⟩ := (show VHeld P w d kvs s.heap from hv)
  rw [hd] at ho
  cases ho
  refine ⟨hd, hx, lo, es, ep, hdt, ?_, fun i p e => ?_⟩
  · have l1 : es.size = xs.length := size_of_entries he
    have l2 : kvs.length = xs.length := Paired.length pr
    omega
  · obtain ⟨b, hb, _, _, e3⟩ := paired_get pr e
    have q := entry_at he i
    rw [hb] at q
    exact ⟨_, q, e3⟩
end
/-- the values, in their order -/
def ItdV (P : Program) (w : World) (d : Addr) (o : Obj) (kvs : List VRow) : It :=
  ⟨fun i H => H d = some (.frz o (VDict P w d kvs)) ∧ i < kvs.length, fun i H x H' => H' = H ∧ ∃ p, kvs[i]? = some p ∧ x = p.2.2, fun i H => H d = some (.frz o (VDict P w d kvs)) ∧ kvs.length = i⟩
theorem turn_valsV {P : Program} {w : World} {K : Frag} {tg : Expr} {d : Addr} {o : Obj} {es : Array DictEntry} {ep : Nat} {kvs : List VRow} (it : Addr) (ni : d ≠ it) (hod : o.data = .dict es ep) (hz : es.size = kvs.length) :
    Turn P w K tg (ItdV P w d o kvs) [it] it (fun i h => h.IsValIter it d i es.size ep) where
  mem := by simp
  obj := fun i h st b hb => by
    have e : b = it := by simpa using hb
    subst e
    obtain ⟨oi, e, _, dd⟩ := st
    exact ⟨oi, e, fun v z => by rw [dd] at z; cases z⟩
  keep := fun i h h' st k => st.at fun oi e => k it (by simp) oi e
  item := by
    intro X hP hw hK hc i pins s σ H E I hf st hg
    subst hP hw hK
    obtain ⟨hd, hi⟩ := hg
    obtain ⟨f0, f1, f2, f3, f4, f5⟩ := hf it (by simp)
    obtain ⟨hgd, hx, lo, es', ep', hdt, hsz, ent⟩ := frz_valsV I hd
    obtain ⟨rfl, rfl⟩ := dict_ep hod hdt
    obtain ⟨p, hkv⟩ : ∃ p, kvs[i]? = some p := ⟨kvs[i], List.getElem?_eq_getElem hi⟩
    obtain ⟨en, hen, rv⟩ := ent i p hkv
    have W := Walks.rawValues (prog := X.prog) (w := X.w) (I.ok.hd hc) it d ni es' ep'
    refine W.item i s _ _ (by omega) ⟨st, o, hgd, hx, hdt⟩ fun u h' tk hu st' kk => ?_
    obtain ⟨lt, rfl⟩ := hu
    have eu : en = es'[i] := by
      rw [Array.getElem?_eq_getElem lt] at hen
      exact (Option.some.inj hen).symm
    subst eu
    have I1 : Inv X pins σ H { s with heap := h', toks := tk } := I.turned (fun b o hb e => kk b o (by simpa using hb) e) f0 f1 f3 f4 f5
    obtain ⟨oi, e, c, dd⟩ := id st'.1
    exact ⟨_, rfl, go_of (s := { s with heap := h', toks := tk }) e c dd (by decide) ⟨p.2.2, H, I1, rv, ⟨rfl, p, hkv, rfl⟩, st'.1, fun b hb => (hf b hb).1⟩⟩
  done := by
    intro X hP hw hK hc i pins s σ H E I hf st hg
    subst hP hw hK
    obtain ⟨hd, hi⟩ := hg
    obtain ⟨f0, f1, f2, f3, f4, f5⟩ := hf it (by simp)
    obtain ⟨hgd, hx, lo, es', ep', hdt, hsz, ent⟩ := frz_valsV I hd
    obtain ⟨rfl, rfl⟩ := dict_ep hod hdt
    have W := Walks.rawValues (prog := X.prog) (w := X.w) (I.ok.hd hc) it d ni es' ep'
    have e : i = es'.size := by omega
    subst e
    exact W.done s _ _ ⟨st, o, hgd, hx, hdt⟩ fun h' tk eb => ⟨rfl, I.turned (fun b o hb q => eb b o (by simpa using hb) q) f0 f1 f3 f4 f5⟩
  self := fun A i s Q E st h => wpAny_pyIter_valiter st h
/-- the dict is locked (tLock, or by the caller) -/
def iValsV (P : Program) (w : World) (td : TE) : TI := fun σ H R => td σ H fun x H1 => ∃ d o kvs, x = .ref d ∧ H1 d = some (.frz o (VDict P w d kvs)) ∧ R (ItdV P w d o kvs) H1
theorem walk_valsV {P : Program} {w : World} {d : Addr} {o : Obj} {kvs : List VRow} : Walk (ItdV P w d o kvs) kvs.length (fun H => H d = some (.frz o (VDict P w d kvs))) (fun i H x H' => H' = H ∧ ∃ p, kvs[i]? = some p ∧ x = p.2.2) :=
  ⟨fun _ _ hi q => ⟨q, hi⟩, fun _ q => ⟨q, rfl⟩, fun _ _ _ _ _ _ y => y⟩
section
variable {X : Cx} {tg e : Expr} {td : TE} {apos cpos : Pos}
theorem pi_valuesV (he : PE X e td) (hbase : attributeBase e "values" X.env (eval e X.env) = eval e X.env := by rfl) (hline : (apos.endLine == cpos.line) = true := by rfl) : PI X tg (.Call (.Attribute e "values" apos) [] [] cpos) (iValsV X.prog X.w td) := by
  refine ⟨fun pins s σ H R I h => ?_⟩
  refine wpAny_Call_method (T := "dict") (id := "dict.values") hbase rfl hline F.plainAttrs_dict F.slot_dict_values F.type_dict_values (thn (he.run pins s σ H _ I h) fun u s1 ⟨x, H1, I1, rx, d, o, kvs, ex, hd, q⟩ => ?_)
  subst ex
  obtain rfl : u = Value.ref d := rx
  obtain ⟨hgd, hx, lo, es, ep, hdt, hsz, ent⟩ := frz_valsV I1 hd
  have raw : s1.heap.DictRaw d es ep := ⟨o, hgd, hx, hdt⟩
  have ty : s1.TypeIs (.ref d) "dict" := ⟨o, hgd, hx.1⟩
  refine ⟨ty, (fun b z => by cases z; exact ⟨o, hgd, hx.2.1⟩), ?_⟩
  have I2 : Inv X pins σ H1 { s1 with heap := s1.heap.push { cls := .type "dict_values", data := .fields #[.ref d] } } := I1.kept (t' := s1.toks) fun b ob z => Heap.get?_push_of_some _ z
  have lt : d < s1.heap.objs.size := Heap.lt_size hgd
  have fin : wpAny (model X.prog X.w) X.A (pyIter (.ref s1.heap.objs.size)) (PIE X pins σ tg R) X.xe { s1 with heap := s1.heap.push { cls := .type "dict_values", data := .fields #[.ref d] } } := by
    refine wpAny_pyIter_values_raw (d := d) ⟨_, Heap.get?_push_size _ rfl, rfl, rfl⟩ (raw.push _) (pi_one (tk := s1.toks) I2 _ (turn_valsV _ (Nat.ne_of_lt (by show d < (s1.heap.push _).objs.size; rw [Heap.size_push]; exact Nat.lt_succ_of_lt lt)) hdt hsz) ⟨_, Heap.get?_push_size _ rfl, rfl, rfl⟩ q)
  show wpAny _ _ (callWith cpos (.builtin "dict.values") [.ref d] [] []) _ X.xe s1
  exact method_meetsIn F.slot_dict_values F.entry_dict_values rfl (PySem.evalArgs_none ⟨rfl, ty, F.args_dict_values_1 _, _, meets_dict_values_raw d lo, ⟨es, ep, raw⟩, fin⟩)
end
end Kd

-- ===== KN2 =====
set_option Elab.async false
set_option linter.all false
set_option maxRecDepth 100000
set_option maxHeartbeats 4000000
namespace Kd
open PySem L2 PyProof.Rows PySem.Spec PySem.W
section
variable {X : Cx} {CX : CXT} {k : Nat} {f : Addr} {fd : FuncData} {ps ks : List Str} {sp : Sp} {x : Str} {p pos : Pos} {tk : TA} {E : XK} {kws : List Keyword} {g : List Value → List Value → List Value} {gV : List V → List V → List V}
/-- f(k = v, ..), nothing by position -/
theorem pe_callK0 (F : FnOk X.prog X.w X.K X.mg X.base CX k f fd ps sp) (hr : Room k X.A) (hg : Gl X x) (hm : X.mg x = some (.ref f)) (hk : PySem.W.keepIn X.K (.ref f) = true) (hb : KBinds X.K fd ps ks g gV) (hx : Passes CX X E)
    (hkw : PK X kws tk) (hall : (backToKw pos (keywordEach kws X.env)).all (·.1.isSome) = true := by rfl) (hks : (backToKw pos (keywordEach kws X.env)).filterMap (·.1) = ks := by rfl)
    (hdb : (x == ("__debug__" : Str)) = false := by decide)
    (hpl : ((backTo pos (starEach [] X.env)).any (·.1) || (backToKw pos (keywordEach kws X.env)).any (·.1.isNone)) = false := by rfl) :
    PE X (.Call (.Name x p) [] kws pos) (tCallK sp gV E tNil tk) := by
  refine ⟨fun pins s σ H Q I h => ?_⟩
  refine wpAny_Call_Name_kw (ld_glob I hg hm ?_ hdb)
  refine PySem.W.callWith_KW0 (h₀ := X.base) I.ok.mod.kin hk hall (thn (hkw.run pos pins s σ H _ I h) fun ws s2 ⟨zs, H2, I2, rz, q2⟩ => ⟨I2.kIn, ?_⟩) hpl
  rw [hks]
  exact run_fnk F hr hb hx I2 (us := []) (vs := []) .nil rz q2
end
section
variable {X : Cx}
/-- x in t, t a tuple of data -/
def rInDT (K : PySem.W.Frag) : R2 := fun x y H Q => ∃ d ds, Dp K H x d ∧ Dp K H y (.tuple ds) ∧ SeqAt.shaped d = true ∧ SeqAt.shaped (.tuple ds) = true ∧ Q (.bl (ds.any fun z => PyData.eqv z d)) H
theorem op_inDT (hu : X.A.units + 65 < cLine) : OpR X (compareOp .In) (rInDT X.K) := by
  intro pins s σ H x y v u Q I rx ry h
  obtain ⟨d, ds, hd, he, sd, se, q⟩ := h
  obtain ⟨as, r1⟩ := Dp.reads I d x v hd rx
  obtain ⟨bs, r2⟩ := Dp.reads I (.tuple ds) y u he ry
  exact SeqAt.in_tuple_reads r2 r1 (SeqAt.canLay_of_shaped se) (SeqAt.canLay_of_shaped sd) (room_in_shaped sd hu) ⟨.bl _, H, I, rfl, q⟩
/-- a list times an int; the new list is none of the model's own -/
def rRepL : R2 := fun x y H Q => ∃ l k xs, x = .ref l ∧ y = .int k ∧ H l = some (.lst xs) ∧ -(2 ^ 63) ≤ k ∧ k < 2 ^ 63 ∧ xs.length * k.toNat ≤ sizeLine ∧
  ∀ p, H p = none → sysModules < p → Q (.ref p) (upd H p (.lst (List.replicate k.toNat xs).flatten))
theorem op_repL : OpR X (binaryOp .Mult) rRepL := by
  intro pins s σ H x y v u Q I rx ry h
  obtain ⟨l, k, xs, rfl, rfl, hH, h1, h2, hz, q⟩ := h
  cases rx
  obtain ⟨t, rfl⟩ := ry
  obtain ⟨z, its, n, r, hl, e⟩ := I.lstM hH
  have hlen : its.toArray.size * k.toNat ≤ sizeLine := by rw [List.size_toArray, ← hl]; exact hz
  have hcap : ¬ its.toArray.size * k.toNat > (2 ^ 63 - 1) / 8 := by
    have : (sizeLine : Nat) ≤ (2 ^ 63 - 1) / 8 := by decide
    omega
  have hfit : ¬ (!Builtin.List.listFitsIndex k) = true := by
    rw [fitsIndex_both h1 h2]
    exact Bool.false_ne_true
  have hlong : ¬ Builtin.List.listTooLong (its.toArray.size * k.toNat) = true := by
    rw [notLongL hlen]
    exact Bool.false_ne_true
  have hnew : List.foldl (fun x1 x2 => x1 ++ x2) #[] (List.replicate (if its.toArray.isEmpty = true then 0 else k.toNat) its.toArray) = (List.replicate k.toNat its).flatten.toArray := by
    have f0 : ∀ m : Nat, List.foldl (fun x1 x2 => x1 ++ x2) #[] (List.replicate m its.toArray) = (List.replicate m its).flatten.toArray := fun m => by
      have := foldl_rep its m []
      rw [List.nil_append] at this
      exact this
    rw [f0]
    cases its with
    | nil => simp
    | cons a r' => rw [if_neg (by simp)]
  refine wpAny_binaryOp_repeat_ref (T := "list") (U := "int") (by decide) ⟨_, e, rfl⟩ (fun s' => typeIs_int s' k t) noFill_list_mul F.fills_int_mul F.slot_int_rmul repeat_list F.slot_int_index.lookup
    (call_meets F.slot_int_rmul (typeIs_int s k t) F.entry_int_rmul (F.args_int_rmul_2 _ _) (int___rmul___int_list k t l its.toArray n)
      ⟨e, rfl, ⟨_, e, rfl⟩, call_meets F.slot_list_mul ⟨_, e, rfl⟩ F.entry_list_mul (F.args_list_mul_2 _ _) (AutoListH.list___mul___list_int_3 l its.toArray n k t hfit hcap hlong) ⟨e, ?_⟩⟩)
  rw [hnew]
  exact ⟨.ref _, _, I.lnew (t' := s.toks) (r.rep k.toNat) (by rw [PyProof.Rows.lm_len_rep_flat, Nat.mul_comm]; exact hz), rfl, q _ I.fresh I.big⟩
end
/-- what is read off stands -/
theorem reads_in {h : Heap} {v : Value} {d : PyData} {as : List Addr} (r : Reads h v d as) : ∀ a ∈ as, ∃ o, h.get? a = some o :=
  Reads.rec (motive_1 := fun _ _ as _ => ∀ a ∈ as, ∃ o, h.get? a = some o) (motive_2 := fun _ _ as _ => ∀ a ∈ as, ∃ o, h.get? a = some o)
    (fun a m => nomatch m) (fun _ a m => nomatch m) (fun _ _ a m => nomatch m) (fun _ _ a m => nomatch m)
    (fun ho _ _ _ ih a m => by
      rcases List.mem_cons.mp m with e | m
      · exact ⟨_, by rw [e]; exact ho⟩
      · exact ih a m)
    (fun _ _ _ _ ih a m => ih a m)
    (fun ho _ _ _ _ ih1 ih2 a m => by
      rcases List.mem_append.mp m with m | m
      · rcases List.mem_cons.mp m with e | m
        · exact ⟨_, by rw [e]; exact ho⟩
        · exact ih1 a m
      · exact ih2 a m)
    (fun a m => nomatch m)
    (fun _ _ ih1 ih2 a m => by
      rcases List.mem_append.mp m with m | m
      · exact ih1 a m
      · exact ih2 a m) r
/-! ### sorted(xs), xs a list or a tuple of data -/
/-- items told with the data that they are -/
def DpRows {β : Type} (enc : β → PyData) (K : PySem.W.Frag) (H : Hp) (L : List (Addr × β)) : Prop := ∀ q ∈ L, Dp K H (.ref q.1) (enc q.2)
def rSortX {β : Type} (enc : β → PyData) (K : PySem.W.Frag) : List V → Hp → VK → Prop := fun vs H Q => ∃ (a : Addr) (L : List (Addr × β)), vs = [V.ref a] ∧ (SqL K H a (L.map fun q => V.ref q.1) ∨ SqT K H a (L.map fun q => V.ref q.1)) ∧ DpRows enc K H L ∧ AllAlike (L.map fun q => enc q.2) ∧ Sortable (L.map fun q => enc q.2) ∧ (∀ q ∈ L, (enc q.2).depth ≤ 60) ∧ L.length ≤ 100000 ∧
  ∀ p, H p = none → Q (.ref p) (upd H p (.lst ((L.mergeSort (dataLe false fun q => enc q.2)).map fun q => V.ref q.1)))
section
variable {X : Cx} {β : Type} {enc : β → PyData}
theorem refs_of : ∀ {L : List (Addr × β)} {us : List Value}, Vals (L.map fun q => V.ref q.1) us → us = L.map fun q => Value.ref q.1
  | [], _, .nil => rfl
  | q :: ks, _, .cons r t => by
    cases r
    rw [refs_of t]
    rfl
theorem refs_are : ∀ (L : List (Addr × β)), Vals (L.map fun q => V.ref q.1) (L.map fun q => Value.ref q.1)
  | [] => .nil
  | q :: ks => .cons rfl (refs_are ks)
theorem cr_sortX (hu : X.A.units + 80 < cLine) : CallR X (.builtin "sorted") (rSortX enc X.K) := by
  intro pins s σ H vs us Q I r h
  obtain ⟨a, L, rfl, hl, hk, al, so, dp, sz, q⟩ := h
  rw [Vals.ref1 r]
  have big := sizeLine_eq
  have each : ∀ (R : Value → Addr × β → Prop) (M : List (Addr × β)), (∀ q ∈ M, R (.ref q.1) q) → EachIs R (M.map fun q => Value.ref q.1) M := by
    intro R M
    induction M with
    | nil => exact fun _ => .nil
    | cons x M ih => exact fun g => .cons (g x List.mem_cons_self) (ih fun y m => g y (List.mem_cons_of_mem _ m))
  have eout : ∀ {o : List Value} {M : List (Addr × β)}, EachIs (fun v q => v = Value.ref q.1) o M → o = M.map fun q => Value.ref q.1 := by
    intro o M z
    induction z with
    | nil => rfl
    | cons e _ ih => rw [e, ih]; rfl
  have rd : ∀ q ∈ L, ∃ as, Reads s.heap (.ref q.1) (enc q.2) as := fun q m => Dp.reads I (enc q.2) (.ref q.1) (.ref q.1) (hk q m) rfl
  have lz : ((L.mergeSort (dataLe false fun q => enc q.2)).map fun q => V.ref q.1).length ≤ sizeLine := by
    rw [List.length_map, List.length_mergeSort]
    omega
  rcases hl with hl | hl
  · obtain ⟨its, rv, il, _⟩ := I.list hl
    have ei := refs_of rv
    subst ei
    refine sorted_data (R := fun v q => v = Value.ref q.1) (enc := fun q : Addr × β => enc q.2) (bs := L) il.isList (each _ L fun q _ => rfl) (each _ L rd) al so (by omega) (fun b m => by have z := dp b m; omega) fun out lo eo => ?_
    have eo' := eout eo
    subst eo'
    obtain ⟨ep, he⟩ := PyProof.Rows.sortedAll_at s.heap (L.map fun q => Value.ref q.1) (((L.mergeSort (dataLe false fun q => enc q.2)).map fun q => Value.ref q.1).toArray)
    exact ⟨.ref _, upd H (s.heap.objs.size + 1) (.lst ((L.mergeSort (dataLe false fun q => enc q.2)).map fun q => V.ref q.1)), I.laid (t' := s.toks) (fun _ _ => PyProof.Rows.sortedAll_old) (Nat.le_succ _) ⟨lz, _, ep, refs_are _, he⟩, rfl, q _ (I.hok.fresh (Nat.le_succ _))⟩
  · obtain ⟨its, rv, ⟨o, ho, hc, n, hd⟩, _⟩ := I.tuple hl
    have ei := refs_of rv
    subst ei
    refine Calls.call_function_entry kind_sorted plain_sorted entry_sorted (args_sorted1 _) ?_
    unfold Builtin.«sorted»
    refine wpAny_bind (m := checkCount "sorted" 1 1 _) (wpAny_pure ?_)
    refine wpAny_bind (wpAny_collect_seq (A := X.A.in1) a (.inr rfl) ho hc hd (hsz := by rw [List.size_toArray, List.length_map]; omega) fun h' hk' => ?_)
    have I1 : Inv X pins σ H { s with heap := h' } := I.kept (t' := s.toks) hk'
    rw [show (L.map fun q => Value.ref q.1).toArray.toList = L.map fun q => Value.ref q.1 by simp]
    refine wpAny_bind (wpAny_newList ?_ (by rw [List.length_map]; omega))
    have oL : (h'.push (seqObj "list" (L.map fun q => Value.ref q.1).toArray 0)).get? h'.objs.size = some (seqObj "list" (L.map fun q => Value.ref q.1).toArray 0) := Heap.get?_push_size _ rfl
    have al' : ∀ q ∈ L, ∃ as, Reads (h'.push (seqObj "list" (L.map fun q => Value.ref q.1).toArray 0)) (.ref q.1) (enc q.2) as ∧ h'.objs.size ∉ as := fun q m => by
      obtain ⟨as, r1⟩ := Dp.reads I1 (enc q.2) (.ref q.1) (.ref q.1) (hk q m) rfl
      refine ⟨as, PyProof.Rows.Reads.keeps (fun b u e => Heap.get?_push_of_some _ e) r1, fun z => ?_⟩
      obtain ⟨o2, e2⟩ := reads_in r1 _ z
      exact absurd (Heap.lt_size e2) (Nat.lt_irrefl _)
    refine wpAny_bind (wpAny_holding (list_sort_data (s := { s with heap := h'.push (seqObj "list" (L.map fun q => Value.ref q.1).toArray 0) }) (R := fun v q => v = Value.ref q.1) (enc := fun q : Addr × β => enc q.2) (bs := L) oL (each _ L fun q _ => rfl)
      (each _ L al') al so (by omega) (fun b m => by have z := dp b m; have y : X.A.in1.units ≤ X.A.units + 1 := (by simp only [Around.in1]; omega); omega) fun out lo eo => ?_))
    have eo' := eout eo
    subst eo'
    obtain ⟨c, hc2⟩ := sortedHeap_at (vs := L.map fun q => Value.ref q.1) (out := (List.toArray ((L.mergeSort (dataLe false fun q => enc q.2)).map fun q => Value.ref q.1))) oL
    have kp2 : ∀ b u, h'.get? b = some u → (sortedHeap (h'.push (seqObj "list" (L.map fun q => Value.ref q.1).toArray 0)) h'.objs.size (L.map fun q => Value.ref q.1) (List.toArray ((L.mergeSort (dataLe false fun q => enc q.2)).map fun q => Value.ref q.1))).get? b = some u := fun b u z => by
      have lt := Heap.lt_size z
      rw [sortedHeap_old (Nat.ne_of_lt lt) (by rw [size_push']; exact Nat.lt_succ_of_lt lt)]
      exact Heap.get?_push_of_some _ z
    refine wpAny_pure ⟨_, rfl, ?_⟩
    exact ⟨.ref h'.objs.size, upd H h'.objs.size (.lst ((L.mergeSort (dataLe false fun q => enc q.2)).map fun q => V.ref q.1)), I1.laid (t' := s.toks) kp2 (Nat.le_refl _) ⟨lz, _, c, refs_are _, hc2⟩, rfl, q _ (I1.hok.fresh (Nat.le_refl _))⟩
/-- what is sorted, without the places -/
theorem sort_snd (L : List (Addr × β)) : (L.mergeSort (dataLe false fun q => enc q.2)).map Prod.snd = (L.map Prod.snd).mergeSort (dataLe false enc) := List.map_mergeSort fun _ _ _ _ => rfl
end
/-! ### {k: v for ..}, the keys nested tuples, each new -/
/-- in each block of a comprehension -/
abbrev BlksV (X : Cx) (scope : Scope) (p : Cx → Prop) : Prop := ∀ (s : Shared) (H : Hp) (C : Addr) (cl : List (PySem.Str × Addr)) (fp : List Addr), p (X.blk s H scope (compEnvC scope cl C X.env) fp)
section
variable {X : Cx} {pins : List (Addr × Obj)} {σ : L2.St} {H : Hp} {s : Shared}
theorem put_okV {E : Value → Shared → Prop} {D b : Addr} {L : List VRow} {k : NestedKey} {v : V} {r : Value} {Q : Unit → Shared → Prop} (hu : X.A.units + 64 < cLine) (I : Inv X pins σ H s) (hD : H D = some (VDict X.prog X.w D L)) (ks : VKeys H L) (hb : NqV H (.ref b) k) (hd : k.depth ≤ 8) (hn : valW L k = none) (few : L.length < 1000) (rv : RelV v r)
    (h : ∀ s', Inv X pins σ (upd H D (VDict X.prog X.w D (L ++ [(k, b, v)]))) s' → Q () s') : wpAny (model X.prog X.w) X.A (dictSet D (.ref b) r) Q E s := by
  obtain ⟨xs, Dd, rr, lo, _⟩ := vdict_rd I hD ks
  have lx : L.length = xs.length := Paired.length rr
  have big := sizeLine_eq
  refine wpAny_dictSet_heap (knd := nestedKind X.prog X.w) (hsz := by omega) (show X.A.units + 8 < cLine by omega) ⟨nq_is I k hb rfl, hd⟩ Dd fun h' D2 sb => h _ ?_
  have VH := vheld_put rr rv lo hn few D2
  obtain ⟨_, o2, _, _, g1, _⟩ := id VH
  exact d_write I (by rw [hD]; exact True.intro) sb ⟨o2, g1⟩ (vdict_ok VH)
end
section
variable {X : Cx}
/-- {key: val for ta in ia}, the key a nested tuple: D the new dict -/
def tDcV (P : Program) (w : World) (wa : TI) (ga : TG) (tk tv : TE) (vs : List Nat) : TE := fun σ H Q => wa σ H fun J H1 => ∀ D, H1 D = none → ∃ W : Nat → Nat → Hp → Prop, (∃ m, W 0 m (upd H1 D (VDict P w D []))) ∧ ∀ i m H2, W i m H2 →
  (J.stop i H2 ∧ Q (.ref D) H2) ∨ (J.go i H2 ∧ ∃ Nx : Hp → Prop, (∀ H3, Nx H3 → ∃ m', m' < m ∧ W (i + 1) m' H3) ∧ ∀ x H3, J.yld i H2 x H3 → ga x (wipe σ vs) H3 fun σ4 H4 => wipe σ4 vs = wipe σ vs ∧ tk σ4 H4 fun y H5 => tv σ4 H5 fun z H6 =>
    ∃ (L : List VRow) (k : NestedKey) (b : Addr), y = .ref b ∧ NqV H6 (.ref b) k ∧ k.depth ≤ 8 ∧ H6 D = some (VDict P w D L) ∧ VKeys H6 L ∧ valW L k = none ∧ L.length < 1000 ∧ Nx (upd H6 D (VDict P w D (L ++ [(k, b, z)]))))
theorem pe_dcV {kx vx ta ia : Expr} {scope : Scope} {own : List (PySem.Str × Nat)} {pos : Pos} {wa : TI} {ga : TG} {tk tv : TE} (hc : X.calm = true) (hN : X.N.Nodup) (hu : X.A.units + 64 < cLine) (hia : PI X ta ia wa) (ok : BlkOk X.N X.env.scope scope own)
    (hga : BlksV X scope fun Y => PG Y ta ga) (hk : BlksV X scope fun Y => PE Y kx tk) (hv : BlksV X scope fun Y => PE Y vx tv) (pa : ∀ x, foldedSetIterable ia X.env x = pure x := by intro _; rfl) :
    PE X (.DictComp kx vx [⟨ta, ia, [], 0⟩] scope pos) (tDcV X.prog X.w wa ga tk tv (own.map (·.2))) := by
  refine ⟨fun pins s σ H Q I h => ?_⟩
  rw [arm_eval_DictComp]
  have caught : ∀ y ∈ scope.names, y.2 = .free → ∃ c, X.env.cells.lookup y.1 = some c := fun y m e => (ok.free y m e).elim (fun k => I.ok.has _ (.inl k)) (fun k => I.ok.has _ (.inr k))
  refine wpAny_comprehension_free (use := none) rfl pa (closure_ok caught) ok.kind (fun y m e => by rw [ok.uniq y m, e]) (thn (hia.run pins s σ H _ I h) fun xv s1 hx => thn hx fun itv s2 h2 => ?_)
  obtain ⟨it, fp, tn, J, H2, rfl, I2, T, st2, f2, q⟩ := h2
  refine wpAny_newObj_type (newEnv_comp ?_)
  generalize eD : s2.heap.objs.size = D
  have D0 : H2 D = none := I2.hok.fresh (Nat.le_of_eq eD)
  obtain ⟨W, ⟨m0, w0⟩, turn⟩ := q D D0
  generalize e3 : ({ s2 with heap := s2.heap.push { cls := .type "dict", data := .dict #[] } } : Shared) = s3
  have hp3 : s3.heap = s2.heap.push { cls := .type "dict", data := .dict #[] } := by rw [← e3]
  have I3 : Inv X pins σ (upd H2 D (VDict X.prog X.w D [])) s3 := by
    rw [← e3]
    refine I2.laid (t' := s2.toks) (fun b o e => Heap.get?_push_of_some _ e) (Nat.le_of_eq eD) ?_
    rw [← eD]
    exact vdict_ok (vheld_new s2.heap I2.big)
  have low : ∀ b ∈ fp, b < s2.heap.objs.size := fun b m => by
    obtain ⟨o, e, _⟩ := T.obj _ _ st2 b m
    exact Heap.lt_size e
  have f3 : ∀ b ∈ fp, FpOk X pins (upd H2 D (VDict X.prog X.w D [])) b ∧ b < s3.heap.objs.size := fun b m => by
    refine ⟨⟨?_, (f2 b m).2⟩, by rw [hp3, Heap.size_push]; exact Nat.lt_succ_of_lt (low b m)⟩
    rw [upd_ne (by rw [← eD]; exact Nat.ne_of_lt (low b m))]
    exact (f2 b m).1
  have st3 : tn 0 s3.heap := T.keep _ _ _ st2 fun b _ o e => by rw [hp3]; exact Heap.get?_push_of_some _ e
  have I4 := block_start I3 ok hN f3
  have ga4 := hga s3 (upd H2 D (VDict X.prog X.w D [])) s3.heap.objs.size (cellsFrom (s3.heap.objs.size + 1) scope.names (cloFrom X.env.cells scope.names [])) fp
  have k4 := hk s3 (upd H2 D (VDict X.prog X.w D [])) s3.heap.objs.size (cellsFrom (s3.heap.objs.size + 1) scope.names (cloFrom X.env.cells scope.names [])) fp
  have v4 := hv s3 (upd H2 D (VDict X.prog X.w D [])) s3.heap.objs.size (cellsFrom (s3.heap.objs.size + 1) scope.names (cloFrom X.env.cells scope.names [])) fp
  show codeAny _ _ (.compStart (.DictComp kx vx [⟨ta, ia, [], 0⟩] scope pos) 0 (.ref it) (.ref D) (compEnvC scope (cellsFrom (s3.heap.objs.size + 1) scope.names (cloFrom X.env.cells scope.names [])) s3.heap.objs.size X.env)) (compPost (model X.prog X.w) X.A X.xe none _ (.ref D) s3.heap.objs.size) { s3 with heap := pushCells (s3.heap.push { cls := .type "dict", data := .dict #[] }) scope.names }
  have fp0 : ∀ b ∈ fp, (upd H2 D (VDict X.prog X.w D [])) b = none := fun b m => (f3 b m).1.1
  generalize ece : compEnvC scope (cellsFrom (s3.heap.objs.size + 1) scope.names (cloFrom X.env.cells scope.names [])) s3.heap.objs.size X.env = ce at I4 ga4 k4 v4 ⊢
  have loc : ce.locals = s3.heap.objs.size := by subst ece; rfl
  generalize upd H2 D (VDict X.prog X.w D []) = H3 at I3 I4 ga4 k4 v4 w0 fp0 f3
  generalize e4 : ({ s3 with heap := pushCells (s3.heap.push { cls := .type "dict", data := .dict #[] }) scope.names } : Shared) = s4 at I4 ⊢
  have st4 : tn 0 s4.heap := T.keep _ _ _ st3 fun b _ o e => by rw [← e4]; exact pushCells_keeps _ _ _ _ (Heap.get?_push_of_some _ e)
  have still : ∀ {τ : L2.St} {G : Hp} {u : Shared}, Inv (X.blk s3 H3 scope ce fp) [] τ G u → (∀ b ∈ fp, G b = none) → ∀ b ∈ fp, FpOk (X.blk s3 H3 scope ce fp) [] G b := fun {τ G u} Iu no b m =>
    ⟨no b m, (Iu.ok.exf b m).1, Iu.ok.exfs b m, .inl m, fun x c e => (Iu.ok.exf b m).2 x c e, fun p z => absurd (show p ∈ ([] : List (Addr × Obj)) ++ [] from z) (by simp)⟩
  refine codeAny_compStart_dict ?loop (T.self X.A 0 _ _ _ st4 ?loop)
  refine compLoop_anyD (fun n u => ∃ i G, Inv (X.blk s3 H3 scope ce fp) [] (wipe σ (own.map (·.2))) G u ∧ tn i u.heap ∧ (∀ b ∈ fp, G b = none) ∧ W i n G) (fun n s5 hI => ?_) m0 ⟨0, H3, I4, st4, fp0, w0⟩
  obtain ⟨i, H5, I5, st5, no5, w5⟩ := hI
  rcases turn i n H5 w5 with ⟨stop, fin⟩ | ⟨go, Nx, hNx, step⟩
  · refine thnF (T.done (X.blk s3 H3 scope ce fp) rfl rfl rfl hc i [] s5 _ H5 (fun _ _ => False) I5 (still I5 no5) st5 stop) fun r s6 ⟨hr, I6⟩ => ?_
    subst hr
    have I7 : Inv X pins σ H5 s6 := I3.call' (ch := fp) I6.os I6.base I6.hok I6.bare fun b m => ⟨(f3 b m).1.2.2.2.1, (f3 b m).1.2.1, (f3 b m).1.2.2.2.2.1, (f3 b m).1.2.2.2.2.2⟩
    have none5 : H5 s3.heap.objs.size = none := by
      have z : H5 ce.locals = none := I6.free
      rwa [loc] at z
    obtain ⟨m, hn, _⟩ := I6.loc
    have hn : s6.heap.Ns ce.locals m := hn
    rw [loc] at hn
    obtain ⟨g0, g1, g2, g3, g4, g5⟩ := I3.fpOk (Nat.le_refl _) none5
    exact ⟨m, hn, fun h'' sb => ⟨.ref D, H5, I7.turned (t' := s6.toks) (fun b o ne e => (sb.2 b ne).trans e) g0 g1 g3 g4 g5, rfl, fin⟩⟩
  · refine thnF (T.item (X.blk s3 H3 scope ce fp) rfl rfl rfl hc i [] s5 _ H5 (fun _ _ => False) I5 (still I5 no5) st5 go) fun r s6 ⟨u, hr, h6⟩ => ?_
    subst hr
    refine thnF h6 fun _ s7 ⟨x, H7, I7, r7, y7, st7, no7⟩ => ?_
    have I7p := I7.pinned (still I7 no7) (T.obj _ _ st7)
    refine thnF (ga4.run _ s7 _ H7 x u _ I7p r7 (step x H7 y7)) fun _ s8 ⟨σ8, H8, I8, wp8, q8⟩ => ?_
    refine thnF ((pts_nil (X := X.blk s3 H3 scope ce fp)).run _ s8 σ8 H8 (fun b G => b = true ∧ tk σ8 G _) I8 ⟨rfl, q8⟩) fun b s9 ⟨H9, I9, eb, q9⟩ => ?_
    subst eb
    simp only [if_true]
    refine thnF (k4.run _ s9 σ8 H9 _ I9 q9) fun z1 s10 ⟨yk, H10, I10, r10, q10⟩ => ?_
    refine thnF (v4.run _ s10 σ8 H10 _ I10 q10) fun z2 s11 ⟨yv, H11, I11, r11, L, k, b, ek, hb, hdp, hD, hks, hnew, room, nx⟩ => ?_
    subst ek
    cases r10
    refine put_okV (X := X.blk s3 H3 scope ce fp) hu I11 hD hks hb hdp hnew room r11 fun s12 I12 => ?_
    obtain ⟨m', lt, w'⟩ := hNx _ nx
    have pinned : ∀ c ∈ fp, ∀ o, s7.heap.get? c = some o → s12.heap.get? c = some o ∧ (upd H11 D (VDict X.prog X.w D (L ++ [(k, b, yv)]))) c = none := fun c m o e =>
      have z := I12.pin (c, o) (List.mem_append_right _ (List.mem_append_right _ (mem_pinsAt m e)))
      ⟨z.1, z.2.1⟩
    refine ⟨m', lt, i + 1, _, (I12.unpinned (pins := [])).weak (by rw [← wp8, wipe_length]) (fun j v e => by rw [← wp8] at e; exact (wipe_some e).1), T.keep _ _ _ st7 fun b m o e => (pinned b m o e).1, fun b m => ?_, w'⟩
    obtain ⟨o, e, _⟩ := T.obj _ _ st7 b m
    exact (pinned b m o e).2
theorem pe_dcVP {P : Program} {w : World} {kx vx ta ia : Expr} {scope : Scope} {own : List (PySem.Str × Nat)} {pos : Pos} {wa : TI} {ga : TG} {tk tv : TE} (hc : X.calm = true) (hN : X.N.Nodup) (hu : X.A.units + 64 < cLine) (hia : PI X ta ia wa) (ok : BlkOk X.N X.env.scope scope own)
    (hga : BlksV X scope fun Y => PG Y ta ga) (hk : BlksV X scope fun Y => PE Y kx tk) (hv : BlksV X scope fun Y => PE Y vx tv) (hP : X.prog = P := by rfl) (hw : X.w = w := by rfl) (pa : ∀ x, foldedSetIterable ia X.env x = pure x := by intro _; rfl) :
    PE X (.DictComp kx vx [⟨ta, ia, [], 0⟩] scope pos) (tDcV P w wa ga tk tv (own.map (·.2))) := by
  subst hP hw
  exact pe_dcV hc hN hu hia ok hga hk hv pa
end
/-! ### the same, the program and the world by their own letters -/
section
variable {X : Cx} {P : Program} {w : World} {o i e f value tg : Expr} {pos pos' apos cpos : Pos} {td ty tv tx : TE}
theorem pe_dnewVP (hP : X.prog = P := by rfl) (hw : X.w = w := by rfl) : PE X (.Dict [] [] pos) (tDNewV P w) := by
  subst hP hw
  exact pe_dnewV
theorem op_inVP (hu : X.A.units + 64 < cLine) (hP : X.prog = P := by rfl) (hw : X.w = w := by rfl) : OpR X (compareOp .In) (rInV P w) := by
  subst hP hw
  exact op_inV hu
theorem pe_getVP (hu : X.A.units + 64 < cLine) (ho : PE X o td) (hi : PE X i ty) (hs : NoSl i) (hP : X.prog = P := by rfl) (hw : X.w = w := by rfl) : PE X (.Subscript o i pos) (tGetV P w td ty) := by
  subst hP hw
  exact pe_getV hu ho hi hs
theorem ps_putVP (hu : X.A.units + 64 < cLine) (ho : PE X o td) (hi : PE X i ty) (hv : PE X value tv) (hs : swapsWith value (some (.Subscript o i pos')) pos.line X.env = pure false) (hP : X.prog = P := by rfl) (hw : X.w = w := by rfl) :
    PS X (.Assign [.Subscript o i pos'] value pos) (sPutV P w td ty tv) := by
  subst hP hw
  exact ps_putV hu ho hi hv hs
theorem pe_setdVP (hu : X.A.units + 64 < cLine) (ho : PE X o td) (he : PE X e ty) (hf : PE X f tx) (m : M2 X o "setdefault" apos e f cpos) (hP : X.prog = P := by rfl) (hw : X.w = w := by rfl) : PE X (.Call (.Attribute o "setdefault" apos) [e, f] [] cpos) (tSetdV P w td ty tx) := by
  subst hP hw
  exact pe_setdV hu ho he hf m
theorem pi_valuesVP (he : PE X e td) (hP : X.prog = P := by rfl) (hw : X.w = w := by rfl) (hbase : attributeBase e "values" X.env (eval e X.env) = eval e X.env := by rfl) (hline : (apos.endLine == cpos.line) = true := by rfl) : PI X tg (.Call (.Attribute e "values" apos) [] [] cpos) (iValsV P w td) := by
  subst hP hw
  exact pi_valuesV he hbase hline
end
end Kd

-- ===== KN4 =====
set_option Elab.async false
set_option linter.all false
set_option maxRecDepth 100000
set_option maxHeartbeats 4000000
namespace Kd
open PySem L2 PyProof.Rows PySem.Spec PySem.W PySem.P
/-! ### t + u, whatever they hold -/
def rCatA : R2 := fun x y H Q => ∃ a b xs ys, x = .ref a ∧ y = .ref b ∧ H a = some (.tup xs) ∧ H b = some (.tup ys) ∧ xs.length + ys.length ≤ sizeLine ∧ ∀ r H', Same H H' → H' r = some (.tup (xs ++ ys)) → Q (.ref r) H'
theorem op_catA {X : Cx} : OpR X (binaryOp .Add) rCatA := by
  intro pins s σ H x y v u Q I rx ry h
  obtain ⟨a, b, xs, ys, rfl, rfl, ha, hb, hz, q⟩ := h
  cases rx
  cases ry
  obtain ⟨its, r1, p1, _⟩ := I.tuple (SqT.of ha)
  obtain ⟨its2, r2, p2, _⟩ := I.tuple (SqT.of hb)
  by_cases hx : xs = []
  · subst hx
    cases r1
    obtain ⟨⟨cls, dd, data, sl⟩, ho, hc, n, hd⟩ := id p1
    obtain ⟨⟨cls2, dd2, data2, sl2⟩, ho2, hc2, n2, hd2⟩ := id p2
    simp only at hc hd hc2 hd2
    subst hc hd hc2 hd2
    exact concat_meets ⟨_, ho, rfl⟩ ⟨_, ho2, rfl⟩ noFill_tuple_add seq_tuple_add PySem.F.slot_tuple_add PySem.F.entry_tuple_add (PySem.F.args_tuple_add_2 _ _)
      (tuple_addW0 a b _ its2.toArray n n2 dd dd2 sl sl2 (by simp)) ⟨ho, ho2, ⟨.ref b, H, I, rfl, q b H (Same.refl H) hb⟩⟩
  · refine HT.cat_tup p1 p2 (fun z => hx (r1.nil_iff.mp z)) (fun z => ⟨.ref a, H, I, rfl, q a H (Same.refl H) (by rw [r2.nil_iff.mp z, List.append_nil]; exact ha)⟩) (fun z => ?_) (by rw [← r1.length, ← r2.length]; exact hz)
    refine ⟨.ref s.heap.objs.size, _, I.laid (t' := s.toks) (o := .tup (xs ++ ys)) (fun b ob q => Heap.get?_push_of_some _ q) (Nat.le_refl _) ?_, rfl, q _ _ (fun c o e => ?_) upd_same⟩
    · exact ⟨by rw [List.length_append]; exact hz, _, r1.append r2, IsTup.new _ _⟩
    · rw [upd_ne (ne_of_none e (I.hok.fresh (Nat.le_refl _)))]
      exact e
end Kd

-- ===== K7R =====
set_option Elab.async false
set_option linter.all false
set_option maxRecDepth 100000
set_option maxHeartbeats 4000000
namespace My
open PySem L2 PyProof.Rows PySem.Spec Kd TL
/-- the tables of a state: what stands under an event -/
theorem mv_val {st : List Stp} (asc : (st.map evOf).Pairwise evLt) (e : Str × Str) : (valV (st.map mvOf) (evK e) = none ∧ ∀ y ∈ st, e ≠ evOf y) ∨ ∃ y ∈ st, e = evOf y ∧ valV (st.map mvOf) (evK e) = some (.int y.2.2) ∧ ∀ z ∈ st, e = evOf z → z = y := by
  induction st with
  | nil => exact .inl ⟨rfl, fun y m => nomatch m⟩
  | cons x st ih =>
    rw [List.map_cons] at asc
    obtain ⟨p1, p2⟩ := List.pairwise_cons.mp asc
    by_cases h : evOf x = e
    · refine .inr ⟨x, List.mem_cons_self, h.symm, ?_, fun z mz ez => ?_⟩
      · unfold valV
        rw [List.map_cons, List.find?_cons_of_pos]
        · rfl
        · exact decide_eq_true (by rw [← h]; rfl)
      · rcases List.mem_cons.mp mz with rfl | mz
        · rfl
        · have q := p1 _ (List.mem_map.mpr ⟨z, mz, rfl⟩)
          rw [h, ez] at q
          rcases q with q | ⟨_, q⟩ <;> exact absurd q (List.lt_irrefl _)
    · have nk : ¬ ((mvOf x).1 = evK e) := fun z => h (evK_inj z)
      have ev : valV ((x :: st).map mvOf) (evK e) = valV (st.map mvOf) (evK e) := by
        unfold valV
        rw [List.map_cons, List.find?_cons_of_neg]
        exact fun z => nk (of_decide_eq_true z)
      rcases ih p2 with ⟨h1, h2⟩ | ⟨y, my, h1, h2, h3⟩
      · refine .inl ⟨by rw [ev]; exact h1, fun y my => ?_⟩
        rcases List.mem_cons.mp my with rfl | my
        · exact fun z => h z.symm
        · exact h2 y my
      · refine .inr ⟨y, List.mem_cons_of_mem _ my, h1, by rw [ev]; exact h2, fun z mz ez => ?_⟩
        rcases List.mem_cons.mp mz with rfl | mz
        · exact absurd ez.symm h
        · exact h3 z mz ez
/-! ### words of events: shorter ones first, then by their events -/
abbrev Ev := Str × Str
abbrev Wd := List Ev
def wLt : Wd → Wd → Prop
  | [], [] => False
  | [], _ :: _ => True
  | _ :: _, [] => False
  | x :: v, y :: w => evLt x y ∨ x = y ∧ wLt v w
theorem wLt_irr : ∀ v : Wd, ¬ wLt v v
  | [] => id
  | x :: v => fun h => h.elim (evLt_irrefl x) fun z => wLt_irr v z.2
theorem wLt_trans : ∀ {u v w : Wd}, wLt u v → wLt v w → wLt u w
  | [], [], _, h, _ => absurd h id
  | [], _ :: _, [], _, g => absurd g id
  | [], _ :: _, _ :: _, _, _ => trivial
  | _ :: _, [], _, h, _ => absurd h id
  | _ :: _, _ :: _, [], _, g => absurd g id
  | x :: u, y :: v, z :: w, h, g => by
    rcases h with h | ⟨rfl, h⟩
    · rcases g with g | ⟨rfl, g⟩
      · exact .inl (evLt_trans h g)
      · exact .inl h
    · rcases g with g | ⟨rfl, g⟩
      · exact .inl g
      · exact .inr ⟨rfl, wLt_trans h g⟩
theorem wLt_tri : ∀ v w : Wd, ¬ wLt v w → ¬ wLt w v → v = w
  | [], [], _, _ => rfl
  | [], _ :: _, h, _ => absurd trivial h
  | _ :: _, [], _, g => absurd trivial g
  | x :: v, y :: w, h, g => by
    have e : x = y := evLt_tri x y (fun z => h (.inl z)) fun z => g (.inl z)
    subst e
    rw [wLt_tri v w (fun z => h (.inr ⟨rfl, z⟩)) fun z => g (.inr ⟨rfl, z⟩)]
theorem wLt_snoc : ∀ {v w : Wd} (e f : Ev), v.length = w.length → wLt v w → wLt (v ++ [e]) (w ++ [f])
  | [], [], _, _, _, h => absurd h id
  | [], _ :: _, _, _, l, _ => absurd l (by simp)
  | _ :: _, [], _, _, l, _ => absurd l (by simp)
  | x :: v, y :: w, e, f, l, h => by
    rcases h with h | ⟨rfl, h⟩
    · exact .inl h
    · exact .inr ⟨rfl, wLt_snoc e f (by simpa using l) h⟩
theorem wLt_end : ∀ (v : Wd) {e f : Ev}, evLt e f → wLt (v ++ [e]) (v ++ [f])
  | [], _, _, h => .inl h
  | _ :: v, _, _, h => .inr ⟨rfl, wLt_end v h⟩
def sl (v w : Wd) : Prop := v.length < w.length ∨ v.length = w.length ∧ wLt v w
def sle (v w : Wd) : Prop := v = w ∨ sl v w
theorem sl_irr (v : Wd) : ¬ sl v v := fun h => h.elim (Nat.lt_irrefl _) fun z => wLt_irr v z.2
theorem sl_trans {u v w : Wd} (h : sl u v) (g : sl v w) : sl u w := by
  rcases h with h | ⟨h1, h2⟩
  · rcases g with g | ⟨g, _⟩
    · exact .inl (Nat.lt_trans h g)
    · exact .inl (by omega)
  · rcases g with g | ⟨g1, g2⟩
    · exact .inl (by omega)
    · exact .inr ⟨h1.trans g1, wLt_trans h2 g2⟩
theorem sl_tri (v w : Wd) : sl v w ∨ v = w ∨ sl w v := by
  rcases Nat.lt_trichotomy v.length w.length with h | h | h
  · exact .inl (.inl h)
  · by_cases a : wLt v w
    · exact .inl (.inr ⟨h, a⟩)
    · by_cases b : wLt w v
      · exact .inr (.inr (.inr ⟨h.symm, b⟩))
      · exact .inr (.inl (wLt_tri v w a b))
  · exact .inr (.inr (.inl h))
theorem sle_trans {u v w : Wd} (h : sle u v) (g : sle v w) : sle u w := by
  rcases h with rfl | h
  · exact g
  · rcases g with rfl | g
    · exact .inr h
    · exact .inr (sl_trans h g)
theorem sle_sl {u v w : Wd} (h : sle u v) (g : sl v w) : sl u w := by
  rcases h with rfl | h
  · exact g
  · exact sl_trans h g
theorem sle_anti {v w : Wd} (h : sle v w) (g : sle w v) : v = w := by
  rcases h with rfl | h
  · rfl
  · rcases g with rfl | g
    · rfl
    · exact absurd (sl_trans h g) (sl_irr _)
theorem sl_snoc {v w : Wd} (e f : Ev) (h : sl v w) : sl (v ++ [e]) (w ++ [f]) := by
  rcases h with h | ⟨h1, h2⟩
  · exact .inl (by rw [List.length_append, List.length_append]; simpa using h)
  · exact .inr ⟨by rw [List.length_append, List.length_append, h1]; rfl, wLt_snoc e f h1 h2⟩
theorem sle_snoc {v w : Wd} (e : Ev) (h : sle v w) : sle (v ++ [e]) (w ++ [e]) := by
  rcases h with rfl | h
  · exact .inl rfl
  · exact .inr (sl_snoc e e h)
theorem sl_end (v : Wd) {e f : Ev} (h : evLt e f) : sl (v ++ [e]) (v ++ [f]) := .inr ⟨by rw [List.length_append, List.length_append]; rfl, wLt_end v h⟩
theorem sl_more (v : Wd) (e : Ev) : sl v (v ++ [e]) := .inl (by rw [List.length_append]; exact Nat.lt_succ_self _)
theorem sle_len {v w : Wd} (h : sle v w) : v.length ≤ w.length := by
  rcases h with rfl | h | ⟨h, _⟩ <;> omega
/-! ### where a word leads in both -/
inductive RunW (ms ts : List (List Stp)) : Wd → Int → Int → Prop
  | base : RunW ms ts [] 0 0
  | step {w : Wd} {i j : Nat} {s t : List Stp} {x y : Stp} : RunW ms ts w (i : Int) (j : Int) → ms[i]? = some s → ts[j]? = some t → x ∈ s → y ∈ t → evOf x = evOf y → RunW ms ts (w ++ [evOf x]) x.2.2 y.2.2
theorem RunW.swap {ms ts : List (List Stp)} {w : Wd} {i j : Int} (r : RunW ms ts w i j) : RunW ts ms w j i := by
  induction r with
  | base => exact .base
  | step _ e1 e2 mx my ev ih =>
    rw [ev]
    exact .step ih e2 e1 my mx ev.symm
theorem one_row {st : List Stp} (asc : (st.map evOf).Pairwise evLt) {x y : Stp} (mx : x ∈ st) (my : y ∈ st) (e : evOf x = evOf y) : x = y := by
  rcases mv_val asc (evOf x) with ⟨_, h⟩ | ⟨z, _, _, _, u⟩
  · exact absurd rfl (h x mx)
  · rw [u x mx rfl, u y my e]
theorem RunW.one {ms ts : List (List Stp)} (mo : KOk ms) (to : KOk ts) {w : Wd} {i j : Int} (r : RunW ms ts w i j) : ∀ {i' j' : Int}, RunW ms ts w i' j' → i = i' ∧ j = j' := by
  induction r with
  | base =>
    intro i' j' r'
    generalize hv : ([] : Wd) = v at r'
    cases r' with
    | base => exact ⟨rfl, rfl⟩
    | step => exact absurd hv (by simp)
  | @step w i j s t x y _ e1 e2 mx my ev ih =>
    intro i' j' r'
    generalize hv : w ++ [evOf x] = v at r'
    cases r' with
    | base => exact absurd hv (by simp)
    | @step w2 i2 j2 s2 t2 x2 y2 r2 f1 f2 mx2 my2 ev2 =>
      obtain ⟨hw, hx⟩ := List.append_inj' hv rfl
      subst hw
      have ex : evOf x = evOf x2 := List.cons.inj hx |>.1
      obtain ⟨a, b⟩ := ih r2
      have a2 : i = i2 := by omega
      have b2 : j = j2 := by omega
      subst a2
      subst b2
      rw [e1] at f1
      rw [e2] at f2
      cases f1
      cases f2
      have q1 := one_row (mo.all s (List.mem_of_getElem? e1)).asc mx mx2 ex
      have q2 := one_row (to.all t (List.mem_of_getElem? e2)).asc my my2 (by rw [← ev, ex, ev2])
      subst q1
      subst q2
      exact ⟨rfl, rfl⟩
/-- the first leads by the word, the second does not at its last event -/
def BeyW (ms ts : List (List Stp)) (w : Wd) : Prop := ∃ (v : Wd) (i j : Nat) (s t : List Stp) (x : Stp), RunW ms ts v (i : Int) (j : Int) ∧ ms[i]? = some s ∧ ts[j]? = some t ∧ x ∈ s ∧ (∀ y ∈ t, evOf x ≠ evOf y) ∧ w = v ++ [evOf x]
def SepW (ms ts : List (List Stp)) (w : Wd) : Prop := BeyW ms ts w ∨ BeyW ts ms w
/-- the least word of a sort, if there is one -/
def LeastOf (P : Wd → Prop) : Option Wd → Prop
  | none => ∀ w, ¬ P w
  | some r => P r ∧ ∀ w, P w → sle r w
theorem LeastOf.one {P : Wd → Prop} {a b : Option Wd} (h : LeastOf P a) (g : LeastOf P b) : a = b := by
  cases a with
  | none =>
    cases b with
    | none => rfl
    | some r => exact absurd g.1 (h r)
  | some r =>
    cases b with
    | none => exact absurd h.1 (g r)
    | some q => rw [sle_anti (h.2 q g.1) (g.2 r h.1)]
theorem LeastOf.swap {ms ts : List (List Stp)} {a : Option Wd} (h : LeastOf (SepW ms ts) a) : LeastOf (SepW ts ms) a := by
  cases a with
  | none => exact fun w z => h w z.symm
  | some r => exact ⟨h.1.symm, fun w z => h.2 w z.symm⟩
theorem BeyW.self {ss : List (List Stp)} (so : KOk ss) {w : Wd} : ¬ BeyW ss ss w := by
  have all : ∀ w i j, RunW ss ss w i j → i = j := by
    intro w i j r
    induction r with
    | base => rfl
    | @step w i j s t x y _ e1 e2 mx my ev ih =>
      have ij : i = j := by omega
      subst ij
      rw [e1] at e2
      cases e2
      rw [one_row (so.all s (List.mem_of_getElem? e1)).asc mx my ev]
  rintro ⟨v, i, j, s, t, x, r, e1, e2, mx, n, _⟩
  have ij : i = j := by have := all _ _ _ r; omega
  subst ij
  rw [e1] at e2
  cases e2
  exact n x mx rfl
abbrev IP := Int × Int
def pK (q : IP) : List L2.Key := [.inl q.1, .inl q.2]
theorem pK_inj {q r : IP} (h : pK q = pK r) : q = r := by
  have h1 := Sum.inl.inj (List.cons.inj h).1
  have h2 := Sum.inl.inj (List.cons.inj (List.cons.inj h).2).1
  exact Prod.ext h1 h2
def PIn2 (n m : Nat) (q : IP) : Prop := (0 ≤ q.1 ∧ q.1 < (n : Int)) ∧ 0 ≤ q.2 ∧ q.2 < (m : Int)
theorem pairs_most2 {ps : List IP} {n m : Nat} (nd : ps.Nodup) (h : ∀ q ∈ ps, PIn2 n m q) : ps.length ≤ n * m := by
  have z := nodup_most ps ((List.range n).flatMap fun (a : Nat) => (List.range m).map fun (b : Nat) => (((a : Int), (b : Int)) : IP)) nd fun q hq => by
    obtain ⟨⟨a0, a1⟩, b0, b1⟩ := h q hq
    refine List.mem_flatMap.mpr ⟨q.1.toNat, List.mem_range.mpr (by omega), List.mem_map.mpr ⟨q.2.toNat, List.mem_range.mpr (by omega), ?_⟩⟩
    rw [Int.toNat_of_nonneg a0, Int.toNat_of_nonneg b0]
  have len : ((List.range n).flatMap fun (a : Nat) => (List.range m).map fun (b : Nat) => (((a : Int), (b : Int)) : IP)).length = n * m := by
    have gen : ∀ (l : List Nat) (c : Nat), (l.map fun _ => c).sum = l.length * c := by
      intro l c
      induction l with
      | nil => simp
      | cons a l ih =>
        rw [List.map_cons, List.sum_cons, ih, List.length_cons, Nat.succ_mul, Nat.add_comm]
    rw [List.length_flatMap]
    simp only [List.length_map, List.length_range]
    rw [gen, List.length_range]
  rwa [len] at z
/-! ### a queue of pairs, each with the least word that leads there -/
abbrev WP := Wd × IP
/-- what a pair leads to is in the queue, by no greater word -/
def ShutW (ms ts : List (List Stp)) (all : List WP) (q : WP) : Prop := ∀ (i j : Nat) (s t : List Stp), q.2 = ((i : Int), (j : Int)) → ms[i]? = some s → ts[j]? = some t → ∀ x ∈ s, ∀ y ∈ t, evOf x = evOf y → ∃ r ∈ all, r.2 = ((x.2.2, y.2.2) : IP) ∧ sle r.1 (q.1 ++ [evOf x])
theorem ShutW.more {ms ts : List (List Stp)} {all all' : List WP} {q : WP} (h : ShutW ms ts all q) (s : ∀ r ∈ all, r ∈ all') : ShutW ms ts all' q := fun i j s1 t e e1 e2 x mx y my ev => by
  obtain ⟨r, mr, h1, h2⟩ := h i j s1 t e e1 e2 x mx y my ev
  exact ⟨r, s r mr, h1, h2⟩
structure Qu (ms ts : List (List Stp)) (fs : List WP) (at_ : Nat) : Prop where
  nd : (fs.map Prod.snd).Nodup
  inn : ∀ q ∈ fs, PIn2 ms.length ts.length q.2
  sub : (([], (0, 0)) : WP) ∈ fs
  rch : ∀ q ∈ fs, RunW ms ts q.1 q.2.1 q.2.2
  asc : fs.Pairwise fun a b => sl a.1 b.1
  len : ∀ (k : Nat) (q : WP), fs[k]? = some q → q.1.length ≤ k
  le : at_ ≤ fs.length
  shut : ∀ (k : Nat) (q : WP), k < at_ → fs[k]? = some q → ShutW ms ts fs q
  hi : ∀ r ∈ fs, ∀ q, fs[at_]? = some q → ∀ e : Ev, sl r.1 (q.1 ++ [e])
theorem Qu.most {ms ts : List (List Stp)} {fs : List WP} {a : Nat} (F : Qu ms ts fs a) (mo : KOk ms) (to : KOk ts) : fs.length ≤ 1600 := by
  have z := pairs_most2 F.nd fun q m => by
    obtain ⟨r, mr, e⟩ := List.mem_map.mp m
    rw [← e]
    exact F.inn r mr
  rw [List.length_map] at z
  exact Nat.le_trans z (Nat.mul_le_mul mo.most to.most)
theorem Qu.most2 {ms ts : List (List Stp)} {fs : List WP} {a : Nat} (F : Qu ms ts fs a) : fs.length ≤ ms.length * ts.length := by
  have z := pairs_most2 F.nd fun q m => by
    obtain ⟨r, mr, e⟩ := List.mem_map.mp m
    rw [← e]
    exact F.inn r mr
  rwa [List.length_map] at z
theorem Qu.start {ms ts : List (List Stp)} (mo : KOk ms) (to : KOk ts) : Qu ms ts [([], (0, 0))] 0 := by
  have one : ∀ q ∈ [(([], (0, 0)) : WP)], q = ([], (0, 0)) := fun q m => List.mem_singleton.mp m
  have m1 := mo.one
  have t1 := to.one
  refine ⟨List.nodup_cons.mpr ⟨List.not_mem_nil, List.nodup_nil⟩, fun q m => ?_, List.mem_cons_self, fun q m => ?_, List.pairwise_cons.mpr ⟨fun _ m => (nomatch m), .nil⟩, fun k q e => ?_, Nat.zero_le _, fun k q lt _ => absurd lt (Nat.not_lt_zero _), fun r m q e f => ?_⟩
  · rw [one q m]
    exact ⟨⟨Int.le_refl _, by show (0 : Int) < _; omega⟩, Int.le_refl _, by show (0 : Int) < _; omega⟩
  · rw [one q m]
    exact .base
  · rw [one q (List.mem_of_getElem? e)]
    exact Nat.zero_le _
  · rw [one r m, one q (List.mem_of_getElem? e)]
    exact sl_more [] f
/-- whatever a word leads to is in the queue, or the word is not less than the first that is not yet looked at -/
theorem Qu.cover {ms ts : List (List Stp)} {fs : List WP} {a : Nat} (F : Qu ms ts fs a) {w : Wd} {i j : Int} (r : RunW ms ts w i j) : (∃ q ∈ fs, q.2 = ((i, j) : IP) ∧ sle q.1 w) ∨ ∃ q, fs[a]? = some q ∧ sle q.1 w := by
  induction r with
  | base => exact .inl ⟨_, F.sub, rfl, .inl rfl⟩
  | @step w i j s t x y _ e1 e2 mx my ev ih =>
    rcases ih with ⟨q, mq, e, le⟩ | ⟨q, e, le⟩
    · obtain ⟨k, hk⟩ := List.mem_iff_getElem?.mp mq
      rcases Nat.lt_or_ge k a with lt | ge
      · obtain ⟨r, mr, h1, h2⟩ := F.shut k q lt hk i j s t e e1 e2 x mx y my ev
        exact .inl ⟨r, mr, h1, sle_trans h2 (sle_snoc _ le)⟩
      · have lk := (List.getElem?_eq_some_iff.mp hk).1
        have ea : fs[a]? = some (fs[a]'(by omega)) := List.getElem?_eq_getElem _
        refine .inr ⟨_, ea, sle_trans ?_ (sle_trans le (.inr (sl_more _ _)))⟩
        rcases Nat.eq_or_lt_of_le ge with e3 | lt2
        · subst e3
          rw [hk] at ea
          rw [← Option.some.inj ea]
          exact .inl rfl
        · have z := List.pairwise_iff_getElem.mp F.asc a k (by omega) lk lt2
          rw [(List.getElem?_eq_some_iff.mp hk).2] at z
          exact .inr z
    · exact .inr ⟨q, e, sle_trans le (.inr (sl_more _ _))⟩
theorem Qu.in_ {ms ts : List (List Stp)} {fs : List WP} (F : Qu ms ts fs fs.length) {w : Wd} {i j : Int} (r : RunW ms ts w i j) : ∃ q ∈ fs, q.2 = ((i, j) : IP) ∧ sle q.1 w := by
  rcases F.cover r with h | ⟨q, e, _⟩
  · exact h
  · rw [List.getElem?_eq_none (Nat.le_refl _)] at e
    cases e
/-- nothing beyond at what is looked through -/
def NoB (ms ts : List (List Stp)) (fs : List WP) (at_ : Nat) : Prop := ∀ (k : Nat) (q : WP), k < at_ → fs[k]? = some q → ∀ (i j : Nat) (s t : List Stp), q.2 = ((i : Int), (j : Int)) → ms[i]? = some s → ts[j]? = some t → ∀ x ∈ s, ∃ y ∈ t, evOf x = evOf y
theorem Qu.none_ {ms ts : List (List Stp)} {fs : List WP} (F : Qu ms ts fs fs.length) (N : NoB ms ts fs fs.length) : LeastOf (BeyW ms ts) none := by
  rintro w ⟨v, i, j, s, t, x, r, e1, e2, mx, n, _⟩
  obtain ⟨q, mq, e, _⟩ := F.in_ r
  obtain ⟨k, hk⟩ := List.mem_iff_getElem?.mp mq
  obtain ⟨y, my, ev⟩ := N k q (List.getElem?_eq_some_iff.mp hk).1 hk i j s t e e1 e2 x mx
  exact n y my ev
/-- while the steps of one pair are looked through -/
structure Mi (ms ts : List (List Stp)) (fs : List WP) (at_ : Nat) (q0 : WP) (t : List Stp) (done : List Stp) : Prop where
  nd : (fs.map Prod.snd).Nodup
  inn : ∀ q ∈ fs, PIn2 ms.length ts.length q.2
  sub : (([], (0, 0)) : WP) ∈ fs
  rch : ∀ q ∈ fs, RunW ms ts q.1 q.2.1 q.2.2
  asc : fs.Pairwise fun a b => sl a.1 b.1
  len : ∀ (k : Nat) (q : WP), fs[k]? = some q → q.1.length ≤ k
  here : fs[at_]? = some q0
  shut : ∀ (k : Nat) (q : WP), k < at_ → fs[k]? = some q → ShutW ms ts fs q
  did : ∀ x ∈ done, ∀ y ∈ t, evOf x = evOf y → ∃ r ∈ fs, r.2 = ((x.2.2, y.2.2) : IP) ∧ sle r.1 (q0.1 ++ [evOf x])
  hi : ∀ r ∈ fs, (∀ e : Ev, sl r.1 (q0.1 ++ [e])) ∨ ∃ x ∈ done, r.1 = q0.1 ++ [evOf x]
theorem Qu.mid {ms ts : List (List Stp)} {fs : List WP} {a : Nat} {q0 : WP} {t : List Stp} (F : Qu ms ts fs a) (e : fs[a]? = some q0) : Mi ms ts fs a q0 t [] :=
  ⟨F.nd, F.inn, F.sub, F.rch, F.asc, F.len, e, F.shut, fun x m => (nomatch m), fun r m => .inl (F.hi r m q0 e)⟩
theorem Mi.lt {ms ts : List (List Stp)} {fs : List WP} {a : Nat} {q0 : WP} {t d : List Stp} (M : Mi ms ts fs a q0 t d) : a < fs.length := (List.getElem?_eq_some_iff.mp M.here).1
theorem Mi.most {ms ts : List (List Stp)} {fs : List WP} {a : Nat} {q0 : WP} {t d : List Stp} (F : Mi ms ts fs a q0 t d) (mo : KOk ms) (to : KOk ts) : fs.length ≤ 1600 := by
  have z := pairs_most2 F.nd fun q m => by
    obtain ⟨r, mr, e⟩ := List.mem_map.mp m
    rw [← e]
    exact F.inn r mr
  rw [List.length_map] at z
  exact Nat.le_trans z (Nat.mul_le_mul mo.most to.most)
/-- a step of which the second has none -/
theorem Mi.pass {ms ts : List (List Stp)} {fs : List WP} {a : Nat} {q0 : WP} {t d : List Stp} {x : Stp} (M : Mi ms ts fs a q0 t d) (h : ∀ y ∈ t, evOf x = evOf y → ∃ r ∈ fs, r.2 = ((x.2.2, y.2.2) : IP) ∧ sle r.1 (q0.1 ++ [evOf x])) : Mi ms ts fs a q0 t (d ++ [x]) :=
  ⟨M.nd, M.inn, M.sub, M.rch, M.asc, M.len, M.here, M.shut, fun z mz y my ev => by
    rcases List.mem_append.mp mz with m | m
    · exact M.did z m y my ev
    · rw [List.mem_singleton.mp m] at ev ⊢
      exact h y my ev, fun r m => (M.hi r m).imp id fun ⟨x, mx, e⟩ => ⟨x, List.mem_append_left _ mx, e⟩⟩
/-- every word of the queue is less than one that goes on by a later step -/
theorem Mi.less {ms ts : List (List Stp)} {fs : List WP} {a : Nat} {q0 : WP} {t d : List Stp} {e : Ev} (M : Mi ms ts fs a q0 t d) (up : ∀ z ∈ d, evLt (evOf z) e) : ∀ r ∈ fs, sl r.1 (q0.1 ++ [e]) := fun r m => by
  rcases M.hi r m with h | ⟨x, mx, eq⟩
  · exact h e
  · rw [eq]
    exact sl_end _ (up x mx)
theorem Mi.skip {ms ts : List (List Stp)} {fs : List WP} {a : Nat} {q0 : WP} {t d : List Stp} {x y : Stp} (M : Mi ms ts fs a q0 t d) (up : ∀ z ∈ d, evLt (evOf z) (evOf x)) (u : ∀ z ∈ t, evOf x = evOf z → z = y) (m : ((x.2.2, y.2.2) : IP) ∈ fs.map Prod.snd) : Mi ms ts fs a q0 t (d ++ [x]) :=
  M.pass fun z mz ev => by
    rw [u z mz ev]
    obtain ⟨r, mr, e⟩ := List.mem_map.mp m
    exact ⟨r, mr, e, .inr (M.less up r mr)⟩
theorem Mi.put {ms ts : List (List Stp)} {fs : List WP} {a i j : Nat} {q0 : WP} {s t d : List Stp} {x y : Stp} (M : Mi ms ts fs a q0 t d) (up : ∀ z ∈ d, evLt (evOf z) (evOf x)) (my : y ∈ t) (ev : evOf x = evOf y) (u : ∀ z ∈ t, evOf x = evOf z → z = y) (n : ((x.2.2, y.2.2) : IP) ∉ fs.map Prod.snd) (e0 : q0.2 = ((i : Int), (j : Int))) (es : ms[i]? = some s) (et : ts[j]? = some t) (mx : x ∈ s) (ox : StpOk ms.length x) (oy : StpOk ts.length y) :
    Mi ms ts (fs ++ [(q0.1 ++ [evOf x], (x.2.2, y.2.2))]) a q0 t (d ++ [x]) := by
  have lt := M.lt
  have add : ∀ r ∈ fs, r ∈ fs ++ [((q0.1 ++ [evOf x], (x.2.2, y.2.2)) : WP)] := fun r m => List.mem_append_left _ m
  have new : ∀ r : WP, r ∈ fs ++ [((q0.1 ++ [evOf x], (x.2.2, y.2.2)) : WP)] → r ∈ fs ∨ r = (q0.1 ++ [evOf x], (x.2.2, y.2.2)) := fun r m => (List.mem_append.mp m).imp id List.mem_singleton.mp
  have r0 := M.rch q0 (List.mem_of_getElem? M.here)
  have h1 : q0.2.1 = (i : Int) := congrArg Prod.fst e0
  have h2 : q0.2.2 = (j : Int) := congrArg Prod.snd e0
  rw [h1, h2] at r0
  refine ⟨?_, fun q m => ?_, add _ M.sub, fun q m => ?_, ?_, fun k q e => ?_, by rw [List.getElem?_append_left lt]; exact M.here, fun k q l ek => ?_, fun z mz y' my' ev' => ?_, fun r m => ?_⟩
  · rw [List.map_append]
    exact List.nodup_append.mpr ⟨M.nd, List.nodup_cons.mpr ⟨List.not_mem_nil, List.nodup_nil⟩, fun p hp q hq e => n (by have z : q = (x.2.2, y.2.2) := List.mem_singleton.mp hq; rw [← z, ← e]; exact hp)⟩
  · rcases new q m with z | rfl
    · exact M.inn q z
    · exact ⟨⟨ox.lo, ox.hi⟩, oy.lo, oy.hi⟩
  · rcases new q m with z | rfl
    · exact M.rch q z
    · exact .step r0 es et mx my ev
  · exact List.pairwise_append.mpr ⟨M.asc, List.pairwise_cons.mpr ⟨fun _ m => (nomatch m), .nil⟩, fun p hp q hq => by
      rw [List.mem_singleton.mp hq]
      exact M.less up p hp⟩
  · rcases Nat.lt_or_ge k fs.length with l | g
    · rw [List.getElem?_append_left l] at e
      exact M.len k q e
    · rw [List.getElem?_append_right g] at e
      rw [List.mem_singleton.mp (List.mem_of_getElem? e)]
      have := M.len _ _ M.here
      rw [List.length_append]
      show q0.1.length + 1 ≤ k
      omega
  · rw [List.getElem?_append_left (by omega)] at ek
    exact (M.shut k q l ek).more add
  · rcases List.mem_append.mp mz with m | m
    · obtain ⟨r, mr, h3, h4⟩ := M.did z m y' my' ev'
      exact ⟨r, add r mr, h3, h4⟩
    · have zx := List.mem_singleton.mp m
      subst zx
      rw [u y' my' ev']
      exact ⟨_, List.mem_append_right _ List.mem_cons_self, rfl, .inl rfl⟩
  · rcases new r m with z | rfl
    · exact (M.hi r z).imp id fun ⟨x, mx, e⟩ => ⟨x, List.mem_append_left _ mx, e⟩
    · exact .inr ⟨x, List.mem_append_right _ List.mem_cons_self, rfl⟩
theorem Mi.fnd {ms ts : List (List Stp)} {fs : List WP} {a i j : Nat} {q0 : WP} {s t : List Stp} (M : Mi ms ts fs a q0 t s) (e0 : q0.2 = ((i : Int), (j : Int))) (es : ms[i]? = some s) (et : ts[j]? = some t) : Qu ms ts fs (a + 1) := by
  refine ⟨M.nd, M.inn, M.sub, M.rch, M.asc, M.len, M.lt, fun k q lt ek => ?_, fun r m q e f => ?_⟩
  · rcases Nat.lt_or_ge k a with l | g
    · exact M.shut k q l ek
    · have e : k = a := by omega
      rw [e, M.here] at ek
      cases ek
      intro i' j' s' t' eq e1 e2 x mx y my ev
      rw [e0] at eq
      have h1 : i = i' := by have := congrArg Prod.fst eq; dsimp only at this; omega
      have h2 : j = j' := by have := congrArg Prod.snd eq; dsimp only at this; omega
      subst h1
      subst h2
      rw [es] at e1
      rw [et] at e2
      cases e1
      cases e2
      exact M.did x mx y my ev
  · have l2 := (List.getElem?_eq_some_iff.mp e).1
    have lt := M.lt
    have z := List.pairwise_iff_getElem.mp M.asc a (a + 1) lt l2 (Nat.lt_succ_self _)
    rw [(List.getElem?_eq_some_iff.mp e).2, (List.getElem?_eq_some_iff.mp M.here).2] at z
    rcases M.hi r m with h | ⟨x, mx, eq⟩
    · exact sl_trans (h f) (sl_snoc f f z)
    · rw [eq]
      exact sl_snoc _ f z
/-- the first event beyond is the end of the least word beyond -/
theorem Mi.least {ms ts : List (List Stp)} {fs : List WP} {a i j : Nat} {q0 : WP} {s t : List Stp} {x : Stp} (mo : KOk ms) (to : KOk ts) (F : Qu ms ts fs a) (e : fs[a]? = some q0) (N : NoB ms ts fs a) (e0 : q0.2 = ((i : Int), (j : Int))) (es : ms[i]? = some s) (et : ts[j]? = some t) (mx : x ∈ s) (n : ∀ y ∈ t, evOf x ≠ evOf y)
    (first : ∀ z ∈ s, evLt (evOf z) (evOf x) → ∃ y ∈ t, evOf z = evOf y) : LeastOf (BeyW ms ts) (some (q0.1 ++ [evOf x])) := by
  have r0 := F.rch q0 (List.mem_of_getElem? e)
  have h1 : q0.2.1 = (i : Int) := congrArg Prod.fst e0
  have h2 : q0.2.2 = (j : Int) := congrArg Prod.snd e0
  rw [h1, h2] at r0
  refine ⟨⟨_, i, j, s, t, x, r0, es, et, mx, n, rfl⟩, ?_⟩
  rintro w ⟨v, i', j', s', t', x', r, e1, e2, mx', n', rfl⟩
  have main : sle q0.1 v := by
    rcases F.cover r with ⟨q, mq, eq, le⟩ | ⟨q, eq, le⟩
    · obtain ⟨k, hk⟩ := List.mem_iff_getElem?.mp mq
      rcases Nat.lt_or_ge k a with l | g
      · obtain ⟨y, my, ev⟩ := N k q l hk i' j' s' t' eq e1 e2 x' mx'
        exact absurd ev (n' y my)
      · refine sle_trans ?_ le
        rcases Nat.eq_or_lt_of_le g with e3 | l2
        · subst e3
          rw [hk] at e
          rw [Option.some.inj e]
          exact .inl rfl
        · have z := List.pairwise_iff_getElem.mp F.asc a k (List.getElem?_eq_some_iff.mp e).1 (List.getElem?_eq_some_iff.mp hk).1 l2
          rw [(List.getElem?_eq_some_iff.mp hk).2, (List.getElem?_eq_some_iff.mp e).2] at z
          exact .inr z
    · rw [e] at eq
      rw [Option.some.inj eq]
      exact le
  rcases main with rfl | lt
  · obtain ⟨a1, a2⟩ := r0.one mo to r
    have b1 : i = i' := by omega
    have b2 : j = j' := by omega
    subst b1
    subst b2
    rw [es] at e1
    rw [et] at e2
    cases e1
    cases e2
    by_cases ee : evOf x = evOf x'
    · rw [ee]
      exact .inl rfl
    · by_cases l : evLt (evOf x) (evOf x')
      · exact .inr (sl_end _ l)
      · have l2 : evLt (evOf x') (evOf x) := Classical.byContradiction fun z => ee (evLt_tri _ _ l z)
        obtain ⟨y, my, ev⟩ := first x' mx' l2
        exact absurd ev (n' y my)
  · exact .inr (sl_snoc _ _ lt)
end My

-- ===== K7N =====
set_option Elab.async false
set_option linter.all false
set_option maxRecDepth 100000
set_option maxHeartbeats 4000000
namespace My
open PySem L2 PyProof.Rows PySem.Spec Kd TL
/-! ### the words of a queue, each in a tuple -/
def wordD (w : Wd) : PyData := .tuple (w.map fun e => tD (evK e))
theorem TDs.size {H : Hp} : ∀ {vs : List V} {ds : List PyData}, TDs H vs ds → vs.length = ds.length
  | _, _, .nil => rfl
  | _, _, .cons _ h => by rw [List.length_cons, List.length_cons, h.size]
theorem evTD {H : Hp} {q : Addr} {e : Ev} (h : H q = some (.tup ((evK e).map kV))) : TD H (.ref q) (tD (evK e)) := .tup h (.cons (.str e.1) (.cons (.str e.2) .nil))
theorem wordTD {H : Hp} {a : Addr} {w : Wd} (h : TD H (.ref a) (wordD w)) : ∃ xs, H a = some (.tup xs) ∧ TDs H xs (w.map fun e => tD (evK e)) ∧ xs.length = w.length := by
  obtain ⟨xs, h1, h2⟩ := h.tup_of
  exact ⟨xs, h1, h2, by rw [h2.size, List.length_map]⟩
theorem wordTD_snoc {H : Hp} {r q : Addr} {xs : List V} {w : Wd} {e : Ev} (hr : H r = some (.tup (xs ++ [.ref q]))) (hx : TDs H xs (w.map fun e => tD (evK e))) (hq : H q = some (.tup ((evK e).map kV))) : TD H (.ref r) (wordD (w ++ [e])) := by
  unfold wordD
  rw [List.map_append]
  exact .tup hr (TDs.snoc (evTD hq) hx)
theorem valV_in {kvs : List (List L2.Key × V)} {fs : List IP} (h : kvs.map Prod.fst = fs.map pK) (q : IP) : (valV kvs (pK q)).isSome = decide (q ∈ fs) := by
  unfold valV
  rw [Option.isSome_map]
  refine Bool.eq_iff_iff.mpr ?_
  rw [List.find?_isSome, decide_eq_true_eq]
  constructor
  · rintro ⟨p, m, e⟩
    have mp : p.1 ∈ fs.map pK := by rw [← h]; exact List.mem_map.mpr ⟨p, m, rfl⟩
    obtain ⟨r, mr, er⟩ := List.mem_map.mp mp
    have e2 : p.1 = pK q := of_decide_eq_true e
    rw [← er] at e2
    rw [← pK_inj e2]
    exact mr
  · intro m
    have mp : pK q ∈ kvs.map Prod.fst := by rw [h]; exact List.mem_map.mpr ⟨q, m, rfl⟩
    obtain ⟨p, m2, e⟩ := List.mem_map.mp mp
    exact ⟨p, m2, decide_eq_true e⟩
theorem none_of {H H' : Hp} {a : Addr} (s : Same H H') (h : H' a = none) : H a = none := by
  cases e : H a with
  | none => rfl
  | some o => rw [s _ _ e] at h; cases h
/-- the pairs of a list, each in a tuple -/
def PairsAt (H : Hp) (as : List Addr) (fs : List IP) : Prop := as.length = fs.length ∧ ∀ (k : Nat) (a : Addr) (q : IP), as[k]? = some a → fs[k]? = some q → H a = some (.tup [.int q.1, .int q.2])
theorem PairsAt.to {H H' : Hp} {as : List Addr} {fs : List IP} (h : PairsAt H as fs) (t : Tup H H') : PairsAt H' as fs := ⟨h.1, fun k a q e1 e2 => t a _ (h.2 k a q e1 e2)⟩
theorem PairsAt.put {H : Hp} {as : List Addr} {fs : List IP} (h : PairsAt H as fs) {a : Addr} {q : IP} (ha : H a = some (.tup [.int q.1, .int q.2])) : PairsAt H (as ++ [a]) (fs ++ [q]) := by
  refine ⟨by rw [List.length_append, List.length_append, h.1]; rfl, fun k b r e1 e2 => ?_⟩
  rcases Nat.lt_or_ge k as.length with lt | ge
  · rw [List.getElem?_append_left lt] at e1
    rw [List.getElem?_append_left (by rw [← h.1]; exact lt)] at e2
    exact h.2 k b r e1 e2
  · rw [List.getElem?_append_right ge] at e1
    rw [List.getElem?_append_right (by rw [← h.1]; exact ge)] at e2
    have z1 := List.mem_of_getElem? e1
    have z2 := List.mem_of_getElem? e2
    rw [List.mem_singleton.mp z1, List.mem_singleton.mp z2]
    exact ha

/-- the words of the pairs found -/
def PthW (H : Hp) (kvs : List (List L2.Key × V)) (fs : List WP) : Prop := kvs.map Prod.fst = (fs.map Prod.snd).map pK ∧ ∀ (k : Nat) (p : List L2.Key × V) (q : WP), kvs[k]? = some p → fs[k]? = some q → ∃ a : Addr, p.2 = .ref a ∧ TD H (.ref a) (wordD q.1)
theorem PthW.to {H H' : Hp} {kvs : List (List L2.Key × V)} {fs : List WP} (h : PthW H kvs fs) (t : Tup H H') : PthW H' kvs fs := ⟨h.1, fun k p q e1 e2 => by
  obtain ⟨a, e3, e4⟩ := h.2 k p q e1 e2
  exact ⟨a, e3, e4.to t⟩⟩
theorem PthW.len {H : Hp} {kvs : List (List L2.Key × V)} {fs : List WP} (h : PthW H kvs fs) : kvs.length = fs.length := by
  have z := congrArg List.length h.1
  rwa [List.length_map, List.length_map, List.length_map] at z
theorem PthW.get {H : Hp} {kvs : List (List L2.Key × V)} {fs : List WP} (h : PthW H kvs fs) {k : Nat} {q : WP} (nd : (fs.map Prod.snd).Nodup) (e : fs[k]? = some q) : ∃ a : Addr, valV kvs (pK q.2) = some (.ref a) ∧ TD H (.ref a) (wordD q.1) := by
  have lk : k < fs.length := (List.getElem?_eq_some_iff.mp e).1
  have lk2 : k < kvs.length := by rw [h.len]; exact lk
  obtain ⟨a, e1, e2⟩ := h.2 k kvs[k] q (List.getElem?_eq_getElem lk2) e
  refine ⟨a, ?_, e2⟩
  have ek : kvs[k].1 = pK q.2 := by
    have z : (kvs.map Prod.fst)[k]? = ((fs.map Prod.snd).map pK)[k]? := by rw [h.1]
    rw [List.getElem?_map, List.getElem?_map, List.getElem?_map, e, List.getElem?_eq_getElem lk2] at z
    exact Option.some.inj z
  have ndk : (kvs.map Prod.fst).Nodup := by
    rw [h.1]
    exact List.Pairwise.map _ (fun a b n z => n (pK_inj z)) nd
  unfold valV
  have f : kvs.find? (fun p => decide (p.1 = pK q.2)) = some kvs[k] := by
    have some_ : (kvs.find? (fun p => decide (p.1 = pK q.2))).isSome := List.find?_isSome.mpr ⟨_, List.getElem_mem lk2, decide_eq_true ek⟩
    obtain ⟨p, hp⟩ := Option.isSome_iff_exists.mp some_
    have pk : p.1 = pK q.2 := of_decide_eq_true (List.find?_some (p := fun p : List L2.Key × V => decide (p.1 = pK q.2)) hp)
    obtain ⟨m, hm⟩ := List.mem_iff_getElem?.mp (List.mem_of_find?_eq_some hp)
    obtain ⟨hm1, hm2⟩ := List.getElem?_eq_some_iff.mp hm
    have mk : m = k := by
      refine (List.getElem_inj (h₀ := by rw [List.length_map]; exact hm1) (h₁ := by rw [List.length_map]; exact lk2) ndk).mp ?_
      rw [List.getElem_map, List.getElem_map, hm2, pk, ek]
    subst mk
    rw [hp, ← hm2]
  rw [f, Option.map_some, e1]
theorem PthW.put {H : Hp} {kvs : List (List L2.Key × V)} {fs : List WP} (h : PthW H kvs fs) {q : WP} {a : Addr} (n : q.2 ∉ fs.map Prod.snd) (ha : TD H (.ref a) (wordD q.1)) : PthW H (putK kvs (pK q.2) (.ref a)) (fs ++ [q]) := by
  have e : putK kvs (pK q.2) (V.ref a) = kvs ++ [(pK q.2, .ref a)] := putK_new fun p m e2 => n (by
    have mp : p.1 ∈ (fs.map Prod.snd).map pK := by rw [← h.1]; exact List.mem_map.mpr ⟨p, m, rfl⟩
    obtain ⟨r, mr, er⟩ := List.mem_map.mp mp
    rw [← er] at e2
    rw [← pK_inj e2]
    exact mr)
  rw [e]
  refine ⟨by rw [List.map_append, List.map_append, List.map_append, h.1]; rfl, fun k p r ek er => ?_⟩
  rcases Nat.lt_or_ge k kvs.length with lt | ge
  · rw [List.getElem?_append_left lt] at ek
    rw [List.getElem?_append_left (by rw [← h.len]; exact lt)] at er
    exact h.2 k p r ek er
  · rw [List.getElem?_append_right ge] at ek
    rw [List.getElem?_append_right (by rw [← h.len]; exact ge)] at er
    have z := List.mem_of_getElem? ek
    have y := List.mem_of_getElem? er
    rw [List.mem_singleton.mp z, List.mem_singleton.mp y]
    exact ⟨a, rfl, ha⟩
theorem NoB.more {ms ts : List (List Stp)} {fs : List WP} {a : Nat} (N : NoB ms ts fs a) (le : a ≤ fs.length) (r : WP) : NoB ms ts (fs ++ [r]) a := fun k q l e => by
  rw [List.getElem?_append_left (by omega)] at e
  exact N k q l e
theorem take_lt {st : List Stp} (asc : (st.map evOf).Pairwise evLt) {g : Nat} {x : Stp} (e : st[g]? = some x) : ∀ z ∈ st.take g, evLt (evOf z) (evOf x) := fun z m => by
  obtain ⟨k, hk⟩ := List.mem_iff_getElem?.mp m
  rw [List.getElem?_take] at hk
  split at hk
  next l =>
    have a1 := (List.getElem?_eq_some_iff.mp hk)
    have a2 := (List.getElem?_eq_some_iff.mp e)
    have w := List.pairwise_iff_getElem.mp (List.pairwise_map.mp asc) k g a1.1 a2.1 l
    rw [a1.2, a2.2] at w
    exact w
  next => cases hk
theorem lt_take {st : List Stp} (asc : (st.map evOf).Pairwise evLt) {g : Nat} {x z : Stp} (e : st[g]? = some x) (m : z ∈ st) (lt : evLt (evOf z) (evOf x)) : z ∈ st.take g := by
  obtain ⟨k, hk⟩ := List.mem_iff_getElem?.mp m
  have a1 := (List.getElem?_eq_some_iff.mp hk)
  have a2 := (List.getElem?_eq_some_iff.mp e)
  rcases Nat.lt_trichotomy k g with l | l | l
  · exact List.mem_iff_getElem?.mpr ⟨k, by rw [List.getElem?_take, if_pos l]; exact hk⟩
  · subst l
    rw [hk] at e
    cases e
    exact absurd lt (evLt_irrefl _)
  · have w := List.pairwise_iff_getElem.mp (List.pairwise_map.mp asc) g k a2.1 a1.1 l
    rw [a1.2, a2.2] at w
    exact absurd (evLt_trans lt w) (evLt_irrefl _)
abbrev sBeyond : Stmt := top 8
def BeyK (ms ts : List (List Stp)) (H : Hp) (Q : VK) : Prop := (∀ H', Same H H' → LeastOf (BeyW ms ts) none → Q .non H') ∧ ∀ (a : Addr) (w : Wd) (H' : Hp), Same H H' → TD H' (.ref a) (wordD w) → w.length ≤ 1600 → LeastOf (BeyW ms ts) (some w) → Q (.ref a) H'
def spBey : Sp := fun vs H Q _ => ∃ (m m' : Addr) (ms ts : List (List Stp)), vs = [.ref m, .int 0, .ref m', .int 0] ∧ MovesAt H m ms ∧ MovesAt H m' ts ∧ KOk ms ∧ KOk ts ∧ BeyK ms ts H Q
theorem moves_rd {H H' : Hp} {m d : Addr} {u : HO} {od : Obj} {ss : List (List Stp)} {j : Nat} {t : List Stp} (hm : MovesAt H m ss) (md : m ≠ d) (keep : ∀ x o, H x = some o → x ≠ d → H' x = some o) (hd : H d = some u) (hd' : H' d = some (.frz od u)) (et : ss[j]? = some t) :
    ∃ (bs : List Addr) (e : Addr), H' m = some (.lst (bs.map V.ref)) ∧ atI (bs.map V.ref) (j : Int) = some (.ref e) ∧ Rd H' e (.dT (t.map mvOf)) := by
  obtain ⟨bs, h1, h2, h3⟩ := hm
  have lj : j < ss.length := (List.getElem?_eq_some_iff.mp et).1
  have eb : bs[j]? = some (bs[j]'(by omega)) := List.getElem?_eq_getElem _
  have he := h3 j _ t eb et
  refine ⟨bs, bs[j]'(by omega), keep _ _ h1 md, atI_nat (by rw [List.getElem?_map, eb]; rfl), ?_⟩
  by_cases ed : bs[j]'(by omega) = d
  · rw [ed] at he ⊢
    rw [hd] at he
    cases he
    exact .inr ⟨od, hd'⟩
  · exact .inl (keep _ _ he ed)
section
variable {P : Program} {w : World} {K : PySem.W.Frag} {mg : Str → Option Value} {base : Heap}
abbrev nBe : List Str := ["mine", "one", "theirs", "other", "pairs", "paths", "at", "here", "there", "path", "event", "goal", "pair"]
theorem scBe : FnScope nBe ["mine", "one", "theirs", "other"] (defScope sBeyond) := ⟨rfl, rfl, rfl, by decide +kernel, rfl, by decide +kernel, by decide +kernel⟩
theorem ok_beyond {f : Addr} {fd : FuncData} (F : Fun K "first_beyond" "first_beyond" sBeyond f fd) (G : Gs mg) : FnOk P w K mg base CX0 1 f fd ["mine", "one", "theirs", "other"] spBey := by
  refine F.ok scBe (fun vs H Q E h => ?_) (fun cdv A outer s H vs Q E hr h => ?_)
  · obtain ⟨m, m', ms, ts, rfl, _⟩ := h
    rfl
  · obtain ⟨m, m', ms, ts, rfl, hm, hmt, mo, to, k1, k2⟩ := h
    have hu := hr.units
    have hu1 : (A.deeper (envOfC "first_beyond" (defScope sBeyond) s.heap.objs.size f cdv)).units + 1 < cLine := by omega
    refine ⟨_, pss_cons (ps_set (i := 4) scBe.nd rfl (Or.inl rfl) (pe_lst (pa_cons (pe_tup (pa_cons (pv 1) (pa_cons (pv 3) pa_nil))) pa_nil)))
      (pss_cons (ps_set (i := 5) scBe.nd rfl (Or.inl rfl) (pe_disp1T hu1 (pe_tup (pa_cons (pv 1) (pa_cons (pv 3) pa_nil))) (pe_tup pa_nil)))
      (pss_cons (ps_set (i := 6) scBe.nd rfl (Or.inl rfl) pe_int)
      (pss_cons (ps_while PassesOwn.never (pt_cmp (pc_lt (pv 6) (pe_callB (r := rLenQ K) call_len_seq (by rfl) G.len PySem.boot_len (pa_cons (pv 4) pa_nil))))
        (pss_cons (ps_asg (pe_ix (r := rIxL K) ix_list (pv 4) (pv 6) (fun _ _ => rfl)) (pg_tup (by rfl) (pgs_cons (pg_name (i := 7) scBe.nd rfl (Or.inl rfl)) (pgs_cons (pg_name (i := 8) scBe.nd rfl (Or.inl rfl)) pgs_nil))))
        (pss_cons (ps_set (i := 9) scBe.nd rfl (Or.inl rfl) (pe_dget hu1 (pv 5) (pe_tup (pa_cons (pv 7) (pa_cons (pv 8) pa_nil))) (fun _ _ => rfl)))
        (pss_cons (ps_lock (ps_for PassesOwn.never rfl (pi_itemsT (pe_ix (r := rIxL K) ix_list (pv 0) (pv 7) (fun _ _ => rfl))) (pg_tup (by rfl) (pgs_cons (pg_name (i := 10) scBe.nd rfl (Or.inl rfl)) (pgs_cons (pg_name (i := 11) scBe.nd rfl (Or.inl rfl)) pgs_nil)))
          (pss_cons (ps_if (pt_cmp (pc_dnotin hu1 (pv 10) (pe_ix (r := rIxL K) ix_list (pv 2) (pv 8) (fun _ _ => rfl)))) (pss_one (ps_ret (pe_op Kd.op_catA (pv 9) (pe_tup (pa_cons (pv 10) pa_nil))))) pss_nil)
          (pss_cons (ps_set (i := 12) scBe.nd rfl (Or.inl rfl) (pe_tup (pa_cons (pv 11) (pa_cons (pe_dget hu1 (pe_ix (r := rIxL K) ix_list (pv 2) (pv 8) (fun _ _ => rfl)) (pv 10) (fun _ _ => rfl)) pa_nil))))
          (pss_one (ps_if (pt_cmp (pc_dnotin hu1 (pv 12) (pv 5))) (pss_cons (ps_dput hu1 (pv 5) (pv 12) (pe_op Kd.op_catA (pv 9) (pe_tup (pa_cons (pv 10) pa_nil))) (by rfl)) (pss_one (ps_expr (pe_bm PySem.F.plainAttrs_list PySem.F.slot_list_append PySem.F.type_list_append mt_append (pv 4) (pa_cons (pv 12) pa_nil))))) pss_nil))))))
        (pss_one (ps_aug (i := 6) scBe.nd rfl (Or.inl rfl) pe_int ip_add))))))
      (pss_one (ps_ret pe_non))))), ?_⟩
    -- the first pair, the first path
    refine ⟨_, rfl, _, rfl, by show 2 ≤ sizeLine; decide, fun q0 hq0 => ⟨by show 1 ≤ sizeLine; decide, fun po hpo => ?_⟩⟩
    have sa := (same_new (o := .tup [V.int 0, .int 0]) hq0).trans (same_new (o := .lst [V.ref q0]) hpo)
    have ap := same_new (o := .lst [V.ref q0]) hpo q0 (.tup [V.int 0, .int 0]) upd_same
    have fpo : H po = none := none_of (same_new (o := .tup [V.int 0, .int 0]) hq0) hpo
    have bpo : (upd (upd H q0 (.tup [V.int 0, .int 0])) po (.lst [V.ref q0])) po = some (.lst [V.ref q0]) := upd_same
    generalize upd (upd H q0 (.tup [V.int 0, .int 0])) po (.lst [V.ref q0]) = H1 at sa ap bpo ⊢
    intro pd hpd
    have sb1 := same_new (o := .dT []) hpd
    refine ⟨_, rfl, _, rfl, by show 2 ≤ sizeLine; decide, fun q1 hq1 => ⟨by show 0 ≤ sizeLine; decide, fun pe hpe => ?_⟩⟩
    have sb2 := sb1.trans (same_new (o := .tup [V.int 0, .int 0]) hq1)
    have sb3 := sb2.trans (same_new (o := .tup []) hpe)
    have e1 : (upd (upd (upd H1 pd (.dT [])) q1 (.tup [V.int 0, .int 0])) pe (.tup [])) pd = some (.dT []) := same_new hpe _ _ (same_new hq1 _ _ upd_same)
    have e2 : (upd (upd (upd H1 pd (.dT [])) q1 (.tup [V.int 0, .int 0])) pe (.tup [])) q1 = some (.tup [V.int 0, .int 0]) := same_new hpe _ _ upd_same
    have e3 : (upd (upd (upd H1 pd (.dT [])) q1 (.tup [V.int 0, .int 0])) pe (.tup [])) pe = some (.tup []) := upd_same
    have fpd : H1 pd = none := hpd
    generalize upd (upd (upd H1 pd (.dT [])) q1 (.tup [V.int 0, .int 0])) pe (.tup []) = H2 at sb3 e1 e2 e3 ⊢
    refine ⟨e1, q1, pK (0, 0), rfl, e2, ?_⟩
    have fpd0 : H pd = none := none_of sa fpd
    have s0 : Same H (upd H2 pd (.dT (putK [] (pK (0, 0)) (.ref pe)))) := fun a o e => by
      rw [upd_ne (ne_of_none e fpd0)]
      exact sb3 _ _ (sa _ _ e)
    have tp0 : Tup H2 (upd H2 pd (.dT (putK [] (pK (0, 0)) (.ref pe)))) := Tup.at_ e1 fun xs z => nomatch z
    have pq : po ≠ pd := ne_of_none bpo fpd
    have b3 : (upd H2 pd (.dT (putK [] (pK (0, 0)) (.ref pe)))) po = some (.lst ([q0].map V.ref)) := by
      rw [upd_ne pq]
      exact sb3 _ _ bpo
    have d3 : (upd H2 pd (.dT (putK [] (pK (0, 0)) (.ref pe)))) pd = some (.dT (putK [] (pK (0, 0)) (.ref pe))) := upd_same
    have P0 : PairsAt (upd H2 pd (.dT (putK [] (pK (0, 0)) (.ref pe)))) [q0] ([(([], (0, 0)) : WP)].map Prod.snd) := ⟨rfl, fun kk a q ea eq => by
      have h1 := List.mem_singleton.mp (List.mem_of_getElem? ea)
      have h2 := List.mem_singleton.mp (List.mem_of_getElem? eq)
      rw [h1, h2]
      exact tp0 _ _ (sb3 _ _ ap)⟩
    have W0 : PthW (upd H2 pd (.dT (putK [] (pK (0, 0)) (.ref pe)))) (putK [] (pK (0, 0)) (.ref pe)) [([], (0, 0))] := by
      have z : PthW (upd H2 pd (.dT (putK [] (pK (0, 0)) (.ref pe)))) [] [] := ⟨rfl, fun kk p q e => nomatch e⟩
      exact z.put (a := pe) (q := ([], (0, 0))) (fun m => nomatch m) (.tup (tp0 _ _ e3) .nil)
    have F0 : Qu ms ts [([], (0, 0))] 0 := Qu.start mo to
    have N0 : NoB ms ts [([], (0, 0))] 0 := fun k q l _ => absurd l (Nat.not_lt_zero _)
    generalize upd H2 pd (.dT (putK [] (pK (0, 0)) (.ref pe))) = H3 at s0 b3 d3 P0 W0 ⊢
    generalize putK [] (pK (0, 0)) (.ref pe) = kv0 at d3 W0
    refine ⟨fun μ σ Hw => ∃ (at_ : Nat) (fs : List WP) (as : List Addr) (kvs : List (List L2.Key × V)) (o7 o8 o9 o10 o11 o12 : Option V), μ = ms.length * ts.length - at_ ∧ σ = [some (.ref m), some (.int 0), some (.ref m'), some (.int 0), some (.ref po), some (.ref pd), some (.int (at_ : Int)), o7, o8, o9, o10, o11, o12] ∧ Same H Hw ∧ Hw po = some (.lst (as.map V.ref)) ∧ Hw pd = some (.dT kvs) ∧ PairsAt Hw as (fs.map Prod.snd) ∧ PthW Hw kvs fs ∧ Qu ms ts fs at_ ∧ NoB ms ts fs at_,
      ⟨_, 0, _, [q0], kv0, none, none, none, none, none, none, rfl, rfl, s0, b3, d3, P0, W0, F0, N0⟩, fun μ σ Hw ⟨at_, fs, as, kvs, o7, o8, o9, o10, o11, o12, eμ, eσ, sw, fw, dw, PA, PT, F, N⟩ => ?_⟩
    subst eμ
    subst eσ
    have fm := F.most mo to
    have fm2 := F.most2
    have lA : as.length = fs.length := by rw [PA.1, List.length_map]
    refine ⟨_, rfl, _, rfl, po, _, rfl, .inl (SqL.of fw), _, _, rfl, rfl, _, rfl, ?_⟩
    rw [List.length_map, lA]
    dsimp only
    by_cases lt : at_ < fs.length
    · rw [decide_eq_true (show (at_ : Int) < (fs.length : Int) by omega)]
      refine iteT ⟨fun σ' H' => ∃ (fs' : List WP) (as' : List Addr) (kvs' : List (List L2.Key × V)) (p7 p8 p9 p10 p11 p12 : Option V), σ' = [some (.ref m), some (.int 0), some (.ref m'), some (.int 0), some (.ref po), some (.ref pd), some (.int ((at_ + 1 : Nat) : Int)), p7, p8, p9, p10, p11, p12] ∧ Same H H' ∧ H' po = some (.lst (as'.map V.ref)) ∧ H' pd = some (.dT kvs') ∧ PairsAt H' as' (fs'.map Prod.snd) ∧ PthW H' kvs' fs' ∧ Qu ms ts fs' (at_ + 1) ∧ NoB ms ts fs' (at_ + 1),
        fun σ' H' ⟨fs', as', kvs', p7, p8, p9, p10, p11, p12, e, r1, r2, r3, r4, r5, r6, r7⟩ => ⟨_, by omega, at_ + 1, fs', as', kvs', p7, p8, p9, p10, p11, p12, rfl, e, r1, r2, r3, r4, r5, r6, r7⟩, ?_⟩
      obtain ⟨⟨wd, ii, jj⟩, eq⟩ : ∃ q, fs[at_]? = some q := ⟨fs[at_], List.getElem?_eq_getElem lt⟩
      obtain ⟨⟨n0, n1⟩, n2, n3⟩ := F.inn _ (List.mem_of_getElem? eq)
      obtain ⟨i, ei⟩ := Int.eq_ofNat_of_zero_le n0
      obtain ⟨j, ej⟩ := Int.eq_ofNat_of_zero_le n2
      dsimp only at ei ej n1 n3
      subst ei
      subst ej
      have li : i < ms.length := by omega
      have lj : j < ts.length := by omega
      have lw := F.len _ _ eq
      dsimp only at lw
      have la : at_ < as.length := by rw [lA]; exact lt
      have ea : as[at_]? = some as[at_] := List.getElem?_eq_getElem la
      have eq2 : (fs.map Prod.snd)[at_]? = some (((i : Int), (j : Int)) : IP) := by rw [List.getElem?_map, eq]; rfl
      have hqa := PA.2 at_ _ _ ea eq2
      have eat : atI (as.map V.ref) (at_ : Int) = some (.ref as[at_]) := atI_nat (by rw [List.getElem?_map, ea]; rfl)
      refine ⟨_, rfl, _, rfl, po, _, _, _, rfl, rfl, SqL.of fw, eat, as[at_], _, rfl, SqT.of hqa, rfl, _, _, rfl, _, _, rfl, rfl, ?_⟩
      -- the path
      refine ⟨_, rfl, _, rfl, _, rfl, by show 2 ≤ sizeLine; decide, fun q2 hq2 => ?_⟩
      have sq := same_new (o := .tup [V.int (i : Int), .int (j : Int)]) hq2
      obtain ⟨pa, evp, tpa⟩ := PT.get F.nd eq
      refine ⟨pd, .ref pa, rfl, .inr ⟨kvs, pK ((i : Int), (j : Int)), q2, .inl (sq _ _ dw), rfl, upd_same, evp.symm⟩, ?_⟩
      have sw2 := sw.trans sq
      have fw2 := sq _ _ fw
      have dw2 := sq _ _ dw
      have PA2 := PA.to (Tup.of sq)
      have PT2 := PT.to (Tup.of sq)
      have tpa2 := tpa.to (Tup.of sq)
      generalize upd Hw q2 (.tup [V.int (i : Int), .int (j : Int)]) = Hx at sw2 fw2 dw2 PA2 PT2 tpa2 ⊢
      have hm' := hm.same sw2
      obtain ⟨bs, hm1, hm2, hm3⟩ := hm'
      obtain ⟨st, es⟩ : ∃ st, ms[i]? = some st := ⟨ms[i], List.getElem?_eq_getElem li⟩
      obtain ⟨tt, et⟩ : ∃ tt, ts[j]? = some tt := ⟨ts[j], List.getElem?_eq_getElem lj⟩
      obtain ⟨d, ed⟩ : ∃ d, bs[i]? = some d := ⟨bs[i]'(by omega), List.getElem?_eq_getElem _⟩
      have hd := hm3 i d st ed es
      have sto := mo.all st (List.mem_of_getElem? es)
      have tto := to.all tt (List.mem_of_getElem? et)
      refine ⟨d, _, hd, trivial, fun od => ?_⟩
      have hmt1 : ∃ bt : List Addr, Hx m' = some (.lst (bt.map V.ref)) := by
        obtain ⟨bt, h1, _⟩ := hmt.same sw2
        exact ⟨bt, h1⟩
      obtain ⟨bt, hmt1⟩ := hmt1
      have md : m ≠ d := fun z => by rw [z, hd] at hm1; cases hm1
      have mtd : m' ≠ d := fun z => by rw [z, hd] at hmt1; cases hmt1
      have fd_ : po ≠ d := fun z => by rw [z, hd] at fw2; cases fw2
      have pq' : po ≠ pd := pq
      have hdH : H d = some (.dT (st.map mvOf)) := by
        obtain ⟨bs0, g1, g2, g3⟩ := hm
        have eb : bs0 = bs := by
          have z := sw2 _ _ g1
          rw [hm1] at z
          have z2 : bs.map V.ref = bs0.map V.ref := HO.lst.inj (Option.some.inj z)
          exact (List.map_inj_right (fun a b e => V.ref.inj e)).mp z2.symm
        rw [eb] at g3
        exact g3 i d st ed es
      have sd : pd ≠ d := fun z => by rw [z, hdH] at fpd0; cases fpd0
      have eatd : atI (bs.map V.ref) (i : Int) = some (.ref d) := atI_nat (by rw [List.getElem?_map, ed]; rfl)
      have tpl : Tup Hx (upd Hx d (.frz od (.dT (st.map mvOf)))) := Tup.at_ hd fun xs z => nomatch z
      refine ⟨_, rfl, _, rfl, m, _, _, _, rfl, rfl, SqL.of (by rw [upd_ne md]; exact hm1), eatd, d, od, _, rfl, upd_same, for_it walk_itemsT (fun g σ H4 => ∃ (fs' : List WP) (as' : List Addr) (kvs' : List (List L2.Key × V)) (o10 o11 o12 : Option V), σ = [some (.ref m), some (.int 0), some (.ref m'), some (.int 0), some (.ref po), some (.ref pd), some (.int (at_ : Int)), some (.int (i : Int)), some (.int (j : Int)), some (.ref pa), o10, o11, o12] ∧ H4 d = some (.frz od (.dT (st.map mvOf))) ∧ (∀ x o, H x = some o → x ≠ d → H4 x = some o) ∧ H4 po = some (.lst (as'.map V.ref)) ∧ H4 pd = some (.dT kvs') ∧ PairsAt H4 as' (fs'.map Prod.snd) ∧ PthW H4 kvs' fs' ∧ TD H4 (.ref pa) (wordD wd) ∧ Mi ms ts fs' at_ (wd, ((i : Int), (j : Int))) tt (st.take g) ∧ NoB ms ts fs' at_ ∧ ∀ x ∈ st.take g, ∃ y ∈ tt, evOf x = evOf y) ?_ (fun g σ H4 _ ⟨_, _, _, _, _, _, _, h, _⟩ => h) ?_ ?_⟩
      · refine ⟨fs, as, kvs, _, _, _, rfl, upd_same, fun x o e ne => ?_, by rw [upd_ne fd_]; exact fw2, by rw [upd_ne sd]; exact dw2, PA2.to tpl, PT2.to tpl, tpa2.to tpl, F.mid eq, N, fun x m => by rw [List.take_zero] at m; exact (nomatch m)⟩
        rw [upd_ne ne]
        exact sw2 _ _ e
      · rintro g v σ H4 H5 lg ⟨fs', as', kvs', p10, p11, p12, rfl, h4, b4, f4, d4, A4, T4, a4, M, N4, B4⟩ ⟨T, q, kk, vv, ekv, rfl, hT, hq, rfl⟩
        rw [List.getElem?_map] at ekv
        obtain ⟨x, ex, e2'⟩ := Option.map_eq_some_iff.mp ekv
        cases e2'
        have mx := List.mem_of_getElem? ex
        have xo := sto.all x mx
        have tk : st.take (g + 1) = st.take g ++ [x] := by rw [List.take_succ, ex]; rfl
        have fm' := M.most mo to
        have up := take_lt sto.asc ex
        have s5 := same_new (o := .tup [V.ref q, V.int x.2.2]) hT
        have hT5 : (upd H4 T (.tup [V.ref q, V.int x.2.2])) T = some (.tup [V.ref q, V.int x.2.2]) := upd_same
        have hq5 := s5 _ _ hq
        have h5 := s5 _ _ h4
        have b5 : ∀ y o, H y = some o → y ≠ d → (upd H4 T (.tup [V.ref q, V.int x.2.2])) y = some o := fun y o e ne => s5 _ _ (b4 y o e ne)
        have f5 := s5 _ _ f4
        have d5 := s5 _ _ d4
        have A5 := A4.to (Tup.of s5)
        have T5 := T4.to (Tup.of s5)
        have a5 := a4.to (Tup.of s5)
        generalize upd H4 T (.tup [V.ref q, V.int x.2.2]) = H5 at hT5 hq5 h5 b5 f5 d5 A5 T5 a5 ⊢
        refine ⟨T, _, rfl, SqT.of hT5, rfl, _, _, rfl, _, _, rfl, rfl, ?_⟩
        obtain ⟨bs', e', hm5, at5, rd5⟩ := moves_rd hmt mtd b5 hdH h5 et
        obtain ⟨pvs, pa5, pvs5, pvl⟩ := wordTD a5
        refine ⟨_, rfl, _, rfl, _, rfl, m', _, _, _, rfl, rfl, SqL.of hm5, at5, e', _, rfl, .inr ⟨_, evK (evOf x), q, rd5, rfl, hq5, rfl⟩, _, rfl, ?_⟩
        rcases mv_val tto.asc (evOf x) with ⟨ev, no⟩ | ⟨y, my, ev, evv, uq⟩
        · rw [ev]
          refine iteT ⟨_, rfl, _, rfl, by show 1 ≤ sizeLine; decide, fun r1 hr1 => ?_⟩
          have s6 := same_new (o := .tup [V.ref q]) hr1
          refine ⟨pa, r1, pvs, [.ref q], rfl, rfl, s6 _ _ pa5, upd_same, small_len (m := 1601) (by rw [List.length_singleton]; omega), fun r H' s7 hr' => ⟨s7 _ _ (s6 _ _ h5), ?_⟩⟩
          have s67 := s6.trans s7
          have hd7 := s67 _ _ h5
          have rd_ : r ≠ d := fun z => by rw [z, hd7] at hr'; cases hr'
          have tp8 : Tup H' (upd H' d (.dT (st.map mvOf))) := Tup.at_ hd7 fun xs z => nomatch z
          refine k2 r _ _ (fun b o e => ?_) (wordTD_snoc (e := evOf x) (tp8 _ _ hr') ((TDs.to (Tup.of s67) pvs5).to tp8) (tp8 _ _ (s67 _ _ hq5))) (by rw [List.length_append, List.length_singleton]; omega) (Mi.least mo to F eq N rfl es et mx no fun z mz lz => B4 z (lt_take sto.asc ex mz lz))
          by_cases bd : b = d
          · rw [bd, hdH] at e
            rw [bd, upd_same]
            exact e
          · rw [upd_ne bd]
            exact s67 _ _ (b5 b o e bd)
        · rw [evv]
          refine iteF ⟨_, rfl, _, rfl, _, rfl, m', _, _, _, rfl, rfl, SqL.of hm5, at5, _, rfl, e', .int y.2.2, rfl, .inr ⟨_, evK (evOf x), q, rd5, rfl, hq5, evv.symm⟩, by show 2 ≤ sizeLine; decide, fun pr hpr => ?_⟩
          have s6 := same_new (o := .tup [V.int x.2.2, .int y.2.2]) hpr
          have hp6 : (upd H5 pr (.tup [V.int x.2.2, .int y.2.2])) pr = some (.tup [V.int x.2.2, .int y.2.2]) := upd_same
          have h6 := s6 _ _ h5
          have b6 : ∀ y' o, H y' = some o → y' ≠ d → (upd H5 pr (.tup [V.int x.2.2, .int y.2.2])) y' = some o := fun y' o e ne => s6 _ _ (b5 y' o e ne)
          have f6 := s6 _ _ f5
          have d6 := s6 _ _ d5
          have A6 := A5.to (Tup.of s6)
          have T6 := T5.to (Tup.of s6)
          have a6 := s6 _ _ pa5
          have c6 := TDs.to (Tup.of s6) pvs5
          have q6 := s6 _ _ hq5
          have B5 : ∀ z ∈ st.take (g + 1), ∃ y ∈ tt, evOf z = evOf y := fun z mz => by
            rw [tk] at mz
            rcases List.mem_append.mp mz with m | m
            · exact B4 z m
            · rw [List.mem_singleton.mp m]
              exact ⟨y, my, ev⟩
          generalize upd H5 pr (.tup [V.int x.2.2, .int y.2.2]) = H6 at hp6 h6 b6 f6 d6 A6 T6 a6 c6 q6 ⊢
          refine ⟨_, rfl, _, rfl, pd, _, rfl, .inr ⟨kvs', pK (x.2.2, y.2.2), pr, .inl d6, rfl, hp6, rfl⟩, _, rfl, ?_⟩
          rw [valV_in T6.1]
          by_cases mem2 : ((x.2.2, y.2.2) : IP) ∈ fs'.map Prod.snd
          · rw [decide_eq_true mem2]
            refine iteF ⟨fs', as', kvs', _, _, _, rfl, h6, b6, f6, d6, A6, T6, .tup a6 c6, ?_, N4, B5⟩
            rw [tk]
            exact M.skip up uq mem2
          · rw [decide_eq_false mem2]
            refine iteT ⟨_, rfl, _, rfl, by show 1 ≤ sizeLine; decide, fun r1 hr1 => ?_⟩
            have s7 := same_new (o := .tup [V.ref q]) hr1
            refine ⟨pa, r1, pvs, [.ref q], rfl, rfl, s7 _ _ a6, upd_same, small_len (m := 1601) (by rw [List.length_singleton]; omega), fun r H7 s8 hr' => ?_⟩
            have s68 := s7.trans s8
            have d8 := s68 _ _ d6
            have lk : kvs'.length = fs'.length := T6.len
            refine ⟨_, rfl, _, rfl, pd, _, rfl, .inr ⟨kvs', pK (x.2.2, y.2.2), pr, d8, rfl, s68 _ _ hp6, small_lt (m := 1600) (by omega), rfl⟩, ?_⟩
            have tp9 : Tup H7 (upd H7 pd (.dT (putK kvs' (pK (x.2.2, y.2.2)) (.ref r)))) := Tup.at_ d8 fun xs z => nomatch z
            have f9 : (upd H7 pd (.dT (putK kvs' (pK (x.2.2, y.2.2)) (.ref r)))) po = some (.lst (as'.map V.ref)) := by
              rw [upd_ne pq']
              exact s68 _ _ f6
            have A9 := (A6.to (Tup.of s68)).to tp9
            have c9 := (TDs.to (Tup.of s68) c6).to tp9
            have T9 := ((T6.to (Tup.of s68)).to tp9).put (q := (wd ++ [evOf x], (x.2.2, y.2.2))) (a := r) mem2 (wordTD_snoc (e := evOf x) (tp9 _ _ hr') c9 (tp9 _ _ (s68 _ _ q6)))
            have h9 : (upd H7 pd (.dT (putK kvs' (pK (x.2.2, y.2.2)) (.ref r)))) d = some (.frz od (.dT (st.map mvOf))) := by
              rw [upd_ne (Ne.symm sd)]
              exact s68 _ _ h6
            have b9 : ∀ y' o, H y' = some o → y' ≠ d → (upd H7 pd (.dT (putK kvs' (pK (x.2.2, y.2.2)) (.ref r)))) y' = some o := fun y' o e ne => by
              rw [upd_ne (ne_of_none e fpd0)]
              exact s68 _ _ (b6 y' o e ne)
            have d9 : (upd H7 pd (.dT (putK kvs' (pK (x.2.2, y.2.2)) (.ref r)))) pd = some (.dT (putK kvs' (pK (x.2.2, y.2.2)) (.ref r))) := upd_same
            have a9 := tp9 _ _ (s68 _ _ a6)
            have p9 := tp9 _ _ (s68 _ _ hp6)
            generalize upd H7 pd (.dT (putK kvs' (pK (x.2.2, y.2.2)) (.ref r))) = H9 at f9 A9 T9 h9 b9 d9 a9 c9 p9 ⊢
            have lA9 : as'.length = fs'.length := by rw [A9.1, List.length_map]
            refine ⟨_, rfl, .inl ⟨rfl, _, SqL.of f9⟩, _, rfl, po, _, _, rfl, rfl, f9, small_lt (m := 1600) (by rw [List.length_map, lA9]; omega), ?_⟩
            have tpA : Tup H9 (upd H9 po (.lst (as'.map V.ref ++ [.ref pr]))) := Tup.at_ f9 fun xs z => nomatch z
            refine ⟨fs' ++ [(wd ++ [evOf x], (x.2.2, y.2.2))], as' ++ [pr], _, _, _, _, rfl, by rw [upd_ne (Ne.symm fd_)]; exact h9, fun y' o e ne => ?_, by rw [upd_same, List.map_append]; rfl, by rw [upd_ne (Ne.symm pq')]; exact d9, by rw [List.map_append]; exact (A9.put p9).to tpA, T9.to tpA, .tup (tpA _ _ a9) (c9.to tpA), ?_, N4.more (Nat.le_of_lt M.lt) _, B5⟩
            · rw [upd_ne (ne_of_none e fpo)]
              exact b9 y' o e ne
            · rw [tk]
              exact M.put up my ev uq mem2 rfl es et mx xo (tto.all y my)
      · rintro σ H4 ⟨fs', as', kvs', p10, p11, p12, rfl, h4, b4, f4, d4, A4, T4, a4, M, N4, B4⟩
        rw [List.length_map, List.take_length] at M B4
        have tp4 : Tup H4 (upd H4 d (.dT (st.map mvOf))) := Tup.at_ h4 fun xs z => nomatch z
        refine ⟨h4, _, rfl, _, _, rfl, rfl, fs', as', kvs', _, _, _, _, _, _, rfl, fun y o e => ?_, by rw [upd_ne fd_]; exact f4, by rw [upd_ne sd]; exact d4, A4.to tp4, T4.to tp4, M.fnd rfl es et, fun k q l ek => ?_⟩
        · by_cases yd : y = d
          · rw [yd, hdH] at e
            rw [yd, upd_same]
            exact e
          · rw [upd_ne yd]
            exact b4 y o e yd
        · rcases Nat.lt_or_ge k at_ with l2 | g2
          · exact N4 k q l2 ek
          · have ek2 : k = at_ := by omega
            rw [ek2, M.here] at ek
            cases ek
            intro i' j' s' t' eqq e1 e2 x mx
            have h1 : i = i' := by have := congrArg Prod.fst eqq; dsimp only at this; omega
            have h2 : j = j' := by have := congrArg Prod.snd eqq; dsimp only at this; omega
            subst h1
            subst h2
            rw [es] at e1
            rw [et] at e2
            cases e1
            cases e2
            exact B4 x mx
    · rw [decide_eq_false (show ¬ ((at_ : Int) < (fs.length : Int)) by omega)]
      have ea : at_ = fs.length := by have := F.le; omega
      subst ea
      exact iteF (k1 _ sw (F.none_ N))
end
end My

-- ===== KL1 =====
set_option Elab.async false
set_option linter.all false
set_option maxRecDepth 100000
set_option maxHeartbeats 4000000
namespace Kd
open PySem L2 PyProof.Rows PySem.Spec PySem.W
/-! ### a lambda of one argument, called from within a built-in -/
section
variable {P : Program} {w : World} {K : PySem.W.Frag} {mg : Str → Option Value} {base : Heap} {A : Around} {stack : List Env} {s : Shared} {H : Hp}
def lamNF (q : Str) (params : Arguments) (scope : Scope) (c' : Addr) : NdefX.NF := ⟨"<lambda>", q, params, [], scope, [], c'⟩
theorem lam_call {f c' : Addr} {x q : Str} {params : Arguments} {body : Expr} {scope : Scope} {pm ctv v : Value} {vv : V} {Q E : Value → Shared → Prop}
    (hE : Env0 P w K mg base A stack s H) (hh : A.handled = none) (hd : A.depth < recursionLimit)
    (hf : s.heap.get? f = some (kla_obj "<lambda>" q params body scope [] pm c' ctv)) (hc : s.heap.CodeRec (.ref c') q)
    (hb : bindArgs (kla_fn "<lambda>" q params body scope [] pm (.ref c') ctv) { pos := [v] } = pure [(x, v)]) (hs : NdefX.NScope [x] [x] [] scope) (rv : RelV vv v)
    (k : ∀ h₁ : Heap, (h₁.Ns s.heap.objs.size fun y => List.lookup y [(x, v)]) → (∀ b o, s.heap.get? b = some o → h₁.get? b = some o) → s.heap.objs.size ≤ h₁.objs.size →
      Inv (NdefX.ncx CX0 P w K mg base [x] (lamNF q params scope c') f A stack s H (fun _ _ _ => False)) [] [some vv] H { heap := h₁, gens := s.gens, drawn := s.drawn, toks := s.toks + 1, os := s.os } →
      wpAny (model P w) (A.deeper (NdefX.envF (lamNF q params scope c') f s.heap.objs.size)) (eval body (NdefX.envF (lamNF q params scope c') f s.heap.objs.size)) Q (fun _ _ => False) { heap := h₁, gens := s.gens, drawn := s.drawn, toks := s.toks + 1, os := s.os }) :
    wpAny (model P w) A (call (.ref f) [v]) Q E s := by
  refine wpAny_call (kla_callFunE hd hf rfl hs.co hs.gen rfl hc ?_)
  rw [hb]
  refine wpAny_pure ?_
  refine wpAny_newFunctionEnv hs.nocell (fun y m => ?_) (fun h' hns hsb => ?_) hs.kind
  · rw [List.mem_singleton.mp m]
    exact hs.par x List.mem_cons_self
  · have ext : ∀ b o, s.heap.get? b = some o → h'.get? b = some o := fun b o e => by
      have lt := Heap.lt_size e
      rw [hsb.2 b (Nat.ne_of_lt lt)]
      exact Heap.get?_push_of_some _ e
    have I1 := NdefX.inv_startN (CX := CX0) (F := lamNF q params scope c') (f := f) (E := fun _ _ _ => False) (vs := [vv]) (us := [v]) (ws := []) (h₁ := h') (tk := s.toks + 1) hs hh hE rfl (.cons rv .nil) ⟨rfl, fun y c e => (nomatch e), fun x y c e => (nomatch e), fun i y e => (nomatch e)⟩ hns ext
    refine ⟨I1.nolimit, kla_codeExpr ?_⟩
    exact wpAny_mono (k h' hns ext (by rw [hsb.1, Heap.size_push]; exact Nat.le_succ _) I1) (fun r s' z => z) fun _ _ z => z.elim
/-- lambda x: (len(x), x), of a tuple -/
abbrev lenBody (x : Str) (p1 p2 p3 p4 p5 : Pos) (n : Nat) : Expr := .Tuple [.Call (.Name "len" p1) [.Name x p2] [] p3, .Name x p4] n p5
theorem lam_len {f c' a : Addr} {x q : Str} {params : Arguments} {p1 p2 p3 p4 p5 : Pos} {n : Nat} {scope : Scope} {pm ctv : Value} {items : Array Value} {Q E : Value → Shared → Prop}
    (hE : Env0 P w K mg base A stack s H) (hh : A.handled = none) (hd : A.depth < recursionLimit)
    (hf : s.heap.get? f = some (kla_obj "<lambda>" q params (lenBody x p1 p2 p3 p4 p5 n) scope [] pm c' ctv)) (hc : s.heap.CodeRec (.ref c') q)
    (hb : bindArgs (kla_fn "<lambda>" q params (lenBody x p1 p2 p3 p4 p5 n) scope [] pm (.ref c') ctv) { pos := [.ref a] } = pure [(x, .ref a)]) (hs : NdefX.NScope [x] [x] [] scope)
    (hl : scope.names.lookup ("len" : Str) = some .globalImplicit) (hm : mg "len" = none) (hdb : (x == ("__debug__" : Str)) = false)
    (ht : IsTup s.heap a items) (hz : items.size ≤ sizeLine)
    (k : ∀ (h' : Heap) (tk : Nat) (r : Addr) (t : Tok), s.toks ≤ tk → (∀ b o, s.heap.get? b = some o → h'.get? b = some o) → s.heap.objs.size ≤ r → h'.get? r = some { cls := .type "tuple", data := .seq #[.int items.size t, .ref a] } →
      Q (.ref r) { heap := h', gens := s.gens, drawn := s.drawn, toks := tk, os := s.os }) :
    wpAny (model P w) A (call (.ref f) [.ref a]) Q E s := by
  refine lam_call hE hh hd hf hc hb hs (vv := .ref a) rfl fun h₁ hns ext le I1 => ?_
  have big := sizeLine_eq
  have ht1 : IsTup h₁ a items := by
    obtain ⟨o, h1, h2⟩ := ht
    exact ⟨o, ext _ _ h1, h2⟩
  have look : List.lookup x [(x, Value.ref a)] = some (.ref a) := by
    rw [List.lookup_cons, beq_self_eq_true x]
  have kind : (NdefX.envF (lamNF q params scope c') f s.heap.objs.size).kindOf x = some .local := hs.par x List.mem_cons_self
  refine wpAny_Tuple (spliced_more ?_)
  refine wpAny_Call_NameR (ld_blt I1 hl hm (u := .builtin "len") (by rfl) ?_)
  refine callWith_builtin1 (spliced_more (wpAny_Name (wpAny_loadName_local hs.kind kind hns look (spliced_none ?_)) hdb))
  refine PyProof.Rows.len_tuple ht1 (by omega) ?_
  refine spliced_more (wpAny_Name (wpAny_loadName_local hs.kind kind hns look (spliced_none ⟨by show 2 ≤ sizeLine; decide, ?_⟩)) hdb)
  refine k _ _ _ _ (by show s.toks ≤ s.toks + 1 + 1 + 1; omega) (fun b o e => Heap.get?_push_of_some _ (ext b o e)) ?_ (Heap.get?_push_size _ rfl)
  exact le
end
/-! ### min(xs, key=lambda x: (len(x), x), default=None), xs a list of tuples of data -/
def lenK (ds : List PyData) : PyData := .tuple [.int ds.length, .tuple ds]
def keyB (L : List (Addr × List PyData)) (i j : Nat) : Bool := dataLt (lenK ((L.map Prod.snd).getD i [])) (lenK ((L.map Prod.snd).getD j []))
def tMinLam (K : PySem.W.Frag) (T : List (Addr × Str)) (t : TE) : TE := fun σ H Q => t σ H fun v H1 => LamX.Tabs T H1 ∧ ∀ H2, LamX.ExtN H1 H2 → LamX.Tabs T H2 →
  ∃ (l : Addr) (L : List (Addr × List PyData)), v = .ref l ∧ H2 l = some (.lst (L.map fun q => V.ref q.1)) ∧ DpRows PyData.tuple K H2 L ∧ (∀ q ∈ L, ∀ r ∈ L, alike (lenK q.2) (lenK r.2) = true) ∧ (∀ q ∈ L, (lenK q.2).depth ≤ 60 ∧ q.2.length ≤ 100000) ∧ L.length ≤ 100000 ∧
    (L = [] → Q .non H2) ∧ ∀ q, L[argBest (keyB L) (L.length - 1)]? = some q → Q (.ref q.1) H2
theorem readsAll_len {h : Heap} : ∀ {vs : List Value} {ds : List PyData} {as : List Addr}, ReadsAll h vs ds as → vs.length = ds.length
  | _, _, _, .nil => rfl
  | _, _, _, .cons _ r => by rw [List.length_cons, List.length_cons, readsAll_len r]
section
variable {X : Cx}
theorem pe_minLam {e : Expr} {t : TE} {T : List (Addr × Str)} {c P : Addr} {params : Arguments} {scope : Scope} {x : Str} {p0 p1 p2 p3 p4 p5 lpos kp dp cp pos : Pos} {n m : Nat}
    (hp : PE X e t) (hg : Gl X "min") (hm : X.mg "min" = none) (hgl : scope.names.lookup ("len" : Str) = some .globalImplicit) (hml : X.mg "len" = none)
    (TB : LamX.TabB X.base X.mg c P) (hcode : X.env.code = .ref c) (hmT : (P, X.env.qual ++ ("<lambda>" : Str)) ∈ T) (hu : ∀ p ∈ T, p.1 = P → p.2 = X.env.qual ++ ("<lambda>" : Str))
    (hd : defaultsOf params X.env = ([], [])) (hfree : ∀ y ∈ scope.names, y.2 ≠ .free) (hcl : cloFrom X.env.cells scope.names [] = [])
    (hb : ∀ (q : Str) (pm cv ctv v : Value), bindArgs (kla_fn "<lambda>" q params (lenBody x p1 p2 p3 p4 p5 n) scope [] pm cv ctv) { pos := [v] } = pure [(x, v)])
    (hs : NdefX.NScope [x] [x] [] scope) (hdb : (x == ("__debug__" : Str)) = false) (hr : Room 4 X.A)
    (hst : starEach [e] X.env = (false, eval e X.env) :: starEach [] X.env := by rfl)
    (hst2 : backTo pos (starEach [e] X.env) = (false, eval e X.env) :: backTo pos (starEach [] X.env) := by rfl)
    (hst3 : ((backTo pos (starEach [e] X.env)).any fun x => x.fst) = false := by rfl) :
    PE X (.Call (.Name "min" p0) [e] [⟨some "key", .Lambda params (lenBody x p1 p2 p3 p4 p5 n) scope lpos, kp⟩, ⟨some "default", .Constant .none m cp, dp⟩] pos) (tMinLam X.K T t) := by
  refine ⟨fun pins s σ H Q I h => ?_⟩
  refine wpAny_Call_Name_kw (ld_blt I hg hm (u := .builtin "min") (by rfl) ?_)
  refine callWith_kw (spliced_more (thn (hp.run pins s σ H _ I h) fun v s1 ⟨vv, H1, I1, rv, tb, k⟩ => spliced_none ?_) hst) hst2 hst3
  show wpAny _ _ (evalAll [(do let v ← eval (.Lambda params (lenBody x p1 p2 p3 p4 p5 n) scope lpos) X.env; standAt pos; pure v), (do let v ← eval (.Constant .none m cp) X.env; standAt pos; pure v)]) _ _ _
  refine wpAny_evalAll_cons (wpAny_bind (LamX.lam_make2 I1 TB hcode hmT hu tb hd (fun y my ey => absurd ey (hfree y my)) fun f c' pm ctv H2 s2 I2 ext2 tb2 hf nf _ hc' => ?_))
  rw [hcl] at hf
  refine wpAny_bind (wpAny_standAt (wpAny_pure (wpAny_evalAll_cons (wpAny_bind ?_))))
  refine wpAny_pure (wpAny_bind (wpAny_standAt (wpAny_pure (wpAny_evalAll_nil ?_))))
  obtain ⟨l, L, rfl, hl, dr, al, dp_, lz, k0, k1⟩ := k H2 ext2 tb2
  cases (show v = Value.ref l from rv)
  obtain ⟨its, rvs, il, _⟩ := I2.list (.inl (.inl hl))
  have ei := refs_of rvs
  subst ei
  have calm : X.A.in1.handled = none := hr.hd
  have isz : (L.map fun q => Value.ref q.1).toArray.size = L.length := by simp
  have big := sizeLine_eq
  have at_ : ∀ {i : Nat} {v : Value}, (L.map fun q => Value.ref q.1).toArray[i]? = some v → ∃ q, L[i]? = some q ∧ v = .ref q.1 := fun {i v} e => by
    rw [List.getElem?_toArray, List.getElem?_map] at e
    obtain ⟨q, e1, e2⟩ := Option.map_eq_some_iff.mp e
    exact ⟨q, e1, e2.symm⟩
  have gd : ∀ {i : Nat} {q : Addr × List PyData}, L[i]? = some q → (L.map Prod.snd).getD i [] = q.2 := fun {i q} e => by
    rw [List.getD_eq_getElem?_getD, List.getElem?_map, e]
    rfl
  have tupAt : ∀ q ∈ L, ∃ vs as, IsTup s2.heap q.1 vs ∧ vs.size = q.2.length ∧ Reads s2.heap (.ref q.1) (.tuple q.2) as := fun q mq => by
    obtain ⟨as, r⟩ := Dp.reads I2 (.tuple q.2) (.ref q.1) (.ref q.1) (dr q mq) rfl
    cases id r with
    | tuple h1 h2 h3 h4 => exact ⟨_, as, ⟨_, h1, h2, _, h3⟩, by have := readsAll_len h4; simpa using this, r⟩
  show wpAny _ _ (call (.builtin "min") [.ref l] [(Str.ofString "key", .ref f), (Str.ofString "default", .none)]) _ _ _
  refine call_min_walkKD (iter_listW calm il.isList fun s₃ e3 walks st0 fplt _ ext3 => ?_)
  have sz3 : s₃.heap.objs.size = s2.heap.objs.size + 1 := by rw [e3]; exact Heap.size_push _ _
  let J : Shared → Prop := fun z => z.gens = s2.gens ∧ z.drawn = s2.drawn ∧ z.os = s2.os ∧ ∀ b o, s2.heap.get? b = some o → z.heap.get? b = some o
  let V_ : Nat → Value → Shared → Prop := fun i kv z => ∃ (a : Addr) (t : Tok) (q : Addr × List PyData), kv = .ref a ∧ L[i]? = some q ∧ a ≠ s₃.heap.objs.size ∧ a ≠ s2.heap.objs.size ∧ z.heap.get? a = some { cls := .type "tuple", data := .seq #[.int q.2.length t, .ref q.1] }
  have inv : ∀ z, J z → Inv X pins σ H2 z := fun z ⟨g, d, o, e⟩ => by
    have z1 := I2.kept (t' := z.toks) e
    rw [← g, ← d, ← o] at z1
    exact z1
  have js : J s₃ := by
    rw [e3]
    exact ⟨rfl, rfl, rfl, fun b o e => Heap.get?_push_of_some _ e⟩
  refine ⟨_, _, _, _, _, _, _, J, V_, keyB L, rfl, walks, st0, fplt, ⟨fun z z' ⟨g, d, o, e⟩ mv => ?_, fun i kv z z' ⟨a, t, q, e1, e2, n1, n2, ea⟩ mv => ?_, fun i v z o Q' E' li pv jz sz hS kk => ?_, fun i j ki kj z Q' E' jz ⟨a, t, q, e1, e2, n1, n2, ea⟩ ⟨b, u, r, f1, f2, m1, m2, eb⟩ hq => ?_⟩, js, fun hn z jz => ?_, fun hn v z pv jz => ?_⟩
  · refine ⟨mv.gens.trans g, mv.drawn.trans d, mv.os.trans o, fun b u eb => mv.heap b u (fun m => ?_) (e b u eb)⟩
    have lt := Heap.lt_size eb
    rcases List.mem_cons.mp m with m | m
    · exact Nat.ne_of_lt (Nat.lt_trans lt (by rw [sz3]; exact Nat.lt_succ_self _)) m
    · exact Nat.ne_of_lt lt (List.mem_singleton.mp m)
  · refine ⟨a, t, q, e1, e2, n1, n2, mv.heap a _ (fun m => ?_) ea⟩
    rcases List.mem_cons.mp m with m | m
    · exact n1 m
    · exact n2 (List.mem_singleton.mp m)
  · obtain ⟨q, eq, rfl⟩ := at_ pv
    obtain ⟨vs, as, it, vz, _⟩ := tupAt q (List.mem_of_getElem? eq)
    have Iz := inv z jz
    obtain ⟨g, d, os, ex⟩ := jz
    have dq := dp_ q (List.mem_of_getElem? eq)
    refine lam_len (s := z) Iz.env0.in1 calm (by have := hr.in1.dp; omega) (ex _ _ hf) (NdefX.codeO_at Iz.hok hc') (hb _ _ _ _ _) hs hgl hml hdb (items := vs) (by
      obtain ⟨o1, h1, h2⟩ := it
      exact ⟨o1, ex _ _ h1, h2⟩) (by omega) fun h' tk r t le ext fr hr' => ?_
    have rS : r ≠ s₃.heap.objs.size := fun zz => by rw [zz] at fr; exact absurd (Heap.lt_size hS) (Nat.not_lt.mpr fr)
    have rI : r ≠ s2.heap.objs.size := fun zz => by
      obtain ⟨⟨o2, h2, _⟩, _⟩ := sz
      rw [zz] at fr
      exact absurd (Heap.lt_size h2) (Nat.not_lt.mpr fr)
    refine kk (.ref r) _ ⟨g, d, os, fun b o e => ext b o (ex b o e)⟩ (walks.frame (i + 1) z h' tk sz le fun b _ o e => ext b o e) (ext _ _ hS) ⟨r, t, q, rfl, eq, rS, rI, by rw [hr', vz]⟩ fun j k' ⟨a2, t2, q2, g1, g2, g3, g4, g5⟩ => ⟨a2, t2, q2, g1, g2, g3, g4, ext _ _ g5⟩
  · obtain ⟨vs, as, _, _, r1⟩ := tupAt q (List.mem_of_getElem? e2)
    obtain ⟨us, bs, _, _, r2⟩ := tupAt r (List.mem_of_getElem? f2)
    have ex := jz.2.2.2
    have R1 : Reads z.heap (.ref a) (lenK q.2) ([] ++ (as ++ [])) := .tuple ea rfl rfl (.cons (.int _ _) (.cons (PyProof.Rows.Reads.keeps ex r1) .nil))
    have R2 : Reads z.heap (.ref b) (lenK r.2) ([] ++ (bs ++ [])) := .tuple eb rfl rfl (.cons (.int _ _) (.cons (PyProof.Rows.Reads.keeps ex r2) .nil))
    have d1 := (dp_ q (List.mem_of_getElem? e2)).1
    have d2 := (dp_ r (List.mem_of_getElem? f2)).1
    have mq := List.mem_of_getElem? e2
    have mr := List.mem_of_getElem? f2
    subst e1
    subst f1
    refine cmpIn_lt (vs := #[.ref a, .ref b]) (xs := [lenK q.2, lenK r.2]) (s := z) (.cons R1 (.cons R2 .nil)) ⟨fun y my y' my' => ?_, fun y my => ?_⟩ ?_ 0 1 _ _ z Q' E' (fun _ _ e => e) rfl rfl ?_
    · rcases List.mem_cons.mp my with rfl | my
      · rcases List.mem_cons.mp my' with rfl | my'
        · exact al q mq q mq
        · rw [List.mem_singleton.mp my']
          exact al q mq r mr
      · rw [List.mem_singleton.mp my]
        rcases List.mem_cons.mp my' with rfl | my'
        · exact al r mr q mq
        · rw [List.mem_singleton.mp my']
          exact al r mr r mr
    · rcases List.mem_cons.mp my with rfl | my
      · unfold lenK
        exact fun zz => nomatch zz
      · rw [List.mem_singleton.mp my]
        unfold lenK
        exact fun zz => nomatch zz
    · have u1 := hr.in1.un
      have u2 := hr.un
      simp only [PyData.depthAll]
      omega
    · unfold keyB at hq
      rw [gd e2, gd f2] at hq
      exact hq
  · have : L = [] := List.length_eq_zero_iff.mp (by rw [← isz]; exact hn)
    exact ⟨.non, H2, inv z jz, rfl, k0 this⟩
  · obtain ⟨q, eq, rfl⟩ := at_ pv
    rw [isz] at eq
    exact ⟨.ref q.1, H2, inv z jz, rfl, k1 q eq⟩
end
end Kd

-- ===== K7O =====
set_option Elab.async false
set_option linter.all false
set_option maxRecDepth 100000
set_option maxHeartbeats 4000000
namespace My
open PySem L2 PyProof.Rows PySem.Spec Kd TL
open PySem.W in
theorem alike_ev (e f : Ev) : alike (tD (evK e)) (tD (evK f)) = true := by
  simp [tD, evK, kD, alike, alikeAll]
def evD (e : Ev) : PyData := tD (evK e)
open PySem.W in
theorem alike_evs : ∀ v w : Wd, alikeAll (v.map evD) (w.map evD) = true
  | [], [] => by simp [alikeAll]
  | [], _ :: _ => by simp [alikeAll]
  | _ :: _, [] => by simp [alikeAll]
  | x :: v, y :: w => by
    have h := alike_ev x y
    have g := alike_evs v w
    simp [alikeAll, evD, h] at g ⊢
    exact g
theorem eqv_ev (e f : Ev) : PyData.eqv (evD e) (evD f) = decide (e = f) := by
  refine Bool.eq_iff_iff.mpr ?_
  rw [decide_eq_true_eq]
  unfold evD tD evK
  simp only [List.map_cons, List.map_nil, kD, PyData.eqv, PyData.eqvAll]
  have s1 := eqv_str e.1 f.1
  have s2 := eqv_str e.2 f.2
  simp only [PyData.eqv] at s1 s2
  rw [s1, s2]
  simp only [Bool.and_true, Bool.and_eq_true, decide_eq_true_eq]
  exact ⟨fun ⟨a, b⟩ => Prod.ext a b, fun h => ⟨by rw [h], by rw [h]⟩⟩
theorem eqv_evs : ∀ v w : Wd, PyData.eqvAll (v.map evD) (w.map evD) = decide (v = w)
  | [], [] => by simp [PyData.eqvAll]
  | [], _ :: _ => by simp [PyData.eqvAll]
  | _ :: _, [] => by simp [PyData.eqvAll]
  | x :: v, y :: w => by
    rw [List.map_cons, List.map_cons]
    simp only [PyData.eqvAll, eqv_ev, eqv_evs v w]
    refine Bool.eq_iff_iff.mpr ?_
    simp
open PySem.W in
theorem lt_evs : ∀ v w : Wd, PyProof.Rows.lexLt itemOrd (keyToksAll (v.map evD)) (keyToksAll (w.map evD)) = true ↔ wLt v w
  | [], [] => by simp [keyToksAll, wLt, PyProof.Rows.lexLt, itemOrd, itemLt]
  | [], y :: w => by
    simp [keyToksAll, keyToks, evD, tD, wLt, PyProof.Rows.lexLt, itemOrd, itemLt]
  | x :: v, [] => by
    simp [keyToksAll, keyToks, evD, tD, wLt, PyProof.Rows.lexLt, itemOrd, itemLt]
  | x :: v, y :: w => by
    rw [List.map_cons, List.map_cons, dataLt_cons (x := evD x) (y := evD y) (alike_ev x y), eqv_ev]
    by_cases e : x = y
    · subst e
      rw [decide_eq_true rfl, if_pos rfl, lt_evs v w]
      exact ⟨fun h => .inr ⟨rfl, h⟩, fun h => h.elim (fun z => absurd z (evLt_irrefl _)) fun z => z.2⟩
    · rw [decide_eq_false e, if_neg (by decide)]
      refine (lt_evK x y).trans ?_
      exact ⟨.inl, fun h => h.elim id fun z => absurd z.1 e⟩
open PySem.W in
theorem lt_key (v w : Wd) : dataLt (lenK (v.map evD)) (lenK (w.map evD)) = true ↔ sl v w := by
  unfold lenK
  have e1 : PyData.eqv (.tuple (v.map evD)) (.tuple (w.map evD)) = decide (v = w) := by simp only [PyData.eqv, eqv_evs]
  have e2 : PyData.eqv (.int ((v.map evD).length : Int)) (.int ((w.map evD).length : Int)) = decide (v.length = w.length) := by
    simp only [PyData.eqv, List.length_map]
    refine Bool.eq_iff_iff.mpr ?_
    simp
    exact ⟨fun h => by omega, fun h => by omega⟩
  rw [dataLt_pair rfl (by simp only [alike]; exact alike_evs v w), e2, e1, dataLt_int, dataLt_tuple, List.length_map, List.length_map]
  have z := lt_evs v w
  by_cases l : v.length = w.length
  · rw [decide_eq_true l, if_pos rfl]
    by_cases e : v = w
    · subst e
      rw [decide_eq_true rfl, if_pos rfl]
      exact ⟨fun h => (nomatch h), fun h => absurd h (sl_irr _)⟩
    · rw [decide_eq_false e, if_neg (by decide), z]
      exact ⟨fun h => .inr ⟨l, h⟩, fun h => h.elim (fun y => absurd l (by omega)) fun y => y.2⟩
  · rw [decide_eq_false l, if_neg (by decide), decide_eq_true_eq]
    exact ⟨fun h => .inl (by omega), fun h => h.elim (fun y => by omega) fun y => absurd y.1 l⟩
open PySem.W in
theorem alike_key (v w : Wd) : alike (lenK (v.map evD)) (lenK (w.map evD)) = true := by
  have h := alike_evs v w
  simp [lenK, alike, alikeAll, h]
theorem depth_evs : ∀ v : Wd, PyData.depthAll (v.map evD) ≤ 1
  | [] => by simp [PyData.depthAll]
  | e :: v => by
    have ih := depth_evs v
    have z : (evD e).depth = 1 := by simp [evD, tD, evK, kD, PyData.depth, PyData.depthAll]
    rw [List.map_cons]
    simp only [PyData.depthAll]
    omega
theorem depth_key (v : Wd) : (lenK (v.map evD)).depth ≤ 60 := by
  have z := depth_evs v
  simp only [lenK, PyData.depth, PyData.depthAll]
  omega
end My

-- ===== K7T =====
set_option Elab.async false
set_option linter.all false
set_option maxRecDepth 100000
set_option maxHeartbeats 4000000
namespace My
open PySem L2 PyProof.Rows PySem.Spec Kd TL
abbrev sDif : Stmt := top 9
def WAt (H : Hp) (v : V) : Option Wd → Prop
  | none => v = .non
  | some w => ∃ a, v = .ref a ∧ TD H (.ref a) (wordD w)
theorem WAt.to {H H' : Hp} {v : V} : ∀ {o : Option Wd}, WAt H v o → Tup H H' → WAt H' v o
  | none, h, _ => h
  | some w, ⟨a, e, h⟩, t => ⟨a, e, h.to t⟩
theorem Tup.extN {H H' : Hp} (s : LamX.ExtN H H') : Tup H H' := fun a xs e => s a _ e fun ps z => nomatch z
theorem least2 {ms ts : List (List Stp)} {v w : Wd} (h : LeastOf (BeyW ms ts) (some v)) (g : LeastOf (BeyW ts ms) (some w)) : (sl w v → LeastOf (SepW ms ts) (some w)) ∧ (¬ sl w v → LeastOf (SepW ms ts) (some v)) := by
  refine ⟨fun l => ⟨.inr g.1, fun u z => z.elim (fun y => sle_trans (.inr l) (h.2 u y)) (g.2 u)⟩, fun l => ⟨.inl h.1, fun u z => z.elim (h.2 u) fun y => sle_trans ?_ (g.2 u y)⟩⟩
  rcases sl_tri v w with z | z | z
  · exact .inr z
  · exact .inl z
  · exact absurd z l
theorem least1 {ms ts : List (List Stp)} {o : Option Wd} (h : LeastOf (BeyW ms ts) o) (g : LeastOf (BeyW ts ms) none) : LeastOf (SepW ms ts) o := by
  cases o with
  | none => exact fun w z => z.elim (h w) (g w)
  | some v => exact ⟨.inl h.1, fun u z => z.elim (h.2 u) fun y => absurd y (g u)⟩
abbrev qDif : Str := Str.ofString "first_difference" ++ Str.ofString ".<locals>." ++ Str.ofString "<lambda>"
def spDif (Pt : Addr) : Sp := fun vs H Q _ => ∃ (m m' : Addr) (ms ts : List (List Stp)), vs = [.ref m, .ref m'] ∧ MovesAt H m ms ∧ MovesAt H m' ts ∧ KOk ms ∧ KOk ts ∧ LamX.Tabs [(Pt, qDif)] H ∧
  ∀ (v : V) (o : Option Wd) (H' : Hp), LamX.ExtN H H' → LamX.Tabs [(Pt, qDif)] H' → WAt H' v o → (∀ w, o = some w → w.length ≤ 1600) → LeastOf (SepW ms ts) o → Q v H'
theorem bey_k {ms ts : List (List Stp)} {H : Hp} {Q : VK} (h : ∀ (v : V) (o : Option Wd) (H' : Hp), Same H H' → WAt H' v o → (∀ w, o = some w → w.length ≤ 1600) → LeastOf (BeyW ms ts) o → Q v H') :
    BeyK ms ts H Q :=
  ⟨fun H' s l => h .non none H' s rfl (fun w e => (nomatch e)) l, fun a w H' s t l z => h (.ref a) (some w) H' s ⟨a, rfl, t⟩ (fun u e => by cases e; exact l) z⟩
theorem tabs_to {T : List (Addr × Str)} {H H' : Hp} (s : Same H H') (t : LamX.Tabs T H) : LamX.Tabs T H' := fun p m => (t p m).ext s
section
variable {P : Program} {w : World} {K : PySem.W.Frag} {mg : Str → Option Value} {base : Heap}
abbrev nDf : List Str := ["mine", "theirs", "both", "found", "path"]
theorem scDf : FnScope nDf ["mine", "theirs"] (defScope sDif) := ⟨rfl, rfl, rfl, by decide +kernel, rfl, by decide +kernel, by decide +kernel⟩
theorem ok_dif {f fB c Pt : Addr} {fdB : FuncData} {oc kV doc pm ct : Value} {od an : Option Addr} {osl : Array (Option Value)}
    (lk : K.lookup f = some ⟨oc, od, .func (PySem.W.fnOf "first_difference" "first_difference" (defArgs sDif) (defBody sDif) (defScope sDif) .none kV doc pm an (.ref c) ct), osl⟩) (hcd : PySem.W.codeIn K (.ref c) "first_difference" = true)
    (TB : LamX.TabB base mg c Pt) (G : Gs mg)
    (GB : FnOk P w K mg base CX0 1 fB fdB ["mine", "one", "theirs", "other"] spBey) (mB : mg "first_beyond" = some (.ref fB)) (kB : PySem.W.keepIn K (.ref fB) = true) (bB : Binds K fdB ["mine", "one", "theirs", "other"] []) :
    FnOk P w K mg base CX0 5 f (PySem.W.fnOf "first_difference" "first_difference" (defArgs sDif) (defBody sDif) (defScope sDif) .none kV doc pm an (.ref c) ct) ["mine", "theirs"] (spDif Pt) := by
  refine fn_of lk hcd scDf (fun vs H Q E h => ?_) (fun A outer s H vs Q E hr h => ?_)
  · obtain ⟨m, m', ms, ts, rfl, _⟩ := h
    rfl
  · obtain ⟨m, m', ms, ts, rfl, hm, hmt, mo, to, tb, k⟩ := h
    have hr1 : Room 1 (A.deeper (envOfC "first_difference" (defScope sDif) s.heap.objs.size f (.ref c))) := ⟨hr.hd, by have := hr.dp; omega, by have := hr.un; omega⟩
    refine ⟨_, pss_cons (ps_set (i := 2) scDf.nd rfl (Or.inl rfl) (pe_lst (pa_cons (pe_call GB hr1 (by rfl) mB kB bB .nil pass0 (pa_cons (pv 0) (pa_cons pe_int (pa_cons (pv 1) (pa_cons pe_int pa_nil))))) (pa_cons (pe_call GB hr1 (by rfl) mB kB bB .nil pass0 (pa_cons (pv 1) (pa_cons pe_int (pa_cons (pv 0) (pa_cons pe_int pa_nil))))) pa_nil))))
      (pss_cons (ps_setLc (i := 3) (own := [("path", 4)]) (g := gName 4) rfl scDf.nd rfl rfl (sw_true rfl rfl rfl (by decide +kernel)) (pi_list (pv 2)) (blkOk_by (N := nDf) (sc := defScope sDif) (by decide +kernel)) (fun _ _ _ _ _ => pg_name (i := 4) scDf.nd rfl (Or.inl rfl)) (fun _ _ _ _ _ => pts_one (pt_cmp (pc_notN (pv 4)))) (fun _ _ _ _ _ => pv 4))
      (pss_one (ps_ret (pe_minLam (pv 3) (by rfl) G.min (by rfl) G.len TB rfl List.mem_cons_self (fun p m _ => by rw [List.mem_singleton.mp m]) (by rfl) (by decide +kernel) (by rfl) (fun _ _ _ _ _ => by rfl) (NdefX.nscope_by (by decide +kernel)) (by rfl) hr)))), ?_⟩
    refine ⟨_, rfl, _, rfl, m, m', ms, ts, rfl, hm, hmt, mo, to, bey_k fun v1 o1 H1 s1 y1 l1 h1 => ?_⟩
    refine ⟨_, rfl, _, rfl, m', m, ts, ms, rfl, hmt.same s1, hm.same s1, to, mo, bey_k fun v2 o2 H2 s2 y2 l2 h2 => ?_⟩
    refine ⟨by show 2 ≤ sizeLine; decide, fun l hl => ?_⟩
    have y1' := WAt.to y1 (Tup.of s2)
    have s3 := same_new (o := .lst [v1, v2]) hl
    have b3 : (upd H2 l (.lst [v1, v2])) l = some (.lst [v1, v2]) := upd_same
    have s12 := (s1.trans s2).trans s3
    have w1 := WAt.to y1' (Tup.of s3)
    have w2 := WAt.to y2 (Tup.of s3)
    generalize upd H2 l (.lst [v1, v2]) = H3 at s3 b3 s12 w1 w2 ⊢
    refine ⟨_, rfl, l, rfl, ⟨_, SqL.of b3⟩, fun D hD => lc_list (K := K) (a := l) (xs := [v1, v2]) (fun i H' => Same H3 H' ∧ H' D = some (.lst (([v1, v2].take i).filter fun v => !decide (v = .non)))) ⟨same_new hD, upd_same⟩ (fun i H' _ ⟨s4, _⟩ => SqL.of (s4 _ _ b3)) (fun i x H' ex ⟨s4, d4⟩ => ?_) fun H' ⟨s4, d4⟩ => ?_⟩
    · have tk : [v1, v2].take (i + 1) = [v1, v2].take i ++ [x] := by rw [List.take_succ, ex]; rfl
      have lz : (([v1, v2].take i).filter fun v => !decide (v = .non)).length ≤ 2 := Nat.le_trans (List.length_filter_le _ _) (by rw [List.length_take]; exact Nat.min_le_right _ _)
      refine ⟨rfl, _, rfl, _, rfl, ?_⟩
      by_cases hx : x = .non
      · rw [decide_eq_true hx]
        refine iteF ⟨s4, ?_⟩
        rw [tk, List.filter_append, d4]
        simp [hx]
      · rw [decide_eq_false hx]
        refine iteT ⟨_, rfl, _, d4, Nat.lt_of_le_of_lt lz (by rw [sizeLine_eq]; omega), same_at s4 hD, ?_⟩
        rw [upd_same, tk, List.filter_append]
        simp [hx]
    · have s5 := s12.trans s4
      refine ⟨_, rfl, tabs_to s5 tb, fun H4 e4 t4 => ?_⟩
      have x4 : LamX.ExtN H H4 := (LamX.ExtN.of s5).trans e4
      have d5 := e4 _ _ d4 fun ps z => nomatch z
      have tp := (Tup.of s4).trans (Tup.extN e4)
      have z1 := WAt.to w1 tp
      have z2 := WAt.to w2 tp
      have fin : ∀ LW : List (Addr × Wd), H4 D = some (.lst (LW.map fun q => V.ref q.1)) → (∀ q ∈ LW, TD H4 (.ref q.1) (wordD q.2) ∧ q.2.length ≤ 1600) → LW.length ≤ 2 → (LW = [] → Q .non H4) →
          (∀ q, (LW.map fun q => (q.1, q.2.map evD))[argBest (keyB (LW.map fun q => (q.1, q.2.map evD))) (LW.length - 1)]? = some q → Q (.ref q.1) H4) →
          ∃ (l : Addr) (L : List (Addr × List PyData)), V.ref D = .ref l ∧ H4 l = some (.lst (L.map fun q => V.ref q.1)) ∧ DpRows PyData.tuple K H4 L ∧ (∀ q ∈ L, ∀ r ∈ L, PySem.W.alike (lenK q.2) (lenK r.2) = true) ∧ (∀ q ∈ L, (lenK q.2).depth ≤ 60 ∧ q.2.length ≤ 100000) ∧ L.length ≤ 100000 ∧
            (L = [] → Q .non H4) ∧ ∀ q, L[argBest (keyB L) (L.length - 1)]? = some q → Q (.ref q.1) H4 := by
        intro LW hd ht hl h0 h1
        refine ⟨D, LW.map fun q => (q.1, q.2.map evD), rfl, by rw [List.map_map]; exact hd, fun q mq => ?_, fun q mq r mr => ?_, fun q mq => ?_, by rw [List.length_map]; omega, fun e => h0 (List.map_eq_nil_iff.mp e), fun q e => h1 q (by rw [List.length_map] at e; exact e)⟩
        · obtain ⟨p, mp, rfl⟩ := List.mem_map.mp mq
          exact TD.dp (ht p mp).1
        · obtain ⟨p, mp, rfl⟩ := List.mem_map.mp mq
          obtain ⟨p2, mp2, rfl⟩ := List.mem_map.mp mr
          exact alike_key _ _
        · obtain ⟨p, mp, rfl⟩ := List.mem_map.mp mq
          have := (ht p mp).2
          exact ⟨depth_key _, by rw [List.length_map]; omega⟩
      cases o1 with
      | none =>
        cases (show v1 = .non from z1)
        cases o2 with
        | none =>
          cases (show v2 = .non from z2)
          exact fin [] d5 (fun q m => (nomatch m)) (by decide) (fun _ => k .non none H4 x4 t4 rfl (fun w e => (nomatch e)) (least1 h1 h2)) fun q e => (nomatch e)
        | some u2 =>
          obtain ⟨a2, rfl, t2⟩ := z2
          refine fin [(a2, u2)] d5 (fun q m => ?_) (by simp) (fun e => (nomatch e)) fun q e => ?_
          · rw [List.mem_singleton.mp m]
            exact ⟨t2, l2 u2 rfl⟩
          · cases e
            exact k (.ref a2) (some u2) H4 x4 t4 ⟨a2, rfl, t2⟩ l2 (LeastOf.swap (least1 h2 h1))
      | some u1 =>
        obtain ⟨a1, rfl, t1⟩ := z1
        cases o2 with
        | none =>
          cases (show v2 = .non from z2)
          refine fin [(a1, u1)] d5 (fun q m => ?_) (by simp) (fun e => (nomatch e)) fun q e => ?_
          · rw [List.mem_singleton.mp m]
            exact ⟨t1, l1 u1 rfl⟩
          · cases e
            exact k (.ref a1) (some u1) H4 x4 t4 ⟨a1, rfl, t1⟩ l1 (least1 h1 h2)
        | some u2 =>
          obtain ⟨a2, rfl, t2⟩ := z2
          refine fin [(a1, u1), (a2, u2)] d5 (fun q m => ?_) (by simp) (fun e => (nomatch e)) fun q e => ?_
          · rcases List.mem_cons.mp m with rfl | m
            · exact ⟨t1, l1 u1 rfl⟩
            · rw [List.mem_singleton.mp m]
              exact ⟨t2, l2 u2 rfl⟩
          · have e0 : argBest (keyB ([(a1, u1), (a2, u2)].map fun q => (q.1, q.2.map evD))) ([(a1, u1), (a2, u2)].length - 1) = if PySem.W.dataLt (lenK (u2.map evD)) (lenK (u1.map evD)) = true then 1 else 0 := rfl
            rw [e0] at e
            by_cases lt : PySem.W.dataLt (lenK (u2.map evD)) (lenK (u1.map evD)) = true
            · rw [if_pos lt] at e
              cases e
              exact k (.ref a2) (some u2) H4 x4 t4 ⟨a2, rfl, t2⟩ l2 ((least2 h1 h2).1 ((lt_key _ _).mp lt))
            · rw [if_neg lt] at e
              cases e
              exact k (.ref a1) (some u1) H4 x4 t4 ⟨a1, rfl, t1⟩ l1 ((least2 h1 h2).2 fun z => lt ((lt_key _ _).mpr z))
end
end My

-- ===== K7D2 =====
set_option Elab.async false
set_option linter.all false
set_option maxRecDepth 100000
set_option maxHeartbeats 4000000
namespace My
open PySem L2 PyProof.Rows PySem.Spec Kd TL StX ClX
abbrev sLedBy : Stmt := top 7
abbrev sKled : Stmt := inClass sKind 10
abbrev sKdif : Stmt := inClass sKind 14
abbrev sEnd : Stmt := top 38
theorem MovesAt.ext {H H' : Hp} {m : Addr} {ss : List (List Stp)} (h : MovesAt H m ss) (s : LamX.ExtN H H') : MovesAt H' m ss := by
  obtain ⟨bs, h1, h2, h3⟩ := h
  exact ⟨bs, s _ _ h1 (fun ps z => nomatch z), h2, fun i b st e1 e2 => s _ _ (h3 i b st e1 e2) fun ps z => nomatch z⟩
theorem KindAt.ext {C : Addr} {H H' : Hp} {v : V} {ss : List (List Stp)} (h : KindAt C H v ss) (s : LamX.ExtN H H') : KindAt C H' v ss := by
  obtain ⟨o, dx, a, m, rfl, ho, ht, hm⟩ := h
  exact ⟨o, dx, a, m, rfl, s _ _ ho (fun ps z => nomatch z), ht.to (Tup.extN s), hm.ext s⟩
def spKdif (C Pt : Addr) : Sp := fun vs H Q _ => ∃ (v u : V) (ms ts : List (List Stp)), vs = [v, u] ∧ KindAt C H v ms ∧ KindAt C H u ts ∧ KOk ms ∧ KOk ts ∧ LamX.Tabs [(Pt, qDif)] H ∧
  ∀ (x : V) (o : Option Wd) (H' : Hp), LamX.ExtN H H' → LamX.Tabs [(Pt, qDif)] H' → WAt H' x o → (∀ w, o = some w → w.length ≤ 1600) → LeastOf (SepW ms ts) o → Q x H'
/-- one event: a tuple of one -/
def spLedBy : Sp := fun vs H Q _ => ∃ (m p q : Addr) (i : Nat) (e : Ev) (ss : List (List Stp)) (st : List Stp), vs = [.ref m, .int i, .ref p] ∧ MovesAt H m ss ∧ KOk ss ∧ ss[i]? = some st ∧ H p = some (.tup [.ref q]) ∧ H q = some (.tup ((evK e).map kV)) ∧
  ((∀ y ∈ st, e ≠ evOf y) → Q .non H) ∧ ∀ y ∈ st, e = evOf y → Q (.int y.2.2) H
def spLed (C : Addr) : Sp := fun vs H Q _ => ∃ (v : V) (p q : Addr) (i : Nat) (e : Ev) (ss : List (List Stp)) (st : List Stp), vs = [v, .int i, .ref p] ∧ KindAt C H v ss ∧ KOk ss ∧ ss[i]? = some st ∧ H p = some (.tup [.ref q]) ∧ H q = some (.tup ((evK e).map kV)) ∧
  ((∀ y ∈ st, e ≠ evOf y) → Q .non H) ∧ ∀ y ∈ st, e = evOf y → Q (.int y.2.2) H
def spLedR (C : Addr) : Sp := fun vs H Q E => ∃ ws rest, vs = ws ++ rest ∧ ws.length = ["self", "state"].length ∧ rest.length ≤ sizeLine ∧ ∀ p, H p = Option.none → spLed C (ws ++ [V.ref p]) (upd H p (.tup rest)) Q E
section
variable {P : Program} {w : World} {K : PySem.W.Frag} {mg : Str → Option Value} {base : Heap} {C : Addr}
theorem scKd : FnScope ["self", "other"] ["self", "other"] (defScope sKdif) := ⟨rfl, rfl, rfl, by decide +kernel, rfl, by decide +kernel, by decide +kernel⟩
theorem scLb : FnScope ["moves", "state", "events", "event"] ["moves", "state", "events"] (defScope sLedBy) := ⟨rfl, rfl, rfl, by decide +kernel, rfl, by decide +kernel, by decide +kernel⟩
theorem scLd : FnScope ["self", "state", "events"] ["self", "state", "events"] (defScope sKled) := ⟨rfl, rfl, rfl, by decide +kernel, rfl, by decide +kernel, by decide +kernel⟩
theorem ok_kdif {f fD Pt : Addr} {fd fdD : FuncData} (F : Fun K "difference" "Kind.difference" sKdif f fd) (cl : Cls K C) (n2 : NoAttr K C "moves")
    (GD : FnOk P w K mg base CX0 5 fD fdD ["mine", "theirs"] (spDif Pt)) (mD : mg "first_difference" = some (.ref fD)) (kD : PySem.W.keepIn K (.ref fD) = true) (bD : Binds K fdD ["mine", "theirs"] []) :
    FnOk P w K mg base CX0 6 f fd ["self", "other"] (spKdif C Pt) := by
  refine F.ok scKd (fun vs H Q E h => ?_) (fun cdv A outer s H vs Q E hr h => ?_)
  · obtain ⟨v, u, ms, ts, rfl, _⟩ := h
    rfl
  · obtain ⟨v, u, ms, ts, rfl, h1, h2, mo, to, tb, k⟩ := h
    refine ⟨_, pss_one (ps_ret (pe_call GD hr (by rfl) mD kD bD .nil pass0 (pa_cons (pe_fld (pv 0) rfl) (pa_cons (pe_fld (pv 1) rfl) pa_nil)))), ?_⟩
    obtain ⟨o, dx, a, m, rfl, ho, ht, hm⟩ := h1
    obtain ⟨o', dx', a', m', rfl, ho', ht', hm'⟩ := h2
    exact ⟨_, rfl, o, C, dx, _, _, rfl, ho, cl, n2, rfl, _, rfl, o', C, dx', _, _, rfl, ho', cl, n2, rfl, m, m', ms, ts, rfl, hm, hm', mo, to, tb, k⟩
theorem ok_ledby {f : Addr} {fd : FuncData} (F : Fun K "led_by" "led_by" sLedBy f fd) : FnOk P w K mg base CX0 1 f fd ["moves", "state", "events"] spLedBy := by
  refine F.ok scLb (fun vs H Q E h => ?_) (fun cdv A outer s H vs Q E hr h => ?_)
  · obtain ⟨m, p, q, i, e, ss, st, rfl, _⟩ := h
    rfl
  · obtain ⟨m, p, q, i, e, ss, st, rfl, hm, so, es, hp, hq, k1, k2⟩ := h
    have hu := hr.units
    have hu1 : (A.deeper (envOfC "led_by" (defScope sLedBy) s.heap.objs.size f cdv)).units + 1 < cLine := by omega
    refine ⟨_, pss_cons (ps_for PassesOwn.never rfl (pi_tup (pv 2)) (pg_name (i := 3) scLb.nd rfl (Or.inl rfl))
      (pss_cons (ps_if (pt_cmp (pc_dnotin hu1 (pv 3) (pe_ix (r := rIxL K) ix_list (pv 0) (pv 1) (fun _ _ => rfl)))) (pss_one (ps_ret pe_non)) pss_nil)
      (pss_one (ps_set (i := 1) scLb.nd rfl (Or.inl rfl) (pe_dget hu1 (pe_ix (r := rIxL K) ix_list (pv 0) (pv 1) (fun _ _ => rfl)) (pv 3) (fun _ _ => rfl))))))
      (pss_one (ps_ret (pv 1))), ?_⟩
    obtain ⟨bs, hm1, hm2, hm3⟩ := hm
    have li := (List.getElem?_eq_some_iff.mp es).1
    obtain ⟨d, ed⟩ : ∃ d, bs[i]? = some d := ⟨bs[i]'(by omega), List.getElem?_eq_getElem _⟩
    have hd := hm3 i d st ed es
    have sto := so.all st (List.mem_of_getElem? es)
    have eat : atI (bs.map V.ref) (i : Int) = some (.ref d) := atI_nat (by rw [List.getElem?_map, ed]; rfl)
    refine ⟨_, rfl, p, rfl, ⟨_, SqT.of hp⟩, for_tup (K := K) (a := p) (xs := [.ref q]) (fun j σ H' => H' = H ∧ (j = 0 → σ = [some (.ref m), some (.int i), some (.ref p), none]) ∧ (j = 1 → ∃ y ∈ st, e = evOf y ∧ ∃ o3, σ = [some (.ref m), some (.int y.2.2), some (.ref p), o3])) ⟨rfl, fun _ => rfl, fun z => (nomatch z)⟩ (fun j σ H' _ h => by rw [h.1]; exact SqT.of hp) (fun j x σ H' ex ⟨eh, e0, _⟩ => ?_) fun σ H' ⟨eh, _, e1⟩ => ?_⟩
    · subst eh
      have lj := (List.getElem?_eq_some_iff.mp ex).1
      have j0 : j = 0 := by simpa using lj
      subst j0
      cases ex
      rw [e0 rfl]
      refine ⟨_, rfl, _, rfl, _, rfl, m, _, _, _, rfl, rfl, SqL.of hm1, eat, d, _, rfl, .inr ⟨_, evK e, q, .inl hd, rfl, hq, rfl⟩, _, rfl, ?_⟩
      rcases mv_val sto.asc e with ⟨ev, no⟩ | ⟨y, my, ev, evv, uq⟩
      · rw [ev]
        exact iteT (k1 no)
      · rw [evv]
        refine iteF ⟨_, rfl, _, rfl, m, _, _, _, rfl, rfl, SqL.of hm1, eat, _, rfl, d, .int y.2.2, rfl, .inr ⟨_, evK e, q, .inl hd, rfl, hq, evv.symm⟩, rfl, fun z => (nomatch z), fun _ => ⟨y, my, ev, _, rfl⟩⟩
    · subst eh
      obtain ⟨y, my, ey, o3, rfl⟩ := e1 rfl
      exact ⟨_, rfl, k2 y my ey⟩
theorem ok_led {f fL : Addr} {fd fdL : FuncData} (F : Fun K "led" "Kind.led" sKled f fd) (cl : Cls K C) (n2 : NoAttr K C "moves")
    (GL : FnOk P w K mg base CX0 1 fL fdL ["moves", "state", "events"] spLedBy) (mL : mg "led_by" = some (.ref fL)) (kL : PySem.W.keepIn K (.ref fL) = true) (bL : Binds K fdL ["moves", "state", "events"] []) :
    FnR P w K mg base CX0 2 f (spLedR C) := by
  obtain ⟨oc, od, kV, doc, pm, an, cdv, ct, osl, rfl, lk, hcd⟩ := F.ex
  refine fn_star (ps := ["self", "state"]) (pv := "events") (sp := spLed C) lk hcd scLd cxUp_none (bind_star2 (B := fun l => bindArgs (PySem.W.fnOf "led" "Kind.led" (defArgs sKled) (defBody sKled) (defScope sKled) .none kV doc pm an cdv ct) ⟨l, []⟩) (p1 := "self") (p2 := "state") (pv := "events") (fun a b => rfl) (fun a b r rs => rfl)) fun A outer s H vs Q E hr h => ?_
  obtain ⟨v, p, q, i, e, ss, st, rfl, hk, so, es, hp, hq, k1, k2⟩ := h
  refine ⟨_, PSs.nox (pss_one (ps_ret (pe_call GL hr (by rfl) mL kL bL .nil pass0 (pa_cons (pe_fld (pv 0) rfl) (pa_cons (pv 1) (pa_cons (pv 2) pa_nil)))))), ?_⟩
  obtain ⟨o, dx, a, m, rfl, ho, ht, hm⟩ := hk
  exact ⟨_, rfl, o, C, dx, _, _, rfl, ho, cl, n2, rfl, _, rfl, _, rfl, m, p, q, i, e, ss, st, rfl, hm, so, es, hp, hq, k1, k2⟩
end
end My

-- ===== K7M2 =====
set_option Elab.async false
set_option linter.all false
set_option maxRecDepth 100000
set_option maxHeartbeats 4000000
namespace My
open PySem L2 PyProof.Rows PySem.Spec Kd TL
abbrev sMenu : Stmt := top 31
abbrev sLStates : Stmt := top 32
theorem wrd_w : ∀ z ∈ (["a", "b", "get", "put1", "0", "zzzzzzzzzzzz", "read", "a1"] : List Str), Wrd z := by
  unfold Wrd
  decide +kernel
theorem wrd_s : ∀ z ∈ (["ok", "no", "a", "0", "full", "12"] : List Str), Wrd z := by
  unfold Wrd
  decide +kernel
/-- a menu in a list: its pairs rising -/
structure MenuAt (H : Hp) (r : Addr) (S : List (Addr × List Key)) (es : List (Str × Str)) : Prop where
  lst : H r = some (.lst (S.map fun q => V.ref q.1))
  at_ : ∀ q ∈ S, H q.1 = some (.tup (q.2.map kV))
  key : S.map Prod.snd = es.map evK
  asc : es.Pairwise evLt
  wrd : ∀ e ∈ es, Wrd e.1 ∧ Wrd e.2
  few : es.length ≤ 6
theorem MenuAt.save {H H' : Hp} {r p c : Addr} {S : List (Addr × List Key)} {es : List (Str × Str)} {ks : List Int} {w n : Int} (M : MenuAt H r S es) (F : FeedAt H p c ks w n) (h1 : r ≠ p) (h2 : r ≠ c) (s : Save p c H H') : MenuAt H' r S es :=
  ⟨s _ _ M.lst h1 h2, fun q m => Save.tup F s _ _ (M.at_ q m), M.key, M.asc, M.wrd, M.few⟩
def spMenu : Sp := fun vs H Q _ => ∃ (p c : Addr) (ks : List Int) (w n many : Int), vs = [.ref p, .int many] ∧ FeedAt H p c ks w n ∧ n < 800000 ∧ 1 ≤ many ∧ many ≤ 6 ∧
  ∀ (r : Addr) (S : List (Addr × List Key)) (es : List (Str × Str)) (ks' : List Int) (n' : Int) (H' : Hp), MenuAt H' r S es → r ≠ p → r ≠ c → FeedAt H' p c ks' w n' → n' ≤ n + 12 → Save p c H H' → Q (.ref r) H'
section
variable {P : Program} {w : World} {K : PySem.W.Frag} {mg : Str → Option Value} {base : Heap}
abbrev nMe : List Str := ["_law_feed_here", "_law_many", "_law_words", "_law_said", "_law_found", "_law_k"]
theorem scMe : FnScope nMe ["_law_feed_here", "_law_many"] (defScope sMenu) := ⟨rfl, rfl, rfl, by decide +kernel, rfl, by decide +kernel, by decide +kernel⟩
theorem ok_menu {f fP : Addr} {fd fdP : FuncData} (F : Fun K "_law_menu" "_law_menu" sMenu f fd) (G : Gs mg)
    (GP : FnOk P w K mg base CX0 2 fP fdP ["_law_feed_here", "_law_some"] spPick) (mP : mg "_law_pick" = some (.ref fP)) (kP : PySem.W.keepIn K (.ref fP) = true) (bP : Binds K fdP ["_law_feed_here", "_law_some"] []) :
    FnOk P w K mg base CX0 3 f fd ["_law_feed_here", "_law_many"] spMenu := by
  refine F.ok scMe (fun vs H Q E h => ?_) (fun cdv A outer s H vs Q E hr h => ?_)
  · obtain ⟨p, c, ks, y, n, m, rfl, _⟩ := h
    rfl
  · obtain ⟨p, c, ks, y, n, m, rfl, FA, hn, m0, m1, k⟩ := h
    have hu := hr.units
    have hu1 : (A.deeper (envOfC "_law_menu" (defScope sMenu) s.heap.objs.size f cdv)).units + 1 < cLine := by omega
    refine ⟨_, pss_cons (ps_set (i := 2) scMe.nd rfl (Or.inl rfl) (pe_lst (pa_cons pe_str (pa_cons pe_str (pa_cons pe_str (pa_cons pe_str (pa_cons pe_str (pa_cons pe_str (pa_cons pe_str (pa_cons pe_str pa_nil))))))))))
      (pss_cons (ps_par (i := 3) (j := 4) rfl scMe.nd rfl rfl (by decide) rfl rfl (pa_cons (pe_lst (pa_cons pe_str (pa_cons pe_str (pa_cons pe_str (pa_cons pe_str (pa_cons pe_str (pa_cons pe_str pa_nil))))))) (pa_cons pe_dnewT pa_nil)) (by rfl))
      (pss_cons (ps_for PassesOwn.never rfl (pi_range1 (by rfl) G.range (pa_cons (pv 1) pa_nil)) (pg_name (i := 5) scMe.nd rfl (Or.inl rfl))
        (pss_one (ps_dput hu1 (pv 4) (pe_tup (pa_cons (pe_call GP hr (by rfl) mP kP bP .nil pass0 (pa_cons (pv 0) (pa_cons (pv 2) pa_nil))) (pa_cons (pe_call GP hr (by rfl) mP kP bP .nil pass0 (pa_cons (pv 0) (pa_cons (pv 3) pa_nil))) pa_nil))) pe_bl (by rfl))))
      (pss_one (ps_ret (pe_callB (cr_sortD rfl hu) (by rfl) G.sorted PyProof.Rows.boot_sorted (pa_cons (pv 4) pa_nil)))))), ?_⟩
    have n0 := FA.n0
    refine ⟨by show 8 ≤ sizeLine; decide, fun wl hwl => ⟨by show 6 ≤ sizeLine; decide, fun sl hsl md hmd => ⟨_, _, rfl, ?_⟩⟩⟩
    have s1 := same_new (o := .lst [V.str "a", .str "b", .str "get", .str "put1", .str "0", .str "zzzzzzzzzzzz", .str "read", .str "a1"]) hwl
    have s2 := s1.trans (same_new (o := .lst [V.str "ok", .str "no", .str "a", .str "0", .str "full", .str "12"]) hsl)
    have s3 := s2.trans (same_new (o := .dT []) hmd)
    have fmd : H md = none := none_of s2 hmd
    have aw : (upd (upd (upd H wl (.lst [V.str "a", .str "b", .str "get", .str "put1", .str "0", .str "zzzzzzzzzzzz", .str "read", .str "a1"])) sl (.lst [V.str "ok", .str "no", .str "a", .str "0", .str "full", .str "12"])) md (.dT [])) wl = some (.lst ((["a", "b", "get", "put1", "0", "zzzzzzzzzzzz", "read", "a1"] : List Str).map V.str)) := same_new hmd _ _ (same_new hsl _ _ upd_same)
    have asl : (upd (upd (upd H wl (.lst [V.str "a", .str "b", .str "get", .str "put1", .str "0", .str "zzzzzzzzzzzz", .str "read", .str "a1"])) sl (.lst [V.str "ok", .str "no", .str "a", .str "0", .str "full", .str "12"])) md (.dT [])) sl = some (.lst ((["ok", "no", "a", "0", "full", "12"] : List Str).map V.str)) := same_new hmd _ _ upd_same
    have amd : (upd (upd (upd H wl (.lst [V.str "a", .str "b", .str "get", .str "put1", .str "0", .str "zzzzzzzzzzzz", .str "read", .str "a1"])) sl (.lst [V.str "ok", .str "no", .str "a", .str "0", .str "full", .str "12"])) md (.dT [])) md = some (.dT []) := upd_same
    generalize upd (upd (upd H wl (.lst [V.str "a", .str "b", .str "get", .str "put1", .str "0", .str "zzzzzzzzzzzz", .str "read", .str "a1"])) sl (.lst [V.str "ok", .str "no", .str "a", .str "0", .str "full", .str "12"])) md (.dT []) = H0 at s3 aw asl amd ⊢
    have FA0 := FA.same s3
    have fwl : H wl = none := hwl
    have fsl : H sl = none := none_of s1 hsl
    have wp : wl ≠ p := Ne.symm (ne_of_none FA.ob fwl)
    have wc : wl ≠ c := Ne.symm (ne_of_none FA.cs fwl)
    have sp_ : sl ≠ p := Ne.symm (ne_of_none FA.ob fsl)
    have sc_ : sl ≠ c := Ne.symm (ne_of_none FA.cs fsl)
    have mp : md ≠ p := Ne.symm (ne_of_none FA.ob fmd)
    have mc : md ≠ c := Ne.symm (ne_of_none FA.cs fmd)
    have wm : wl ≠ md := fun z => by rw [z, amd] at aw; cases aw
    have sm : sl ≠ md := fun z => by rw [z, amd] at asl; cases asl
    refine ⟨_, rfl, m, rfl, by omega, by omega, for_range (lo := 0) (n := m.toNat) (fun j σ H2 => ∃ o5 ks2 n2 kvs, σ = [some (.ref p), some (.int m), some (.ref wl), some (.ref sl), some (.ref md), o5] ∧ Menu kvs ∧ kvs.length ≤ j ∧ FeedAt H2 p c ks2 y n2 ∧ n2 ≤ n + 2 * (j : Int) ∧ Save p c H H2 ∧ H2 wl = some (.lst ((["a", "b", "get", "put1", "0", "zzzzzzzzzzzz", "read", "a1"] : List Str).map V.str)) ∧ H2 sl = some (.lst ((["ok", "no", "a", "0", "full", "12"] : List Str).map V.str)) ∧ H2 md = some (.dT kvs))
      ⟨none, ks, n, [], rfl, ⟨List.nodup_nil, fun p m => nomatch m⟩, Nat.le_refl _, FA0, by omega, Save.of s3, aw, asl, amd⟩ ?_ ?_⟩
    · rintro j σ H2 hj ⟨o5, ks2, n2, kvs, rfl, M, kl, FA2, le2, sv2, w2, l2, d2⟩
      refine ⟨_, rfl, _, rfl, _, rfl, p, c, wl, ks2, _, y, n2, rfl, FA2, by omega, w2, wp, wc, by decide, by decide, fun v1 ks3 H3 mv1 FA3 sv3 => ?_⟩
      obtain ⟨z1, mz1, rfl⟩ := List.mem_map.mp mv1
      have l3 := sv3 _ _ l2 sp_ sc_
      refine ⟨_, rfl, _, rfl, p, c, sl, ks3, _, y, n2 + 1, rfl, FA3, by omega, l3, sp_, sc_, by decide, by decide, fun v2 ks4 H4 mv2 FA4 sv4 => ?_⟩
      obtain ⟨z2, mz2, rfl⟩ := List.mem_map.mp mv2
      refine ⟨by show 2 ≤ sizeLine; decide, fun b hb => ?_⟩
      have sb := same_new (o := .tup [V.str z1, .str z2]) hb
      have d5 := sb _ _ (sv4 _ _ (sv3 _ _ d2 mp mc) mp mc)
      have w5 := sb _ _ (sv4 _ _ (sv3 _ _ w2 wp wc) wp wc)
      have l5 := sb _ _ (sv4 _ _ l3 sp_ sc_)
      have put := M.put (e := (z1, z2)) (v := .bl true) (wrd_w _ mz1) (wrd_s _ mz2)
      refine ⟨md, _, rfl, DPut.t (k := evK (z1, z2)) d5 upd_same (small_lt (m := 30) (by omega)), ⟨_, ks4, n2 + 1 + 1, _, rfl, put.1, by omega, (FA4.same sb).wr mp mc, by omega, (((sv2.trans sv3).trans sv4).trans (Save.of sb)).wr fmd, ?_, ?_, upd_same⟩⟩
      · rw [upd_ne wm]
        exact w5
      · rw [upd_ne sm]
        exact l5
    · rintro σ H2 ⟨o5, ks2, n2, kvs, rfl, M, kl, FA2, le2, sv2, w2, l2, d2⟩
      refine ⟨_, rfl, md, kvs, rfl, d2, by omega, ?_, ?_, fun L q keys tups hq => ?_⟩
      · intro d hd d' hd'
        obtain ⟨r, m1, rfl⟩ := List.mem_map.mp hd
        obtain ⟨r', m2, rfl⟩ := List.mem_map.mp hd'
        obtain ⟨x, ex, _⟩ := M.ev r m1
        obtain ⟨x', ex', _⟩ := M.ev r' m2
        rw [ex, ex']
        rfl
      · refine .inl fun d hd => ?_
        obtain ⟨r, m1, rfl⟩ := List.mem_map.mp hd
        obtain ⟨x, ex, _⟩ := M.ev r m1
        rw [ex]
        exact ⟨_, _, rfl⟩
      have keyL : ∀ r ∈ L, ∃ e : Str × Str, r.2 = evK e ∧ Wrd e.1 ∧ Wrd e.2 := fun r mr => by
        have z : r.2 ∈ kvs.map Prod.fst := by rw [← keys]; exact List.mem_map.mpr ⟨r, mr, rfl⟩
        obtain ⟨s, ms, es⟩ := List.mem_map.mp z
        rw [← es]
        exact M.ev s ms
      obtain ⟨es, e1, e2, e3⟩ := sorted_asc L (fun r mr => let ⟨e, h, _⟩ := keyL r mr; ⟨e, h⟩) (by rw [keys]; exact M.nd)
      have e4 : ∀ e ∈ es, Wrd e.1 ∧ Wrd e.2 := fun e he => by
        obtain ⟨r, mr, er⟩ := List.mem_map.mp (e3 e he)
        obtain ⟨e', h1, h2⟩ := keyL r mr
        rw [h1] at er
        rw [← evK_inj er]
        exact h2
      have lL : L.length = kvs.length := by
        have z := congrArg List.length keys
        rwa [List.length_map, List.length_map] at z
      have lS : (L.mergeSort (PySem.W.dataLe false fun q : Addr × List Key => tD q.2)).length = L.length := List.length_mergeSort _
      have memL : ∀ r ∈ L.mergeSort (PySem.W.dataLe false fun q : Addr × List Key => tD q.2), H2 r.1 = some (.tup (r.2.map kV)) := fun r mr => tups r ((List.mergeSort_perm _ _).mem_iff.mp mr)
      generalize L.mergeSort (PySem.W.dataLe false fun q : Addr × List Key => tD q.2) = S at e1 memL lS ⊢
      have les : es.length = S.length := by
        have z := congrArg List.length e1
        rw [List.length_map, List.length_map] at z
        exact z.symm
      have sq := same_new (o := .lst (S.map fun q => V.ref q.1)) hq
      exact k q S es ks2 n2 _ ⟨upd_same, fun r mr => sq _ _ (memL r mr), e1, e2, e4, by omega⟩ (Ne.symm (ne_of_none FA2.ob hq)) (Ne.symm (ne_of_none FA2.cs hq)) (FA2.same sq) (by omega) (sv2.trans (Save.of sq))
end
end My

-- ===== K7S =====
set_option Elab.async false
set_option linter.all false
set_option maxRecDepth 100000
set_option maxHeartbeats 4000000
namespace My
open PySem L2 PyProof.Rows PySem.Spec Kd TL
def spLst : Sp := fun vs H Q _ => ∃ (p c r : Addr) (S : List (Addr × List Key)) (es : List (Str × Str)) (ks : List Int) (w n many share : Int), vs = [.ref p, .int many, .ref r, .int share] ∧ FeedAt H p c ks w n ∧ n < 800000 ∧ 1 ≤ many ∧ many ≤ 9 ∧ MenuAt H r S es ∧ r ≠ p ∧ r ≠ c ∧
  ∀ (a : Addr) (ss : List (List Stp)) (ks' : List Int) (n' : Int) (H' : Hp), TD H' (.ref a) (statesD ss) → (ss.length : Int) = many → (∀ st ∈ ss, StOk many.toNat st ∧ ∀ x ∈ st, evOf x ∈ es) → FeedAt H' p c ks' w n' → n' ≤ n + 108 → Save p c H H' → Q (.ref a) H'
section
variable {P : Program} {w : World} {K : PySem.W.Frag} {mg : Str → Option Value} {base : Heap}
abbrev nLs : List Str := ["_law_feed_here", "_law_many", "_law_menu_here", "_law_share", "_law_found", "_law_k", "_law_state", "_law_operation", "_law_answer"]
theorem scLs : FnScope nLs ["_law_feed_here", "_law_many", "_law_menu_here", "_law_share"] (defScope sLStates) := ⟨rfl, rfl, rfl, by decide +kernel, rfl, by decide +kernel, by decide +kernel⟩
theorem ok_lst {f fD : Addr} {fd fdD : FuncData} (F : Fun K "_law_states" "_law_states" sLStates f fd) (G : Gs mg)
    (GD : FnOk P w K mg base CX0 1 fD fdD ["_law_feed_here", "_law_many"] spDigit) (mD : mg "_law_digit" = some (.ref fD)) (kD : PySem.W.keepIn K (.ref fD) = true) (bD : Binds K fdD ["_law_feed_here", "_law_many"] []) :
    FnOk P w K mg base CX0 2 f fd ["_law_feed_here", "_law_many", "_law_menu_here", "_law_share"] spLst := by
  refine F.ok scLs (fun vs H Q E h => ?_) (fun cdv A outer s H vs Q E hr h => ?_)
  · obtain ⟨p, c, r, S, es, ks, y, n, many, share, rfl, _⟩ := h
    rfl
  · obtain ⟨p, c, r, S, es, ks, y, n, many, share, rfl, FA, hn, m0, m1, M, rp, rc, k⟩ := h
    refine ⟨_, (pss_cons (ps_set (i := 4) scLs.nd rfl (Or.inl rfl) (pe_lst pa_nil)) (pss_cons (ps_for PassesOwn.never rfl (pi_range1 (by rfl) G.range (pa_cons (pv 1) pa_nil)) (pg_name (i := 5) scLs.nd rfl (Or.inl rfl)) (pss_cons (ps_set (i := 6) scLs.nd rfl (Or.inl rfl) (pe_lst pa_nil)) (pss_cons (ps_for PassesOwn.never rfl (pi_list (pv 2)) (pg_tup (by rfl) (pgs_cons (pg_name (i := 7) scLs.nd rfl (Or.inl rfl)) (pgs_cons (pg_name (i := 8) scLs.nd rfl (Or.inl rfl)) pgs_nil))) (pss_one (ps_if (pt_cmpR op_lt (pe_call GD hr (by rfl) mD kD bD .nil pass0 (pa_cons (pv 0) (pa_cons pe_int pa_nil))) (pv 3) (nomark _)) (pss_one (ps_expr (pe_bm PySem.F.plainAttrs_list PySem.F.slot_list_append PySem.F.type_list_append mt_append (pv 6) (pa_cons (pe_tup (pa_cons (pv 7) (pa_cons (pv 8) (pa_cons (pe_call GD hr (by rfl) mD kD bD .nil pass0 (pa_cons (pv 0) (pa_cons (pv 1) pa_nil))) pa_nil)))) pa_nil)))) pss_nil))) (pss_one (ps_expr (pe_bm PySem.F.plainAttrs_list PySem.F.slot_list_append PySem.F.type_list_append mt_append (pv 4) (pa_cons (pe_callTy call_tuple_of (by rfl) G.tuple (by decide +kernel) (pa_cons (pv 6) pa_nil)) pa_nil))))))) (pss_one (ps_ret (pe_callTy call_tuple_of (by rfl) G.tuple (by decide +kernel) (pa_cons (pv 4) pa_nil)))))), ?_⟩
    have n0 := FA.n0
    have l_es : es.length = S.length := by
      have z := congrArg List.length M.key
      rw [List.length_map, List.length_map] at z
      exact z.symm
    have few := M.few
    refine ⟨by show 0 ≤ sizeLine; decide, fun fo hfo => ?_⟩
    have fop : fo ≠ p := Ne.symm (ne_of_none FA.ob hfo)
    have foc : fo ≠ c := Ne.symm (ne_of_none FA.cs hfo)
    refine ⟨_, rfl, many, rfl, by omega, by omega, for_range (lo := 0) (n := many.toNat) (fun j σ H4 => ∃ (o5 o6 o7 o8 : Option V) (ks' : List Int) (n' : Int) (vs : List V) (ss : List (List Stp)), σ = [some (.ref p), some (.int many), some (.ref r), some (.int share), some (.ref fo), o5, o6, o7, o8] ∧ FeedAt H4 p c ks' y n' ∧ n' ≤ n + 12 * (j : Int) ∧ Save p c H H4 ∧ H4 fo = some (.lst vs) ∧ TDs H4 vs (ss.map stateD) ∧ ss.length = j ∧ ∀ st ∈ ss, StOk many.toNat st ∧ ∀ x ∈ st, evOf x ∈ es)
      ⟨none, none, none, none, ks, n, [], [], rfl, FA.wr fop foc, by omega, (Save.refl p c H).wr hfo, upd_same, .nil, rfl, fun st m => nomatch m⟩ ?_ ?_⟩
    · rintro j σ H4 hj ⟨o5, o6, o7, o8, ks4, n4, vs, ss, rfl, F4, le4, sv4, f4, t4, sl, so⟩
      refine ⟨by show 0 ≤ sizeLine; decide, fun DD hDD => ?_⟩
      have np : DD ≠ p := Ne.symm (ne_of_none F4.ob hDD)
      have nc : DD ≠ c := Ne.symm (ne_of_none F4.cs hDD)
      have nf : DD ≠ fo := Ne.symm (ne_of_none f4 hDD)
      have s5 := same_new (o := .lst []) hDD
      have M5 := (M.save FA rp rc sv4).save F4 rp rc (Save.of (p := p) (c := c) s5)
      have dd0 : H DD = none := by
        cases e : H DD with
        | none => rfl
        | some o => rw [sv4 _ _ e np nc] at hDD; cases hDD
      have F5 := F4.wr (o := .lst []) np nc
      have sv5 := sv4.wr (o := .lst []) dd0
      have f5 := s5 _ _ f4
      have t5 := t4.to (Tup.of s5)
      have d5 : (upd H4 DD (.lst [])) DD = some (.lst []) := upd_same
      generalize upd H4 DD (.lst []) = H5 at M5 F5 sv5 f5 t5 d5 ⊢
      refine ⟨_, rfl, r, rfl, ⟨_, SqL.of M5.lst⟩, for_list (K := K) (a := r) (xs := S.map fun q => V.ref q.1) (fun i σ H8 => ∃ (o7 o8 : Option V) (ks8 : List Int) (n8 : Int) (vs2 : List V) (st : List Stp), σ = [some (.ref p), some (.int many), some (.ref r), some (.int share), some (.ref fo), some (.int (0 + (j : Int))), some (.ref DD), o7, o8] ∧ FeedAt H8 p c ks8 y n8 ∧ n8 ≤ n4 + 2 * (i : Int) ∧ MenuAt H8 r S es ∧ H8 DD = some (.lst vs2) ∧ TDs H8 vs2 (st.map stepD) ∧ (st.map evOf).Sublist (es.take i) ∧ (∀ x ∈ st, StpOk many.toNat x) ∧ ∀ b o, H5 b = some o → b ≠ DD → b ≠ p → b ≠ c → H8 b = some o)
        ⟨o7, o8, ks4, n4, [], [], rfl, F5, by omega, M5, d5, .nil, by simp, (fun x m => nomatch m), fun b o e _ _ _ => e⟩ (fun i σ H8 _ ⟨_, _, _, _, _, _, _, _, _, h, _⟩ => SqL.of h.lst) ?_ ?_⟩
      · rintro i x σ H8 ex ⟨p7, p8, ks8, n8, vs2, st, rfl, F8, le8, M8, d8, t8, sub8, ok8, kp8⟩
        rw [List.getElem?_map] at ex
        obtain ⟨⟨b, key⟩, eT, rfl⟩ := Option.map_eq_some_iff.mp ex
        have lt : i < S.length := (List.getElem?_eq_some_iff.mp eT).1
        have hb8 := M8.at_ _ (List.mem_of_getElem? eT)
        obtain ⟨e, ee, rfl⟩ : ∃ e, es[i]? = some e ∧ key = evK e := by
          have z : (S.map Prod.snd)[i]? = some key := by rw [List.getElem?_map, eT]; rfl
          rw [M.key, List.getElem?_map] at z
          obtain ⟨e, h1, h2⟩ := Option.map_eq_some_iff.mp z
          exact ⟨e, h1, h2.symm⟩
        have vl := t8.len
        have sl8 := sub8.length_le
        rw [List.length_map] at vl sl8
        rw [List.length_take] at sl8
        refine ⟨b, [.str e.1, .str e.2], rfl, SqT.of hb8, rfl, _, _, rfl, _, _, rfl, rfl, ?_⟩
        refine ⟨_, rfl, p, c, ks8, y, n8, 4, rfl, F8, by omega, by omega, by omega, fun d ks9 H9 d0 d3 F9 sv9 => ⟨_, rfl, _, _, rfl, rfl, _, rfl, ?_⟩⟩
        have M9 := M8.save F8 rp rc sv9
        have d9 := sv9 _ _ d8 np nc
        have t9 := t8.to (Save.tup F8 sv9)
        have kp9 : ∀ b o, H5 b = some o → b ≠ DD → b ≠ p → b ≠ c → H9 b = some o := fun b o e a1 a2 a3 => sv9 _ _ (kp8 b o e a1 a2 a3) a2 a3
        by_cases pos : d < share
        · rw [decide_eq_true pos]
          refine iteT ⟨_, rfl, .inl ⟨rfl, _, SqL.of d9⟩, _, rfl, _, rfl, _, rfl, _, rfl, p, c, ks9, y, n8 + 1, many, rfl, F9, by omega, by omega, by omega, fun d2 ksa Ha d20 d21 Fa sva => ⟨by show 3 ≤ sizeLine; decide, fun b2 hb2 => ?_⟩⟩
          have sn := same_new (o := .tup [V.str e.1, .str e.2, .int d2]) hb2
          have da := sn _ _ (sva _ _ d9 np nc)
          have at2 : (upd Ha b2 (.tup [V.str e.1, .str e.2, .int d2])) b2 = some (.tup [V.str e.1, .str e.2, .int d2]) := upd_same
          have Ma := (M9.save F9 rp rc sva).save Fa rp rc (Save.of (p := p) (c := c) sn)
          have ta := (t9.to (Save.tup F9 sva)).to (Tup.of sn)
          have Fb := Fa.same sn
          have kpa : ∀ b o, H5 b = some o → b ≠ DD → b ≠ p → b ≠ c → (upd Ha b2 (.tup [V.str e.1, .str e.2, .int d2])) b = some o := fun b o e a1 a2 a3 => sn _ _ (sva _ _ (kp9 b o e a1 a2 a3) a2 a3)
          generalize upd Ha b2 (.tup [V.str e.1, .str e.2, .int d2]) = Hb at da at2 Ma ta Fb kpa ⊢
          have tp : Tup Hb (upd Hb DD (.lst (vs2 ++ [.ref b2]))) := Tup.at_ da fun xs z => nomatch z
          have em : e ∈ es := List.mem_of_getElem? ee
          have rD : r ≠ DD := fun z => by
            have z1 := M5.lst
            rw [z, d5] at z1
            have z2 := HO.lst.inj (Option.some.inj z1)
            have z3 := congrArg List.length z2
            rw [List.length_map, List.length_nil] at z3
            omega
          refine ⟨DD, vs2, _, rfl, rfl, da, small_lt (m := 24) (by omega), _, _, ksa, n8 + 1 + 1, vs2 ++ [.ref b2], st ++ [(e.1, e.2, d2)], rfl, Fb.wr np nc, by omega, ⟨by rw [upd_ne rD]; exact Ma.lst, fun q m => tp _ _ (Ma.at_ q m), M.key, M.asc, M.wrd, M.few⟩, upd_same, ?_, ?_, fun x mx => ?_, fun b' o e' a1 a2 a3 => by rw [upd_ne a1]; exact kpa b' o e' a1 a2 a3⟩
          · rw [List.map_append]
            exact TDs.snoc (.tup (tp _ _ at2) (.cons (.str _) (.cons (.str _) (.cons (.int _) .nil)))) (ta.to tp)
          · rw [List.map_append, List.take_succ, ee, Option.toList_some]
            exact sub8.append (List.Sublist.refl [e])
          · rcases List.mem_append.mp mx with q | q
            · exact ok8 x q
            · rw [List.mem_singleton.mp q]
              refine ⟨(M.wrd e em).1, (M.wrd e em).2, d20, ?_⟩
              rw [Int.toNat_of_nonneg (by omega)]
              exact d21
        · rw [decide_eq_false pos]
          refine iteF ⟨_, _, ks9, n8 + 1, vs2, st, rfl, F9, by omega, M9, d9, t9, ?_, ok8, kp9⟩
          rw [List.take_succ]
          exact sub8.trans (List.sublist_append_left _ _)
      · rintro σ H8 ⟨p7, p8, ks8, n8, vs2, st, rfl, F8, le8, M8, d8, t8, sub8, ok8, kp8⟩
        rw [List.length_map] at le8 sub8
        have sub9 := sub8.trans (List.take_sublist _ _)
        have sl9 := sub9.length_le
        have vl := t8.len
        rw [List.length_map] at vl sl9
        have f8 := kp8 _ _ f5 (Ne.symm nf) fop foc
        have vl6 := t5.len
        rw [List.length_map] at vl6
        have tup8 : Tup H5 H8 := fun a xs e => kp8 _ _ e (fun z => by rw [z, d5] at e; cases e) (fun z => by rw [z, F5.ob] at e; cases e) (fun z => by rw [z, F5.cs] at e; cases e)
        refine ⟨_, rfl, .inl ⟨rfl, _, SqL.of f8⟩, _, rfl, DD, vs2, rfl, .inl ⟨SqL.of d8, fun b hb => ?_⟩⟩
        have sb := same_new (o := .tup vs2) hb
        have f9 := sb _ _ f8
        have tp : Tup (upd H8 b (.tup vs2)) (upd (upd H8 b (.tup vs2)) fo (.lst (vs ++ [.ref b]))) := Tup.at_ f9 fun xs z => nomatch z
        have tn : Tup H8 (upd H8 b (.tup vs2)) := Tup.of sb
        refine ⟨fo, vs, _, rfl, rfl, f9, small_lt (m := 40) (by omega), ⟨_, _, _, _, ks8, n8, vs ++ [.ref b], ss ++ [st], rfl, (F8.same sb).wr fop foc, by omega, fun b' o e a1 a2 => ?_, upd_same, ?_, by rw [List.length_append, sl]; rfl, ?_⟩⟩
        · rw [upd_ne (fun z => by rw [z, hfo] at e; cases e)]
          exact sb _ _ (kp8 _ _ (sv5 _ _ e a1 a2) (fun z => by rw [z, dd0] at e; cases e) a1 a2)
        · rw [List.map_append]
          exact TDs.snoc (.tup (tp _ _ upd_same) ((t8.to tn).to tp)) (((t5.to tup8).to tn).to tp)
        · intro st' ms
          rcases List.mem_append.mp ms with q | q
          · exact so st' q
          · rw [List.mem_singleton.mp q]
            exact ⟨⟨ok8, List.Pairwise.sublist sub9 M.asc, by omega⟩, fun x mx => sub9.subset (List.mem_map.mpr ⟨x, mx, rfl⟩)⟩
    · rintro σ H4 ⟨o5, o6, o7, o8, ks4, n4, vs, ss, rfl, F4, le4, sv4, f4, t4, sl, so⟩
      refine ⟨_, rfl, fo, vs, rfl, .inl ⟨SqL.of f4, fun b hb => k b ss ks4 n4 _ (.tup upd_same (t4.to (Tup.new hb))) (by omega) so (F4.same (same_new hb)) (by omega) (sv4.trans (Save.of (same_new hb)))⟩⟩
end
end My

-- ===== K7Ch0 =====
set_option Elab.async false
set_option linter.all false
set_option maxRecDepth 100000
set_option maxHeartbeats 4000000
namespace My
open PySem L2 PyProof.Rows PySem.Spec Kd TL PySem.W
/-! ### steps sorted, no two of one event -/
theorem lt_step {x y : Stp} (h : evLt (evOf x) (evOf y)) : dataLt (stepD x) (stepD y) = true := by
  unfold stepD
  rw [dataLt_tuple]
  rcases h with h | ⟨h1, h2⟩
  · have ne : x.1 ≠ y.1 := fun e => by
      have h' : x.1.cps.toList < y.1.cps.toList := h
      rw [e] at h'
      exact List.lt_irrefl _ h'
    rw [dataLt_all_no rfl (by rw [eqv_str]; exact decide_eq_false ne), dataLt_str]
    exact decide_eq_true h
  · have e1 : x.1 = y.1 := h1
    have ne : x.2.1 ≠ y.2.1 := fun e => by
      have h' : x.2.1.cps.toList < y.2.1.cps.toList := h2
      rw [e] at h'
      exact List.lt_irrefl _ h'
    rw [dataLt_all_yes rfl (by rw [eqv_str]; exact decide_eq_true e1), dataLt_all_no rfl (by rw [eqv_str]; exact decide_eq_false ne), dataLt_str]
    exact decide_eq_true h2
theorem sorted_steps (L : List (Addr × Stp)) (nd : (L.map fun q => evOf q.2).Nodup) :
    ((L.mergeSort (dataLe false fun q : Addr × Stp => stepD q.2)).map fun q => evOf q.2).Pairwise evLt ∧ (L.mergeSort (dataLe false fun q : Addr × Stp => stepD q.2)).Perm L := by
  have tot := sortLe_total (listOrd itemOrd) false fun q : Addr × Stp => keyToks (stepD q.2)
  have srt : (L.mergeSort (dataLe false fun q : Addr × Stp => stepD q.2)).Pairwise fun q r => dataLe false (fun q : Addr × Stp => stepD q.2) q r = true := List.pairwise_mergeSort tot.trans (fun a b => by rw [Bool.or_eq_true]; exact tot.total a b) L
  have pm : (L.mergeSort (dataLe false fun q : Addr × Stp => stepD q.2)).Perm L := List.mergeSort_perm _ _
  refine ⟨?_, pm⟩
  generalize L.mergeSort (dataLe false fun q : Addr × Stp => stepD q.2) = M at srt pm
  have ndM : (M.map fun q => evOf q.2).Nodup := (pm.map _).nodup_iff.mpr nd
  refine List.pairwise_map.mpr (List.Pairwise.imp₂ (fun q r h1 h2 => ?_) srt (List.pairwise_map.mp ndM))
  refine Classical.byContradiction fun z => h2 (evLt_tri _ _ z fun g => ?_)
  rw [dataLe_eq] at h1
  have h1' : (!dataLt (stepD r.2) (stepD q.2)) = true := h1
  rw [lt_step g] at h1'
  cases h1'
end My

-- ===== KX1 =====
set_option Elab.async false
set_option linter.all false
set_option maxRecDepth 100000
set_option maxHeartbeats 4000000
namespace PySem.SeqAt
open AutoSeq1 (wpAny_loadPart')
open MeetsSeq
theorem dict_eq_declines_str (l : Addr) (es : Array DictEntry) (n : Nat) (dd : Option Addr) (sl : Array (Option Value)) (b : Str) (u : Tok) :
    Meets (Builtin.«dict.__eq__» ⟨[.ref l, .str b u], []⟩) (fun _ R s => s.heap.get? l = some { cls := .type "dict", dict := dd, data := .dict es n, slots := sl } ∧ R (.ok (.ret .notImplemented)) s) :=
  .of_wp fun prog w A R s h => by obtain ⟨hp, g, d, tk, os⟩ := s; obtain ⟨hl, h⟩ := h; have f1 := F.sub_str_dict; wp_walk using wpAny_loadPart' hl; exact ⟨_, rfl, h⟩
theorem str_eq_declines_dict (b : Str) (u : Tok) (l : Addr) (es : Array DictEntry) (n : Nat) (dd : Option Addr) (sl : Array (Option Value)) :
    Meets (Builtin.«str.__eq__» ⟨[.str b u, .ref l], []⟩) (fun _ R s => s.heap.get? l = some { cls := .type "dict", dict := dd, data := .dict es n, slots := sl } ∧ R (.ok (.ret .notImplemented)) s) :=
  .of_wp fun prog w A R s h => by obtain ⟨hp, g, d, tk, os⟩ := s; obtain ⟨hl, h⟩ := h; wp_walk using wpAny_loadPart' hl, wpAny_load hl; exact ⟨_, rfl, h⟩
end PySem.SeqAt
namespace PySem.SeqAt
open MeetsSeq
theorem RcAt.dict_str {A : Around} {s : Shared} {l : Addr} {es : Array DictEntry} {n : Nat} {dd : Option Addr} {sl : Array (Option Value)} (b : Str) (u : Tok) (ho : s.heap.get? l = some { cls := .type "dict", dict := dd, data := .dict es n, slots := sl }) (hu : A.units < cLine) : RcAt A s (.ref l) (.str b u) false := fun prog w E Q h =>
  rc_eq_decline_or (k := false) ⟨_, ho, rfl⟩ (typeIs_str s b u) (by decide) F.sub_str_dict F.slot_dict_eq F.slot_str_eq_refl
    (fun _ hq => call_meets F.slot_dict_eq ⟨_, ho, rfl⟩ F.entry_dict_eq (F.args_dict_eq_2 _ _) (dict_eq_declines_str l es n dd sl b u) ⟨ho, hq⟩)
    (fun _ hq => call_meets F.slot_str_eq_refl (typeIs_str s b u) F.entry_str_eq (F.args_str_eq_2 _ _) (str_eq_declines_dict b u l es n dd sl) ⟨ho, hq⟩)
    (fun _ hq => wpAny_of_eq (rfl : isSame (.ref l) (.str b u) = pure false) hq) (.inr hu) h
end PySem.SeqAt
namespace Kd
open PySem L2 PyProof.Rows PySem.Spec
/-! ### values of any kind: lists are not looked into, dicts are empty; N of where the lists stand -/
mutual
inductive TZ (N : Addr → Prop) (H : Hp) : V → PyData → Prop
  | non : TZ N H .non .none
  | bl (b : Bool) : TZ N H (.bl b) (.bool b)
  | int (i : Int) : TZ N H (.int i) (.int i)
  | str (x : Str) : TZ N H (.str x) (.str x)
  | lst {a : Addr} {xs : List V} : N a → H a = some (.lst xs) → TZ N H (.ref a) (.list [])
  | tup {a : Addr} {xs : List V} {ds : List PyData} : H a = some (.tup xs) → TZs N H xs ds → TZ N H (.ref a) (.tuple ds)
  | dct {a : Addr} : H a = some (.dK []) → TZ N H (.ref a) (.dict [])
inductive TZs (N : Addr → Prop) (H : Hp) : List V → List PyData → Prop
  | nil : TZs N H [] []
  | cons {v : V} {vs : List V} {d : PyData} {ds : List PyData} : TZ N H v d → TZs N H vs ds → TZs N H (v :: vs) (d :: ds)
end
/-- what a value is made of stands in another heap, too -/
structure Zf (N : Addr → Prop) (H H' : Hp) : Prop where
  l : ∀ a xs, N a → H a = some (.lst xs) → H' a = some (.lst xs)
  t : ∀ a xs, H a = some (.tup xs) → H' a = some (.tup xs)
  d : ∀ a, H a = some (.dK []) → H' a = some (.dK [])
theorem Zf.of {N : Addr → Prop} {H H' : Hp} (s : ∀ a o, H a = some o → H' a = some o) : Zf N H H' := ⟨fun a _ _ e => s a _ e, fun a _ e => s a _ e, fun a e => s a _ e⟩
theorem Zf.trans {N : Addr → Prop} {H H' H2 : Hp} (f : Zf N H H') (g : Zf N H' H2) : Zf N H H2 := ⟨fun a xs n e => g.l a xs n (f.l a xs n e), fun a xs e => g.t a xs (f.t a xs e), fun a e => g.d a (f.d a e)⟩
mutual
theorem TZ.to {N : Addr → Prop} {H H' : Hp} (f : Zf N H H') : ∀ {v : V} {d : PyData}, TZ N H v d → TZ N H' v d
  | _, _, .non => .non
  | _, _, .bl b => .bl b
  | _, _, .int i => .int i
  | _, _, .str x => .str x
  | _, _, .lst n e => .lst n (f.l _ _ n e)
  | _, _, .tup e r => .tup (f.t _ _ e) (TZs.to f r)
  | _, _, .dct e => .dct (f.d _ e)
theorem TZs.to {N : Addr → Prop} {H H' : Hp} (f : Zf N H H') : ∀ {vs : List V} {ds : List PyData}, TZs N H vs ds → TZs N H' vs ds
  | _, _, .nil => .nil
  | _, _, .cons h r => .cons (TZ.to f h) (TZs.to f r)
end
theorem TZs.len {N : Addr → Prop} {H : Hp} : ∀ {vs : List V} {ds : List PyData}, TZs N H vs ds → vs.length = ds.length
  | _, _, .nil => rfl
  | _, _, .cons _ r => by rw [List.length_cons, List.length_cons, r.len]
theorem TZs.at_ {N : Addr → Prop} {H : Hp} : ∀ {vs : List V} {ds : List PyData}, TZs N H vs ds → ∀ {i : Nat} {v : V}, vs[i]? = some v → ∃ d, ds[i]? = some d ∧ TZ N H v d
  | _, _, .nil, i, v, e => by simp at e
  | _, _, .cons h r, 0, v, e => ⟨_, rfl, by rw [← Option.some.inj e]; exact h⟩
  | _, _, .cons h r, i + 1, v, e => r.at_ (i := i) e
theorem TZs.app {N : Addr → Prop} {H : Hp} : ∀ {vs : List V} {ds : List PyData} {us : List V} {es : List PyData}, TZs N H vs ds → TZs N H us es → TZs N H (vs ++ us) (ds ++ es)
  | _, _, _, _, .nil, g => g
  | _, _, _, _, .cons h r, g => .cons h (r.app g)
theorem TZs.take {N : Addr → Prop} {H : Hp} : ∀ {vs : List V} {ds : List PyData} (n : Nat), TZs N H vs ds → TZs N H (vs.take n) (ds.take n)
  | _, _, 0, _ => .nil
  | _, _, n + 1, .nil => .nil
  | _, _, n + 1, .cons h r => .cons h (r.take n)
theorem TZs.drop {N : Addr → Prop} {H : Hp} : ∀ {vs : List V} {ds : List PyData} (n : Nat), TZs N H vs ds → TZs N H (vs.drop n) (ds.drop n)
  | _, _, 0, h => h
  | _, _, n + 1, .nil => .nil
  | _, _, n + 1, .cons h r => r.drop n
/-- the name of a value's type -/
def tyN : PyData → String
  | .none => "NoneType"
  | .bool _ => "bool"
  | .int _ => "int"
  | .str _ => "str"
  | .list _ => "list"
  | .tuple _ => "tuple"
  | .dict _ => "dict"
def isTup : PyData → Bool
  | .tuple _ => true
  | _ => false
def isStr : PyData → Bool
  | .str _ => true
  | _ => false
def isInt : PyData → Bool
  | .int _ => true
  | .bool _ => true
  | _ => false
def isBl : PyData → Bool
  | .bool _ => true
  | _ => false
theorem TZ.ty {K : PySem.W.Frag} {N : Addr → Prop} {H : Hp} {v : V} {d : PyData} (h : TZ N H v d) : TyX K H v (.type (tyN d)) := by
  cases h with
  | non => exact .base .non
  | bl b => exact .base (.bl b)
  | int i => exact .base (.int i)
  | str x => exact .base (.str x)
  | lst _ e => exact .base (.lst e)
  | tup e _ => exact .base (.tup e)
  | dct e => exact .base (.dK e)
theorem kb_all : ([("NoneType", false, false, false, false), ("bool", false, false, true, true), ("int", false, false, true, false), ("str", false, true, false, false), ("list", false, false, false, false), ("tuple", true, false, false, false), ("dict", false, false, false, false)] : List (String × Bool × Bool × Bool × Bool)).all (fun x =>
    kitB x.1 "tuple" == some x.2.1 && kitB x.1 "str" == some x.2.2.1 && kitB x.1 "int" == some x.2.2.2.1 && kitB x.1 "bool" == some x.2.2.2.2) = true := by decide +kernel
theorem kb_of (d : PyData) : kitB (tyN d) "tuple" = some (isTup d) ∧ kitB (tyN d) "str" = some (isStr d) ∧ kitB (tyN d) "int" = some (isInt d) ∧ kitB (tyN d) "bool" = some (isBl d) := by
  have z := kb_all
  simp only [List.all_cons, List.all_nil, Bool.and_true, Bool.and_eq_true, beq_iff_eq] at z
  obtain ⟨z1, z2, z3, z4, z5, z6, z7⟩ := z
  cases d with
  | none => exact ⟨z1.1.1.1, z1.1.1.2, z1.1.2, z1.2⟩
  | bool _ => exact ⟨z2.1.1.1, z2.1.1.2, z2.1.2, z2.2⟩
  | int _ => exact ⟨z3.1.1.1, z3.1.1.2, z3.1.2, z3.2⟩
  | str _ => exact ⟨z4.1.1.1, z4.1.1.2, z4.1.2, z4.2⟩
  | list _ => exact ⟨z5.1.1.1, z5.1.1.2, z5.1.2, z5.2⟩
  | tuple _ => exact ⟨z6.1.1.1, z6.1.1.2, z6.1.2, z6.2⟩
  | dict _ => exact ⟨z7.1.1.1, z7.1.1.2, z7.1.2, z7.2⟩
section
variable {K : PySem.W.Frag} {N : Addr → Prop} {H : Hp} {v : V} {d : PyData} {Q : VK}
theorem TZ.isi_tup (h : TZ N H v d) (q : Q (.bl (isTup d)) H) : rIsi K [v, .ty "tuple"] H Q := ⟨v, .ty "tuple", _, _, _, rfl, .ty "tuple", h.ty, kit_ty (kb_of d).1, q⟩
theorem TZ.isi_str (h : TZ N H v d) (q : Q (.bl (isStr d)) H) : rIsi K [v, .ty "str"] H Q := ⟨v, .ty "str", _, _, _, rfl, .ty "str", h.ty, kit_ty (kb_of d).2.1, q⟩
theorem TZ.isi_int (h : TZ N H v d) (q : Q (.bl (isInt d)) H) : rIsi K [v, .ty "int"] H Q := ⟨v, .ty "int", _, _, _, rfl, .ty "int", h.ty, kit_ty (kb_of d).2.2.1, q⟩
theorem TZ.isi_bl (h : TZ N H v d) (q : Q (.bl (isBl d)) H) : rIsi K [v, .ty "bool"] H Q := ⟨v, .ty "bool", _, _, _, rfl, .ty "bool", h.ty, kit_ty (kb_of d).2.2.2, q⟩
end
/-! ### == of values of any kind -/
def isS (t : Str) : PyData → Bool
  | .str s => decide (s = t)
  | _ => false
def rEqS (N : Addr → Prop) : R2 := fun x y H Q => ∃ d t, TZ N H x d ∧ y = .str t ∧ Q (.bl (isS t d)) H
def rEqE : R2 := fun x y H Q => ∃ a b xs, x = .ref a ∧ y = .ref b ∧ H a = some (.tup xs) ∧ H b = some (.tup []) ∧ Q (.bl xs.isEmpty) H
def rNeE : R2 := fun x y H Q => ∃ a b xs, x = .ref a ∧ y = .ref b ∧ H a = some (.tup xs) ∧ H b = some (.tup []) ∧ Q (.bl (!xs.isEmpty)) H
def rNeL : R2 := fun x y H Q => ∃ a b xs, x = .ref a ∧ y = .ref b ∧ H a = some (.lst xs) ∧ H b = some (.lst []) ∧ Q (.bl (!xs.isEmpty)) H
def rEq1 : R2 := fun x y H Q => ∃ a b s t xs, x = .ref a ∧ y = .ref b ∧ H a = some (.tup (.str s :: xs)) ∧ H b = some (.tup [.str t]) ∧ Q (.bl (decide (s = t) && xs.isEmpty)) H
section
variable {X : Cx} {N : Addr → Prop}
theorem tup_is {pins : List (Addr × Obj)} {σ : L2.St} {H : Hp} {s : Shared} (I : Inv X pins σ H s) {a : Addr} {xs : List V} (e : H a = some (.tup xs)) : ∃ its : List Value, Vals xs its ∧ s.heap.IsTuple a its.toArray := by
  obtain ⟨_, its, rv, o, h1, h2, n, h3⟩ := (show ObjOk X.prog X.w H s.heap a (.tup xs) from I.hok a _ e)
  exact ⟨its, rv, o, h1, h2, n, h3⟩
theorem lst_is {pins : List (Addr × Obj)} {σ : L2.St} {H : Hp} {s : Shared} (I : Inv X pins σ H s) {a : Addr} {xs : List V} (e : H a = some (.lst xs)) : ∃ its : List Value, Vals xs its ∧ s.heap.IsList a its.toArray := by
  obtain ⟨_, its, n, rv, h1⟩ := (show ObjOk X.prog X.w H s.heap a (.lst xs) from I.hok a _ e)
  exact ⟨its, rv, _, h1, rfl, n, rfl⟩
theorem op_eqS (hu : X.A.units < cLine) : OpR X (compareOp .Eq) (rEqS N) := by
  intro pins s σ H x y v u Q I rx ry h
  obtain ⟨d, t, hd, rfl, q⟩ := h
  obtain ⟨tk, rfl⟩ : ∃ tk, u = Value.str t tk := ry
  have fin : ∀ {b : Bool}, SeqAt.RcAt X.A s v (.str t tk) b → Q (.bl b) H → PySem.wpAny (model X.prog X.w) X.A (compareOp .Eq v (.str t tk)) (EP X pins σ Q) X.xe s := fun {b} r q => r X.prog X.w _ _ ⟨.bl b, H, I, rfl, q⟩
  cases hd with
  | non =>
    cases (show v = Value.none from rx)
    exact fin (SeqAt.RcAt.none_str t tk) q
  | bl b =>
    cases (show v = Value.bool b from rx)
    exact fin (SeqAt.RcAt.bool_str b t tk) q
  | int i =>
    obtain ⟨t2, rfl⟩ : ∃ t2, v = Value.int i t2 := rx
    exact fin (SeqAt.RcAt.int_str i t2 t tk) q
  | str z =>
    obtain ⟨t2, rfl⟩ : ∃ t2, v = Value.str z t2 := rx
    refine fin (SeqAt.RcAt.str_str z t2 t tk) ?_
    have e : (z == t) = decide (z = t) := by
      by_cases h : z = t
      · rw [h, decide_eq_true rfl, beq_self_eq_true]
      · rw [decide_eq_false h]
        exact beq_eq_false_iff_ne.mpr h
    rw [e]
    exact q
  | lst _ e =>
    cases (show v = Value.ref _ from rx)
    obtain ⟨its, _, hl⟩ := lst_is I e
    exact fin (SeqAt.RcAt.list_str t tk hl hu) q
  | tup e _ =>
    cases (show v = Value.ref _ from rx)
    obtain ⟨its, _, hl⟩ := tup_is I e
    exact fin (SeqAt.RcAt.tuple_str t tk hl hu) q
  | dct e =>
    cases (show v = Value.ref _ from rx)
    obtain ⟨_, _, vs, _, o, es, ep, h1, h2, h3, _⟩ := (show ObjOk X.prog X.w H s.heap _ (.dK []) from I.hok _ _ e)
    obtain ⟨cls, dd, data, sl⟩ := o
    simp only at h3
    subst h3
    have hc : cls = .type "dict" := h2.1
    subst hc
    exact fin (SeqAt.RcAt.dict_str t tk h1 hu) q
theorem op_eqE (hu : X.A.units < cLine) : OpR X (compareOp .Eq) rEqE := by
  intro pins s σ H x y v u Q I rx ry h
  obtain ⟨a, b, xs, rfl, rfl, ha, hb, q⟩ := h
  cases (show v = Value.ref a from rx)
  cases (show u = Value.ref b from ry)
  obtain ⟨its, rv, hl⟩ := tup_is I ha
  obtain ⟨its2, rv2, hl2⟩ := tup_is I hb
  cases rv2
  have r := SeqAt.RcAt.tuples (A := X.A) (e := fun _ => true) hl hl2 hu (fun j _ h2 => absurd h2 (Nat.not_lt_zero _))
  refine r X.prog X.w _ _ ⟨.bl xs.isEmpty, H, I, ?_, q⟩
  show Value.bool _ = Value.bool _
  cases rv with
  | nil => rfl
  | cons _ _ => simp
theorem op_neE (hu : X.A.units < cLine) : OpR X (compareOp .NotEq) rNeE := by
  intro pins s σ H x y v u Q I rx ry h
  obtain ⟨a, b, xs, rfl, rfl, ha, hb, q⟩ := h
  cases (show v = Value.ref a from rx)
  cases (show u = Value.ref b from ry)
  obtain ⟨its, rv, hl⟩ := tup_is I ha
  obtain ⟨its2, rv2, hl2⟩ := tup_is I hb
  cases rv2
  have r := SeqAt.RcNeAt.tuples (A := X.A) (e := fun _ => true) hl hl2 hu (fun j _ h2 => absurd h2 (Nat.not_lt_zero _))
  refine r X.prog X.w _ _ ⟨.bl (!xs.isEmpty), H, I, ?_, q⟩
  show Value.bool _ = Value.bool _
  cases rv with
  | nil => rfl
  | cons _ _ => simp
theorem op_neL (hu : X.A.units < cLine) : OpR X (compareOp .NotEq) rNeL := by
  intro pins s σ H x y v u Q I rx ry h
  obtain ⟨a, b, xs, rfl, rfl, ha, hb, q⟩ := h
  cases (show v = Value.ref a from rx)
  cases (show u = Value.ref b from ry)
  obtain ⟨its, rv, hl⟩ := lst_is I ha
  obtain ⟨its2, rv2, hl2⟩ := lst_is I hb
  cases rv2
  cases rv with
  | nil => exact SeqAt.RcNeAt.lists (A := X.A) (e := fun _ => true) hl hl2 rfl hu (fun j _ h2 => absurd h2 (Nat.not_lt_zero _)) X.prog X.w _ _ ⟨.bl _, H, I, rfl, q⟩
  | cons _ _ => exact SeqAt.RcNeAt.lists_lengths (A := X.A) hl hl2 (by simp) hu X.prog X.w _ _ ⟨.bl _, H, I, rfl, q⟩
theorem op_eq1 (hu : X.A.units < cLine) : OpR X (compareOp .Eq) rEq1 := by
  intro pins s σ H x y v u Q I rx ry h
  obtain ⟨a, b, z, t, xs, rfl, rfl, ha, hb, q⟩ := h
  cases (show v = Value.ref a from rx)
  cases (show u = Value.ref b from ry)
  obtain ⟨its, rv, hl⟩ := tup_is I ha
  obtain ⟨its2, rv2, hl2⟩ := tup_is I hb
  cases rv2 with
  | cons r2 n2 =>
    cases n2
    cases rv with
    | cons r1 n1 =>
      rename_i u1 us1
      obtain ⟨t2, rfl⟩ := (show ∃ t2, _ = Value.str t t2 from r2)
      obtain ⟨t1, rfl⟩ := (show ∃ t1, u1 = Value.str z t1 from r1)
      have r := SeqAt.RcAt.tuples (A := X.A) (e := fun _ => z == t) hl hl2 hu (fun j h1 h2 => by
        have ej : j = 0 := Nat.lt_one_iff.mp h2
        subst ej
        exact SeqAt.EqAt.str_str z t1 t t2)
      refine r X.prog X.w _ _ ⟨.bl _, H, I, ?_, q⟩
      show Value.bool _ = Value.bool _
      have e : (z == t) = decide (z = t) := by
        by_cases h : z = t
        · rw [h, decide_eq_true rfl, beq_self_eq_true]
        · rw [decide_eq_false h]
          exact beq_eq_false_iff_ne.mpr h
      rw [e]
      have l : xs.length = us1.length := n1.length
      cases n1 with
      | nil => simp
      | cons _ _ => simp
end
end Kd

-- ===== KX2 =====
set_option Elab.async false
set_option linter.all false
set_option maxRecDepth 100000
set_option maxHeartbeats 4000000
/-! list(zip(xs, ys)) of two lists -/
namespace Zx
open PySem PySem.Calls PyProof.Rows PyProof.V PySem.Spec PySem.W
theorem zip_len : typeLookup (.type "zip") "__len__" = pure none := am_miss_of_fast (by decide +kernel)
theorem zip_hint : typeLookup (.type "zip") "__length_hint__" = pure none := am_miss_of_fast (by decide +kernel)
/-- where a zip stands before turn i; T is the tuple that it gave out last -/
structure ZSt (z TI TO i1 i2 l1 l2 : Addr) (xs ys : Array Value) (S : Addr) (i : Nat) (h : Heap) : Prop where
  ti : IsPair h TI (.ref i1) (.ref i2)
  it1 : h.IsListIter i1 l1 i
  it2 : h.IsListIter i2 l2 i
  li1 : h.IsList l1 xs
  li2 : h.IsList l2 ys
  zz : (IsZip h z TI TO .none ∧ ∃ a b, IsPair h TO a b) ∨ ∃ T f oT, IsZipHeld h z TI TO T f ∧ h.get? T = some oT ∧ T ≠ z ∧ T ≠ i1 ∧ T ≠ i2 ∧ T ≠ S
structure Off (S z TI TO i1 i2 l1 l2 : Addr) : Prop where
  z : S ≠ z
  ti : S ≠ TI
  to : S ≠ TO
  i1 : S ≠ i1
  i2 : S ≠ i2
  l1 : S ≠ l1
  l2 : S ≠ l2
section
variable {z TI TO i1 i2 l1 l2 S : Addr} {xs ys : Array Value}
theorem ZSt.keep {h h' : Heap} {i : Nat} (x : ZSt z TI TO i1 i2 l1 l2 xs ys S i h) (o : Off S z TI TO i1 i2 l1 l2) (k : ∀ b u, b ≠ S → h.get? b = some u → h'.get? b = some u) : ZSt z TI TO i1 i2 l1 l2 xs ys S i h' := by
  refine ⟨k _ _ (Ne.symm o.ti) x.ti, x.it1.at fun u e => k _ u (Ne.symm o.i1) e, x.it2.at fun u e => k _ u (Ne.symm o.i2) e, x.li1.at fun u e => k _ u (Ne.symm o.l1) e, x.li2.at fun u e => k _ u (Ne.symm o.l2) e, ?_⟩
  rcases x.zz with ⟨q, a, b, q2⟩ | ⟨T, f, oT, q, q2, r1, r2, r3, r4⟩
  · exact .inl ⟨k _ _ (Ne.symm o.z) q, a, b, k _ _ (Ne.symm o.to) q2⟩
  · exact .inr ⟨T, f, oT, k _ _ (Ne.symm o.z) q, k _ _ r4 q2, r1, r2, r3, r4⟩
variable {prog : Program} {w : World} {A : Around} {E : Value → Shared → Prop} {s : Shared}
theorem zst_item {i : Nat} {x y : Value} {Q : Option Value → Shared → Prop} (D : ZipApart z TI TO i1 i2 l1 l2) (st : ZSt z TI TO i1 i2 l1 l2 xs ys S i s.heap) (hS : S < s.heap.objs.size) (ex : xs[i]? = some x) (ey : ys[i]? = some y)
    (k : ∀ h', ZSt z TI TO i1 i2 l1 l2 xs ys S (i + 1) h' → IsPair h' s.heap.objs.size x y → (∀ c o, c ≠ z → c ≠ TO → c ≠ i1 → c ≠ i2 → s.heap.get? c = some o → h'.get? c = some o) → Q (some (.ref s.heap.objs.size)) { s with heap := h' }) :
    wpAny (model prog w) A (pyNext (.ref z)) Q E s := by
  obtain ⟨ti, it1, it2, li1, li2, zz⟩ := st
  have lt : ∀ {c : Addr} {o : Obj}, s.heap.get? c = some o → s.heap.objs.size ≠ c := fun e => Nat.ne_of_gt (Heap.lt_size e)
  have n1 : s.heap.objs.size ≠ i1 := let ⟨_, e, _⟩ := it1; lt e
  have n2 : s.heap.objs.size ≠ i2 := let ⟨_, e, _⟩ := it2; lt e
  rcases zz with ⟨q, a, b, q2⟩ | ⟨T, f, oT, q, q2, r1, r2, r3, r4⟩
  · refine wpAny_pyNext_zip_item D q ti q2 it1 it2 li1 li2 ex ey fun h' a1 _ a3 a4 a5 _ hk => k h' ⟨hk _ _ D.TIz D.TITO D.TIi1 D.TIi2 ti, a3, a4, ?_, ?_, ?_⟩ a5 hk
    · exact li1.at fun o e => hk _ o D.l1z D.l1TO D.l1i1 D.l1i2 e
    · exact li2.at fun o e => hk _ o D.l2z D.l2TO D.l2i1 D.l2i2 e
    · exact .inr ⟨_, false, _, a1, a5, lt q, n1, n2, Nat.ne_of_gt hS⟩
  · refine wpAny_pyNext_zip_item_held D q q2 ti it1 it2 li1 li2 ex ey fun h' a1 a3 a4 a5 _ hk => k h' ⟨hk _ _ D.TIz D.TIi1 D.TIi2 ti, a3, a4, ?_, ?_, ?_⟩ a5 fun c o c1 _ c3 c4 e => hk c o c1 c3 c4 e
    · exact li1.at fun o e => hk _ o D.l1z D.l1i1 D.l1i2 e
    · exact li2.at fun o e => hk _ o D.l2z D.l2i1 D.l2i2 e
    · exact .inr ⟨T, true, oT, a1, hk _ _ r1 r2 r3 q2, r1, r2, r3, r4⟩
theorem zst_done {i : Nat} {Q : Option Value → Shared → Prop} (hh : A.handled = none) (D : ZipApart z TI TO i1 i2 l1 l2) (st : ZSt z TI TO i1 i2 l1 l2 xs ys S i s.heap) (ex : xs[i]? = none ∨ ys[i]? = none)
    (k : ∀ h', (∀ c o, c ≠ z → c ≠ TO → c ≠ i1 → c ≠ i2 → s.heap.get? c = some o → h'.get? c = some o) → Q none { s with heap := h' }) :
    wpAny (model prog w) A (pyNext (.ref z)) Q E s := by
  obtain ⟨ti, it1, it2, li1, li2, zz⟩ := st
  rcases zz with ⟨q, a, b, q2⟩ | ⟨T, f, oT, q, q2, r1, r2, r3, r4⟩
  · exact wpAny_pyNext_zip_end hh D q ti q2 it1 it2 li1 li2 ex k
  · exact wpAny_pyNext_zip_end_held hh D q q2 ti it1 it2 li1 li2 ex fun h' hk => k h' fun c o c1 _ c3 c4 e => hk c o c1 c3 c4 e
theorem gtne {a b c : Addr} (h : a < b) (g : b < c) : c ≠ a := Nat.ne_of_gt (Nat.lt_trans h g)
/-- the tuples made so far -/
structure ZG (xs ys : Array Value) (S : Addr) (h : Heap) (as : List Addr) : Prop where
  up : as.Pairwise (· < ·)
  lo : ∀ a ∈ as, S < a
  at_ : ∀ (j : Nat) (a : Addr), as[j]? = some a → ∃ x y, xs[j]? = some x ∧ ys[j]? = some y ∧ IsPair h a x y
variable {R : Result → Shared → Prop}
theorem zip_loop (hh : A.handled = none) (D : ZipApart z TI TO i1 i2 l1 l2) (of : Off S z TI TO i1 i2 l1 l2) (zlt : z < S ∧ TO < S ∧ i1 < S ∧ i2 < S) {n : Nat} (lx : xs.size = n) (ly : ys.size = n) (hn : n ≤ sizeLine) (res : Value) {h₁ : Heap}
    (hR : ∀ h' tk acc c as, (∀ b o, b ≠ S → b ≠ z → b ≠ TO → b ≠ i1 → b ≠ i2 → h₁.get? b = some o → h'.get? b = some o) → h'.get? S = some { cls := .type "list", dict := none, data := .seq acc c, slots := #[] } → as.length = n → ZG xs ys S h' as → acc.toList = as.map Value.ref → R (.ok (.ret res)) { s with heap := h', toks := tk }) :
    ∀ (k i : Nat) (h : Heap) (tk c : Nat) (acc : Array Value) (as : List Addr), n - i = k → i ≤ n → ZSt z TI TO i1 i2 l1 l2 xs ys S i h → (∀ b o, b ≠ S → b ≠ z → b ≠ TO → b ≠ i1 → b ≠ i2 → h₁.get? b = some o → h.get? b = some o) →
      h.get? S = some { cls := .type "list", dict := none, data := .seq acc c, slots := #[] } → acc.toList = as.map Value.ref → as.length = i → ZG xs ys S h as →
      codeAny (model prog w) A (.builtin "list.extend.loop" ⟨[.ref S, .ref z, res], []⟩) R { s with heap := h, toks := tk } := by
  intro k
  induction k with
  | zero =>
    intro i h tk c acc as ek hi st kp hS ha hl hG
    have ei : i = n := by omega
    refine codeAny_builtin PySem.F.entry_extend_loop ?_
    rw [Around.under_plainId PySem.F.plain_extend_loop _]
    show wpAny _ A.in1 (pyNext (.ref z) >>= _) _ _ _
    refine wpAny_bind (zst_done (s := { s with heap := h, toks := tk }) (A := A.in1) hh D st (.inl (Array.getElem?_eq_none (by omega))) fun h' hk => ?_)
    refine wpAny_pure (hR h' tk acc c as (fun b o b0 b1 b2 b3 b4 e => hk b o b1 b2 b3 b4 (kp b o b0 b1 b2 b3 b4 e)) (hk S _ of.z of.to of.i1 of.i2 hS) (by omega) ⟨hG.up, hG.lo, fun j a ej => ?_⟩ ha)
    obtain ⟨x, y, e1, e2, e3⟩ := hG.at_ j a ej
    have la := hG.lo a (List.mem_of_getElem? ej)
    exact ⟨x, y, e1, e2, hk a _ (gtne zlt.1 la) (gtne zlt.2.1 la) (gtne zlt.2.2.1 la) (gtne zlt.2.2.2 la) e3⟩
  | succ k ih =>
    intro i h tk c acc as ek hi st kp hS ha hl hG
    have lt : i < n := by omega
    obtain ⟨x, ex⟩ : ∃ x, xs[i]? = some x := ⟨_, Array.getElem?_eq_getElem (by omega)⟩
    obtain ⟨y, ey⟩ : ∃ y, ys[i]? = some y := ⟨_, Array.getElem?_eq_getElem (by omega)⟩
    have sz : acc.size = i := by rw [← Array.length_toList, ha, List.length_map, hl]
    have Sl : S < h.objs.size := Heap.lt_size hS
    refine codeAny_builtin PySem.F.entry_extend_loop ?_
    rw [Around.under_plainId PySem.F.plain_extend_loop _]
    show wpAny _ A.in1 (pyNext (.ref z) >>= _) _ _ _
    refine wpAny_bind (zst_item (s := { s with heap := h, toks := tk }) (A := A.in1) D st Sl ex ey fun h' st' hp hk => ?_)
    dsimp only at hp hk ⊢
    have hS' := hk S _ of.z of.to of.i1 of.i2 hS
    have up : ∀ b o, b ≠ S → h'.get? b = some o → (h'.update S (Obj.mapSeq (·.push (Value.ref h.objs.size)))).get? b = some o := fun b o hb e => (Heap.get?_update_other _ _ (Ne.symm hb)).trans e
    show wpAny _ A.in1 (updateSeq S (·.push (Value.ref h.objs.size)) >>= _) _ _ _
    refine wpAny_bind ?_
    refine wpAny_updateSeq hS' rfl (wpAny_pure ⟨plainId_quiet PySem.F.plain_extend_loop _, ih (i + 1) _ tk _ (acc.push (Value.ref h.objs.size)) (as ++ [h.objs.size]) (by omega) lt (st'.keep of fun b u b0 e => up b u b0 e)
      (fun b o b0 b1 b2 b3 b4 e => up b o b0 (hk b o b1 b2 b3 b4 (kp b o b0 b1 b2 b3 b4 e))) (Heap.get?_update_self _ hS' rfl) (by rw [Array.toList_push, ha, List.map_append]; rfl) (by rw [List.length_append, hl]; rfl) ⟨?_, ?_, ?_⟩⟩) (by rw [sz]; omega) (by show (acc.push (Value.ref h.objs.size)).size ≤ sizeLine + 1; rw [Array.size_push, sz]; omega)
    · refine List.pairwise_append.mpr ⟨hG.up, List.pairwise_singleton _ _, fun a ma b mb => ?_⟩
      rw [List.mem_singleton.mp mb]
      obtain ⟨j, ej⟩ := List.mem_iff_getElem?.mp ma
      obtain ⟨_, _, _, _, e⟩ := hG.at_ j a ej
      exact Heap.lt_size e
    · intro a ma
      rcases List.mem_append.mp ma with m | m
      · exact hG.lo a m
      · rw [List.mem_singleton.mp m]
        exact Sl
    · intro j b ej
      rcases Nat.lt_or_ge j as.length with l | g
      · rw [List.getElem?_append_left l] at ej
        obtain ⟨x', y', e1, e2, e3⟩ := hG.at_ j b ej
        have lb := hG.lo b (List.mem_of_getElem? ej)
        exact ⟨x', y', e1, e2, up b _ (Nat.ne_of_gt lb) (hk b _ (gtne zlt.1 lb) (gtne zlt.2.1 lb) (gtne zlt.2.2.1 lb) (gtne zlt.2.2.2 lb) e3)⟩
      · rw [List.getElem?_append_right g] at ej
        have e0 : j - as.length = 0 := by
          have := (List.getElem?_eq_some_iff.mp ej).1
          simp at this
          omega
        rw [e0] at ej
        have eb : h.objs.size = b := Option.some.inj ej
        have ej2 : j = i := by omega
        subst eb
        rw [ej2]
        exact ⟨x, y, ex, ey, up _ _ (Nat.ne_of_gt Sl) hp⟩
theorem zip_extend (hh : A.handled = none) (D : ZipApart z TI TO i1 i2 l1 l2) (of : Off S z TI TO i1 i2 l1 l2) (zlt : z < S ∧ TO < S ∧ i1 < S ∧ i2 < S) {n : Nat} (lx : xs.size = n) (ly : ys.size = n) (hn : n ≤ sizeLine) (res : Value) (c₀ : Nat)
    (hz : IsZip s.heap z TI TO .none) (st : ZSt z TI TO i1 i2 l1 l2 xs ys S 0 s.heap) (hS : s.heap.get? S = some { cls := .type "list", data := .seq #[] c₀ }) 
    (hR : ∀ h' tk acc c as, (∀ b o, b ≠ S → b ≠ z → b ≠ TO → b ≠ i1 → b ≠ i2 → s.heap.get? b = some o → h'.get? b = some o) → h'.get? S = some { cls := .type "list", dict := none, data := .seq acc c, slots := #[] } → as.length = n → ZG xs ys S h' as → acc.toList = as.map Value.ref → R (.ok (.ret res)) { s with heap := h', toks := tk }) :
    wpAny (model prog w) A.in1 (Builtin.List.listExtendWith (.ref S) (.ref z) res)
      (fun fin s' => match fin with | .done f => R (.ok f) s' | .again c' => c'.quiet = true ∧ codeAny (model prog w) A c' R s') (fun e s' => R (.error e) s') s := by
  have key : ∀ (h : Heap) (c₁ tk : Nat), (∀ b o, b ≠ S → s.heap.get? b = some o → h.get? b = some o) → h.get? S = some { cls := .type "list", data := .seq #[] c₁ } → codeAny (model prog w) A (.builtin "list.extend.loop" ⟨[.ref S, .ref z, res], []⟩) R { s with heap := h, toks := tk } := by
    intro h c₁ tk hk hS₁
    exact zip_loop (s := s) (h₁ := s.heap) hh D of zlt lx ly hn res hR n 0 h tk c₁ #[] [] (Nat.sub_zero _) (Nat.zero_le _) (st.keep of hk) (fun b o b0 _ _ _ _ e => hk b o b0 e) hS₁ rfl rfl ⟨List.Pairwise.nil, (fun _ m => nomatch m), fun j a ej => by simp at ej⟩
  unfold Builtin.List.listExtendWith
  refine wpAny_bind (wpAny_typeOf (T := "zip") ⟨_, hz, rfl⟩ ?_)
  have g1 : Builtin.List.listSameRef (.ref S) (.ref z) = false := by simp [Builtin.List.listSameRef, of.z]
  have g2 : (Value.type "zip" == Value.type "list") = false := by decide
  have g3 : (Value.type "zip" == Value.type "tuple") = false := by decide
  simp only [g1, g2, g3, Bool.or_false, Bool.false_eq_true, if_false]
  refine wpAny_bind (wpAny_pyIter_zip hz ?_)
  refine wpAny_bind (wpAny_holding ?_)
  unfold Builtin.List.listLengthHint
  refine wpAny_bind (wpAny_specialOf (T := "zip") ⟨_, hz, rfl⟩ zip_len ?_)
  show wpAny _ A.in1 (specialOf (Value.ref z) (Str.ofString "__length_hint__") >>= _) _ _ _
  refine wpAny_bind (wpAny_specialOf (T := "zip") ⟨_, hz, rfl⟩ zip_hint ?_)
  refine wpAny_pure ?_
  show wpAny _ A.in1 (rule "list.extend.makes-room" >>= fun _ => Builtin.List.listTouch (.ref S) >>= fun _ => again (.builtin "list.extend.loop" ⟨[.ref S, .ref z, res], []⟩)) _ _ _
  refine wpAny_bind (wpAny_rule ?_)
  refine wpAny_bind ?_
  show wpAny _ A.in1 (updateSeq S (·.push .none) >>= fun _ => updateSeq S (·.pop)) _ _ _
  refine wpAny_bind (wpAny_updateSeq hS rfl ?_)
  have hS₂ := Heap.get?_update_self (Obj.mapSeq (·.push Value.none)) hS rfl
  refine wpAny_updateSeq (hz := by seq_fits) hS₂ rfl ?_
  have hS₃ := Heap.get?_update_self (Obj.mapSeq (·.pop)) hS₂ rfl
  refine wpAny_pure ⟨plainId_quiet PySem.F.plain_extend_loop _, key _ _ _ (fun b o hb e => ?_) hS₃⟩
  exact (Heap.get?_update_other _ _ (Ne.symm hb)).trans ((Heap.get?_update_other _ _ (Ne.symm hb)).trans e)
theorem zip_list (hh : A.handled = none) (D : ZipApart z TI TO i1 i2 l1 l2) {n : Nat} (lx : xs.size = n) (ly : ys.size = n) (hn : n ≤ sizeLine) (lts : z < s.heap.objs.size ∧ TI < s.heap.objs.size ∧ TO < s.heap.objs.size ∧ i1 < s.heap.objs.size ∧ i2 < s.heap.objs.size ∧ l1 < s.heap.objs.size ∧ l2 < s.heap.objs.size)
    (hz : IsZip s.heap z TI TO .none) {a b : Value} (hTI : IsPair s.heap TI (.ref i1) (.ref i2)) (hTO : IsPair s.heap TO a b) (h1 : s.heap.IsListIter i1 l1 0) (h2 : s.heap.IsListIter i2 l2 0) (hl1 : s.heap.IsList l1 xs) (hl2 : s.heap.IsList l2 ys) {Q : Value → Shared → Prop}
    (k : ∀ h' tk acc c as, (∀ b o, b ≠ z → b ≠ TO → b ≠ i1 → b ≠ i2 → s.heap.get? b = some o → h'.get? b = some o) → h'.get? s.heap.objs.size = some { cls := .type "list", dict := none, data := .seq acc c, slots := #[] } → as.length = n → ZG xs ys s.heap.objs.size h' as → acc.toList = as.map Value.ref → Q (.ref s.heap.objs.size) { s with heap := h', toks := tk }) :
    wpAny (model prog w) A (call (.type "list") [.ref z]) Q E s := by
  refine callType_codes (Q₁ := fun obj s₁ => obj = .ref s.heap.objs.size ∧ s₁ = { s with heap := s.heap.push { cls := .type "list", data := .seq #[] } }) PySem.F.called_list (PySem.F.typeCall_list_1 _) PySem.F.entry_list_init (code_list_new _ ⟨rfl, rfl⟩) fun obj s₁ e₁ => ?_
  obtain ⟨rfl, rfl⟩ := e₁
  have hS : (s.heap.push { cls := .type "list", data := .seq #[] }).get? s.heap.objs.size = some { cls := .type "list", data := .seq #[] } := Heap.get?_push_size _ rfl
  have up0 : ∀ b o, s.heap.get? b = some o → (s.heap.push { cls := .type "list", data := .seq #[] }).get? b = some o := fun b o e => Heap.get?_push_of_some _ e
  obtain ⟨g1, g2, g3, g4, g5, g6, g7⟩ := lts
  have of : Off s.heap.objs.size z TI TO i1 i2 l1 l2 := ⟨Nat.ne_of_gt g1, Nat.ne_of_gt g2, Nat.ne_of_gt g3, Nat.ne_of_gt g4, Nat.ne_of_gt g5, Nat.ne_of_gt g6, Nat.ne_of_gt g7⟩
  refine ⟨⟨_, hS, rfl⟩, PySem.F.args_list_init_2 _ _, ?_⟩
  show wpAny _ _ (do let old ← Builtin.List.listItems (.ref s.heap.objs.size); Builtin.List.listUpdate (.ref s.heap.objs.size) (fun _ => #[]); letGo old.toList.reverse; Builtin.List.listExtendWith (.ref s.heap.objs.size) (.ref z) .none) _ _ _
  refine wpAny_bind ?_
  unfold Builtin.List.listItems
  refine wpAny_bind (wpAny_seqItems hS rfl (wpAny_pure ?_))
  show wpAny _ _ (updateSeq s.heap.objs.size (fun _ => #[]) >>= fun _ => letGo (#[] : Array Value).toList.reverse >>= fun _ => Builtin.List.listExtendWith (.ref s.heap.objs.size) (.ref z) .none) _ _ _
  refine wpAny_bind (wpAny_updateSeq hS rfl ?_)
  have hS₂ := Heap.get?_update_self (Obj.mapSeq (fun _ => (#[] : Array Value))) hS rfl
  have oth : ∀ b o, b ≠ s.heap.objs.size → s.heap.get? b = some o → ((s.heap.push { cls := .type "list", data := .seq #[] }).update s.heap.objs.size (Obj.mapSeq (fun _ => (#[] : Array Value)))).get? b = some o := fun b o hb e => (Heap.get?_update_other _ _ (Ne.symm hb)).trans (up0 b o e)
  refine wpAny_bind (wpAny_letGo ?_)
  refine zip_extend (A := A.in1) hh D of ⟨g1, g3, g4, g5⟩ lx ly hn .none _ (oth _ _ (Ne.symm of.z) hz) ⟨oth _ _ (Ne.symm of.ti) hTI, h1.at fun o e => oth _ o (Ne.symm of.i1) e, h2.at fun o e => oth _ o (Ne.symm of.i2) e, hl1.at fun o e => oth _ o (Ne.symm of.l1) e, hl2.at fun o e => oth _ o (Ne.symm of.l2) e, .inl ⟨oth _ _ (Ne.symm of.z) hz, a, b, oth _ _ (Ne.symm of.to) hTO⟩⟩ hS₂ fun h' tk acc c as hk hS' hl hG ha => ?_
  exact ⟨rfl, k h' tk acc c as (fun b o b1 b2 b3 b4 e => hk b o (Nat.ne_of_lt (Heap.lt_size e)) b1 b2 b3 b4 (oth b o (Nat.ne_of_lt (Heap.lt_size e)) e)) hS' hl hG ha⟩
end
end Zx
namespace Kd
open PySem PySem.Spec PyProof.Rows L2 Zx
section
variable {X : Cx} {pins : List (Addr × Obj)} {σ : L2.St} {H H' : Hp} {s : Shared} {h' : Heap}
/-- many new objects at once -/
theorem inv_many {tk : Nat} (I : Inv X pins σ H s) (k : ∀ b u, s.heap.get? b = some u → h'.get? b = some u) (kp : ∀ b u, H b = some u → H' b = some u) (old : ∀ b, b < s.heap.objs.size → H' b = H b)
    (new : ∀ b u, s.heap.objs.size ≤ b → H' b = some u → ObjOk X.prog X.w H' h' b u) : Inv X pins σ H' { s with heap := h', toks := tk } := by
  refine I.call' (ch := []) rfl ⟨fun b o q _ _ _ => k b o q, fun b o q _ _ _ => ⟨o.slots, k b o q⟩, fun b o q n _ => by rw [old b (Heap.lt_size q)]; exact n, fun b o q _ => ⟨o, k b o q⟩, fun b xs q => kp b _ q, fun b o u q => kp b _ q, fun b ps q => ⟨#[], by rw [kp b _ q]; simp⟩⟩ (fun b u q => ?_) I.bare fun b z => by simp at z
  rcases Nat.lt_or_ge b s.heap.objs.size with l | g
  · rw [old b l] at q
    exact (I.hok b u q).stay (fun d v _ y => k d v y) (fun d y => kp d _ y) fun d xs y => kp d _ y
  · exact new b u g q
end
/-- list(zip(xs, ys)), of two lists of one length -/
def tZipL (ta : TA) : TE := fun σ H Q => ta σ H fun vs H1 => ∃ (a b : Addr) (xs ys : List V), vs = [.ref a, .ref b] ∧ H1 a = some (.lst xs) ∧ H1 b = some (.lst ys) ∧ xs.length = ys.length ∧
  ∀ (H' : Hp) (p : Addr) (ts : List Addr), (∀ b o, H1 b = some o → H' b = some o) → H1 p = none → H' p = some (.lst (ts.map V.ref)) → ts.length = xs.length → (∀ (j : Nat) (t : Addr), ts[j]? = some t → H1 t = none ∧ ∃ x y, xs[j]? = some x ∧ ys[j]? = some y ∧ H' t = some (.tup [x, y])) → Q (.ref p) H'
section
variable {X : Cx} {e e2 : Expr} {ta : TA} {p p2 pos pos2 : Pos}
theorem pe_zipL (hc : X.calm = true) (hg : Gl X "list") (hm : X.mg "list" = none) (hg2 : Gl X "zip") (hm2 : X.mg "zip" = none) (ha : PA X [e, e2] ta)
    (h0 : starEach [.Call (.Name "zip" p2) [e, e2] [] pos2] X.env = (false, eval (.Call (.Name "zip" p2) [e, e2] [] pos2) X.env) :: starEach [] X.env := by rfl)
    (hs : starEach [e, e2] X.env = (false, eval e X.env) :: starEach [e2] X.env := by rfl) (hpl : (backTo pos2 (starEach [e2] X.env)).any (·.1) = false := by rfl) :
    PE X (.Call (.Name "list" p) [.Call (.Name "zip" p2) [e, e2] [] pos2] [] pos) (tZipL ta) := by
  refine ⟨fun pins s σ H Q I h => ?_⟩
  refine wpAny_Call_Name_kw (ld_blt I hg hm (show bootBuiltins "list" = some (.type "list") from by decide +kernel) ?_)
  refine PyProof.Rows.callWith_type1 ?_ h0 rfl
  rw [h0]
  show wpAny _ _ (spliced ((false, eval (.Call (.Name "zip" p2) [e, e2] [] pos2) X.env) :: backTo pos (starEach [] X.env))) _ _ s
  refine Calls.spliced_cons ?_
  refine wpAny_Call_Name_kw (ld_blt I hg2 hm2 PyProof.Rows.boot_zip (PyProof.Rows.callWith_type1 (thn (ha.run pos2 pins s σ H _ I h) fun us s1 ⟨vs, H1, I1, r1, q1⟩ => ?_) hs hpl))
  obtain ⟨a, b, xs, ys, ex, hx, hy, hl, q⟩ := q1
  subst ex
  cases r1 with
  | cons r rr =>
    cases rr with
    | cons r' rr =>
      cases rr
      cases r
      cases r'
      obtain ⟨zx, its, n1, rv, g1⟩ := I1.hok a _ hx
      obtain ⟨zy, its2, n2, rv2, g2⟩ := I1.hok b _ hy
      have L1 : s1.heap.IsList a its.toArray := ⟨_, g1, rfl, n1, rfl⟩
      have L2' : s1.heap.IsList b its2.toArray := ⟨_, g2, rfl, n2, rfl⟩
      have la : a < s1.heap.objs.size := Heap.lt_size g1
      have lb : b < s1.heap.objs.size := Heap.lt_size g2
      refine call_zip_2 L1 L2' fun h' hz hTI hTO i1 i2 hsz hk => ?_
      refine Calls.spliced_nil ?_
      have D := PySem.W.ktu_apart s1.heap.objs.size a b la lb
      have lx : its.toArray.size = xs.length := by rw [List.size_toArray]; exact rv.length.symm
      have ly : its2.toArray.size = xs.length := by rw [List.size_toArray, ← rv2.length]; exact hl.symm
      refine zip_list (s := { s1 with heap := h' }) (A := X.A) (I1.ok.hd hc) D lx ly zx (by show _ < h'.objs.size ∧ _; dsimp only; rw [hsz]; refine ⟨?_, ?_, ?_, ?_, ?_, ?_, ?_⟩ <;> (show (_ : Nat) < _; simp only [Addr] at *; omega)) hz hTI hTO i1 i2 (L1.at fun o e => hk _ o e) (L2'.at fun o e => hk _ o e) fun h2 tk acc c as hk2 hS hal hG hacc => ?_
      have nd : as.Nodup := hG.up.imp fun l => Nat.ne_of_lt l
      have Sn : h'.objs.size ∉ as := fun m => Nat.lt_irrefl _ (hG.lo _ m)
      have top : s1.heap.objs.size ≤ h'.objs.size := by rw [hsz]; exact Nat.le_add_right _ _
      have big : ∀ t ∈ as, s1.heap.objs.size ≤ t := fun t m => Nat.le_trans top (Nat.le_of_lt (hG.lo t m))
      have ix : ∀ (j : Nat) (t : Addr), as[j]? = some t → as.idxOf t = j := fun j t ej => by
        obtain ⟨l, e⟩ := List.getElem?_eq_some_iff.mp ej
        rw [← e]
        exact nd.idxOf_getElem j l
      have at_ : ∀ (j : Nat) (t : Addr), as[j]? = some t → ∃ (x y : V) (u u2 : Value), xs[j]? = some x ∧ ys[j]? = some y ∧ RelV x u ∧ RelV y u2 ∧ IsPair h2 t u u2 := fun j t ej => by
        obtain ⟨u, u2, e1, e2, e3⟩ := hG.at_ j t ej
        have lj := (List.getElem?_eq_some_iff.mp ej).1
        have ljx : j < xs.length := by omega
        have ljy : j < ys.length := by omega
        obtain ⟨v, hv, rvv⟩ := rv.get (List.getElem?_eq_getElem ljx)
        obtain ⟨v2, hv2, rvv2⟩ := rv2.get (List.getElem?_eq_getElem ljy)
        have f1 : its[j]? = some u := by simpa using e1
        have f2 : its2[j]? = some u2 := by simpa using e2
        rw [hv] at f1
        rw [hv2] at f2
        cases f1
        cases f2
        exact ⟨_, _, _, _, List.getElem?_eq_getElem ljx, List.getElem?_eq_getElem ljy, rvv, rvv2, e3⟩
      let HH : Hp := fun b => if b = h'.objs.size then some (.lst (as.map V.ref)) else if b ∈ as then some (.tup [xs.getD (as.idxOf b) .non, ys.getD (as.idxOf b) .non]) else H1 b
      have eS : HH h'.objs.size = some (.lst (as.map V.ref)) := if_pos rfl
      have eT : ∀ (j : Nat) (t : Addr) (x y : V), as[j]? = some t → xs[j]? = some x → ys[j]? = some y → HH t = some (.tup [x, y]) := fun j t x y ej ex ey => by
        have m := List.mem_of_getElem? ej
        show (if t = h'.objs.size then _ else if t ∈ as then _ else H1 t) = _
        rw [if_neg (fun z => Sn (by rw [← z]; exact m)), if_pos m, ix j t ej, List.getD_eq_getElem?_getD, List.getD_eq_getElem?_getD, ex, ey]
        rfl
      have eO : ∀ b, b < s1.heap.objs.size → HH b = H1 b := fun b l => by
        show (if b = h'.objs.size then _ else if b ∈ as then _ else H1 b) = _
        rw [if_neg (show ¬ b = h'.objs.size from fun z => absurd (show h'.objs.size < s1.heap.objs.size by rw [← z]; exact l) (Nat.not_lt.mpr top)), if_neg (fun m => absurd l (Nat.not_lt.mpr (big b m)))]
      have kp : ∀ b o, H1 b = some o → HH b = some o := fun b o e => by
        rw [eO b (I1.hok b o e).lt]
        exact e
      have keep2 : ∀ b u, s1.heap.get? b = some u → h2.get? b = some u := fun b u e => by
        have l := Heap.lt_size e
        exact hk2 b u (Nat.ne_of_lt (Nat.lt_of_lt_of_le l (Nat.le_add_right _ _))) (Nat.ne_of_lt (Nat.lt_of_lt_of_le l (Nat.le_add_right _ _))) (Nat.ne_of_lt l) (Nat.ne_of_lt (Nat.lt_of_lt_of_le l (Nat.le_add_right _ _))) (hk b u e)
      have J : L2.Inv X pins σ HH { s1 with heap := h2, toks := tk } := by
        refine inv_many I1 keep2 kp eO fun b u g e => ?_
        by_cases hS2 : b = h'.objs.size
        · subst hS2
          rw [eS] at e
          cases e
          refine ⟨by rw [List.length_map, hal]; exact zx, acc.toList, c, by rw [hacc]; exact LiI.vals_refs as, ?_⟩
          rw [Array.toArray_toList]
          exact hS
        · by_cases hb : b ∈ as
          · obtain ⟨j, ej⟩ := List.mem_iff_getElem?.mp hb
            obtain ⟨x, y, v, v2, e1, e2, r1, r2, e3⟩ := at_ j b ej
            rw [eT j b x y ej e1 e2] at e
            cases e
            exact ⟨by show 2 ≤ sizeLine; decide, [v, v2], .cons r1 (.cons r2 .nil), ⟨_, e3, rfl, _, rfl⟩⟩
          · have e4 : H1 b = some u := by
              have z : (if b = h'.objs.size then some (HO.lst (as.map V.ref)) else if b ∈ as then some (.tup [xs.getD (as.idxOf b) .non, ys.getD (as.idxOf b) .non]) else H1 b) = some u := e
              rwa [if_neg hS2, if_neg hb] at z
            exact absurd (I1.hok b u e4).lt (Nat.not_lt.mpr g)
      refine ⟨.ref _, HH, J, rfl, q HH _ as kp (I1.hok.fresh top) eS hal fun j t ej => ⟨I1.hok.fresh (big t (List.mem_of_getElem? ej)), ?_⟩⟩
      obtain ⟨x, y, _, _, e1, e2, _⟩ := at_ j t ej
      exact ⟨x, y, e1, e2, eT j t x y ej e1 e2⟩
end
end Kd

-- ===== KX3 =====
set_option Elab.async false
set_option linter.all false
set_option maxRecDepth 100000
set_option maxHeartbeats 4000000
namespace Kd
open PySem PySem.Spec PyProof.Rows L2
/-- an int or a bool, plus an int -/
def rAddN : R2 := fun x y H Q => ((∃ i, x = .int i) ∨ ∃ b, x = .bl b) ∧ (∃ j, y = .int j) ∧ ∀ r : Int, Q (.int r) H
theorem op_addN' {X : Cx} : OpR X (binaryOp .Add) rAddN := by
  intro pins s σ H x y v u Q I rx ry h
  obtain ⟨h1, ⟨j, rfl⟩, q⟩ := h
  obtain ⟨t2, rfl⟩ : ∃ t2, u = Value.int j t2 := ry
  rcases h1 with ⟨i, rfl⟩ | ⟨b, rfl⟩
  · obtain ⟨t, rfl⟩ : ∃ t, v = Value.int i t := rx
    exact add_int ⟨.int (i + j), H, I.tok _, ⟨_, rfl⟩, q _⟩
  · cases (show v = Value.bool b from rx)
    exact PySem.IntBool.add_bool_int ⟨.int _, H, I.tok _, ⟨_, rfl⟩, q _⟩
/-! ### values with bounds: of at most k levels, each tuple of at most n parts, texts in order -/
def Nice (n : Nat) : Nat → PyData → Prop
  | _, .str z => PyData.strOk z = true
  | 0, .tuple ds => ds = []
  | k + 1, .tuple ds => ds.length ≤ n ∧ ∀ d ∈ ds, Nice n k d
  | _, _ => True
theorem Nice.mono {n m : Nat} (h : n ≤ m) : ∀ {k l : Nat} {d : PyData}, Nice n k d → k ≤ l → Nice m l d
  | 0, l, .tuple ds, c, _ => by
    have e : ds = [] := c
    subst e
    cases l with
    | zero => exact rfl
    | succ l => exact ⟨Nat.zero_le _, fun d m => nomatch m⟩
  | k + 1, 0, .tuple ds, _, g => absurd g (Nat.not_succ_le_zero _)
  | k + 1, l + 1, .tuple ds, c, g => ⟨Nat.le_trans c.1 h, fun d md => Nice.mono h (c.2 d md) (Nat.le_of_succ_le_succ g)⟩
  | k, l, .str z, c, _ => by
    have e : PyData.strOk z = true := by cases k <;> exact c
    cases l <;> exact e
  | k, l, .none, _, _ => by cases l <;> exact True.intro
  | k, l, .bool _, _, _ => by cases l <;> exact True.intro
  | k, l, .int _, _, _ => by cases l <;> exact True.intro
  | k, l, .list _, _, _ => by cases l <;> exact True.intro
  | k, l, .dict _, _, _ => by cases l <;> exact True.intro
theorem Nice.non {n k : Nat} : Nice n k .none := by cases k <;> exact True.intro
theorem Nice.bool {n k : Nat} {b : Bool} : Nice n k (.bool b) := by cases k <;> exact True.intro
theorem Nice.int {n k : Nat} {b : Int} : Nice n k (.int b) := by cases k <;> exact True.intro
theorem Nice.lst {n k : Nat} {b : List PyData} : Nice n k (.list b) := by cases k <;> exact True.intro
theorem Nice.dct {n k : Nat} {b : List (PyData × PyData)} : Nice n k (.dict b) := by cases k <;> exact True.intro
theorem Nice.str {n k : Nat} {z : Str} (h : PyData.strOk z = true) : Nice n k (.str z) := by cases k <;> exact h
theorem Nice.len {n k : Nat} {ds : List PyData} (h : Nice n k (.tuple ds)) : ds.length ≤ n := by
  cases k with
  | zero => rw [show ds = [] from h]; exact Nat.zero_le _
  | succ k => exact h.1
theorem Nice.part {n k : Nat} {ds : List PyData} {d : PyData} (h : Nice n k (.tuple ds)) (m : d ∈ ds) : ∃ l, k = l + 1 ∧ Nice n l d := by
  cases k with
  | zero => rw [show ds = [] from h] at m; cases m
  | succ k => exact ⟨k, rfl, h.2 d m⟩
/-! ### slices -/
theorem cut_to (xs : List V) {i : Int} (h : 0 ≤ i) : cutV xs none (some i) = xs.take i.toNat := by
  obtain ⟨n, rfl⟩ := Int.eq_ofNat_of_zero_le h
  unfold cutV
  rw [HT.sIx_nat, HT.sIx_none, List.drop_zero, Nat.sub_zero, Int.toNat_natCast, List.take_eq_take_iff]
  omega
theorem cut_from (xs : List V) {i : Int} (h : 0 ≤ i) : cutV xs (some i) none = xs.drop i.toNat := by
  obtain ⟨n, rfl⟩ := Int.eq_ofNat_of_zero_le h
  unfold cutV
  rw [HT.sIx_nat, HT.sIx_none, Int.toNat_natCast, ← List.length_drop, List.take_length]
  rcases Nat.le_total n xs.length with l | g
  · rw [Nat.min_eq_left l]
  · rw [Nat.min_eq_right g, List.drop_length, List.drop_eq_nil_of_le g]
theorem not_whole_to {n : Nat} {i : Int} (h0 : 0 ≤ i) (h : i < n) : ¬ (HT.sIx n 0 none = 0 ∧ HT.sIx n n (some i) = n) := fun z => by
  obtain ⟨k, rfl⟩ := Int.eq_ofNat_of_zero_le h0
  have e := z.2
  rw [HT.sIx_nat] at e
  omega
theorem not_whole_from {n : Nat} {i : Int} (h0 : 0 < i) (h : 0 < n) : ¬ (HT.sIx n 0 (some i) = 0 ∧ HT.sIx n n none = n) := fun z => by
  obtain ⟨k, rfl⟩ := Int.eq_ofNat_of_zero_le (Int.le_of_lt h0)
  have e := z.1
  rw [HT.sIx_nat] at e
  omega
end Kd

-- ===== K7Oth =====
set_option Elab.async false
set_option linter.all false
set_option maxRecDepth 100000
set_option maxHeartbeats 4000000
namespace My
open PySem L2 PyProof.Rows PySem.Spec Kd TL
abbrev sOther : Stmt := top 34
theorem TDs.take_ {H : Hp} : ∀ {vs : List V} {ds : List PyData} (n : Nat), TDs H vs ds → TDs H (vs.take n) (ds.take n)
  | _, _, 0, _ => by rw [List.take_zero, List.take_zero]; exact .nil
  | _, _, _ + 1, .nil => .nil
  | _, _, n + 1, .cons h1 h2 => .cons h1 (TDs.take_ n h2)
theorem TDs.drop_ {H : Hp} : ∀ {vs : List V} {ds : List PyData} (n : Nat), TDs H vs ds → TDs H (vs.drop n) (ds.drop n)
  | _, _, 0, h => h
  | _, _, _ + 1, .nil => .nil
  | _, _, n + 1, .cons _ h2 => TDs.drop_ n h2
theorem TDs.app {H : Hp} : ∀ {vs us : List V} {ds es : List PyData}, TDs H vs ds → TDs H us es → TDs H (vs ++ us) (ds ++ es)
  | _, _, _, _, .nil, h => h
  | _, _, _, _, .cons h1 h2, h => .cons h1 (TDs.app h2 h)
/-- one state put in another's place -/
theorem KOk.swap {ss : List (List Stp)} (so : KOk ss) {i : Nat} {st st' : List Stp} (es : ss[i]? = some st) (ok : StOk ss.length st') (ev : ∀ x ∈ st', ∃ y ∈ st, evOf x = evOf y) : KOk (ss.take i ++ [st'] ++ ss.drop (i + 1)) := by
  have li := (List.getElem?_eq_some_iff.mp es).1
  have len : (ss.take i ++ [st'] ++ ss.drop (i + 1)).length = ss.length := by
    rw [List.length_append, List.length_append, List.length_take, List.length_drop, List.length_singleton]
    omega
  have mem : ∀ s ∈ ss.take i ++ [st'] ++ ss.drop (i + 1), s ∈ ss ∨ s = st' := fun s m => by
    rcases List.mem_append.mp m with m | m
    · rcases List.mem_append.mp m with m | m
      · exact .inl (List.mem_of_mem_take m)
      · exact .inr (List.mem_singleton.mp m)
    · exact .inl (List.mem_of_mem_drop m)
  obtain ⟨es_, h1, h2⟩ := so.evs
  refine ⟨by rw [len]; exact so.one, by rw [len]; exact so.most, fun s m => ?_, es_, h1, fun s m x mx => ?_⟩
  · rw [len]
    rcases mem s m with z | rfl
    · exact so.all s z
    · exact ok
  · rcases mem s m with z | rfl
    · exact h2 s z x mx
    · obtain ⟨y, my, e⟩ := ev x mx
      rw [e]
      exact h2 st (List.mem_of_getElem? es) y my
/-- a step left out -/
theorem StOk.out {n k : Nat} {st : List Stp} (so : StOk n st) : StOk n (st.take k ++ st.drop (k + 1)) := by
  have sub : (st.take k ++ st.drop (k + 1)).Sublist st := by
    have z : (st.take k ++ st.drop (k + 1)).Sublist (st.take k ++ st.drop k) := by
      refine List.Sublist.append (List.Sublist.refl _) ?_
      rw [show st.drop (k + 1) = (st.drop k).drop 1 by rw [List.drop_drop]]
      exact List.drop_sublist _ _
    rwa [List.take_append_drop] at z
  exact ⟨fun x m => so.all x (sub.subset m), List.Pairwise.sublist (sub.map evOf) so.asc, Nat.le_trans sub.length_le so.few⟩
/-- a step that leads elsewhere -/
theorem StOk.moved {n k : Nat} {st : List Stp} {x : Stp} {d : Int} (so : StOk n st) (e : st[k]? = some x) (d0 : 0 ≤ d) (d1 : d < (n : Int)) : StOk n (st.take k ++ [(x.1, x.2.1, d)] ++ st.drop (k + 1)) := by
  have lk := (List.getElem?_eq_some_iff.mp e).1
  have xo := so.all x (List.mem_of_getElem? e)
  have whole : st = st.take k ++ [x] ++ st.drop (k + 1) := by
    have z := List.take_append_drop k st
    rw [List.drop_eq_getElem_cons lk] at z
    rw [(List.getElem?_eq_some_iff.mp e).2] at z
    rw [List.append_assoc]
    exact z.symm
  have evs : (st.take k ++ [(x.1, x.2.1, d)] ++ st.drop (k + 1)).map evOf = st.map evOf := by
    have z : st.map evOf = (st.take k ++ [x] ++ st.drop (k + 1)).map evOf := by rw [← whole]
    rw [z]
    simp [evOf]
  refine ⟨fun y m => ?_, by rw [evs]; exact so.asc, ?_⟩
  · rcases List.mem_append.mp m with m | m
    · rcases List.mem_append.mp m with m | m
      · exact so.all y (List.mem_of_mem_take m)
      · rw [List.mem_singleton.mp m]
        exact ⟨xo.w1, xo.w2, d0, d1⟩
    · exact so.all y (List.mem_of_mem_drop m)
  · have z := congrArg List.length evs
    rw [List.length_map, List.length_map] at z
    rw [z]
    exact so.few
def spOther : Sp := fun vs H Q _ => ∃ (p c a : Addr) (ks : List Int) (w n : Int) (ss : List (List Stp)), vs = [.ref p, .ref a] ∧ FeedAt H p c ks w n ∧ n < 800000 ∧ TD H (.ref a) (statesD ss) ∧ KOk ss ∧
  ∀ (b : Addr) (ts : List (List Stp)) (ks' : List Int) (n' : Int) (H' : Hp), TD H' (.ref b) (statesD ts) → KOk ts → FeedAt H' p c ks' w n' → n' ≤ n + 4 → Save p c H H' → Q (.ref b) H'
section
variable {P : Program} {w : World} {K : PySem.W.Frag} {mg : Str → Option Value} {base : Heap}
abbrev nOt : List Str := ["_law_feed_here", "_law_states_here", "_law_at", "_law_state", "_law_k", "_law_new", "_law_moved"]
theorem scOt : FnScope nOt ["_law_feed_here", "_law_states_here"] (defScope sOther) := ⟨rfl, rfl, rfl, by decide +kernel, rfl, by decide +kernel, by decide +kernel⟩
theorem ok_other {f fD : Addr} {fd fdD : FuncData} (F : Fun K "_law_otherwise" "_law_otherwise" sOther f fd) (G : Gs mg)
    (GD : FnOk P w K mg base CX0 1 fD fdD ["_law_feed_here", "_law_many"] spDigit) (mD : mg "_law_digit" = some (.ref fD)) (kD : PySem.W.keepIn K (.ref fD) = true) (bD : Binds K fdD ["_law_feed_here", "_law_many"] []) :
    FnOk P w K mg base CX0 2 f fd ["_law_feed_here", "_law_states_here"] spOther := by
  refine F.ok scOt (fun vs H Q E h => ?_) (fun cdv A outer s H vs Q E hr1 h => ?_)
  · obtain ⟨p, c, a, ks, y, n, ss, rfl, _⟩ := h
    rfl
  · obtain ⟨p, c, a, ks, y, n, ss, rfl, FA, hn, ta, so, k⟩ := h
    have hu := hr1.units
    have hu0 : (A.deeper (envOfC "_law_otherwise" (defScope sOther) s.heap.objs.size f cdv)).units < cLine := by omega
    refine ⟨_, (pss_cons (ps_set (i := 2) scOt.nd rfl (Or.inl rfl) (pe_call GD hr1 (by rfl) mD kD bD .nil pass0 (pa_cons (pv 0) (pa_cons (pe_callB (r := rLenQ K) call_len_seq (by rfl) G.len PySem.boot_len (pa_cons (pv 1) pa_nil)) pa_nil)))) (pss_cons (ps_set (i := 3) scOt.nd rfl (Or.inl rfl) (pe_ix (r := rIxT K) ix_tup (pv 1) (pv 2) (fun _ _ => rfl))) (pss_cons (ps_if (pt_cmpR (op_eqE hu0) (pv 3) (pe_tup pa_nil) (nomark _)) (pss_one (ps_ret (pv 1))) pss_nil) (pss_cons (ps_set (i := 4) scOt.nd rfl (Or.inl rfl) (pe_call GD hr1 (by rfl) mD kD bD .nil pass0 (pa_cons (pv 0) (pa_cons (pe_callB (r := rLenQ K) call_len_seq (by rfl) G.len PySem.boot_len (pa_cons (pv 3) pa_nil)) pa_nil)))) (pss_cons (ps_set (i := 5) scOt.nd rfl (Or.inl rfl) (pe_op Kd.op_catA (pe_slice (r := rSlT K) sl_tup (pv 3) po_none (po_some (pv 4))) (pe_slice (r := rSlT K) sl_tup (pv 3) (po_some (pe_op op_add (pv 4) pe_int)) po_none))) (pss_cons (ps_if (pt_cmpR op_eq (pe_call GD hr1 (by rfl) mD kD bD .nil pass0 (pa_cons (pv 0) (pa_cons pe_int pa_nil))) pe_int (nomark _)) (pss_cons (ps_set (i := 6) scOt.nd rfl (Or.inl rfl) (pe_op Kd.op_catA (pe_slice (r := rSlT K) sl_tup (pe_ix (r := rIxT K) ix_tup (pv 3) (pv 4) (fun _ _ => rfl)) po_none (po_some pe_int)) (pe_tup (pa_cons (pe_call GD hr1 (by rfl) mD kD bD .nil pass0 (pa_cons (pv 0) (pa_cons (pe_callB (r := rLenQ K) call_len_seq (by rfl) G.len PySem.boot_len (pa_cons (pv 1) pa_nil)) pa_nil))) pa_nil)))) (pss_one (ps_set (i := 5) scOt.nd rfl (Or.inl rfl) (pe_op Kd.op_catA (pe_op Kd.op_catA (pe_slice (r := rSlT K) sl_tup (pv 3) po_none (po_some (pv 4))) (pe_tup (pa_cons (pv 6) pa_nil))) (pe_slice (r := rSlT K) sl_tup (pv 3) (po_some (pe_op op_add (pv 4) pe_int)) po_none))))) pss_nil) (pss_one (ps_ret (pe_op Kd.op_catA (pe_op Kd.op_catA (pe_slice (r := rSlT K) sl_tup (pv 1) po_none (po_some (pv 2))) (pe_tup (pa_cons (pv 5) pa_nil))) (pe_slice (r := rSlT K) sl_tup (pv 1) (po_some (pe_op op_add (pv 2) pe_int)) po_none)))))))))), ?_⟩
    obtain ⟨xs, ha, hxs⟩ := ta.tup_of
    have lx : xs.length = ss.length := by
      have z := hxs.len
      rwa [List.length_map] at z
    have one := so.one
    have most := so.most
    have n0 := FA.n0
    refine ⟨_, rfl, _, rfl, a, xs, rfl, .inr (SqT.of ha), p, c, ks, y, n, (xs.length : Int), rfl, FA, by omega, by omega, by omega, fun d1 ks1 H1 d10 d11 F1 sv1 => ?_⟩
    obtain ⟨i, rfl⟩ := Int.eq_ofNat_of_zero_le d10
    have li : i < ss.length := by omega
    have ha1 := Save.tup FA sv1 _ _ ha
    have hxs1 := hxs.to (Save.tup FA sv1)
    obtain ⟨st, es⟩ : ∃ st, ss[i]? = some st := ⟨ss[i], List.getElem?_eq_getElem li⟩
    obtain ⟨v, ev⟩ : ∃ v, xs[i]? = some v := ⟨xs[i]'(by omega), List.getElem?_eq_getElem _⟩
    obtain ⟨dd, edd, tv⟩ := hxs1.get ev
    rw [List.getElem?_map, es] at edd
    cases edd
    obtain ⟨sa, ys, rfl, hsa, hys⟩ := tv.ref_of
    have ly : ys.length = st.length := by
      have z := hys.len
      rwa [List.length_map] at z
    have sto := so.all st (List.mem_of_getElem? es)
    have sf := sto.few
    refine ⟨_, rfl, _, rfl, a, _, _, _, rfl, rfl, SqT.of ha1, atI_nat ev, _, rfl, by show 0 ≤ sizeLine; decide, fun e0 he0 => ⟨sa, e0, ys, rfl, rfl, same_new he0 _ _ hsa, upd_same, _, rfl, ?_⟩⟩
    have z0 := same_new (o := .tup []) he0
    have ha2 := z0 _ _ ha1
    have hsa2 := z0 _ _ hsa
    have hxs2 := hxs1.to (Tup.of z0)
    have hys2 := hys.to (Tup.of z0)
    have F2 := F1.same z0
    have sv2 := sv1.trans (Save.of z0)
    generalize upd H1 e0 (.tup []) = H2 at z0 ha2 hsa2 hxs2 hys2 F2 sv2 ⊢
    cases st with
    | nil =>
      have e : ys = [] := List.length_eq_zero_iff.mp ly
      subst e
      exact iteT ⟨_, rfl, k a ss ks1 (n + 1) H2 (.tup ha2 hxs2) so F2 (by omega) sv2⟩
    | cons x0 st0 =>
      have ne : ys.isEmpty = false := by
        cases ys with
        | nil => simp at ly
        | cons _ _ => rfl
      rw [ne]
      refine iteF ?_
      have lpos : 1 ≤ (x0 :: st0).length := by simp
      generalize x0 :: st0 = st at es ly hys hys2 sto sf tv lpos
      refine ⟨_, rfl, _, rfl, sa, ys, rfl, .inr (SqT.of hsa2), p, c, ks1, y, n + 1, (ys.length : Int), rfl, F2, by omega, by omega, by omega, fun d2 ks2 H3 d20 d21 F3 sv3 => ?_⟩
      obtain ⟨k0, rfl⟩ := Int.eq_ofNat_of_zero_le d20
      have lk : k0 < ys.length := by omega
      have t3 := Save.tup F2 sv3
      have hsa3 := t3 _ _ hsa2
      have ha3 := t3 _ _ ha2
      have hys3 := hys2.to t3
      have hxs3 := hxs2.to t3
      have sv03 := sv2.trans sv3
      refine ⟨_, rfl, _, rfl, _, rfl, sa, ys, rfl, SqT.of hsa3, not_whole_to (by omega) (by omega), fun p1 hp1 => ?_⟩
      have z1 := same_new (o := .tup (cutV ys none (some (k0 : Int)))) hp1
      have b1 : (upd H3 p1 (.tup (cutV ys none (some (k0 : Int))))) p1 = some (.tup (ys.take k0)) := by rw [upd_same, cut_to _ (by omega)]; rfl
      generalize upd H3 p1 (.tup (cutV ys none (some (k0 : Int)))) = HA at z1 b1 ⊢
      refine ⟨_, rfl, _, rfl, _, _, rfl, rfl, _, rfl, sa, ys, rfl, SqT.of (z1 _ _ hsa3), not_whole_from (by omega) (by omega), fun p2 hp2 => ?_⟩
      have z2 := z1.trans (same_new (o := .tup (cutV ys (some ((k0 : Int) + 1)) none)) hp2)
      have b2 : (upd HA p2 (.tup (cutV ys (some ((k0 : Int) + 1)) none))) p2 = some (.tup (ys.drop (k0 + 1))) := by rw [upd_same, cut_from _ (by omega)]; rfl
      have b1' := same_new (o := .tup (cutV ys (some ((k0 : Int) + 1)) none)) hp2 _ _ b1
      generalize upd HA p2 (.tup (cutV ys (some ((k0 : Int) + 1)) none)) = HB at z2 b2 b1' ⊢
      refine ⟨p1, p2, _, _, rfl, rfl, b1', b2, small_len (m := 48) (by rw [List.length_take, List.length_drop]; omega), fun p3 HC z3 hp3 => ?_⟩
      have z4 := z2.trans z3
      have hys4 := hys3.to (Tup.of z4)
      have td3 : TD HC (.ref p3) (stateD (st.take k0 ++ st.drop (k0 + 1))) := by
        unfold stateD
        rw [List.map_append, List.map_take, List.map_drop]
        exact .tup hp3 (TDs.app (TDs.take_ k0 hys4) (TDs.drop_ (k0 + 1) hys4))
      have F4 := F3.same z4
      have sv4 := sv03.trans (Save.of z4)
      have ha4 := z4 _ _ ha3
      have hsa4 := z4 _ _ hsa3
      have hxs4 := hxs3.to (Tup.of z4)
      refine ⟨_, rfl, p, c, ks2, y, n + 1 + 1, 2, rfl, F4, by omega, by omega, by omega, fun d3 ks3 H5 d30 d31 F5 sv5 => ⟨rfl, _, rfl, ?_⟩⟩
      have t5 := Save.tup F4 sv5
      have ha5 := t5 _ _ ha4
      have hsa5 := t5 _ _ hsa4
      have hxs5 := hxs4.to t5
      have hys5 := hys4.to t5
      have td5 := td3.to t5
      have sv05 := sv4.trans sv5
      by_cases dz : d3 = 0
      · rw [decide_eq_true (by rw [dz])]
        obtain ⟨x, ek⟩ : ∃ x, st[k0]? = some x := ⟨st[k0]'(by omega), List.getElem?_eq_getElem _⟩
        obtain ⟨v2, ev2⟩ : ∃ v, ys[k0]? = some v := ⟨ys[k0]'(by omega), List.getElem?_eq_getElem _⟩
        obtain ⟨dd2, edd2, tv2⟩ := hys5.get ev2
        rw [List.getElem?_map, ek] at edd2
        cases edd2
        obtain ⟨xa, rfl, hxa⟩ := step_of tv2
        refine iteT ⟨_, rfl, _, rfl, sa, _, _, _, rfl, rfl, SqT.of hsa5, atI_nat ev2, 2, rfl, xa, _, rfl, SqT.of hxa, (fun z => absurd (show HT.sIx 3 3 (some 2) = 3 from z.2) (by decide)), fun m1 hm1 => ?_⟩
        have y1 := same_new (o := .tup (cutV [V.str x.1, V.str x.2.1, V.int x.2.2] none (some 2))) hm1
        have g1 : (upd H5 m1 (.tup (cutV [V.str x.1, V.str x.2.1, V.int x.2.2] none (some 2)))) m1 = some (.tup [V.str x.1, V.str x.2.1]) := upd_same
        generalize upd H5 m1 (.tup (cutV [V.str x.1, V.str x.2.1, V.int x.2.2] none (some 2))) = H6 at y1 g1 ⊢
        have F6 := F5.same y1
        have sv06 := sv05.trans (Save.of y1)
        refine ⟨_, rfl, _, rfl, a, xs, rfl, .inr (SqT.of (y1 _ _ ha5)), p, c, ks3, y, n + 1 + 1 + 1, (xs.length : Int), rfl, F6, by omega, by omega, by omega, fun d4 ks4 H7 d40 d41 F7 sv7 => ⟨by show 1 ≤ sizeLine; decide, fun m2 hm2 => ?_⟩⟩
        have t7 := Save.tup F6 sv7
        have y2 := same_new (o := .tup [V.int d4]) hm2
        have g2 : (upd H7 m2 (.tup [V.int d4])) m2 = some (.tup [V.int d4]) := upd_same
        have g1' := y2 _ _ (t7 _ _ g1)
        have F8 := F7.same y2
        have sv08 := (sv06.trans sv7).trans (Save.of y2)
        have t8 := ((Tup.of y1).trans t7).trans (Tup.of y2)
        generalize upd H7 m2 (.tup [V.int d4]) = H8 at y2 g2 g1' F8 sv08 t8 ⊢
        refine ⟨m1, m2, _, _, rfl, rfl, g1', g2, small_len (m := 3) (by simp), fun m3 H9 y3 hm3 => ?_⟩
        have F9 := F8.same y3
        have sv09 := sv08.trans (Save.of y3)
        have t9 := t8.trans (Tup.of y3)
        have ha9 := t9 _ _ ha5
        have hsa9 := t9 _ _ hsa5
        have hxs9 := hxs5.to t9
        have hys9 := hys5.to t9
        have tdm : TD H9 (.ref m3) (stepD (x.1, x.2.1, d4)) := .tup hm3 (.cons (.str _) (.cons (.str _) (.cons (.int _) .nil)))
        refine ⟨_, rfl, _, rfl, _, rfl, sa, ys, rfl, SqT.of hsa9, not_whole_to (by omega) (by omega), fun q1n hq1 => ?_⟩
        have w1n := same_new (o := .tup (cutV ys none (some (k0 : Int)))) hq1
        have c1n : (upd H9 q1n (.tup (cutV ys none (some (k0 : Int))))) q1n = some (.tup (ys.take k0)) := by rw [upd_same, cut_to _ (by omega)]; rfl
        generalize upd H9 q1n (.tup (cutV ys none (some (k0 : Int)))) = HPn at w1n c1n ⊢
        refine ⟨_, rfl, by show 1 ≤ sizeLine; decide, fun q2n hq2 => ?_⟩
        have w2n := w1n.trans (same_new (o := .tup [V.ref m3]) hq2)
        have c2n : (upd HPn q2n (.tup [V.ref m3])) q2n = some (.tup [V.ref m3]) := upd_same
        have c1'n := same_new (o := .tup [V.ref m3]) hq2 _ _ c1n
        generalize upd HPn q2n (.tup [V.ref m3]) = HQn at w2n c2n c1'n ⊢
        refine ⟨q1n, q2n, _, _, rfl, rfl, c1'n, c2n, small_len (m := 60) (by rw [List.length_take, List.length_singleton]; omega), fun q3n HRn w3n hq3n => ?_⟩
        have w4n := w2n.trans w3n
        refine ⟨_, rfl, _, rfl, _, _, rfl, rfl, _, rfl, sa, ys, rfl, SqT.of (w4n _ _ hsa9), not_whole_from (by omega) (by omega), fun q4n hq4 => ?_⟩
        have w5n := w4n.trans (same_new (o := .tup (cutV ys (some ((k0 : Int) + 1)) none)) hq4)
        have c4n : (upd HRn q4n (.tup (cutV ys (some ((k0 : Int) + 1)) none))) q4n = some (.tup (ys.drop (k0 + 1))) := by rw [upd_same, cut_from _ (by omega)]; rfl
        have c3n := same_new (o := .tup (cutV ys (some ((k0 : Int) + 1)) none)) hq4 _ _ hq3n
        generalize upd HRn q4n (.tup (cutV ys (some ((k0 : Int) + 1)) none)) = HSn at w5n c4n c3n ⊢
        refine ⟨q3n, q4n, _, _, rfl, rfl, c3n, c4n, small_len (m := 100) (by rw [List.length_append, List.length_take, List.length_drop, List.length_singleton]; omega), fun q5n HTn w6n hq5n => ?_⟩
        have w7n := w5n.trans w6n
        have twn := Tup.of w7n
        have tdn : TD HTn (.ref q5n) (stateD (st.take k0 ++ [(x.1, x.2.1, d4)] ++ st.drop (k0 + 1))) := by
          unfold stateD
          rw [List.map_append, List.map_append, List.map_take, List.map_drop]
          exact .tup hq5n (TDs.app (TDs.app (TDs.take_ k0 (hys9.to twn)) (.cons (tdm.to twn) .nil)) (TDs.drop_ (k0 + 1) (hys9.to twn)))
        have F10 := F9.same w7n
        have sv10 := sv09.trans (Save.of w7n)
        have ha10 := w7n _ _ ha9
        have hxs10 := hxs9.to twn
        refine ⟨_, rfl, _, rfl, _, rfl, a, xs, rfl, SqT.of ha10, not_whole_to (by omega) (by omega), fun q1f hq1 => ?_⟩
        have w1f := same_new (o := .tup (cutV xs none (some (i : Int)))) hq1
        have c1f : (upd HTn q1f (.tup (cutV xs none (some (i : Int))))) q1f = some (.tup (xs.take i)) := by rw [upd_same, cut_to _ (by omega)]; rfl
        generalize upd HTn q1f (.tup (cutV xs none (some (i : Int)))) = HPf at w1f c1f ⊢
        refine ⟨_, rfl, by show 1 ≤ sizeLine; decide, fun q2f hq2 => ?_⟩
        have w2f := w1f.trans (same_new (o := .tup [V.ref q5n]) hq2)
        have c2f : (upd HPf q2f (.tup [V.ref q5n])) q2f = some (.tup [V.ref q5n]) := upd_same
        have c1'f := same_new (o := .tup [V.ref q5n]) hq2 _ _ c1f
        generalize upd HPf q2f (.tup [V.ref q5n]) = HQf at w2f c2f c1'f ⊢
        refine ⟨q1f, q2f, _, _, rfl, rfl, c1'f, c2f, small_len (m := 60) (by rw [List.length_take, List.length_singleton]; omega), fun q3f HRf w3f hq3f => ?_⟩
        have w4f := w2f.trans w3f
        refine ⟨_, rfl, _, rfl, _, _, rfl, rfl, _, rfl, a, xs, rfl, SqT.of (w4f _ _ ha10), not_whole_from (by omega) (by omega), fun q4f hq4 => ?_⟩
        have w5f := w4f.trans (same_new (o := .tup (cutV xs (some ((i : Int) + 1)) none)) hq4)
        have c4f : (upd HRf q4f (.tup (cutV xs (some ((i : Int) + 1)) none))) q4f = some (.tup (xs.drop (i + 1))) := by rw [upd_same, cut_from _ (by omega)]; rfl
        have c3f := same_new (o := .tup (cutV xs (some ((i : Int) + 1)) none)) hq4 _ _ hq3f
        generalize upd HRf q4f (.tup (cutV xs (some ((i : Int) + 1)) none)) = HSf at w5f c4f c3f ⊢
        refine ⟨q3f, q4f, _, _, rfl, rfl, c3f, c4f, small_len (m := 100) (by rw [List.length_append, List.length_take, List.length_drop, List.length_singleton]; omega), fun q5f HTf w6f hq5f => ?_⟩
        have w7f := w5f.trans w6f
        have twf := Tup.of w7f
        refine k q5f (ss.take i ++ [st.take k0 ++ [(x.1, x.2.1, d4)] ++ st.drop (k0 + 1)] ++ ss.drop (i + 1)) ks4 _ HTf ?_ (so.swap es (sto.moved ek d40 (by omega)) fun z m => ?_) (F10.same w7f) (by omega) (sv10.trans (Save.of w7f))
        · unfold statesD
          rw [List.map_append, List.map_append, List.map_take, List.map_drop]
          exact .tup hq5f (TDs.app (TDs.app (TDs.take_ i (hxs10.to twf)) (.cons (tdn.to twf) .nil)) (TDs.drop_ (i + 1) (hxs10.to twf)))
        · rcases List.mem_append.mp m with m | m
          · rcases List.mem_append.mp m with m | m
            · exact ⟨z, List.mem_of_mem_take m, rfl⟩
            · rw [List.mem_singleton.mp m]
              exact ⟨x, List.mem_of_getElem? ek, rfl⟩
          · exact ⟨z, List.mem_of_mem_drop m, rfl⟩
      · rw [decide_eq_false (by simp [dz])]
        refine iteF ?_
        refine ⟨_, rfl, _, rfl, _, rfl, a, xs, rfl, SqT.of ha5, not_whole_to (by omega) (by omega), fun q1 hq1 => ?_⟩
        have w1 := same_new (o := .tup (cutV xs none (some (i : Int)))) hq1
        have c1 : (upd H5 q1 (.tup (cutV xs none (some (i : Int))))) q1 = some (.tup (xs.take i)) := by rw [upd_same, cut_to _ (by omega)]; rfl
        generalize upd H5 q1 (.tup (cutV xs none (some (i : Int)))) = HP at w1 c1 ⊢
        refine ⟨_, rfl, by show 1 ≤ sizeLine; decide, fun q2 hq2 => ?_⟩
        have w2 := w1.trans (same_new (o := .tup [V.ref p3]) hq2)
        have c2 : (upd HP q2 (.tup [V.ref p3])) q2 = some (.tup [V.ref p3]) := upd_same
        have c1' := same_new (o := .tup [V.ref p3]) hq2 _ _ c1
        generalize upd HP q2 (.tup [V.ref p3]) = HQ at w2 c2 c1' ⊢
        refine ⟨q1, q2, _, _, rfl, rfl, c1', c2, small_len (m := 48) (by rw [List.length_take, List.length_singleton]; omega), fun q3 HR w3 hq3 => ?_⟩
        have w4 := w2.trans w3
        refine ⟨_, rfl, _, rfl, _, _, rfl, rfl, _, rfl, a, xs, rfl, SqT.of (w4 _ _ ha5), not_whole_from (by omega) (by omega), fun q4 hq4 => ?_⟩
        have w5 := w4.trans (same_new (o := .tup (cutV xs (some ((i : Int) + 1)) none)) hq4)
        have c4 : (upd HR q4 (.tup (cutV xs (some ((i : Int) + 1)) none))) q4 = some (.tup (xs.drop (i + 1))) := by rw [upd_same, cut_from _ (by omega)]; rfl
        have c3 := same_new (o := .tup (cutV xs (some ((i : Int) + 1)) none)) hq4 _ _ hq3
        generalize upd HR q4 (.tup (cutV xs (some ((i : Int) + 1)) none)) = HS at w5 c4 c3 ⊢
        refine ⟨q3, q4, _, _, rfl, rfl, c3, c4, small_len (m := 100) (by rw [List.length_append, List.length_take, List.length_drop, List.length_singleton]; omega), fun q5 HT w6 hq5 => ?_⟩
        have w7 := w5.trans w6
        have tw := Tup.of w7
        refine k q5 (ss.take i ++ [(st.take k0 ++ st.drop (k0 + 1))] ++ ss.drop (i + 1)) ks3 _ HT ?_ (so.swap es sto.out (fun x m => ⟨x, by rcases List.mem_append.mp m with m | m; exact List.mem_of_mem_take m; exact List.mem_of_mem_drop m, rfl⟩)) (F5.same w7) (by omega) (sv05.trans (Save.of w7))
        unfold statesD
        rw [List.map_append, List.map_append, List.map_take, List.map_drop]
        exact .tup hq5 (TDs.app (TDs.app (TDs.take_ i (hxs5.to tw)) (.cons (td5.to tw) .nil)) (TDs.drop_ (i + 1) (hxs5.to tw)))
end
end My

-- ===== K7Tw =====
set_option Elab.async false
set_option linter.all false
set_option maxRecDepth 100000
set_option maxHeartbeats 4000000
namespace My
open PySem L2 PyProof.Rows PySem.Spec Kd TL
abbrev sTwice : Stmt := top 35
def spTwice : Sp := fun vs H Q _ => ∃ (p c a : Addr) (ks : List Int) (w n : Int) (ss : List (List Stp)), vs = [.ref p, .ref a] ∧ FeedAt H p c ks w n ∧ n < 800000 ∧ TD H (.ref a) (statesD ss) ∧ KOk ss ∧ ss.length ≤ 20 ∧
  ∀ (b : Addr) (ts : List (List Stp)) (ks' : List Int) (n' : Int) (H' : Hp), TD H' (.ref b) (statesD ts) → KOk ts → FeedAt H' p c ks' w n' → n' ≤ n + 24 * (2 * ss.length) → Save p c H H' → Q (.ref b) H'
section
variable {P : Program} {w : World} {K : PySem.W.Frag} {mg : Str → Option Value} {base : Heap}
abbrev nTw : List Str := ["_law_feed_here", "_law_states_here", "_law_many", "_law_found", "_law_k", "_law_state", "_law_step"]
theorem scTw : FnScope nTw ["_law_feed_here", "_law_states_here"] (defScope sTwice) := ⟨rfl, rfl, rfl, by decide +kernel, rfl, by decide +kernel, by decide +kernel⟩
theorem ok_twice {f fD : Addr} {fd fdD : FuncData} (F : Fun K "_law_twice" "_law_twice" sTwice f fd) (G : Gs mg)
    (GD : FnOk P w K mg base CX0 1 fD fdD ["_law_feed_here", "_law_many"] spDigit) (mD : mg "_law_digit" = some (.ref fD)) (kD : PySem.W.keepIn K (.ref fD) = true) (bD : Binds K fdD ["_law_feed_here", "_law_many"] []) :
    FnOk P w K mg base CX0 2 f fd ["_law_feed_here", "_law_states_here"] spTwice := by
  refine F.ok scTw (fun vs H Q E h => ?_) (fun cdv A outer s H vs Q E hr1 h => ?_)
  · obtain ⟨p, c, a, ks, y, n, ss, rfl, _⟩ := h
    rfl
  · obtain ⟨p, c, a, ks, y, n, ss, rfl, FA, hn, ta, so, small, k⟩ := h
    refine ⟨_, (pss_cons (ps_asg (pe_tup (pa_cons (pe_callB (r := rLenQ K) call_len_seq (by rfl) G.len PySem.boot_len (pa_cons (pv 1) pa_nil)) (pa_cons (pe_lst pa_nil) pa_nil))) (pg_tup (by rfl) (pgs_cons (pg_name (i := 2) scTw.nd rfl (Or.inr rfl)) (pgs_cons (pg_name (i := 3) scTw.nd rfl (Or.inl rfl)) pgs_nil)))) (pss_cons (ps_for PassesOwn.never rfl (pi_range1 (by rfl) G.range (pa_cons (pe_op op_mul pe_int (pv 2)) pa_nil)) (pg_name (i := 4) scTw.nd rfl (Or.inl rfl)) (pss_cons (ps_set (i := 5) scTw.nd rfl (Or.inl rfl) (pe_ix (r := rIxT K) ix_tup (pv 1) (pe_op op_mod (pv 4) (pv 2)) (fun _ _ => rfl))) (pss_one (ps_expr (pe_bm PySem.F.plainAttrs_list PySem.F.slot_list_append PySem.F.type_list_append mt_append (pv 3) (pa_cons (pe_callTy call_tuple_of (by rfl) G.tuple (by decide +kernel) (pa_cons (pe_lc (own := [("_law_step", 6)]) (g := gName 6) (tt := tYes) rfl scTw.nd (pi_tup (pv 5)) (blkOk_by (N := nTw) (sc := defScope sTwice) (by decide +kernel)) (fun _ _ _ _ _ => pg_name (i := 6) scTw.nd rfl (Or.inl rfl)) (fun _ _ _ _ _ => pts_nil) (fun _ _ _ _ _ => (pe_op Kd.op_catA (pe_slice (r := rSlT K) sl_tup (pv 6) po_none (po_some pe_int)) (pe_tup (pa_cons (pe_op op_add (pe_ix (r := rIxT K) ix_tup (pv 6) pe_int (fun _ _ => rfl)) (pe_op op_mul (pv 2) (pe_call GD hr1 (by rfl) mD kD bD .nil pass0 (pa_cons (pv 0) (pa_cons pe_int pa_nil))))) pa_nil))))) pa_nil)) pa_nil)))))) (pss_one (ps_ret (pe_callTy call_tuple_of (by rfl) G.tuple (by decide +kernel) (pa_cons (pv 3) pa_nil)))))), ?_⟩
    obtain ⟨xs, ha, hxs⟩ := ta.tup_of
    have lx : xs.length = ss.length := by
      have z := hxs.len
      rwa [List.length_map] at z
    have one := so.one
    have n0 := FA.n0
    refine ⟨_, rfl, a, xs, rfl, .inr (SqT.of ha), by show 0 ≤ sizeLine; decide, fun fo hfo => ⟨by show 2 ≤ sizeLine; decide, fun tq htq => ?_⟩⟩
    have z1 := same_new (o := .lst []) hfo
    have z2 := z1.trans (same_new (o := .tup [V.int (xs.length : Int), .ref fo]) htq)
    have hq : (upd (upd H fo (.lst [])) tq (.tup [V.int (xs.length : Int), .ref fo])) tq = some (.tup [V.int (xs.length : Int), .ref fo]) := upd_same
    have f2 : (upd (upd H fo (.lst [])) tq (.tup [V.int (xs.length : Int), .ref fo])) fo = some (.lst []) := same_new htq _ _ upd_same
    generalize upd (upd H fo (.lst [])) tq (.tup [V.int (xs.length : Int), .ref fo]) = H2 at z2 hq f2 ⊢
    refine ⟨tq, _, rfl, SqT.of hq, rfl, _, _, rfl, _, _, rfl, rfl, ?_⟩
    have fop : fo ≠ p := Ne.symm (ne_of_none FA.ob hfo)
    have foc : fo ≠ c := Ne.symm (ne_of_none FA.cs hfo)
    refine ⟨_, rfl, _, _, rfl, rfl, .inl ⟨by omega, by omega⟩, _, rfl, by omega, by omega, for_range (lo := 0) (n := ((2 : Int) * (xs.length : Int)).toNat) (fun j σ H4 => ∃ (o4 o5 : Option V) (ks' : List Int) (n' : Int) (vs : List V) (rows : List (List Stp)), σ = [some (.ref p), some (.ref a), some (.int (xs.length : Int)), some (.ref fo), o4, o5, none] ∧ FeedAt H4 p c ks' y n' ∧ n' ≤ n + 24 * (j : Int) ∧ Save p c H H4 ∧ H4 fo = some (.lst vs) ∧ TDs H4 vs (rows.map stateD) ∧ rows.length = j ∧ ∀ r ∈ rows, StOk (2 * ss.length) r ∧ ∀ x ∈ r, ∃ st ∈ ss, ∃ z ∈ st, evOf x = evOf z)
      ⟨none, none, ks, n, [], [], rfl, FA.same z2, by omega, Save.of z2, f2, .nil, rfl, fun r m => nomatch m⟩ ?_ ?_⟩
    · rintro j σ H4 hj ⟨o4, o5, ks4, n4, vs, rows, rfl, F4, le4, sv4, f4, t4, rl, ro⟩
      have t04 := Save.tup FA sv4
      have ha4 := t04 _ _ ha
      have hxs4 := hxs.to t04
      have jm : j % ss.length < ss.length := Nat.mod_lt _ one
      obtain ⟨st, es⟩ : ∃ st, ss[j % ss.length]? = some st := ⟨ss[j % ss.length], List.getElem?_eq_getElem jm⟩
      obtain ⟨v, ev⟩ : ∃ v, xs[j % ss.length]? = some v := ⟨xs[j % ss.length]'(by omega), List.getElem?_eq_getElem _⟩
      obtain ⟨dd, edd, tv⟩ := hxs4.get ev
      rw [List.getElem?_map, es] at edd
      cases edd
      obtain ⟨sa, ys, rfl, hsa, hys⟩ := tv.ref_of
      have ly : ys.length = st.length := by
        have z := hys.len
        rwa [List.length_map] at z
      have mst := List.mem_of_getElem? es
      have sto := so.all st mst
      have sf := sto.few
      have em : ((0 : Int) + (j : Int)) % (xs.length : Int) = ((j % ss.length : Nat) : Int) := by rw [lx, Int.zero_add]; rfl
      refine ⟨_, rfl, _, rfl, _, rfl, _, _, rfl, rfl, (by omega : (0 : Int) < (xs.length : Int)), a, _, _, _, rfl, rfl, SqT.of ha4, by rw [em]; exact atI_nat ev, ?_⟩
      have nf : ∀ D, H4 D = none → D ≠ p ∧ D ≠ c ∧ D ≠ fo := fun D hD => ⟨Ne.symm (ne_of_none F4.ob hD), Ne.symm (ne_of_none F4.cs hD), Ne.symm (ne_of_none f4 hD)⟩
      refine ⟨_, rfl, .inl ⟨rfl, _, SqL.of f4⟩, _, rfl, sa, rfl, ⟨_, SqT.of hsa⟩, fun D hD => lc_tup (K := K) (a := sa) (xs := ys) (fun g Hn => ∃ (ks' : List Int) (n' : Int) (us : List V) (row : List Stp), Hn D = some (.lst us) ∧ TDs Hn us (row.map stepD) ∧ row.map evOf = (st.take g).map evOf ∧ (∀ x ∈ row, StpOk (2 * ss.length) x) ∧ FeedAt Hn p c ks' y n' ∧ n' ≤ n4 + (g : Int) ∧ Save p c H4 Hn)
        ⟨ks4, n4, [], [], upd_same, .nil, rfl, (fun x m => nomatch m), F4.wr (nf D hD).1 (nf D hD).2.1, by omega, Save.of (same_new hD)⟩ (fun g Hn _ ⟨_, _, _, _, _, _, _, _, _, _, sv⟩ => SqT.of (Save.tup F4 sv _ _ hsa)) (fun g x Hn ex ⟨ks5, n5, us, row, dD, tD, rE, rO, F5, le5, sv5⟩ => ?_) fun Hn ⟨ks5, n5, us, row, dD, tD, rE, rO, F5, le5, sv5⟩ => ?_⟩
      · have t45 := Save.tup F4 sv5
        obtain ⟨dz, edz, tz⟩ := (hys.to t45).get ex
        rw [List.getElem?_map] at edz
        obtain ⟨z, ez, rfl⟩ := Option.map_eq_some_iff.mp edz
        obtain ⟨xa, rfl, hxa⟩ := step_of tz
        have lg := (List.getElem?_eq_some_iff.mp ez).1
        have zo := sto.all z (List.mem_of_getElem? ez)
        refine ⟨rfl, _, rfl, 2, rfl, xa, _, rfl, SqT.of hxa, (fun z => absurd (show HT.sIx 3 3 (some 2) = 3 from z.2) (by decide)), fun m1 hm1 => ?_⟩
        have y1 := same_new (o := .tup (cutV [V.str z.1, V.str z.2.1, V.int z.2.2] none (some 2))) hm1
        have g1 : (upd Hn m1 (.tup (cutV [V.str z.1, V.str z.2.1, V.int z.2.2] none (some 2)))) m1 = some (.tup [V.str z.1, V.str z.2.1]) := upd_same
        generalize upd Hn m1 (.tup (cutV [V.str z.1, V.str z.2.1, V.int z.2.2] none (some 2))) = H6 at y1 g1 ⊢
        have F6 := F5.same y1
        refine ⟨_, rfl, xa, _, 2, _, rfl, rfl, SqT.of (y1 _ _ hxa), rfl, _, rfl, _, rfl, p, c, ks5, y, n5, 2, rfl, F6, by omega, by omega, by omega, fun d ks6 H7 d0 d1 F7 sv7 => ?_⟩
        have zl := zo.lo
        have zh := zo.hi
        refine ⟨_, _, rfl, rfl, .inl ⟨by omega, by omega⟩, _, _, rfl, rfl, by show 1 ≤ sizeLine; decide, fun m2 hm2 => ?_⟩
        have y2 := same_new (o := .tup [V.int (z.2.2 + (xs.length : Int) * d)]) hm2
        have g2 : (upd H7 m2 (.tup [V.int (z.2.2 + (xs.length : Int) * d)])) m2 = some (.tup [V.int (z.2.2 + (xs.length : Int) * d)]) := upd_same
        have t67 := Save.tup F6 sv7
        have g1' := y2 _ _ (t67 _ _ g1)
        have F8 := F7.same y2
        generalize upd H7 m2 (.tup [V.int (z.2.2 + (xs.length : Int) * d)]) = H8 at y2 g2 g1' F8 ⊢
        refine ⟨m1, m2, _, _, rfl, rfl, g1', g2, small_len (m := 3) (by simp), fun m3 H9 y3 hm3 => ?_⟩
        have dp := (nf D hD).1
        have dc := (nf D hD).2.1
        have d9 := y3 _ _ (y2 _ _ (sv7 _ _ (y1 _ _ dD) dp dc))
        have tup9 := (((Tup.of y1).trans t67).trans (Tup.of y2)).trans (Tup.of y3)
        have lus : us.length = row.length := by
          have z := tD.len
          rwa [List.length_map] at z
        have lrow : row.length = g := by
          have z := congrArg List.length rE
          rw [List.length_map, List.length_map, List.length_take] at z
          omega
        have tp : Tup H9 (upd H9 D (.lst (us ++ [.ref m3]))) := Tup.at_ d9 fun xs z => nomatch z
        have dd : d = 0 ∨ d = 1 := by omega
        have sv9 : Save p c H4 H9 := ((((sv5.trans (Save.of y1)).trans sv7).trans (Save.of y2)).trans (Save.of y3))
        refine ⟨us, d9, small_lt (m := 24) (by omega), ks6, n5 + 1, us ++ [.ref m3], row ++ [(z.1, z.2.1, z.2.2 + (xs.length : Int) * d)], upd_same, ?_, ?_, fun x m => ?_, (F8.same y3).wr dp dc, by omega, sv9.wr hD⟩
        · rw [List.map_append]
          exact TDs.snoc (.tup (tp _ _ hm3) (.cons (.str _) (.cons (.str _) (.cons (.int _) .nil)))) ((tD.to tup9).to tp)
        · rw [List.map_append, rE, List.take_succ, ez, List.map_append]
          rfl
        · rcases List.mem_append.mp m with m | m
          · exact rO x m
          · rw [List.mem_singleton.mp m]
            refine ⟨zo.w1, zo.w2, ?_, ?_⟩
            · rcases dd with rfl | rfl <;> simp <;> omega
            · rcases dd with rfl | rfl <;> simp <;> omega
      · rw [ly, List.take_length] at rE
        have fd5 := sv5 _ _ f4 fop foc
        refine ⟨D, us, rfl, .inl ⟨SqL.of dD, fun b hb => ?_⟩⟩
        have sb := same_new (o := .tup us) hb
        have f9 := sb _ _ fd5
        have tp : Tup (upd Hn b (.tup us)) (upd (upd Hn b (.tup us)) fo (.lst (vs ++ [.ref b]))) := Tup.at_ f9 fun xs z => nomatch z
        have lvs : vs.length = rows.length := by
          have z := t4.len
          rwa [List.length_map] at z
        have lrow : row.length = st.length := by
          have z := congrArg List.length rE
          rwa [List.length_map, List.length_map] at z
        refine ⟨fo, vs, _, rfl, rfl, f9, small_lt (m := 40) (by omega), ⟨_, _, ks5, n5, vs ++ [.ref b], rows ++ [row], rfl, (F5.same sb).wr fop foc, by omega, ?_, upd_same, ?_, by rw [List.length_append, rl]; rfl, fun r m => ?_⟩⟩
        · exact fun b' o e a1 a2 => by
            rw [upd_ne (fun z => by rw [z, hfo] at e; cases e)]
            exact sb _ _ (sv5 _ _ (sv4 _ _ e a1 a2) a1 a2)
        · rw [List.map_append]
          exact TDs.snoc (.tup (tp _ _ upd_same) ((tD.to (Tup.of sb)).to tp)) (((t4.to (Save.tup F4 sv5)).to (Tup.of sb)).to tp)
        · rcases List.mem_append.mp m with m | m
          · exact ro r m
          · rw [List.mem_singleton.mp m]
            refine ⟨⟨rO, by rw [rE]; exact sto.asc, by omega⟩, fun x mx => ?_⟩
            have z : evOf x ∈ st.map evOf := by rw [← rE]; exact List.mem_map.mpr ⟨x, mx, rfl⟩
            obtain ⟨w, mw, e⟩ := List.mem_map.mp z
            exact ⟨st, mst, w, mw, e.symm⟩
    · rintro σ H4 ⟨o4, o5, ks4, n4, vs, rows, rfl, F4, le4, sv4, f4, t4, rl, ro⟩
      refine ⟨_, rfl, fo, vs, rfl, .inl ⟨SqL.of f4, fun b hb => k b rows ks4 n4 _ (.tup upd_same (t4.to (Tup.new hb))) ⟨by omega, by omega, fun r m => by rw [show rows.length = 2 * ss.length by omega]; exact (ro r m).1, ?_⟩ (F4.same (same_new hb)) (by omega) (sv4.trans (Save.of (same_new hb)))⟩⟩
      obtain ⟨es_, e1, e2⟩ := so.evs
      refine ⟨es_, e1, fun r m x mx => ?_⟩
      obtain ⟨st, ms, z, mz, e⟩ := (ro r m).2 x mx
      rw [e]
      exact e2 st ms z mz
end
end My

-- ===== K7Ch =====
set_option Elab.async false
set_option linter.all false
set_option maxRecDepth 100000
set_option maxHeartbeats 4000000
namespace My
open PySem L2 PyProof.Rows PySem.Spec Kd TL
abbrev sChain : Stmt := top 33
theorem PE.wkC {X : Cx} {e : Expr} {t u : TE} (h : PE X e t) (k : ∀ σ H Q, u σ H Q → t σ H Q) : PE X e u := ⟨fun pins s σ H Q I q => h.run pins s σ H Q I (k σ H Q q)⟩
theorem PS.wkC {X : Cx} {st : Stmt} {t u : TS} (h : PS X st t) (k : ∀ D σ H, u D σ H → t D σ H) : PS X st u := ⟨fun pins s σ H D I q => h.run pins s σ H D I (k D σ H q)⟩
/-- a chain's state under way -/
structure Cst (H : Hp) (D : Addr) (L : List (Addr × Stp)) (sz : Nat) (ws : List (Str × Str)) : Prop where
  lst : H D = some (.lst (L.map fun q => V.ref q.1))
  at_ : ∀ q ∈ L, H q.1 = some (.tup [V.str q.2.1, .str q.2.2.1, .int q.2.2.2]) ∧ StpOk sz q.2 ∧ evOf q.2 ∈ ws
  nd : (L.map fun q => evOf q.2).Nodup
  le : L.length ≤ ws.length
theorem Cst.put {H : Hp} {D b : Addr} {L : List (Addr × Stp)} {sz : Nat} {ws : List (Str × Str)} {x : Stp} (h : Cst H D L sz ws) (hb : H b = some (.tup [V.str x.1, .str x.2.1, .int x.2.2])) (ok : StpOk sz x) (n : evOf x ∉ ws) :
    Cst (upd H D (.lst ((L.map fun q => V.ref q.1) ++ [.ref b]))) D (L ++ [(b, x)]) sz (ws ++ [evOf x]) := by
  have keep : ∀ {a : Addr} {xs : List V}, H a = some (.tup xs) → (upd H D (.lst ((L.map fun q => V.ref q.1) ++ [.ref b]))) a = some (.tup xs) := fun {a xs} e => by
    rw [upd_ne fun z => by rw [z, h.lst] at e; cases e]
    exact e
  refine ⟨by rw [upd_same, List.map_append]; rfl, fun q m => ?_, ?_, by rw [List.length_append, List.length_append]; exact Nat.succ_le_succ h.le⟩
  · rcases List.mem_append.mp m with m | m
    · obtain ⟨a, e1, e2⟩ := h.at_ q m
      exact ⟨keep a, e1, List.mem_append_left _ e2⟩
    · rw [List.mem_singleton.mp m]
      exact ⟨keep hb, ok, List.mem_append_right _ List.mem_cons_self⟩
  · rw [List.map_append]
    refine List.nodup_append.mpr ⟨h.nd, by simp, fun p hp q hq e => ?_⟩
    obtain ⟨r, mr, rfl⟩ := List.mem_map.mp hp
    rw [List.mem_singleton.mp hq] at e
    obtain ⟨_, _, e2⟩ := h.at_ r mr
    rw [e] at e2
    exact n e2
theorem Cst.keep {H H' : Hp} {D : Addr} {L : List (Addr × Stp)} {sz : Nat} {ws : List (Str × Str)} (h : Cst H D L sz ws) (hD : H' D = some (.lst (L.map fun q => V.ref q.1))) (t : Tup H H') : Cst H' D L sz ws :=
  ⟨hD, fun q m => let ⟨a, b⟩ := h.at_ q m; ⟨t _ _ a, b⟩, h.nd, h.le⟩
theorem Cst.more {H : Hp} {D : Addr} {L : List (Addr × Stp)} {sz : Nat} {ws ws' : List (Str × Str)} (h : Cst H D L sz ws) (sub : ∀ x ∈ ws, x ∈ ws') (l : ws.length ≤ ws'.length) : Cst H D L sz ws' :=
  ⟨h.lst, fun q m => let ⟨a, e1, e2⟩ := h.at_ q m; ⟨a, e1, sub _ e2⟩, h.nd, Nat.le_trans h.le l⟩
theorem stp_td {H : Hp} {a : Addr} {x : Stp} (h : H a = some (.tup [V.str x.1, .str x.2.1, .int x.2.2])) : TD H (.ref a) (stepD x) := .tup h (.cons (.str _) (.cons (.str _) (.cons (.int _) .nil)))
theorem stps_td {H : Hp} : ∀ (M : List (Addr × Stp)), (∀ q ∈ M, H q.1 = some (.tup [V.str q.2.1, .str q.2.2.1, .int q.2.2.2])) → TDs H (M.map fun q => V.ref q.1) ((M.map Prod.snd).map stepD)
  | [], _ => .nil
  | q :: M, h => .cons (stp_td (h q List.mem_cons_self)) (stps_td M fun r m => h r (List.mem_cons_of_mem _ m))
theorem wrd_ch : Wrd "on" ∧ Wrd "off" ∧ Wrd "ok" ∧ Wrd "no" := by
  unfold Wrd
  decide +kernel
abbrev evOn : List (Str × Str) := [("on", "ok")]
abbrev evCh : List (Str × Str) := [("on", "ok"), ("on", "no"), ("off", "no")]
def uOn : TE := fun σ H Q => ∃ (sz k : Int), σ[1]? = some (some (.int sz)) ∧ σ[3]? = some (some (.int k)) ∧ 0 ≤ k ∧ k < sz ∧
  ∀ (D : Addr) (L : List (Addr × Stp)) (H' : Hp), Cst H' D L sz.toNat evOn → Same H H' → H D = none → Q (.ref D) H'
def uOff : TS := fun D σ H => ∃ (p c DD : Addr) (ks : List Int) (y n sz : Int) (L : List (Addr × Stp)), σ[0]? = some (some (.ref p)) ∧ σ[1]? = some (some (.int sz)) ∧ σ[4]? = some (some (.ref DD)) ∧ 1 ≤ sz ∧ sz ≤ 40 ∧
  FeedAt H p c ks y n ∧ n < 900000 ∧ DD ≠ p ∧ DD ≠ c ∧ Cst H DD L sz.toNat evOn ∧
  ∀ H' L' ks' n', Cst H' DD L' sz.toNat evCh → FeedAt H' p c ks' y n' → n' ≤ n + 3 → (∀ b o, H b = some o → b ≠ DD → b ≠ p → b ≠ c → H' b = some o) → D.nx σ H'
def spChain : Sp := fun vs H Q _ => ∃ (p c : Addr) (ks : List Int) (w n far : Int), vs = [.ref p, .int far] ∧ FeedAt H p c ks w n ∧ n < 800000 ∧ 1 ≤ far ∧ far ≤ 40 ∧
  ∀ (b : Addr) (ts : List (List Stp)) (ks' : List Int) (n' : Int) (H' : Hp), TD H' (.ref b) (statesD ts) → KOk ts → FeedAt H' p c ks' w n' → n' ≤ n + 120 → Save p c H H' → Q (.ref b) H'
section
variable {P : Program} {w : World} {K : PySem.W.Frag} {mg : Str → Option Value} {base : Heap}
abbrev nCh : List Str := ["_law_feed_here", "_law_far", "_law_found", "_law_k", "_law_state"]
theorem scCh : FnScope nCh ["_law_feed_here", "_law_far"] (defScope sChain) := ⟨rfl, rfl, rfl, by decide +kernel, rfl, by decide +kernel, by decide +kernel⟩
theorem ok_chain {f fP fD : Addr} {fd fdP fdD : FuncData} (F : Fun K "_law_chain" "_law_chain" sChain f fd) (G : Gs mg)
    (GP : FnOk P w K mg base CX0 2 fP fdP ["_law_feed_here", "_law_some"] spPick) (mP : mg "_law_pick" = some (.ref fP)) (kP : PySem.W.keepIn K (.ref fP) = true) (bP : Binds K fdP ["_law_feed_here", "_law_some"] [])
    (GD : FnOk P w K mg base CX0 1 fD fdD ["_law_feed_here", "_law_many"] spDigit) (mD : mg "_law_digit" = some (.ref fD)) (kD : PySem.W.keepIn K (.ref fD) = true) (bD : Binds K fdD ["_law_feed_here", "_law_many"] []) :
    FnOk P w K mg base CX0 3 f fd ["_law_feed_here", "_law_far"] spChain := by
  refine F.ok scCh (fun vs H Q E h => ?_) (fun cdv A outer s H vs Q E hr h => ?_)
  · obtain ⟨p, c, ks, y, n, far, rfl, _⟩ := h
    rfl
  · obtain ⟨p, c, ks, y, n, sz, rfl, FA, hn, z1, z40, k⟩ := h
    have hu := hr.units
    have hun := hr.un
    have hr1 := hr.mono (show 1 ≤ 2 by omega)
    have hu80 : (A.deeper (envOfC "_law_chain" (defScope sChain) s.heap.objs.size f cdv)).units + 80 < cLine := by omega
    refine ⟨_, (pss_cons (ps_set (i := 2) scCh.nd rfl (Or.inl rfl) (pe_lst pa_nil)) (pss_cons (ps_for PassesOwn.never rfl (pi_range1 (by rfl) G.range (pa_cons (pv 1) pa_nil)) (pg_name (i := 3) scCh.nd rfl (Or.inl rfl)) (pss_cons (ps_set (i := 4) scCh.nd rfl (Or.inl rfl) (PE.wkC (u := uOn) (pe_ifExp (pt_cmpR op_lt (pe_op op_add (pv 3) pe_int) (pv 1) (nomark _)) (pe_lst (pa_cons (pe_tup (pa_cons pe_str (pa_cons pe_str (pa_cons (pe_op op_add (pv 3) pe_int) pa_nil)))) pa_nil)) (pe_lst pa_nil)) (fun σ H Q ⟨sz, k, e1, e3, k0, k1, q⟩ => by
          have sz0 : ((sz.toNat : Nat) : Int) = sz := Int.toNat_of_nonneg (by omega)
          refine ⟨_, e3, _, _, rfl, rfl, _, e1, _, _, rfl, rfl, _, rfl, ?_⟩
          by_cases lt : k + 1 < sz
          · rw [decide_eq_true lt]
            refine iteT ⟨_, e3, _, _, rfl, rfl, by show 3 ≤ sizeLine; decide, fun b hb => ⟨by show 1 ≤ sizeLine; decide, fun D hD => ?_⟩⟩
            have s1 := same_new (o := .tup [V.str "on", .str "ok", .int (k + 1)]) hb
            have s2 := s1.trans (same_new (o := .lst [V.ref b]) hD)
            refine q D [(b, ("on", "ok", k + 1))] _ ⟨upd_same, fun q m => ?_, by simp, Nat.le_refl _⟩ s2 (none_of s1 hD)
            rw [List.mem_singleton.mp m]
            exact ⟨same_new hD _ _ upd_same, ⟨wrd_ch.1, wrd_ch.2.2.1, by show 0 ≤ k + 1; omega, by show k + 1 < _; omega⟩, List.mem_cons_self⟩
          · rw [decide_eq_false lt]
            exact iteF ⟨by show 0 ≤ sizeLine; decide, fun D hD => q D [] _ ⟨upd_same, (fun q m => nomatch m), List.nodup_nil, Nat.zero_le _⟩ (same_new hD) hD⟩))) (pss_cons (PS.wkC (u := uOff) (ps_if (pt_cmpR op_eq (pe_call GD hr1 (by rfl) mD kD bD .nil pass0 (pa_cons (pv 0) (pa_cons pe_int pa_nil))) pe_int (nomark _)) (pss_one (ps_expr (pe_bm PySem.F.plainAttrs_list PySem.F.slot_list_append PySem.F.type_list_append mt_append (pv 4) (pa_cons (pe_tup (pa_cons (pe_call GP hr (by rfl) mP kP bP .nil pass0 (pa_cons (pv 0) (pa_cons (pe_lst (pa_cons pe_str (pa_cons pe_str pa_nil))) pa_nil))) (pa_cons pe_str (pa_cons (pe_call GD hr1 (by rfl) mD kD bD .nil pass0 (pa_cons (pv 0) (pa_cons (pv 1) pa_nil))) pa_nil)))) pa_nil)))) pss_nil) (fun D σ H ⟨p, c, DD, ks, y, n, sz, L, e0, e1, e4, z1, z40, FA, hn, np, nc, st, q⟩ => by
          have sz0 : ((sz.toNat : Nat) : Int) = sz := Int.toNat_of_nonneg (by omega)
          have n0 := FA.n0
          have sub : ∀ x ∈ evOn, x ∈ evCh := fun x m => by
            rw [List.mem_singleton.mp m]
            exact List.mem_cons_self
          refine ⟨_, e0, p, c, ks, y, n, 2, rfl, FA, by omega, by omega, by omega, fun d ks1 H1 d0 d1 F1 sv1 => ⟨rfl, _, rfl, ?_⟩⟩
          have st1 := st.keep (sv1 _ _ st.lst np nc) (Save.tup FA sv1)
          cases decide (V.int d = V.int 0) with
          | false => exact iteF (q H1 L ks1 (n + 1) (st1.more sub (by decide)) F1 (by omega) fun a o e _ a2 a3 => sv1 _ _ e a2 a3)
          | true =>
            refine iteT ⟨_, e4, .inl ⟨rfl, _, SqL.of st1.lst⟩, _, e0, by show 2 ≤ sizeLine; decide, fun l hl => ?_⟩
            have s1 := same_new (o := .lst [V.str "on", .str "off"]) hl
            refine ⟨p, c, l, ks1, _, y, n + 1, rfl, F1.same s1, by omega, upd_same, Ne.symm (ne_of_none F1.ob hl), Ne.symm (ne_of_none F1.cs hl), by show 1 ≤ 2; decide, by show 2 ≤ 100; decide, fun v ks2 H2 mv F2 sv2 => ?_⟩
            obtain ⟨z, rfl, zw, ze⟩ : ∃ z : Str, v = .str z ∧ Wrd z ∧ (z, ("no" : Str)) ∈ evCh := by
              rcases List.mem_cons.mp mv with rfl | mv
              · exact ⟨"on", rfl, wrd_ch.1, by simp⟩
              · rw [List.mem_singleton.mp mv]
                exact ⟨"off", rfl, wrd_ch.2.1, by simp⟩
            refine ⟨_, e0, _, e1, p, c, ks2, y, n + 1 + 1, sz, rfl, F2, by omega, by omega, by omega, fun g ks3 H3 g0 g1 F3 sv3 => ⟨by show 3 ≤ sizeLine; decide, fun b hb => ?_⟩⟩
            have s3 := same_new (o := .tup [V.str z, .str "no", .int g]) hb
            have st2 := (st1.keep (s1 _ _ st1.lst) (Tup.of s1)).keep (sv2 _ _ (s1 _ _ st1.lst) np nc) (Save.tup (F1.same s1) sv2)
            have st3 := st2.keep (sv3 _ _ st2.lst np nc) (Save.tup F2 sv3)
            have st4 := st3.keep (s3 _ _ st3.lst) (Tup.of s3)
            have small : L.length ≤ 1 := st.le
            refine ⟨DD, _, _, rfl, rfl, st4.lst, small_lt (m := 10) (by rw [List.length_map]; omega), ?_⟩
            have pt := st4.put (b := b) (x := (z, "no", g)) upd_same ⟨zw, wrd_ch.2.2.2, g0, by show g < _; omega⟩ (fun m => absurd (show ("no" : Str) = "ok" from congrArg Prod.snd (List.mem_singleton.mp m)) (by decide +kernel))
            refine q _ (L ++ [(b, (z, ("no" : Str), g))]) ks3 (n + 1 + 1 + 1) (pt.more (fun x m => ?_) (by simp)) ((F3.same s3).wr np nc) (by omega) fun a o e ne n1 n2 => ?_
            · rcases List.mem_append.mp m with m | m
              · exact sub x m
              · rw [List.mem_singleton.mp m]
                exact ze
            · rw [upd_ne ne]
              exact s3 _ _ (sv3 _ _ (sv2 _ _ (s1 _ _ (sv1 _ _ e n1 n2)) n1 n2) n1 n2))) (pss_one (ps_expr (pe_bm PySem.F.plainAttrs_list PySem.F.slot_list_append PySem.F.type_list_append mt_append (pv 2) (pa_cons (pe_callTy call_tuple_of (by rfl) G.tuple (by decide +kernel) (pa_cons (pe_callB (cr_sortX (enc := stepD) hu80) (by rfl) G.sorted PyProof.Rows.boot_sorted (pa_cons (pv 4) pa_nil)) pa_nil)) pa_nil))))))) (pss_one (ps_ret (pe_callTy call_tuple_of (by rfl) G.tuple (by decide +kernel) (pa_cons (pv 2) pa_nil)))))), ?_⟩
    have n0 := FA.n0
    have sz0 : ((sz.toNat : Nat) : Int) = sz := Int.toNat_of_nonneg (by omega)
    refine ⟨by show 0 ≤ sizeLine; decide, fun fo hfo => ?_⟩
    have fop : fo ≠ p := Ne.symm (ne_of_none FA.ob hfo)
    have foc : fo ≠ c := Ne.symm (ne_of_none FA.cs hfo)
    refine ⟨_, rfl, sz, rfl, by omega, by omega, for_range (lo := 0) (n := sz.toNat) (fun j σ H4 => ∃ (o3 o4 : Option V) (ks' : List Int) (n' : Int) (vs : List V) (ss : List (List Stp)), σ = [some (.ref p), some (.int sz), some (.ref fo), o3, o4] ∧ FeedAt H4 p c ks' y n' ∧ n' ≤ n + 3 * (j : Int) ∧ Save p c H H4 ∧ H4 fo = some (.lst vs) ∧ TDs H4 vs (ss.map stateD) ∧ ss.length = j ∧ ∀ st ∈ ss, StOk sz.toNat st ∧ ∀ x ∈ st, evOf x ∈ evCh)
      ⟨none, none, ks, n, [], [], rfl, FA.wr fop foc, by omega, (Save.refl p c H).wr hfo, upd_same, .nil, rfl, fun st m => nomatch m⟩ ?_ ?_⟩
    · rintro j σ H4 hj ⟨o3, o4, ks4, n4, vs, ss, rfl, F4, le4, sv4, f4, t4, sl, so⟩
      refine ⟨sz, 0 + (j : Int), rfl, rfl, by omega, by omega, fun DD L6 H6 st6 s6 hDD => ?_⟩
      have np : DD ≠ p := Ne.symm (ne_of_none F4.ob hDD)
      have nc : DD ≠ c := Ne.symm (ne_of_none F4.cs hDD)
      have nf : DD ≠ fo := Ne.symm (ne_of_none f4 hDD)
      have dd0 : H DD = none := by
        cases e : H DD with
        | none => rfl
        | some o => rw [sv4 _ _ e np nc] at hDD; cases hDD
      refine ⟨p, c, DD, ks4, y, n4, sz, L6, rfl, rfl, rfl, z1, z40, F4.same s6, by omega, np, nc, st6, fun H8 L8 ks8 n8 s8 F8 le8 kp8 => ?_⟩
      have kq : ∀ b o, H4 b = some o → b ≠ p → b ≠ c → H8 b = some o := fun b o e a1 a2 => kp8 b o (s6 _ _ e) (fun z => by rw [z, hDD] at e; cases e) a1 a2
      have f8 := kq _ _ f4 fop foc
      have tup8 : Tup H4 H8 := fun a xs e => kq _ _ e (fun z => by rw [z, F4.ob] at e; cases e) (fun z => by rw [z, F4.cs] at e; cases e)
      refine ⟨_, rfl, .inl ⟨rfl, _, SqL.of f8⟩, _, rfl, DD, L8, rfl, .inl (SqL.of s8.lst), (fun q m => TD.dp (stp_td (s8.at_ q m).1)), ?_, ?_, (fun q _ => by simp [stepD, PyData.depth, PyData.depthAll]), Nat.le_trans s8.le (by decide), fun q hq => ?_⟩
      · intro d hd d' hd'
        obtain ⟨q, m, rfl⟩ := List.mem_map.mp hd
        obtain ⟨r, m', rfl⟩ := List.mem_map.mp hd'
        rfl
      · refine .inl fun d hd => ?_
        obtain ⟨q, m, rfl⟩ := List.mem_map.mp hd
        exact ⟨_, _, rfl⟩
      obtain ⟨asc, pm⟩ := sorted_steps L8 s8.nd
      generalize L8.mergeSort (PySem.W.dataLe false fun q : Addr × Stp => stepD q.2) = M at asc pm ⊢
      have memM : ∀ r ∈ M, H8 r.1 = some (.tup [V.str r.2.1, .str r.2.2.1, .int r.2.2.2]) ∧ StpOk sz.toNat r.2 ∧ evOf r.2 ∈ evCh := fun r mr => s8.at_ r (pm.mem_iff.mp mr)
      have lenM : M.length ≤ 3 := by
        rw [pm.length_eq]
        exact s8.le
      refine ⟨q, _, rfl, .inl ⟨SqL.of upd_same, fun r hr3 => ?_⟩⟩
      have sq := (same_new (o := .lst (M.map fun q => V.ref q.1)) hq).trans (same_new (o := .tup (M.map fun q => V.ref q.1)) hr3)
      have td : TD (upd (upd H8 q (.lst (M.map fun q => V.ref q.1))) r (.tup (M.map fun q => V.ref q.1))) (.ref r) (stateD (M.map Prod.snd)) := .tup upd_same (stps_td M fun z m => sq _ _ (memM z m).1)
      have f9 := sq _ _ f8
      have vl := t4.len
      rw [List.length_map] at vl
      refine ⟨fo, vs, _, rfl, rfl, f9, small_lt (m := 40) (by omega), ?_⟩
      have tp := Tup.at_ (o' := .lst vs) (o := .lst (vs ++ [V.ref r])) f9 fun xs z => nomatch z
      refine ⟨_, _, ks8, n8, vs ++ [.ref r], ss ++ [M.map Prod.snd], rfl, (F8.same sq).wr fop foc, by omega, fun b o e a1 a2 => ?_, upd_same, ?_, by rw [List.length_append, sl]; rfl, fun st ms => ?_⟩
      · rw [upd_ne (fun z => by rw [z, hfo] at e; cases e)]
        exact sq _ _ (kq _ _ (sv4 _ _ e a1 a2) a1 a2)
      · rw [List.map_append]
        exact TDs.snoc (td.to tp) (((t4.to tup8).to (Tup.of sq)).to tp)
      · rcases List.mem_append.mp ms with z | z
        · exact so st z
        · rw [List.mem_singleton.mp z]
          refine ⟨⟨fun x mx => ?_, by rw [List.map_map]; exact asc, by rw [List.length_map]; omega⟩, fun x mx => ?_⟩
          · obtain ⟨r, mr, rfl⟩ := List.mem_map.mp mx
            exact (memM r mr).2.1
          · obtain ⟨r, mr, rfl⟩ := List.mem_map.mp mx
            exact (memM r mr).2.2
    · rintro σ H4 ⟨o3, o4, ks4, n4, vs, ss, rfl, F4, le4, sv4, f4, t4, sl, so⟩
      refine ⟨_, rfl, fo, vs, rfl, .inl ⟨SqL.of f4, fun b hb => k b ss ks4 n4 _ (.tup upd_same (t4.to (Tup.new hb))) ⟨by omega, by omega, fun st ms => ?_, _, by decide, fun st ms x mx => (so st ms).2 x mx⟩ (F4.same (same_new hb)) (by omega) (sv4.trans (Save.of (same_new hb)))⟩⟩
      rw [sl]
      exact (so st ms).1
end
end My

-- ===== K7Pa =====
set_option Elab.async false
set_option linter.all false
set_option maxRecDepth 100000
set_option maxHeartbeats 4000000
namespace My
open PySem L2 PyProof.Rows PySem.Spec Kd TL
abbrev sPair : Stmt := top 36
/-- a word in a list's items: whole numbers within bounds -/
theorem ints_of {v : V} {L : List Int} {lo hi : Int} (m : v ∈ L.map V.int) (b : ∀ i ∈ L, lo ≤ i ∧ i ≤ hi) : ∃ i : Int, v = .int i ∧ lo ≤ i ∧ i ≤ hi := by
  obtain ⟨i, mi, rfl⟩ := List.mem_map.mp m
  exact ⟨i, rfl, (b i mi).1, (b i mi).2⟩
theorem KOk.of_lst {ss : List (List Stp)} {many : Int} {es : List (Str × Str)} (m0 : 1 ≤ many) (m1 : many ≤ 9) (l : (ss.length : Int) = many) (few : es.length ≤ 6) (h : ∀ st ∈ ss, StOk many.toNat st ∧ ∀ x ∈ st, evOf x ∈ es) : KOk ss := by
  have e : many.toNat = ss.length := by omega
  rw [e] at h
  exact ⟨by omega, by omega, fun st m => (h st m).1, es, by omega, fun st m => (h st m).2⟩
/-- one of four whole numbers; what is around stays -/
def spPair : Sp := fun vs H Q _ => ∃ (p c : Addr) (ks : List Int) (w n most : Int), vs = [.ref p, .int most] ∧ FeedAt H p c ks w n ∧ n < 700000 ∧ 2 ≤ most ∧ most ≤ 40 ∧
  ∀ (r a b : Addr) (ms ts : List (List Stp)) (ks' : List Int) (n' : Int) (H' : Hp), H' r = some (.tup [.ref a, .ref b]) → TD H' (.ref a) (statesD ms) → TD H' (.ref b) (statesD ts) → KOk ms → KOk ts → FeedAt H' p c ks' w n' → n' ≤ n + 1000 → Save p c H H' → Q (.ref r) H'
section
variable {P : Program} {w : World} {K : PySem.W.Frag} {mg : Str → Option Value} {base : Heap}
abbrev nPa : List Str := ["_law_feed_here", "_law_most", "_law_way", "_law_far", "_law_states_here", "_law_menu_here", "_law_size"]
theorem scPa : FnScope nPa ["_law_feed_here", "_law_most"] (defScope sPair) := ⟨rfl, rfl, rfl, by decide +kernel, rfl, by decide +kernel, by decide +kernel⟩
theorem ok_pair {f fP fD fC fO fM fS fT : Addr} {fd fdP fdD fdC fdO fdM fdS fdT : FuncData} (F : Fun K "_law_pair" "_law_pair" sPair f fd) (G : Gs mg)
    (GP : FnOk P w K mg base CX0 2 fP fdP ["_law_feed_here", "_law_some"] spPick) (mP : mg "_law_pick" = some (.ref fP)) (kP : PySem.W.keepIn K (.ref fP) = true) (bP : Binds K fdP ["_law_feed_here", "_law_some"] [])
    (GD : FnOk P w K mg base CX0 1 fD fdD ["_law_feed_here", "_law_many"] spDigit) (mD : mg "_law_digit" = some (.ref fD)) (kD : PySem.W.keepIn K (.ref fD) = true) (bD : Binds K fdD ["_law_feed_here", "_law_many"] [])
    (GC : FnOk P w K mg base CX0 3 fC fdC ["_law_feed_here", "_law_far"] spChain) (mC : mg "_law_chain" = some (.ref fC)) (kC : PySem.W.keepIn K (.ref fC) = true) (bC : Binds K fdC ["_law_feed_here", "_law_far"] [])
    (GO : FnOk P w K mg base CX0 2 fO fdO ["_law_feed_here", "_law_states_here"] spOther) (mO : mg "_law_otherwise" = some (.ref fO)) (kO : PySem.W.keepIn K (.ref fO) = true) (bO : Binds K fdO ["_law_feed_here", "_law_states_here"] [])
    (GM : FnOk P w K mg base CX0 3 fM fdM ["_law_feed_here", "_law_many"] spMenu) (mM : mg "_law_menu" = some (.ref fM)) (kM : PySem.W.keepIn K (.ref fM) = true) (bM : Binds K fdM ["_law_feed_here", "_law_many"] [])
    (GS : FnOk P w K mg base CX0 2 fS fdS ["_law_feed_here", "_law_many", "_law_menu_here", "_law_share"] spLst) (mS : mg "_law_states" = some (.ref fS)) (kS : PySem.W.keepIn K (.ref fS) = true) (bS : Binds K fdS ["_law_feed_here", "_law_many", "_law_menu_here", "_law_share"] [])
    (GT : FnOk P w K mg base CX0 2 fT fdT ["_law_feed_here", "_law_states_here"] spTwice) (mT : mg "_law_twice" = some (.ref fT)) (kT : PySem.W.keepIn K (.ref fT) = true) (bT : Binds K fdT ["_law_feed_here", "_law_states_here"] []) :
    FnOk P w K mg base CX0 4 f fd ["_law_feed_here", "_law_most"] spPair := by
  refine F.ok scPa (fun vs H Q E h => ?_) (fun cdv A outer s H vs Q E hr3 h => ?_)
  · obtain ⟨p, c, ks, y, n, most, rfl, _⟩ := h
    rfl
  · obtain ⟨p, c, ks, y, n, most, rfl, FA, hn, z2, z40, k⟩ := h
    have hr1 := hr3.mono (show 1 ≤ 3 by omega)
    have hr2 := hr3.mono (show 2 ≤ 3 by omega)
    refine ⟨_, (pss_cons (ps_set (i := 2) scPa.nd rfl (Or.inl rfl) (pe_call GD hr1 (by rfl) mD kD bD .nil pass0 (pa_cons (pv 0) (pa_cons pe_int pa_nil)))) (pss_cons (ps_if (pt_cmpR op_eq (pv 2) pe_int (nomark _)) (pss_cons (ps_set (i := 3) scPa.nd rfl (Or.inl rfl) (pe_callB (call_min2 rfl) (by rfl) G.min PyProof.Rows.boot_min (pa_cons (pe_call GP hr2 (by rfl) mP kP bP .nil pass0 (pa_cons (pv 0) (pa_cons (pe_lst (pa_cons pe_int (pa_cons pe_int (pa_cons pe_int (pa_cons pe_int pa_nil))))) pa_nil))) (pa_cons (pv 1) pa_nil)))) (pss_cons (ps_set (i := 4) scPa.nd rfl (Or.inl rfl) (pe_call GC hr3 (by rfl) mC kC bC .nil pass0 (pa_cons (pv 0) (pa_cons (pv 3) pa_nil)))) (pss_one (ps_ret (pe_tup (pa_cons (pv 4) (pa_cons (pe_ifExp (pt_cmpR op_eq (pe_call GD hr1 (by rfl) mD kD bD .nil pass0 (pa_cons (pv 0) (pa_cons pe_int pa_nil))) pe_int (nomark _)) (pe_call GO hr2 (by rfl) mO kO bO .nil pass0 (pa_cons (pv 0) (pa_cons (pv 4) pa_nil))) (pe_call GC hr3 (by rfl) mC kC bC .nil pass0 (pa_cons (pv 0) (pa_cons (pv 3) pa_nil)))) pa_nil))))))) pss_nil) (pss_cons (ps_par (i := 5) (j := 6) rfl scPa.nd rfl rfl (by decide) rfl rfl (pa_cons (pe_call GM hr3 (by rfl) mM kM bM .nil pass0 (pa_cons (pv 0) (pa_cons (pe_call GP hr2 (by rfl) mP kP bP .nil pass0 (pa_cons (pv 0) (pa_cons (pe_lst (pa_cons pe_int (pa_cons pe_int (pa_cons pe_int (pa_cons pe_int pa_nil))))) pa_nil))) pa_nil))) (pa_cons (pe_call GP hr2 (by rfl) mP kP bP .nil pass0 (pa_cons (pv 0) (pa_cons (pe_lst (pa_cons pe_int (pa_cons pe_int (pa_cons pe_int (pa_cons pe_int (pa_cons pe_int pa_nil)))))) pa_nil))) pa_nil)) (by rfl)) (pss_cons (ps_set (i := 4) scPa.nd rfl (Or.inl rfl) (pe_call GS hr2 (by rfl) mS kS bS .nil pass0 (pa_cons (pv 0) (pa_cons (pv 6) (pa_cons (pv 5) (pa_cons (pe_op op_add pe_int (pe_call GD hr1 (by rfl) mD kD bD .nil pass0 (pa_cons (pv 0) (pa_cons pe_int pa_nil)))) pa_nil)))))) (pss_cons (ps_if (pt_cmpR op_eq (pv 2) pe_int (nomark _)) (pss_one (ps_ret (pe_tup (pa_cons (pv 4) (pa_cons (pe_call GS hr2 (by rfl) mS kS bS .nil pass0 (pa_cons (pv 0) (pa_cons (pe_call GP hr2 (by rfl) mP kP bP .nil pass0 (pa_cons (pv 0) (pa_cons (pe_lst (pa_cons pe_int (pa_cons pe_int (pa_cons pe_int pa_nil)))) pa_nil))) (pa_cons (pv 5) (pa_cons pe_int pa_nil))))) pa_nil))))) pss_nil) (pss_cons (ps_if (pt_cmpR op_eq (pv 2) pe_int (nomark _)) (pss_one (ps_ret (pe_tup (pa_cons (pv 4) (pa_cons (pe_call GT hr2 (by rfl) mT kT bT .nil pass0 (pa_cons (pv 0) (pa_cons (pv 4) pa_nil))) pa_nil))))) pss_nil) (pss_cons (ps_if (pt_cmpR op_eq (pv 2) pe_int (nomark _)) (pss_one (ps_ret (pe_tup (pa_cons (pv 4) (pa_cons (pe_call GO hr2 (by rfl) mO kO bO .nil pass0 (pa_cons (pv 0) (pa_cons (pe_call GT hr2 (by rfl) mT kT bT .nil pass0 (pa_cons (pv 0) (pa_cons (pv 4) pa_nil))) pa_nil))) pa_nil))))) pss_nil) (pss_one (ps_ret (pe_tup (pa_cons (pv 4) (pa_cons (pe_call GO hr2 (by rfl) mO kO bO .nil pass0 (pa_cons (pv 0) (pa_cons (pv 4) pa_nil))) pa_nil)))))))))))), ?_⟩
    have n0 := FA.n0
    refine ⟨_, rfl, p, c, ks, y, n, 5, rfl, FA, by omega, by decide, by decide, fun wy ks1 H1 w0 w5 F1 sv1 => ?_⟩
    have n1 := F1.n0
    have fin : ∀ {H8 H9 : Hp} {b r : Addr} {a : Addr} {ms ts : List (List Stp)} {ks8 : List Int} {n8 : Int}, TD H8 (.ref a) (statesD ms) → TD H8 (.ref b) (statesD ts) → KOk ms → KOk ts → FeedAt H8 p c ks8 y n8 → n8 ≤ n + 1000 → Save p c H H8 → H8 r = none → H9 = upd H8 r (.tup [.ref a, .ref b]) → Q (.ref r) H9 := by
      intro H8 H9 b r a ms ts ks8 n8 tA tB so1 so2 F8 le8 sv8 hr8 e
      subst e
      have sn := same_new (o := .tup [V.ref a, .ref b]) hr8
      exact k r a b ms ts ks8 n8 _ upd_same (tA.to (Tup.of sn)) (tB.to (Tup.of sn)) so1 so2 (F8.same sn) le8 (sv8.trans (Save.of sn))
    refine ⟨_, rfl, rfl, _, rfl, ?_⟩
    by_cases c0 : wy = 0
    · rw [decide_eq_true (by rw [c0])]
      refine iteT ⟨_, rfl, by show 4 ≤ sizeLine; decide, fun l hl => ?_⟩
      have s1 := same_new (o := .lst [V.int 2, .int 5, .int 12, .int 40]) hl
      refine ⟨p, c, l, ks1, _, y, n + 1, rfl, F1.same s1, by omega, upd_same, Ne.symm (ne_of_none F1.ob hl), Ne.symm (ne_of_none F1.cs hl), by show 1 ≤ 4; decide, by show 4 ≤ 100; decide, fun v ks2 H2 mv F2 sv2 => ?_⟩
      obtain ⟨i, rfl, i0, i1⟩ := ints_of (L := [2, 5, 12, 40]) (lo := 2) (hi := 40) mv (by decide)
      refine ⟨_, rfl, i, most, rfl, ?_⟩
      obtain ⟨fr, hf, f0, f1⟩ : ∃ fr : Int, (if most < i then most else i) = fr ∧ 2 ≤ fr ∧ fr ≤ 40 := ⟨_, rfl, by split <;> omega, by split <;> omega⟩
      rw [hf]
      have svA := (sv1.trans (Save.of s1)).trans sv2
      refine ⟨_, rfl, _, rfl, p, c, ks2, y, n + 1 + 1, fr, rfl, F2, by omega, by omega, by omega, fun a ms ks3 n3 H3 tA so F3 le3 sv3 => ?_⟩
      have n3' := F3.n0
      refine ⟨_, rfl, _, rfl, p, c, ks3, y, n3, 2, rfl, F3, by omega, by decide, by decide, fun d ks4 H4 d0 d1 F4 sv4 => ⟨rfl, _, rfl, ?_⟩⟩
      have tA4 := tA.to (Save.tup F3 sv4)
      have svB := (svA.trans sv3).trans sv4
      cases decide (V.int d = V.int 0) with
      | true =>
        exact iteT ⟨_, rfl, _, rfl, p, c, a, ks4, y, n3 + 1, ms, rfl, F4, by omega, tA4, so, fun b ts ks5 n5 H5 tB so2 F5 le5 sv5 => ⟨by show 2 ≤ sizeLine; decide, fun r hr8 => fin (tA4.to (Save.tup F4 sv5)) tB so so2 F5 (by omega) (svB.trans sv5) hr8 rfl⟩⟩
      | false =>
        exact iteF ⟨_, rfl, _, rfl, p, c, ks4, y, n3 + 1, fr, rfl, F4, by omega, by omega, by omega, fun b ts ks5 n5 H5 tB so2 F5 le5 sv5 => ⟨by show 2 ≤ sizeLine; decide, fun r hr8 => fin (tA4.to (Save.tup F4 sv5)) tB so so2 F5 (by omega) (svB.trans sv5) hr8 rfl⟩⟩
    rw [decide_eq_false (fun z => c0 (V.int.inj z))]
    refine iteF ?_
    refine ⟨_, rfl, _, rfl, by show 4 ≤ sizeLine; decide, fun l hl => ?_⟩
    have s1 := same_new (o := .lst [V.int 1, .int 2, .int 4, .int 6]) hl
    refine ⟨p, c, l, ks1, _, y, n + 1, rfl, F1.same s1, by omega, upd_same, Ne.symm (ne_of_none F1.ob hl), Ne.symm (ne_of_none F1.cs hl), by show 1 ≤ 4; decide, by show 4 ≤ 100; decide, fun v ks2 H2 mv F2 sv2 => ?_⟩
    obtain ⟨i, rfl, i0, i1⟩ := ints_of (L := [1, 2, 4, 6]) (lo := 1) (hi := 6) mv (by decide)
    have n2 := F2.n0
    refine ⟨p, c, ks2, y, n + 1 + 1, i, rfl, F2, by omega, by omega, by omega, fun mr S es ks3 n3 H3 M rp rc F3 le3 sv3 => ?_⟩
    have n3' := F3.n0
    have svA := ((sv1.trans (Save.of s1)).trans sv2).trans sv3
    refine ⟨_, rfl, by show 5 ≤ sizeLine; decide, fun l2 hl2 => ?_⟩
    have s2 := same_new (o := .lst [V.int 1, .int 2, .int 3, .int 5, .int 9]) hl2
    refine ⟨p, c, l2, ks3, _, y, n3, rfl, F3.same s2, by omega, upd_same, Ne.symm (ne_of_none F3.ob hl2), Ne.symm (ne_of_none F3.cs hl2), by show 1 ≤ 5; decide, by show 5 ≤ 100; decide, fun v2 ks4 H4 mv2 F4 sv4 => ?_⟩
    obtain ⟨sz, rfl, s0, s9⟩ := ints_of (L := [1, 2, 3, 5, 9]) (lo := 1) (hi := 9) mv2 (by decide)
    have M4 := (M.save F3 rp rc (Save.of (p := p) (c := c) s2)).save (F3.same s2) rp rc sv4
    have svB := (svA.trans (Save.of s2)).trans sv4
    refine ⟨_, _, rfl, ?_⟩
    refine ⟨_, rfl, _, rfl, _, rfl, _, rfl, p, c, ks4, y, n3 + 1, 3, rfl, F4, by omega, by decide, by decide, fun sh ks5 H5 h0 h1 F5 sv5 => ⟨_, _, rfl, rfl, ?_⟩⟩
    have M5 := M4.save F4 rp rc sv5
    refine ⟨p, c, mr, S, es, ks5, y, n3 + 1 + 1, sz, 2 + sh, rfl, F5, by omega, by omega, by omega, M5, rp, rc, fun a ms ks6 n6 H6 tA ml mo F6 le6 sv6 => ?_⟩
    have n6' := F6.n0
    have M6 := M5.save F5 rp rc sv6
    have svC := (svB.trans sv5).trans sv6
    have so := KOk.of_lst s0 s9 ml M.few mo
    refine ⟨_, rfl, rfl, _, rfl, ?_⟩
    by_cases c1 : wy = 1
    · rw [decide_eq_true (by rw [c1])]
      refine iteT ⟨_, rfl, _, rfl, _, rfl, by show 3 ≤ sizeLine; decide, fun l3 hl3 => ?_⟩
      have s3 := same_new (o := .lst [V.int 1, .int 2, .int 4]) hl3
      refine ⟨p, c, l3, ks6, _, y, n6, rfl, F6.same s3, by omega, upd_same, Ne.symm (ne_of_none F6.ob hl3), Ne.symm (ne_of_none F6.cs hl3), by show 1 ≤ 3; decide, by show 3 ≤ 100; decide, fun v3 ks7 H7 mv3 F7 sv7 => ?_⟩
      obtain ⟨sz2, rfl, z0, z4⟩ := ints_of (L := [1, 2, 4]) (lo := 1) (hi := 4) mv3 (by decide)
      have M7 := (M6.save F6 rp rc (Save.of (p := p) (c := c) s3)).save (F6.same s3) rp rc sv7
      have tA7 := (tA.to (Tup.of s3)).to (Save.tup (F6.same s3) sv7)
      exact ⟨_, rfl, p, c, mr, S, es, ks7, y, n6 + 1, sz2, 3, rfl, F7, by omega, by omega, by omega, M7, rp, rc, fun b ts ks8 n8 H8 tB tl to F8 le8 sv8 => ⟨by show 2 ≤ sizeLine; decide, fun r hr8 =>
        fin (tA7.to (Save.tup F7 sv8)) tB so (KOk.of_lst z0 (by omega) tl M.few to) F8 (by omega) (((svC.trans (Save.of s3)).trans sv7).trans sv8) hr8 rfl⟩⟩
    rw [decide_eq_false (fun z => c1 (V.int.inj z))]
    refine iteF ⟨_, rfl, rfl, _, rfl, ?_⟩
    by_cases c2 : wy = 2
    · rw [decide_eq_true (by rw [c2])]
      exact iteT ⟨_, rfl, _, rfl, _, rfl, p, c, a, ks6, y, n6, ms, rfl, F6, by omega, tA, so, by omega, fun b ts ks8 n8 H8 tB to F8 le8 sv8 => ⟨by show 2 ≤ sizeLine; decide, fun r hr8 =>
        fin (tA.to (Save.tup F6 sv8)) tB so to F8 (by omega) (svC.trans sv8) hr8 rfl⟩⟩
    rw [decide_eq_false (fun z => c2 (V.int.inj z))]
    refine iteF ⟨_, rfl, rfl, _, rfl, ?_⟩
    by_cases c3 : wy = 3
    · rw [decide_eq_true (by rw [c3])]
      refine iteT ⟨_, rfl, _, rfl, _, rfl, _, rfl, p, c, a, ks6, y, n6, ms, rfl, F6, by omega, tA, so, by omega, fun b ts ks8 n8 H8 tB to F8 le8 sv8 => ?_⟩
      have n8' := F8.n0
      have tA8 := tA.to (Save.tup F6 sv8)
      exact ⟨p, c, b, ks8, y, n8, ts, rfl, F8, by omega, tB, to, fun b2 ts2 ks9 n9 H9 tB2 to2 F9 le9 sv9 => ⟨by show 2 ≤ sizeLine; decide, fun r hr8 =>
        fin (tA8.to (Save.tup F8 sv9)) tB2 so to2 F9 (by omega) ((svC.trans sv8).trans sv9) hr8 rfl⟩⟩
    rw [decide_eq_false (fun z => c3 (V.int.inj z))]
    exact iteF ⟨_, rfl, _, rfl, _, rfl, p, c, a, ks6, y, n6, ms, rfl, F6, by omega, tA, so, fun b ts ks8 n8 H8 tB to F8 le8 sv8 => ⟨by show 2 ≤ sizeLine; decide, fun r hr8 =>
      fin (tA.to (Save.tup F6 sv8)) tB so to F8 (by omega) (svC.trans sv8) hr8 rfl⟩⟩
end
end My

-- ===== K7W =====
set_option Elab.async false
set_option linter.all false
set_option maxRecDepth 100000
set_option maxHeartbeats 4000000
namespace My
open PySem L2 PyProof.Rows PySem.Spec Kd TL
/-! ### the law's tables -/
abbrev rDictT : List V → Hp → VK → Prop := fun xs H Q => ∃ (a : Addr) (all : List (Addr × List L2.Key × V)), xs = [.ref a] ∧ H a = some (.lst (all.map fun q => V.ref q.1)) ∧ (∀ q ∈ all, PairAt H q) ∧ all.length ≤ 1000 ∧
    ∀ p, H p = none → Q (.ref p) (upd H p (.dT (pour [] all)))
abbrev teIn (K : PySem.W.Frag) (j l : Nat) : TE := tCB rDictT (tCons (tLc (iTup K (tVar j)) (gName l) tYes (tTup (tCons (L2.tSl (rSlT K) (tVar l) tNoPart (tPart (tC (V.int 2)))) (tCons (tOp (rIxT K) (tVar l) (tC (V.int 2))) tNil))) [l]) tNil)
abbrev teTab (K : PySem.W.Frag) (i j l : Nat) : TE := tLc (iTup K (tVar i)) (gName j) tYes (teIn K j l) [j]
def alls (AL : List (Addr × Stp)) : List (Addr × List L2.Key × V) := AL.map fun q => (q.1, evK (evOf q.2), V.int q.2.2.2)
theorem pour_mv : ∀ (AL : List (Addr × Stp)) (done : List Stp), ((done ++ AL.map Prod.snd).map evOf).Pairwise evLt → pour (done.map mvOf) (alls AL) = (done ++ AL.map Prod.snd).map mvOf
  | [], done, _ => by rw [List.map_nil, List.append_nil]; rfl
  | q :: AL, done, pw => by
    have e : pour (done.map mvOf) (alls (q :: AL)) = pour (putK (done.map mvOf) (evK (evOf q.2)) (V.int q.2.2.2)) (alls AL) := rfl
    have n : putK (done.map mvOf) (evK (evOf q.2)) (V.int q.2.2.2) = (done ++ [q.2]).map mvOf := by
      rw [putK_new]
      · rw [List.map_append]
        rfl
      · intro p m e2
        obtain ⟨x, mx, rfl⟩ := List.mem_map.mp m
        have e3 : evOf x = evOf q.2 := evK_inj e2
        rw [List.map_append, List.pairwise_append] at pw
        have lt := pw.2.2 _ (List.mem_map.mpr ⟨x, mx, rfl⟩) (evOf q.2) (by rw [List.map_cons, List.map_cons]; exact List.mem_cons_self)
        rw [e3] at lt
        rcases lt with lt | ⟨_, lt⟩ <;> exact absurd lt (List.lt_irrefl _)
    have e4 : done ++ (q :: AL).map Prod.snd = (done ++ [q.2]) ++ AL.map Prod.snd := by rw [List.map_cons, List.append_assoc]; rfl
    rw [e, n, e4]
    exact pour_mv AL (done ++ [q.2]) (by rw [← e4]; exact pw)
theorem set_get {σ : L2.St} {i : Nat} {x : Option V} (h : i < σ.length) : (σ.set i x)[i]? = some x := by
  rw [List.getElem?_set_self h]
theorem tabs_rd {K : PySem.W.Frag} {i j l : Nat} {σ : L2.St} {H : Hp} {Q : VK} {a : Addr} {ss : List (List Stp)} (lj : j < σ.length) (ll : l < σ.length) (jl : j ≠ l) (ei : σ[i]? = some (some (.ref a))) (ht : TD H (.ref a) (statesD ss)) (so : KOk ss)
    (k : ∀ m H', Same H H' → H m = none → MovesAt H' m ss → Q (.ref m) H') : teTab K i j l σ H Q := by
  obtain ⟨xs, ha, hxs⟩ := ht.tup_of
  have len : xs.length = ss.length := by
    have z := hxs.len
    rwa [List.length_map] at z
  have l2 := so.most
  refine ⟨_, ei, a, rfl, ⟨_, SqT.of ha⟩, fun D hD => lc_tup (K := K) (a := a) (xs := xs) (fun i H2 => Same H H2 ∧ ∃ bs : List Addr, H2 D = some (.lst (bs.map V.ref)) ∧ bs.length = i ∧ ∀ (j : Nat) (b : Addr) (st : List Stp), bs[j]? = some b → ss[j]? = some st → H2 b = some (.dT (st.map mvOf)))
    ⟨same_new hD, [], upd_same, rfl, fun j b st e => by simp at e⟩ (fun i H2 _ ⟨s2, _⟩ => SqT.of (s2 _ _ ha)) (fun i x H2 ex ⟨s2, bs, d2, bl, hbs⟩ => ?_) fun H2 ⟨s2, bs, d2, bl, hbs⟩ => ?_⟩
  · obtain ⟨d, ed, td⟩ := hxs.get ex
    rw [List.getElem?_map] at ed
    obtain ⟨st, ey, rfl⟩ := Option.map_eq_some_iff.mp ed
    obtain ⟨b, ys, rfl, hb, hy⟩ := td.ref_of
    have lt : i < ss.length := (List.getElem?_eq_some_iff.mp ey).1
    have sto := so.all st (List.mem_of_getElem? ey)
    have ylen : ys.length = st.length := by
      have z := hy.len
      rwa [List.length_map] at z
    have sfew := sto.few
    have hb2 := s2 _ _ hb
    refine ⟨by show ((σ.set j none).set j (some (.ref b))).set j none = σ.set j none; rw [List.set_set, List.set_set], ?_⟩
    refine ⟨_, set_get (by rw [show wipe σ [j] = σ.set j none from rfl, List.length_set]; exact lj), b, rfl, ⟨_, SqT.of hb2⟩, fun D2 hD2 => lc_tup (K := K) (a := b) (xs := ys) (fun g H3 => Same H2 H3 ∧ ∃ AL : List (Addr × Stp), H3 D2 = some (.lst ((alls AL).map fun q => V.ref q.1)) ∧ AL.map Prod.snd = st.take g ∧ ∀ q ∈ alls AL, PairAt H3 q)
      ⟨same_new hD2, [], upd_same, by rw [List.take_zero]; rfl, fun q m => nomatch m⟩ (fun g H3 _ ⟨s3, _⟩ => SqT.of (s3 _ _ hb2)) (fun g x H3 ex3 ⟨s3, AL, d3, l3, q3⟩ => ?_) fun H3 ⟨s3, AL, d3, l3, q3⟩ => ?_⟩
    · obtain ⟨dv, edv, tv⟩ := hy.get ex3
      rw [List.getElem?_map] at edv
      obtain ⟨z, ez, rfl⟩ := Option.map_eq_some_iff.mp edv
      obtain ⟨b3, rfl, hz⟩ := step_of tv
      have hz3 := s3 _ _ (s2 _ _ hz)
      have lg := (List.getElem?_eq_some_iff.mp ez).1
      have lA := congrArg List.length l3
      rw [List.length_map, List.length_take] at lA
      have getl : ((wipe (((wipe σ [j]).set j (some (V.ref b)))) [l]).set l (some (V.ref b3)))[l]? = some (some (V.ref b3)) := set_get (by
        show l < ((((σ.set j none).set j (some (V.ref b))).set l none)).length
        rw [List.length_set, List.length_set, List.length_set]
        exact ll)
      refine ⟨by show (((((σ.set j none).set j (some (.ref b))).set l none).set l (some (.ref b3))).set l none) = (((σ.set j none).set j (some (.ref b))).set l none); rw [List.set_set, List.set_set], ?_⟩
      refine ⟨_, getl, 2, rfl, b3, _, rfl, SqT.of hz3, (fun z => absurd (show HT.sIx 3 3 (some 2) = 3 from z.2) (by decide)), fun p hp => ?_⟩
      have sp_ := same_new (o := .tup (cutV [V.str z.1, V.str z.2.1, V.int z.2.2] none (some 2))) hp
      have hp1 : (upd H3 p (.tup (cutV [V.str z.1, V.str z.2.1, V.int z.2.2] none (some 2)))) p = some (.tup ((evK (evOf z)).map kV)) := upd_same
      generalize upd H3 p (.tup (cutV [V.str z.1, V.str z.2.1, V.int z.2.2] none (some 2))) = H4 at sp_ hp1 ⊢
      refine ⟨_, getl, b3, _, 2, _, rfl, rfl, SqT.of (sp_ _ _ hz3), rfl, by show 2 ≤ sizeLine; decide, fun t ht' => ?_⟩
      have st_ := same_new (o := .tup [V.ref p, .int z.2.2]) ht'
      have hp2 := st_ _ _ hp1
      have ht2 : (upd H4 t (.tup [V.ref p, .int z.2.2])) t = some (.tup [V.ref p, .int z.2.2]) := upd_same
      have s34 := sp_.trans st_
      generalize upd H4 t (.tup [V.ref p, .int z.2.2]) = H5 at st_ hp2 ht2 s34 ⊢
      have d5 := s34 _ _ d3
      have tp : Tup H5 (upd H5 D2 (.lst ((alls AL).map (fun q => V.ref q.1) ++ [.ref t]))) := Tup.at_ d5 fun xs z => nomatch z
      refine ⟨_, d5, small_lt (m := 24) (by unfold alls; rw [List.length_map, List.length_map]; omega), same_at (s3.trans s34) hD2, AL ++ [(t, z)], ?_, ?_, fun q mq => ?_⟩
      · rw [upd_same]
        unfold alls
        rw [List.map_append, List.map_append]
        rfl
      · rw [List.map_append, l3, List.take_succ, ez]
        rfl
      · unfold alls at mq
        rw [List.map_append] at mq
        rcases List.mem_append.mp mq with m | m
        · obtain ⟨kb, h1, h2⟩ := q3 q m
          exact ⟨kb, tp _ _ (s34 _ _ h1), tp _ _ (s34 _ _ h2)⟩
        · rw [List.mem_singleton.mp m]
          exact ⟨p, tp _ _ ht2, tp _ _ hp2⟩
    · rw [ylen, List.take_length] at l3
      have lA := congrArg List.length l3
      rw [List.length_map] at lA
      refine ⟨D2, alls AL, rfl, d3, q3, by unfold alls; rw [List.length_map]; omega, fun t ht' => ?_⟩
      have epour : pour [] (alls AL) = st.map mvOf := by
        have z := pour_mv AL [] (by rw [List.nil_append, l3]; exact sto.asc)
        rw [List.nil_append, l3] at z
        exact z
      rw [epour]
      have s4 := same_new (o := .dT (st.map mvOf)) ht'
      have s24 := s3.trans s4
      refine ⟨_, s24 _ _ d2, by rw [List.length_map]; exact small_lt (m := 40) (by omega), same_at (s2.trans s24) hD, bs ++ [t], by rw [upd_same, List.map_append]; rfl, by rw [List.length_append, bl]; rfl, fun j c sj ec es => ?_⟩
      have at_ : (upd H3 t (.dT (st.map mvOf))) c = some (.dT (sj.map mvOf)) := by
        rcases Nat.lt_or_ge j bs.length with l | g
        · rw [List.getElem?_append_left l] at ec
          exact s24 _ _ (hbs j c sj ec es)
        · rw [List.getElem?_append_right g] at ec
          have ej : j - bs.length = 0 := by
            have z := (List.getElem?_eq_some_iff.mp ec).1
            simp at z
            omega
          have ej2 : j = i := by omega
          rw [ej] at ec
          have e2 : t = c := Option.some.inj ec
          rw [ej2, ey] at es
          rw [← Option.some.inj es, ← e2]
          exact upd_same
      rw [upd_ne fun z => by rw [z, s24 _ _ d2] at at_; cases at_]
      exact at_
  · exact k D H2 s2 hD ⟨bs, d2, by rw [bl, len], hbs⟩
end My

-- ===== K7L1 =====
set_option Elab.async false
set_option linter.all false
set_option maxRecDepth 100000
set_option maxHeartbeats 4000000
namespace My
open PySem L2 PyProof.Rows PySem.Spec Kd TL
/-! ### the law's way: level by level -/
def InE (s : List Stp) (e : Ev) : Prop := ∃ x ∈ s, evOf x = e
def SepAt (s t : List Stp) (e : Ev) : Prop := (InE s e ∧ ¬ InE t e) ∨ (InE t e ∧ ¬ InE s e)
theorem SepW.of {ms ts : List (List Stp)} {v : Wd} {i j : Nat} {s t : List Stp} {e : Ev} (r : RunW ms ts v (i : Int) (j : Int)) (es : ms[i]? = some s) (et : ts[j]? = some t) (h : SepAt s t e) : SepW ms ts (v ++ [e]) := by
  rcases h with ⟨⟨x, mx, rfl⟩, n⟩ | ⟨⟨y, my, rfl⟩, n⟩
  · exact .inl ⟨v, i, j, s, t, x, r, es, et, mx, fun y my z => n ⟨y, my, z.symm⟩, rfl⟩
  · exact .inr ⟨v, j, i, t, s, y, r.swap, et, es, my, fun x mx z => n ⟨x, mx, z.symm⟩, rfl⟩
theorem SepW.at_ {ms ts : List (List Stp)} {w : Wd} (h : SepW ms ts w) : ∃ (v : Wd) (e : Ev) (i j : Nat) (s t : List Stp), RunW ms ts v (i : Int) (j : Int) ∧ ms[i]? = some s ∧ ts[j]? = some t ∧ SepAt s t e ∧ w = v ++ [e] := by
  rcases h with ⟨v, i, j, s, t, x, r, e1, e2, mx, n, rfl⟩ | ⟨v, i, j, s, t, x, r, e1, e2, mx, n, rfl⟩
  · exact ⟨v, evOf x, i, j, s, t, r, e1, e2, .inl ⟨⟨x, mx, rfl⟩, fun ⟨y, my, z⟩ => n y my z.symm⟩, rfl⟩
  · exact ⟨v, evOf x, j, i, t, s, r.swap, e2, e1, .inr ⟨⟨x, mx, rfl⟩, fun ⟨y, my, z⟩ => n y my z.symm⟩, rfl⟩
/-- of the pairs of some places, every word that tells them apart -/
def Told (ms ts : List (List Stp)) (fs : List WP) (a b : Nat) (ap : List Wd) : Prop := ∀ (k : Nat) (q : WP), a ≤ k → k < b → fs[k]? = some q → ∀ (i j : Nat) (s t : List Stp), q.2 = ((i : Int), (j : Int)) → ms[i]? = some s → ts[j]? = some t → ∀ e, SepAt s t e → q.1 ++ [e] ∈ ap
structure Lv (ms ts : List (List Stp)) (fs : List WP) (a ℓ : Nat) : Prop where
  qu : Qu ms ts fs a
  no : Told ms ts fs 0 a []
  len : ∀ (k : Nat) (q : WP), a ≤ k → fs[k]? = some q → q.1.length = ℓ
structure Le (ms ts : List (List Stp)) (fs : List WP) (a n0 ℓ b : Nat) (ap : List Wd) : Prop where
  qu : Qu ms ts fs b
  no : Told ms ts fs 0 a []
  len1 : ∀ (k : Nat) (q : WP), a ≤ k → k < n0 → fs[k]? = some q → q.1.length = ℓ
  len2 : ∀ (k : Nat) (q : WP), n0 ≤ k → fs[k]? = some q → q.1.length = ℓ + 1
  ap1 : ∀ w ∈ ap, SepW ms ts w ∧ w.length = ℓ + 1
  ap2 : Told ms ts fs a b ap
  n0 : n0 ≤ fs.length
/-- while the events of one pair are looked through, those of evs are done -/
structure Lm (ms ts : List (List Stp)) (fs : List WP) (a n0 ℓ b : Nat) (ap : List Wd) (q0 : WP) (s t : List Stp) (evs : List Ev) (dn : List Stp) : Prop where
  mi : Mi ms ts fs b q0 t dn
  no : Told ms ts fs 0 a []
  len1 : ∀ (k : Nat) (q : WP), a ≤ k → k < n0 → fs[k]? = some q → q.1.length = ℓ
  len2 : ∀ (k : Nat) (q : WP), n0 ≤ k → fs[k]? = some q → q.1.length = ℓ + 1
  ap1 : ∀ w ∈ ap, SepW ms ts w ∧ w.length = ℓ + 1
  ap2 : Told ms ts fs a b ap
  n0 : n0 ≤ fs.length
  ap3 : ∀ e ∈ evs, SepAt s t e → q0.1 ++ [e] ∈ ap
  d1 : ∀ x ∈ s, evOf x ∈ evs → x ∈ dn
  d2 : ∀ x ∈ dn, evOf x ∈ evs
section
variable {ms ts : List (List Stp)} {fs : List WP} {a n0 ℓ b : Nat} {ap : List Wd} {q0 : WP} {s t : List Stp} {evs : List Ev} {dn : List Stp}
theorem Told.mono {ap' : List Wd} (T : Told ms ts fs a b ap) (h : ∀ w ∈ ap, w ∈ ap') : Told ms ts fs a b ap' := fun k q l1 l2 e i j s t eq es et v se => h _ (T k q l1 l2 e i j s t eq es et v se)
theorem Told.add (T : Told ms ts fs a b ap) (le : b ≤ fs.length) (r : WP) : Told ms ts (fs ++ [r]) a b ap := fun k q l1 l2 e => by
  rw [List.getElem?_append_left (by omega)] at e
  exact T k q l1 l2 e
theorem Lv.go (L : Lv ms ts fs a ℓ) : Le ms ts fs a fs.length ℓ a [] :=
  ⟨L.qu, L.no, fun k q l1 _ e => L.len k q l1 e, fun k q l1 e => (by rw [List.getElem?_eq_none l1] at e; cases e), fun w m => (nomatch m), fun k q l1 l2 => absurd l1 (by omega), Nat.le_refl _⟩
theorem Le.mid (L : Le ms ts fs a n0 ℓ b ap) (e : fs[b]? = some q0) : Lm ms ts fs a n0 ℓ b ap q0 s t [] [] :=
  ⟨L.qu.mid e, L.no, L.len1, L.len2, L.ap1, L.ap2, L.n0, fun e m => (nomatch m), fun x _ m => (nomatch m), fun x m => (nomatch m)⟩
/-- an event of one of the two only -/
theorem Lm.sep (L : Lm ms ts fs a n0 ℓ b ap q0 s t evs dn) {i j : Nat} {e : Ev} (ab : a ≤ b) (bn : b < n0) (e0 : q0.2 = ((i : Int), (j : Int))) (es : ms[i]? = some s) (et : ts[j]? = some t) (asc : (s.map evOf).Pairwise evLt) (h : SepAt s t e) :
    ∃ dn', Lm ms ts fs a n0 ℓ b (ap ++ [q0.1 ++ [e]]) q0 s t (evs ++ [e]) dn' := by
  have r0 := L.mi.rch q0 (List.mem_of_getElem? L.mi.here)
  have h1 : q0.2.1 = (i : Int) := congrArg Prod.fst e0
  have h2 : q0.2.2 = (j : Int) := congrArg Prod.snd e0
  rw [h1, h2] at r0
  have up : ∀ w ∈ ap, w ∈ ap ++ [q0.1 ++ [e]] := fun w m => List.mem_append_left _ m
  have ql := L.len1 b q0 ab bn L.mi.here
  have A1 : ∀ w ∈ ap ++ [q0.1 ++ [e]], SepW ms ts w ∧ w.length = ℓ + 1 := fun w m => by
    rcases List.mem_append.mp m with m | m
    · exact L.ap1 w m
    · rw [List.mem_singleton.mp m]
      exact ⟨.of r0 es et h, by rw [List.length_append, ql]; rfl⟩
  have A3 : ∀ e' ∈ evs ++ [e], SepAt s t e' → q0.1 ++ [e'] ∈ ap ++ [q0.1 ++ [e]] := fun e' m se => by
    rcases List.mem_append.mp m with m | m
    · exact up _ (L.ap3 e' m se)
    · rw [List.mem_singleton.mp m]
      exact List.mem_append_right _ List.mem_cons_self
  rcases h with ⟨⟨x, mx, ex⟩, n⟩ | ⟨_, n⟩
  · refine ⟨dn ++ [x], L.mi.pass fun y my ev => absurd ⟨y, my, by rw [← ev, ex]⟩ n, L.no, L.len1, L.len2, A1, L.ap2.mono up, L.n0, A3, fun z mz m => ?_, fun z m => ?_⟩
    · rcases List.mem_append.mp m with m | m
      · exact List.mem_append_left _ (L.d1 z mz m)
      · have ez := List.mem_singleton.mp m
        rw [one_row asc mz mx (by rw [ez, ex])]
        exact List.mem_append_right _ List.mem_cons_self
    · rcases List.mem_append.mp m with m | m
      · exact List.mem_append_left _ (L.d2 z m)
      · rw [List.mem_singleton.mp m, ex]
        exact List.mem_append_right _ List.mem_cons_self
  · refine ⟨dn, L.mi, L.no, L.len1, L.len2, A1, L.ap2.mono up, L.n0, A3, fun z mz m => ?_, fun z m => List.mem_append_left _ (L.d2 z m)⟩
    rcases List.mem_append.mp m with m | m
    · exact L.d1 z mz m
    · exact absurd ⟨z, mz, List.mem_singleton.mp m⟩ n
theorem Lm.both (L : Lm ms ts fs a n0 ℓ b ap q0 s t evs dn) {x : Stp} (asc : (s.map evOf).Pairwise evLt) (mx : x ∈ s) {fs' : List WP} (M : Mi ms ts fs' b q0 t (dn ++ [x])) (no : Told ms ts fs' 0 a []) (l1 : ∀ (k : Nat) (q : WP), a ≤ k → k < n0 → fs'[k]? = some q → q.1.length = ℓ) (l2 : ∀ (k : Nat) (q : WP), n0 ≤ k → fs'[k]? = some q → q.1.length = ℓ + 1)
    (ap2 : Told ms ts fs' a b ap) (nn : n0 ≤ fs'.length) (it : InE t (evOf x)) : Lm ms ts fs' a n0 ℓ b ap q0 s t (evs ++ [evOf x]) (dn ++ [x]) := by
  refine ⟨M, no, l1, l2, L.ap1, ap2, nn, fun e m se => ?_, fun z mz m => ?_, fun z m => ?_⟩
  · rcases List.mem_append.mp m with m | m
    · exact L.ap3 e m se
    · rw [List.mem_singleton.mp m] at se
      rcases se with ⟨_, n⟩ | ⟨_, n⟩
      · exact absurd it n
      · exact absurd ⟨x, mx, rfl⟩ n
  · rcases List.mem_append.mp m with m | m
    · exact List.mem_append_left _ (L.d1 z mz m)
    · rw [one_row asc mz mx (List.mem_singleton.mp m)]
      exact List.mem_append_right _ List.mem_cons_self
  · rcases List.mem_append.mp m with m | m
    · exact List.mem_append_left _ (L.d2 z m)
    · rw [List.mem_singleton.mp m]
      exact List.mem_append_right _ List.mem_cons_self
theorem Lm.skip (L : Lm ms ts fs a n0 ℓ b ap q0 s t evs dn) {x y : Stp} (asc : (s.map evOf).Pairwise evLt) (mx : x ∈ s) (my : y ∈ t) (ev : evOf x = evOf y) (u : ∀ z ∈ t, evOf x = evOf z → z = y) (up : ∀ e ∈ evs, evLt e (evOf x)) (m : ((x.2.2, y.2.2) : IP) ∈ fs.map Prod.snd) :
    Lm ms ts fs a n0 ℓ b ap q0 s t (evs ++ [evOf x]) (dn ++ [x]) :=
  L.both asc mx (L.mi.skip (fun z mz => up _ (L.d2 z mz)) u m) L.no L.len1 L.len2 L.ap2 L.n0 ⟨y, my, ev.symm⟩
theorem Lm.put (L : Lm ms ts fs a n0 ℓ b ap q0 s t evs dn) {i j : Nat} {x y : Stp} (ab : a ≤ b) (bn : b < n0) (asc : (s.map evOf).Pairwise evLt) (mx : x ∈ s) (my : y ∈ t) (ev : evOf x = evOf y) (u : ∀ z ∈ t, evOf x = evOf z → z = y) (up : ∀ e ∈ evs, evLt e (evOf x)) (n : ((x.2.2, y.2.2) : IP) ∉ fs.map Prod.snd)
    (e0 : q0.2 = ((i : Int), (j : Int))) (es : ms[i]? = some s) (et : ts[j]? = some t) (ox : StpOk ms.length x) (oy : StpOk ts.length y) :
    Lm ms ts (fs ++ [(q0.1 ++ [evOf x], (x.2.2, y.2.2))]) a n0 ℓ b ap q0 s t (evs ++ [evOf x]) (dn ++ [x]) := by
  have lt := L.mi.lt
  have nn := L.n0
  refine L.both asc mx (L.mi.put (fun z mz => up _ (L.d2 z mz)) my ev u n e0 es et mx ox oy) (L.no.add (by omega) _) (fun k q k1 k2 e => ?_) (fun k q k1 e => ?_) (L.ap2.add (by omega) _) (by rw [List.length_append]; omega) ⟨y, my, ev.symm⟩
  · rw [List.getElem?_append_left (by omega)] at e
    exact L.len1 k q k1 k2 e
  · rcases Nat.lt_or_ge k fs.length with l | g
    · rw [List.getElem?_append_left l] at e
      exact L.len2 k q k1 e
    · rw [List.getElem?_append_right g] at e
      rw [List.mem_singleton.mp (List.mem_of_getElem? e)]
      show (q0.1 ++ [evOf x]).length = ℓ + 1
      rw [List.length_append, L.len1 b q0 ab bn L.mi.here]
      rfl
theorem Mi.fnd2 {i j : Nat} (M : Mi ms ts fs b q0 t dn) (all : ∀ x ∈ s, x ∈ dn) (e0 : q0.2 = ((i : Int), (j : Int))) (es : ms[i]? = some s) (et : ts[j]? = some t) : Qu ms ts fs (b + 1) := by
  refine ⟨M.nd, M.inn, M.sub, M.rch, M.asc, M.len, M.lt, fun k q lt ek => ?_, fun r m q e f => ?_⟩
  · rcases Nat.lt_or_ge k b with l | g
    · exact M.shut k q l ek
    · have e : k = b := by omega
      rw [e, M.here] at ek
      cases ek
      intro i' j' s' t' eq e1 e2 x mx y my ev
      rw [e0] at eq
      have h1 : i = i' := by have := congrArg Prod.fst eq; dsimp only at this; omega
      have h2 : j = j' := by have := congrArg Prod.snd eq; dsimp only at this; omega
      subst h1
      subst h2
      rw [es] at e1
      rw [et] at e2
      cases e1
      cases e2
      exact M.did x (all x mx) y my ev
  · have l2 := (List.getElem?_eq_some_iff.mp e).1
    have lt := M.lt
    have z := List.pairwise_iff_getElem.mp M.asc b (b + 1) lt l2 (Nat.lt_succ_self _)
    rw [(List.getElem?_eq_some_iff.mp e).2, (List.getElem?_eq_some_iff.mp M.here).2] at z
    rcases M.hi r m with h | ⟨x, mx, eq⟩
    · exact sl_trans (h f) (sl_snoc f f z)
    · rw [eq]
      exact sl_snoc _ f z
theorem Lm.next (L : Lm ms ts fs a n0 ℓ b ap q0 s t evs dn) {i j : Nat} (e0 : q0.2 = ((i : Int), (j : Int))) (es : ms[i]? = some s) (et : ts[j]? = some t) (all : ∀ e, InE s e ∨ InE t e → e ∈ evs) : Le ms ts fs a n0 ℓ (b + 1) ap := by
  refine ⟨L.mi.fnd2 (fun x mx => L.d1 x mx (all _ (.inl ⟨x, mx, rfl⟩))) e0 es et, L.no, L.len1, L.len2, L.ap1, fun k q l1 l2 ek => ?_, L.n0⟩
  rcases Nat.lt_or_ge k b with l | g
  · exact L.ap2 k q l1 l ek
  · have e : k = b := by omega
    rw [e, L.mi.here] at ek
    cases ek
    intro i' j' s' t' eq e1 e2 v se
    rw [e0] at eq
    have h1 : i = i' := by have := congrArg Prod.fst eq; dsimp only at this; omega
    have h2 : j = j' := by have := congrArg Prod.snd eq; dsimp only at this; omega
    subst h1
    subst h2
    rw [es] at e1
    rw [et] at e2
    cases e1
    cases e2
    refine L.ap3 v (all v ?_) se
    rcases se with ⟨h, _⟩ | ⟨h, _⟩
    · exact .inl h
    · exact .inr h
theorem Le.least (L : Le ms ts fs a n0 ℓ n0 ap) {r : Wd} (mr : r ∈ ap) (low : ∀ w ∈ ap, ¬ wLt w r) : LeastOf (SepW ms ts) (some r) := by
  refine ⟨(L.ap1 r mr).1, fun w hw => ?_⟩
  obtain ⟨v, e, i, j, s, t, rn, es, et, se, rfl⟩ := hw.at_
  have rl := (L.ap1 r mr).2
  have far : ∀ q : WP, q.1.length = ℓ + 1 → sle q.1 v → sle r (v ++ [e]) := fun q ql le => by
    have z := sle_len le
    exact .inr (.inl (by rw [List.length_append]; simp only [List.length_singleton]; omega))
  rcases L.qu.cover rn with ⟨q, mq, eq, le⟩ | ⟨q, eq, le⟩
  · obtain ⟨k, hk⟩ := List.mem_iff_getElem?.mp mq
    rcases Nat.lt_or_ge k n0 with l | g
    · rcases Nat.lt_or_ge k a with l2 | g2
      · exact absurd (L.no k q (Nat.zero_le _) l2 hk i j s t eq es et e se) (fun z => nomatch z)
      · have m := L.ap2 k q g2 l hk i j s t eq es et e se
        refine sle_trans ?_ (sle_snoc e le)
        by_cases c : r = q.1 ++ [e]
        · exact .inl c
        · refine .inr (.inr ⟨by rw [rl, (L.ap1 _ m).2], ?_⟩)
          exact Classical.byContradiction fun z => c (wLt_tri _ _ z (low _ m))
    · exact far q (L.len2 k q g hk) le
  · exact far q (L.len2 n0 q (Nat.le_refl _) eq) le
theorem Le.up (L : Le ms ts fs a n0 ℓ n0 []) : Lv ms ts fs n0 (ℓ + 1) := ⟨L.qu, fun k q _ l ek i j s t eq es et e se => by
  rcases Nat.lt_or_ge k a with l2 | g2
  · exact L.no k q (Nat.zero_le _) l2 ek i j s t eq es et e se
  · exact L.ap2 k q g2 l ek i j s t eq es et e se, L.len2⟩
theorem Lv.none_ (L : Lv ms ts fs fs.length ℓ) : LeastOf (SepW ms ts) none := by
  intro w hw
  obtain ⟨v, e, i, j, s, t, rn, es, et, se, rfl⟩ := hw.at_
  obtain ⟨q, mq, eq, _⟩ := L.qu.in_ rn
  obtain ⟨k, hk⟩ := List.mem_iff_getElem?.mp mq
  exact absurd (L.no k q (Nat.zero_le _) (List.getElem?_eq_some_iff.mp hk).1 hk i j s t eq es et e se) fun z => nomatch z
theorem Lv.start (mo : KOk ms) (to : KOk ts) : Lv ms ts [([], (0, 0))] 0 0 := ⟨Qu.start mo to, fun k q _ l => absurd l (Nat.not_lt_zero _), fun k q _ e => by rw [List.mem_singleton.mp (List.mem_of_getElem? e)]; rfl⟩
end
end My

-- ===== KL2 =====
set_option Elab.async false
set_option linter.all false
set_option maxRecDepth 100000
set_option maxHeartbeats 4000000
namespace Kd
open PySem L2 PyProof.Rows PySem.Spec PySem.W PySem.Calls
/-! ### list(d), the keys being tuples -/
def rListD : List V → Hp → VK → Prop := fun vs H Q => ∃ (a : Addr) (kvs : List (List Key × V)), vs = [V.ref a] ∧ H a = some (.dT kvs) ∧ kvs.length ≤ 100000 ∧
  ∀ (L : List (Addr × List Key)) p, L.map Prod.snd = kvs.map Prod.fst → (∀ q ∈ L, H q.1 = some (.tup (q.2.map kV))) → H p = none → Q (.ref p) (upd H p (.lst (L.map fun q => V.ref q.1)))
/-! ### min(xs), xs a list of data -/
def rMinL {β : Type} (enc : β → PyData) (K : PySem.W.Frag) : List V → Hp → VK → Prop := fun vs H Q => ∃ (l : Addr) (x : Addr × β) (L : List (Addr × β)), vs = [V.ref l] ∧ H l = some (.lst ((x :: L).map fun q => V.ref q.1)) ∧ DpRows enc K H (x :: L) ∧ AlikeAll ((x :: L).map fun q => enc q.2) ∧ (∀ q ∈ x :: L, (enc q.2).depth ≤ 60) ∧
  ∀ q ∈ x :: L, enc q.2 = minD (enc x.2) (L.map fun q => enc q.2) → Q (.ref q.1) H
theorem depthAll_le {k : Nat} : ∀ {ds : List PyData}, (∀ d ∈ ds, d.depth ≤ k) → PyData.depthAll ds ≤ k
  | [], _ => by simp [PyData.depthAll]
  | d :: r, h => by
    have h1 := h d List.mem_cons_self
    have h2 := depthAll_le (ds := r) fun x m => h x (List.mem_cons_of_mem _ m)
    simp only [PyData.depthAll]
    omega
section
variable {X : Cx}
theorem cr_listD (hc : X.calm = true) : CallR X (.type "list") rListD := by
  intro pins s σ H vs us Q I r h
  obtain ⟨a, kvs, rfl, ha, less, q⟩ := h
  rw [Vals.ref1 r]
  obtain ⟨od, J⟩ := I.lock ha trivial
  obtain ⟨lo, hod, hex, es, ep, hdt, hsz, ent⟩ := J.frzT upd_same
  obtain ⟨L, ll, hL⟩ := pick_each (fun i (q : Addr × List Key) => (∃ v, kvs[i]? = some (q.2, v)) ∧ (∃ en, es[i]? = some en ∧ en.key = Value.ref q.1) ∧ H q.1 = some (.tup (q.2.map kV))) kvs.length fun i hi => by
    obtain ⟨⟨k, v⟩, hkv⟩ : ∃ p, kvs[i]? = some p := ⟨kvs[i], List.getElem?_eq_getElem hi⟩
    obtain ⟨en, b, hen, hkey, hb⟩ := ent i k v hkv
    refine ⟨(b, k), ⟨v, hkv⟩, ⟨en, hen, hkey⟩, ?_⟩
    rw [upd_ne fun z => by rw [z, upd_same] at hb; cases hb] at hb
    exact hb
  have keys : L.map Prod.snd = kvs.map Prod.fst := by
    refine List.ext_getElem? fun i => ?_
    rw [List.getElem?_map, List.getElem?_map]
    rcases Nat.lt_or_ge i L.length with lt | ge
    · obtain ⟨⟨v, e⟩, _⟩ := hL i L[i] (List.getElem?_eq_getElem lt)
      rw [List.getElem?_eq_getElem lt, e]
      rfl
    · rw [List.getElem?_eq_none ge, List.getElem?_eq_none (by omega)]
      rfl
  have tups : ∀ q ∈ L, H q.1 = some (.tup (q.2.map kV)) := fun q m => by
    obtain ⟨i, e⟩ := List.mem_iff_getElem?.mp m
    exact (hL i q e).2.2
  refine kdl_call (src_raw lo hex hdt) (I.ok.hd hc) hod (by rw [hsz, sizeLine_eq]; omega) fun h' tk acc c hk hl hacc => ?_
  have ev : acc.toList = L.map fun q => Value.ref q.1 := by
    refine List.ext_getElem? fun i => ?_
    rw [List.getElem?_map]
    have al : acc.size = L.length := by rw [hacc.1, hsz, ll]
    rcases Nat.lt_or_ge i L.length with lt | ge
    · obtain ⟨v, hv⟩ : ∃ v, acc[i]? = some v := ⟨acc[i]'(by omega), by simp [al, lt]⟩
      obtain ⟨en, h1, rfl⟩ := hacc.2 i v hv
      obtain ⟨_, ⟨en', h2, h3⟩, _⟩ := hL i L[i] (List.getElem?_eq_getElem lt)
      rw [h1] at h2
      cases h2
      rw [Array.getElem?_toList, hv, h3, List.getElem?_eq_getElem lt]
      rfl
    · rw [List.getElem?_eq_none ge, List.getElem?_eq_none (by rw [Array.length_toList]; omega)]
      rfl
  have ea : acc = (L.map fun q => Value.ref q.1).toArray := by rw [← ev]
  have lz : (L.map fun q => V.ref q.1).length ≤ sizeLine := by rw [List.length_map, ll, sizeLine_eq]; omega
  rw [ea] at hl
  exact ⟨.ref s.heap.objs.size, upd H s.heap.objs.size (.lst (L.map fun q => V.ref q.1)), I.laid (t' := tk) hk (Nat.le_refl _) ⟨lz, _, c, refs_vals Prod.fst _, hl⟩, rfl, q L _ keys tups (I.hok.fresh (Nat.le_refl _))⟩
theorem cr_minL {β : Type} {enc : β → PyData} (hh : X.A.handled = none) (hu : X.A.units + 80 < cLine) : CallR X (.builtin "min") (rMinL enc X.K) := by
  intro pins s σ H vs us Q I r h
  obtain ⟨l, x, L, rfl, hl, hk, al, dp, q⟩ := h
  rw [Vals.ref1 r]
  obtain ⟨its, rv, il, _⟩ := I.list (.inl (.inl hl))
  have ei := refs_of rv
  subst ei
  have rd : ∀ q ∈ x :: L, ∃ as, Reads s.heap (.ref q.1) (enc q.2) as := fun q m => Dp.reads I (enc q.2) (.ref q.1) (.ref q.1) (hk q m) rfl
  have all : ∀ M : List (Addr × β), (∀ q ∈ M, ∃ as, Reads s.heap (.ref q.1) (enc q.2) as) → ∃ as, ReadsAll s.heap (M.map fun q => Value.ref q.1) (M.map fun q => enc q.2) as := by
    intro M
    induction M with
    | nil => exact fun _ => ⟨[], .nil⟩
    | cons y M ih =>
      intro g
      obtain ⟨as, h1⟩ := g y List.mem_cons_self
      obtain ⟨bs, h2⟩ := ih fun z m => g z (List.mem_cons_of_mem _ m)
      exact ⟨as ++ bs, .cons h1 h2⟩
  obtain ⟨as, ra⟩ := all (x :: L) rd
  have dl : PyData.depthAll ((x :: L).map fun q => enc q.2) ≤ 60 := depthAll_le fun d m => by
    obtain ⟨p, mp, rfl⟩ := List.mem_map.mp m
    exact dp p mp
  have hdep : X.A.units + 1 + PyData.depthAll (enc x.2 :: L.map fun q => enc q.2) < cLine := by
    have z : PyData.depthAll (enc x.2 :: L.map fun q => enc q.2) ≤ 60 := dl
    omega
  refine min_list_data (as := as) hh il.isList (by simpa using ra) (by simpa using al) hdep fun i v h' tk bs ev rm ext => ?_
  have ev2 : ((x :: L).map fun q => Value.ref q.1)[i]? = some v := by simpa using ev
  rw [List.getElem?_map] at ev2
  obtain ⟨p, ep, rfl⟩ := Option.map_eq_some_iff.mp ev2
  have mp := List.mem_of_getElem? ep
  obtain ⟨cs, rp⟩ := rd p mp
  have rp' : Reads h' (.ref p.1) (enc p.2) cs := PyProof.Rows.Reads.keeps ext rp
  have me : ∀ (y : PyData) (ys : List PyData), minD y ys ∈ y :: ys := by
    intro y ys
    unfold minD
    induction ys generalizing y with
    | nil => exact List.mem_cons_self
    | cons z ys ih =>
      rw [List.foldl_cons]
      rcases List.mem_cons.mp (ih (if dataLt z y = true then z else y)) with e | m
      · rw [e]
        split
        · exact List.mem_cons_of_mem _ List.mem_cons_self
        · exact List.mem_cons_self
      · exact List.mem_cons_of_mem _ (List.mem_cons_of_mem _ m)
  have mm : minD (enc x.2) (L.map fun q => enc q.2) ∈ (x :: L).map fun q => enc q.2 := me _ _
  have eq := alike_unique (enc p.2) (minD (enc x.2) (L.map fun q => enc q.2)) (.ref p.1) cs bs (al.1 _ (List.mem_map.mpr ⟨p, mp, rfl⟩) _ mm) rp' rm
  exact ⟨.ref p.1, H, I.kept (t' := tk) ext, rfl, q p mp eq⟩
end
end Kd

-- ===== K7L2 =====
set_option Elab.async false
set_option linter.all false
set_option maxRecDepth 100000
set_option maxHeartbeats 4000000
namespace My
open PySem L2 PyProof.Rows PySem.Spec Kd TL
/-! ### the rows of a level as data -/
def lvD (q : WP) : PyData := .tuple [wordD q.1, .int q.2.1, .int q.2.2]
theorem wordD_eq (v : Wd) : wordD v = .tuple (v.map evD) := rfl
open PySem.W in
theorem alike_word (v w : Wd) : alike (wordD v) (wordD w) = true := by
  rw [wordD_eq, wordD_eq]
  simp only [alike]
  exact alike_evs v w
open PySem.W in
theorem alike_lv (q r : WP) : alike (lvD q) (lvD r) = true := by
  have h := alike_word q.1 r.1
  simp [lvD, alike, alikeAll, h]
theorem depth_word (v : Wd) : (wordD v).depth ≤ 2 := by
  have z := depth_evs v
  rw [wordD_eq]
  simp only [PyData.depth]
  omega
theorem depth_lv (q : WP) : (lvD q).depth ≤ 60 := by
  have z := depth_word q.1
  simp only [lvD, PyData.depth, PyData.depthAll]
  omega
theorem eqv_word (v w : Wd) : PyData.eqv (wordD v) (wordD w) = decide (v = w) := by
  rw [wordD_eq, wordD_eq]
  simp only [PyData.eqv, eqv_evs]
open PySem.W in
theorem lt_word (v w : Wd) : dataLt (wordD v) (wordD w) = true ↔ wLt v w := by
  rw [wordD_eq, wordD_eq, dataLt_tuple]
  exact lt_evs v w
open PySem.W in
theorem lt_lv {q r : WP} (h : wLt q.1 r.1) : dataLt (lvD r) (lvD q) = false := by
  have ne : ¬ r.1 = q.1 := fun e => by rw [e] at h; exact wLt_irr _ h
  have no : ¬ wLt r.1 q.1 := fun g => wLt_irr _ (wLt_trans h g)
  unfold lvD
  rw [dataLt_tuple, dataLt_cons (alike_word r.1 q.1), eqv_word, decide_eq_false ne, if_neg (by decide)]
  cases e : dataLt (wordD r.1) (wordD q.1) with
  | false => rfl
  | true => exact absurd ((lt_word _ _).mp e) no
/-- rows whose words rise stay as they are when they are sorted -/
theorem sort_lv (L : List (Addr × WP)) (asc : (L.map Prod.snd).Pairwise fun q r => wLt q.1 r.1) : L.mergeSort (PySem.W.dataLe false fun q : Addr × WP => lvD q.2) = L := by
  refine List.mergeSort_of_pairwise ((List.pairwise_map.mp asc).imp fun {q r} h => ?_)
  rw [PySem.W.dataLe_eq]
  show (!PySem.W.dataLt (lvD r.2) (lvD q.2)) = true
  rw [lt_lv h]
  rfl
/-- the least word of some, as min tells it -/
theorem minD_word : ∀ (L : List Wd) (x : Wd), ∃ r ∈ x :: L, PySem.W.minD (wordD x) (L.map wordD) = wordD r ∧ ∀ w ∈ x :: L, ¬ wLt w r
  | [], x => ⟨x, List.mem_cons_self, rfl, fun w m => by rw [List.mem_singleton.mp m]; exact wLt_irr x⟩
  | y :: L, x => by
    have step : PySem.W.minD (wordD x) ((y :: L).map wordD) = PySem.W.minD (if PySem.W.dataLt (wordD y) (wordD x) = true then wordD y else wordD x) (L.map wordD) := rfl
    rw [step]
    by_cases c : PySem.W.dataLt (wordD y) (wordD x) = true
    · rw [if_pos c]
      obtain ⟨r, mr, e, low⟩ := minD_word L y
      refine ⟨r, List.mem_cons_of_mem _ mr, e, fun w m => ?_⟩
      rcases List.mem_cons.mp m with rfl | m
      · intro g
        exact low y List.mem_cons_self (wLt_trans ((lt_word _ _).mp c) g)
      · exact low w m
    · rw [if_neg c]
      obtain ⟨r, mr, e, low⟩ := minD_word L x
      refine ⟨r, ?_, e, fun w m => ?_⟩
      · rcases List.mem_cons.mp mr with h | h
        · rw [h]
          exact List.mem_cons_self
        · exact List.mem_cons_of_mem _ (List.mem_cons_of_mem _ h)
      · rcases List.mem_cons.mp m with rfl | m
        · exact low w List.mem_cons_self
        · rcases List.mem_cons.mp m with rfl | m
          · intro g
            have nx : ¬ wLt w x := fun z => c ((lt_word _ _).mpr z)
            by_cases wx : w = x
            · rw [wx] at g
              exact low x List.mem_cons_self g
            · have xw : wLt x w := Classical.byContradiction fun z => wx (wLt_tri _ _ nx z)
              exact low x List.mem_cons_self (wLt_trans xw g)
          · exact low w (List.mem_cons_of_mem _ m)
theorem word_inj {v w : Wd} (h : wordD v = wordD w) : v = w := by
  have z := eqv_word v w
  rw [h] at z
  have y := eqv_word w w
  rw [z] at y
  rw [decide_eq_true (rfl : w = w)] at y
  exact of_decide_eq_true y
/-- what the law knows: the pairs found -/
def KnAt (kvs : List (List L2.Key × V)) (fs : List WP) : Prop := kvs.map Prod.fst = (fs.map Prod.snd).map pK
theorem KnAt.put {kvs : List (List L2.Key × V)} {fs : List WP} (h : KnAt kvs fs) {q : WP} {v : V} (n : q.2 ∉ fs.map Prod.snd) : KnAt (putK kvs (pK q.2) v) (fs ++ [q]) := by
  have e : putK kvs (pK q.2) v = kvs ++ [(pK q.2, v)] := putK_new fun p m e2 => n (by
    have mp : p.1 ∈ (fs.map Prod.snd).map pK := by rw [← h]; exact List.mem_map.mpr ⟨p, m, rfl⟩
    obtain ⟨r, mr, er⟩ := List.mem_map.mp mp
    rw [← er] at e2
    rw [← pK_inj e2]
    exact mr)
  unfold KnAt
  rw [e, List.map_append, List.map_append, List.map_append, h]
  rfl
theorem KnAt.len {kvs : List (List L2.Key × V)} {fs : List WP} (h : KnAt kvs fs) : kvs.length = fs.length := by
  have z := congrArg List.length h
  rwa [List.length_map, List.length_map, List.length_map] at z
/-- the words of a level rise -/
theorem Lv.asc {ms ts : List (List Stp)} {fs : List WP} {a ℓ : Nat} (L : Lv ms ts fs a ℓ) : (fs.drop a).Pairwise fun q r => wLt q.1 r.1 := by
  rw [List.pairwise_iff_getElem]
  intro i j hi hj lt
  rw [List.length_drop] at hi hj
  have z := List.pairwise_iff_getElem.mp L.qu.asc (a + i) (a + j) (by omega) (by omega) (by omega)
  rw [List.getElem_drop, List.getElem_drop]
  have l1 := L.len (a + i) _ (by omega) (List.getElem?_eq_getElem (show a + i < fs.length by omega))
  have l2 := L.len (a + j) _ (by omega) (List.getElem?_eq_getElem (show a + j < fs.length by omega))
  rcases z with z | ⟨_, z⟩
  · omega
  · exact z
theorem zip_fst {α β : Type} : ∀ {xs : List α} {ys : List β}, xs.length = ys.length → (xs.zip ys).map Prod.fst = xs
  | [], [], _ => rfl
  | x :: xs, y :: ys, h => by
    rw [List.zip_cons_cons, List.map_cons, zip_fst (by simpa using h)]
theorem zip_snd {α β : Type} : ∀ {xs : List α} {ys : List β}, xs.length = ys.length → (xs.zip ys).map Prod.snd = ys
  | [], [], _ => rfl
  | x :: xs, y :: ys, h => by
    rw [List.zip_cons_cons, List.map_cons, zip_snd (by simpa using h)]
theorem zip_td {β : Type} {enc : β → PyData} {H : Hp} : ∀ {as : List Addr} {qs : List β}, TDs H (as.map V.ref) (qs.map enc) → ∀ p ∈ as.zip qs, TD H (.ref p.1) (enc p.2)
  | [], _, _, _, m => nomatch m
  | _ :: _, [], _, _, m => nomatch m
  | a :: as, q :: qs, h, p, m => by
    rw [List.map_cons, List.map_cons] at h
    cases h with
    | cons h1 h2 =>
      rcases List.mem_cons.mp m with rfl | m
      · exact h1
      · exact zip_td h2 p m
end My

-- ===== K7H =====
set_option Elab.async false
set_option linter.all false
set_option maxRecDepth 100000
set_option maxHeartbeats 4000000
namespace My
open PySem L2 PyProof.Rows PySem.Spec Kd TL
abbrev sFirst : Stmt := top 37
def lcA : Stmt → Scope
  | .FunctionDef _ _ (.Assign _ (.ListComp (.Call _ [.ListComp _ _ sc _] _ _) _ _ _) _ :: _) .. => sc
  | _ => { kind := .function, names := [], isGenerator := false, isCoroutine := false }
def lcB : Stmt → Scope
  | .FunctionDef _ _ (_ :: .Assign _ (.ListComp (.Call _ [.ListComp _ _ sc _] _ _) _ _ _) _ :: _) .. => sc
  | _ => { kind := .function, names := [], isGenerator := false, isCoroutine := false }
def loA : Stmt → Scope
  | .FunctionDef _ _ (.Assign _ (.ListComp _ _ sc _) _ :: _) .. => sc
  | _ => { kind := .function, names := [], isGenerator := false, isCoroutine := false }
def loB : Stmt → Scope
  | .FunctionDef _ _ (_ :: .Assign _ (.ListComp _ _ sc _) _ :: _) .. => sc
  | _ => { kind := .function, names := [], isGenerator := false, isCoroutine := false }
def spFirst : Sp := fun vs H Q _ => ∃ (a b : Addr) (ms ts : List (List Stp)), vs = [.ref a, .ref b] ∧ TD H (.ref a) (statesD ms) ∧ TD H (.ref b) (statesD ts) ∧ KOk ms ∧ KOk ts ∧
  ∀ (v : V) (o : Option Wd) (H' : Hp), Same H H' → WAt H' v o → (∀ w, o = some w → w.length ≤ 1601) → LeastOf (SepW ms ts) o → Q v H'
section
variable {P : Program} {w : World} {K : PySem.W.Frag} {mg : Str → Option Value} {base : Heap}
abbrev nFi : List Str := ["_law_states_here", "_law_others", "_law_tables", "_law_rest", "_law_known", "_law_level", "_law_apart", "_law_more", "_law_path", "_law_here", "_law_there", "_law_event", "_law_state", "_law_step"]
theorem scFi : FnScope nFi ["_law_states_here", "_law_others"] (defScope sFirst) := ⟨rfl, rfl, rfl, by decide +kernel, rfl, by decide +kernel, by decide +kernel⟩
theorem ok_first {f : Addr} {fd : FuncData} (F : Fun K "_law_first" "_law_first" sFirst f fd) (G : Gs mg) (mdict : mg "dict" = none) : FnOk P w K mg base CX0 1 f fd ["_law_states_here", "_law_others"] spFirst := by
  refine F.ok scFi (fun vs H Q E h => ?_) (fun cdv A outer s H vs Q E hr h => ?_)
  · obtain ⟨a, b, ms, ts, rfl, _⟩ := h
    rfl
  · obtain ⟨a, b, ms, ts, rfl, ta, tb, mo, to, k⟩ := h
    have hu := hr.units
    have hun := hr.un
    have hu0 : (A.deeper (envOfC "_law_first" (defScope sFirst) s.heap.objs.size f cdv)).units < cLine := by omega
    have hu1 : (A.deeper (envOfC "_law_first" (defScope sFirst) s.heap.objs.size f cdv)).units + 1 < cLine := by omega
    have hu80 : (A.deeper (envOfC "_law_first" (defScope sFirst) s.heap.objs.size f cdv)).units + 80 < cLine := by omega
    have hu200 : (A.deeper (envOfC "_law_first" (defScope sFirst) s.heap.objs.size f cdv)).units + 200 < cLine := by omega
    refine ⟨_, (pss_cons (ps_setLc (i := 2) (own := [("_law_state", 12)]) (g := gName 12) (tt := tYes) (te := teIn K 12 13) rfl scFi.nd rfl rfl (sw_true rfl rfl rfl (by decide +kernel)) (pi_tup (pv 0)) (blkOk_by (N := nFi) (sc := defScope sFirst) (by decide +kernel)) (fun _ _ _ _ _ => pg_name (i := 12) scFi.nd rfl (Or.inl rfl)) (fun _ _ _ _ _ => pts_nil) (fun _ _ _ _ _ => pe_callTy (T := "dict") (r := rDictT) (call_dictT rfl hu200) (by rfl) mdict (by decide +kernel) (pa_cons (pe_lc (own := [("_law_step", 13)]) (g := gName 13) (tt := tYes) (te := tTup (tCons (L2.tSl (rSlT K) (tVar 13) tNoPart (tPart (tC (V.int 2)))) (tCons (tOp (rIxT K) (tVar 13) (tC (V.int 2))) tNil))) rfl scFi.nd (pi_tup (pv 12)) (blkOk_by (N := nFi) (sc := (relS (loA sFirst) (defScope sFirst))) (by decide +kernel)) (fun _ _ _ _ _ => pg_name (i := 13) scFi.nd rfl (Or.inl rfl)) (fun _ _ _ _ _ => pts_nil) (fun _ _ _ _ _ => pe_tup (pa_cons (pe_slice (r := rSlT K) sl_tup (pv 13) po_none (po_some pe_int)) (pa_cons (pe_ix (r := rIxT K) ix_tup (pv 13) pe_int (fun _ _ => rfl)) pa_nil)))) pa_nil))) (pss_cons (ps_setLc (i := 3) (own := [("_law_state", 12)]) (g := gName 12) (tt := tYes) (te := teIn K 12 13) rfl scFi.nd rfl rfl (sw_true rfl rfl rfl (by decide +kernel)) (pi_tup (pv 1)) (blkOk_by (N := nFi) (sc := defScope sFirst) (by decide +kernel)) (fun _ _ _ _ _ => pg_name (i := 12) scFi.nd rfl (Or.inl rfl)) (fun _ _ _ _ _ => pts_nil) (fun _ _ _ _ _ => pe_callTy (T := "dict") (r := rDictT) (call_dictT rfl hu200) (by rfl) mdict (by decide +kernel) (pa_cons (pe_lc (own := [("_law_step", 13)]) (g := gName 13) (tt := tYes) (te := tTup (tCons (L2.tSl (rSlT K) (tVar 13) tNoPart (tPart (tC (V.int 2)))) (tCons (tOp (rIxT K) (tVar 13) (tC (V.int 2))) tNil))) rfl scFi.nd (pi_tup (pv 12)) (blkOk_by (N := nFi) (sc := (relS (loB sFirst) (defScope sFirst))) (by decide +kernel)) (fun _ _ _ _ _ => pg_name (i := 13) scFi.nd rfl (Or.inl rfl)) (fun _ _ _ _ _ => pts_nil) (fun _ _ _ _ _ => pe_tup (pa_cons (pe_slice (r := rSlT K) sl_tup (pv 13) po_none (po_some pe_int)) (pa_cons (pe_ix (r := rIxT K) ix_tup (pv 13) pe_int (fun _ _ => rfl)) pa_nil)))) pa_nil))) (pss_cons (ps_par (i := 4) (j := 5) rfl scFi.nd rfl rfl (by decide) rfl rfl (pa_cons (pe_disp1T hu1 (pe_tup (pa_cons pe_int (pa_cons pe_int pa_nil))) pe_bl) (pa_cons (pe_lst (pa_cons (pe_tup (pa_cons (pe_tup pa_nil) (pa_cons pe_int (pa_cons pe_int pa_nil)))) pa_nil)) pa_nil)) (by rfl)) (pss_cons (ps_while PassesOwn.never (pt_cmpR (op_neL hu0) (pv 5) (pe_lst pa_nil) (nomark _)) (pss_cons (ps_par (i := 6) (j := 7) rfl scFi.nd rfl rfl (by decide) rfl rfl (pa_cons (pe_lst pa_nil) (pa_cons (pe_lst pa_nil) pa_nil)) (by rfl)) (pss_cons (ps_for PassesOwn.never rfl (pi_list (pe_callB (cr_sortX (enc := lvD) hu80) (by rfl) G.sorted PyProof.Rows.boot_sorted (pa_cons (pv 5) pa_nil))) (pg_tup (by rfl) (pgs_cons (pg_name (i := 8) scFi.nd rfl (Or.inl rfl)) (pgs_cons (pg_name (i := 9) scFi.nd rfl (Or.inl rfl)) (pgs_cons (pg_name (i := 10) scFi.nd rfl (Or.inl rfl)) pgs_nil)))) (pss_one (ps_for PassesOwn.never rfl (pi_list (pe_callB (cr_sortS rfl hu) (by rfl) G.sorted PyProof.Rows.boot_sorted (pa_cons (pe_callTy (cr_setOf rfl hu) (by rfl) G.set PyProof.Rows.boot_set (pa_cons (pe_op op_cat (pe_callTy (Kd.cr_listD rfl) (by rfl) G.list (by decide +kernel) (pa_cons (pe_ix (r := rIxL K) ix_list (pv 2) (pv 9) (fun _ _ => rfl)) pa_nil)) (pe_callTy (Kd.cr_listD rfl) (by rfl) G.list (by decide +kernel) (pa_cons (pe_ix (r := rIxL K) ix_list (pv 3) (pv 10) (fun _ _ => rfl)) pa_nil))) pa_nil)) pa_nil))) (pg_name (i := 11) scFi.nd rfl (Or.inl rfl)) (pss_one (ps_if (pt_cmpR op_ne (pe_cmp (pc_din hu1 (pv 11) (pe_ix (r := rIxL K) ix_list (pv 2) (pv 9) (fun _ _ => rfl)))) (pe_cmp (pc_din hu1 (pv 11) (pe_ix (r := rIxL K) ix_list (pv 3) (pv 10) (fun _ _ => rfl)))) (nomark _)) (pss_one (ps_expr (pe_bm PySem.F.plainAttrs_list PySem.F.slot_list_append PySem.F.type_list_append mt_append (pv 6) (pa_cons (pe_op Kd.op_catA (pv 8) (pe_tup (pa_cons (pv 11) pa_nil))) pa_nil)))) (pss_one (ps_if (pt_cmp (pc_dnotin hu1 (pe_tup (pa_cons (pe_dget hu1 (pe_ix (r := rIxL K) ix_list (pv 2) (pv 9) (fun _ _ => rfl)) (pv 11) (fun _ _ => rfl)) (pa_cons (pe_dget hu1 (pe_ix (r := rIxL K) ix_list (pv 3) (pv 10) (fun _ _ => rfl)) (pv 11) (fun _ _ => rfl)) pa_nil))) (pv 4))) (pss_cons (ps_dput hu1 (pv 4) (pe_tup (pa_cons (pe_dget hu1 (pe_ix (r := rIxL K) ix_list (pv 2) (pv 9) (fun _ _ => rfl)) (pv 11) (fun _ _ => rfl)) (pa_cons (pe_dget hu1 (pe_ix (r := rIxL K) ix_list (pv 3) (pv 10) (fun _ _ => rfl)) (pv 11) (fun _ _ => rfl)) pa_nil))) pe_bl (by rfl)) (pss_one (ps_expr (pe_bm PySem.F.plainAttrs_list PySem.F.slot_list_append PySem.F.type_list_append mt_append (pv 7) (pa_cons (pe_tup (pa_cons (pe_op Kd.op_catA (pv 8) (pe_tup (pa_cons (pv 11) pa_nil))) (pa_cons (pe_dget hu1 (pe_ix (r := rIxL K) ix_list (pv 2) (pv 9) (fun _ _ => rfl)) (pv 11) (fun _ _ => rfl)) (pa_cons (pe_dget hu1 (pe_ix (r := rIxL K) ix_list (pv 3) (pv 10) (fun _ _ => rfl)) (pv 11) (fun _ _ => rfl)) pa_nil)))) pa_nil))))) pss_nil))))))) (pss_cons (ps_if (pt_cmpR (op_neL hu0) (pv 6) (pe_lst pa_nil) (nomark _)) (pss_one (ps_ret (pe_callB (Kd.cr_minL (enc := wordD) hr.hd hu80) (by rfl) G.min (by rfl) (pa_cons (pv 6) pa_nil)))) pss_nil) (pss_one (ps_set (i := 5) scFi.nd rfl (Or.inl rfl) (pv 7))))))) (pss_one (ps_ret pe_non)))))), ?_⟩
    change tAsg (teTab K 0 12 13) (gName 2) _ _ _
    unfold tAsg
    refine tabs_rd (K := K) (i := 0) (j := 12) (l := 13) (a := a) (ss := ms) (by show 12 < 14; decide) (by show 13 < 14; decide) (by decide) rfl ta mo fun tm H1 s1 nm mv => ?_
    change tAsg (teTab K 1 12 13) (gName 3) _ _ _
    unfold tAsg
    refine tabs_rd (K := K) (i := 1) (j := 12) (l := 13) (a := b) (ss := ts) (by show 12 < 14; decide) (by show 13 < 14; decide) (by decide) rfl (tb.to (Tup.of s1)) to fun tr H2 s2 nr mr => ?_
    have mv2 := mv.same s2
    have s12 := s1.trans s2
    refine fun kd hkd => ⟨by show 2 ≤ sizeLine; decide, fun q1 hq1 => ⟨same_new hq1 _ _ upd_same, q1, pK (0, 0), rfl, upd_same, ?_⟩⟩
    have k1 := same_new (o := .dT []) hkd
    have k2 := k1.trans (same_new (o := .tup [V.int 0, .int 0]) hq1)
    have d2 : (upd (upd H2 kd (.dT [])) q1 (.tup [V.int 0, .int 0])) kd = some (.dT []) := same_new hq1 _ _ upd_same
    have s23 : Same H2 (upd (upd (upd H2 kd (.dT [])) q1 (.tup [V.int 0, .int 0])) kd (.dT (putK [] (pK (0, 0)) (.bl true)))) := same_at k2 hkd
    have d3 : (upd (upd (upd H2 kd (.dT [])) q1 (.tup [V.int 0, .int 0])) kd (.dT (putK [] (pK (0, 0)) (.bl true)))) kd = some (.dT (putK [] (pK (0, 0)) (.bl true))) := upd_same
    have kn0 : KnAt (putK [] (pK (0, 0)) (V.bl true)) [([], (0, 0))] := KnAt.put (kvs := []) (fs := []) (q := ([], (0, 0))) rfl fun m => nomatch m
    generalize upd (upd (upd H2 kd (.dT [])) q1 (.tup [V.int 0, .int 0])) kd (.dT (putK [] (pK (0, 0)) (.bl true))) = H3 at s23 d3 ⊢
    generalize putK [] (pK (0, 0)) (V.bl true) = kv0 at d3 kn0
    refine ⟨by show 0 ≤ sizeLine; decide, fun e0 he0 => ⟨by show 3 ≤ sizeLine; decide, fun t0 ht0 => ⟨by show 1 ≤ sizeLine; decide, fun lv hlv => ⟨_, _, rfl, ?_⟩⟩⟩⟩
    have z1 := same_new (o := .tup []) he0
    have z2 := z1.trans (same_new (o := .tup [V.ref e0, .int 0, .int 0]) ht0)
    have z3 := z2.trans (same_new (o := .lst [V.ref t0]) hlv)
    have c0 : (upd (upd (upd H3 e0 (.tup [])) t0 (.tup [V.ref e0, .int 0, .int 0])) lv (.lst [V.ref t0])) e0 = some (.tup []) := same_new hlv _ _ (same_new ht0 _ _ upd_same)
    have c1 : (upd (upd (upd H3 e0 (.tup [])) t0 (.tup [V.ref e0, .int 0, .int 0])) lv (.lst [V.ref t0])) t0 = some (.tup [V.ref e0, .int 0, .int 0]) := same_new hlv _ _ upd_same
    have c2 : (upd (upd (upd H3 e0 (.tup [])) t0 (.tup [V.ref e0, .int 0, .int 0])) lv (.lst [V.ref t0])) lv = some (.lst ([t0].map V.ref)) := upd_same
    have d4 := z3 _ _ d3
    have s24 := s23.trans z3
    generalize upd (upd (upd H3 e0 (.tup [])) t0 (.tup [V.ref e0, .int 0, .int 0])) lv (.lst [V.ref t0]) = H4 at c0 c1 c2 d4 s24 ⊢
    have T0 : TDs H4 ([t0].map V.ref) ((([(([], (0, 0)) : WP)]).drop 0).map lvD) := .cons (.tup c1 (.cons (.tup c0 .nil) (.cons (.int 0) (.cons (.int 0) .nil)))) .nil
    generalize [t0] = as0 at c2 T0
    refine ⟨fun μ σ Hw => ∃ (fs : List WP) (at_ ℓ : Nat) (lv : Addr) (as : List Addr) (kvs : List (List L2.Key × V)) (o6 o7 o8 o9 o10 o11 : Option V), μ = ms.length * ts.length - at_ ∧ σ = [some (.ref a), some (.ref b), some (.ref tm), some (.ref tr), some (.ref kd), some (.ref lv), o6, o7, o8, o9, o10, o11, none, none] ∧ Same H2 Hw ∧ Hw kd = some (.dT kvs) ∧ KnAt kvs fs ∧ Hw lv = some (.lst (as.map V.ref)) ∧ TDs Hw (as.map V.ref) ((fs.drop at_).map lvD) ∧ Lv ms ts fs at_ ℓ,
      ⟨_, [([], (0, 0))], 0, 0, lv, as0, kv0, none, none, none, none, none, none, rfl, rfl, s24, d4, kn0, c2, T0, Lv.start mo to⟩, fun μ σ Hw ⟨fs, at_, ℓ, lv, as, kvs, o6, o7, o8, o9, o10, o11, eμ, eσ, sw, dw, kn, lw, TW, L⟩ => ?_⟩
    subst eμ
    subst eσ
    have fm := L.qu.most mo to
    have fm2 := L.qu.most2
    have lA : as.length = fs.length - at_ := by
      have z := TW.size
      rwa [List.length_map, List.length_map, List.length_drop] at z
    refine ⟨_, rfl, by show 0 ≤ sizeLine; decide, fun el hel => ?_⟩
    have se := same_new (o := .lst []) hel
    have sw2 := sw.trans se
    have dw2 := se _ _ dw
    have lw2 := se _ _ lw
    have TW2 := TDs.to (Tup.of se) TW
    have le_ : (upd Hw el (.lst [])) el = some (.lst []) := upd_same
    generalize upd Hw el (.lst []) = Hx at sw2 dw2 lw2 TW2 le_ ⊢
    refine ⟨lv, el, _, rfl, rfl, lw2, le_, _, rfl, ?_⟩
    by_cases lt : at_ < fs.length
    · have ne : (!(as.map V.ref).isEmpty) = true := by
        cases as with
        | nil => simp at lA; omega
        | cons x r => rfl
      rw [ne]
      refine iteT ⟨fun σ' H' => ∃ (fs' : List WP) (ℓ' : Nat) (lv' : Addr) (as' : List Addr) (kvs' : List (List L2.Key × V)) (p6 p7 p8 p9 p10 p11 : Option V), σ' = [some (.ref a), some (.ref b), some (.ref tm), some (.ref tr), some (.ref kd), some (.ref lv'), p6, p7, p8, p9, p10, p11, none, none] ∧ Same H2 H' ∧ H' kd = some (.dT kvs') ∧ KnAt kvs' fs' ∧ H' lv' = some (.lst (as'.map V.ref)) ∧ TDs H' (as'.map V.ref) ((fs'.drop fs.length).map lvD) ∧ Lv ms ts fs' fs.length ℓ',
        fun σ' H' ⟨fs', ℓ', lv', as', kvs', p6, p7, p8, p9, p10, p11, e, r1, r2, r3, r4, r5, r6⟩ => ⟨_, by omega, fs', fs.length, ℓ', lv', as', kvs', p6, p7, p8, p9, p10, p11, rfl, e, r1, r2, r3, r4, r5, r6⟩, ?_⟩
      refine ⟨by show 0 ≤ sizeLine; decide, fun al hal => ⟨by show 0 ≤ sizeLine; decide, fun ml hml => ⟨_, _, rfl, ?_⟩⟩⟩
      have y1 := same_new (o := .lst []) hal
      have y2 := y1.trans (same_new (o := .lst []) hml)
      have a5 : (upd (upd Hx al (.lst [])) ml (.lst [])) al = some (.lst []) := same_new hml _ _ upd_same
      have m5 : (upd (upd Hx al (.lst [])) ml (.lst [])) ml = some (.lst []) := upd_same
      have aml : al ≠ ml := ne_of_none (upd_same : (upd Hx al (.lst [])) al = some (.lst [])) hml
      have nal : H2 al = none := none_of sw2 hal
      have nml : H2 ml = none := none_of (sw2.trans y1) hml
      have sw5 := sw2.trans y2
      have dw5 := y2 _ _ dw2
      have lw5 := y2 _ _ lw2
      have TW5 := TDs.to (Tup.of y2) TW2
      generalize upd (upd Hx al (.lst [])) ml (.lst []) = H5 at a5 m5 sw5 dw5 lw5 TW5 ⊢
      have lz : as.length = (fs.drop at_).length := by rw [List.length_drop]; exact lA
      have zf := zip_fst lz
      have zs := zip_snd lz
      have eL : ((as.zip (fs.drop at_)).map fun q => V.ref q.1) = as.map V.ref := by
        have e : ((as.zip (fs.drop at_)).map fun q => V.ref q.1) = ((as.zip (fs.drop at_)).map Prod.fst).map V.ref := by rw [List.map_map]; rfl
        rw [e, zf]
      refine ⟨_, rfl, lv, as.zip (fs.drop at_), rfl, .inl (by rw [eL]; exact SqL.of lw5), fun q mq => TD.dp (zip_td TW5 q mq), fun d hd d' hd' => ?_, .inl fun d hd => ?_, fun q _ => depth_lv q.2, by rw [List.length_zip]; omega, fun p hp => ?_⟩
      · obtain ⟨q, _, rfl⟩ := List.mem_map.mp hd
        obtain ⟨r, _, rfl⟩ := List.mem_map.mp hd'
        exact alike_lv _ _
      · obtain ⟨q, _, rfl⟩ := List.mem_map.mp hd
        exact ⟨_, _, rfl⟩
      rw [sort_lv _ (by rw [zs]; exact L.asc), eL]
      have y3 := same_new (o := .lst (as.map V.ref)) hp
      have p6' : (upd H5 p (.lst (as.map V.ref))) p = some (.lst (as.map V.ref)) := upd_same
      have a6 := y3 _ _ a5
      have m6 := y3 _ _ m5
      have sw6 := sw5.trans y3
      have dw6 := y3 _ _ dw5
      have TW6 := TDs.to (Tup.of y3) TW5
      have pal : p ≠ al := fun z => by rw [z, a5] at hp; cases hp
      have pml : p ≠ ml := fun z => by rw [z, m5] at hp; cases hp
      generalize upd H5 p (.lst (as.map V.ref)) = H6 at p6' a6 m6 sw6 dw6 TW6 ⊢
      refine ⟨p, rfl, ⟨_, SqL.of p6'⟩, for_list (K := K) (a := p) (xs := as.map V.ref) (fun g σ H' => ∃ (fs' : List WP) (ap : List Wd) (aas mas : List Addr) (kvs' : List (List L2.Key × V)) (p8 p9 p10 p11 : Option V), σ = [some (.ref a), some (.ref b), some (.ref tm), some (.ref tr), some (.ref kd), some (.ref lv), some (.ref al), some (.ref ml), p8, p9, p10, p11, none, none] ∧ Same H2 H' ∧ H' kd = some (.dT kvs') ∧ KnAt kvs' fs' ∧ H' p = some (.lst (as.map V.ref)) ∧ TDs H' (as.map V.ref) ((fs.drop at_).map lvD) ∧ H' al = some (.lst (aas.map V.ref)) ∧ TDs H' (aas.map V.ref) (ap.map wordD) ∧ H' ml = some (.lst (mas.map V.ref)) ∧ TDs H' (mas.map V.ref) ((fs'.drop fs.length).map lvD) ∧ Le ms ts fs' at_ fs.length ℓ (at_ + g) ap ∧ (∀ k, k < fs.length → fs'[k]? = fs[k]?) ∧ aas.length ≤ 64 * g)
        ⟨fs, [], [], [], kvs, _, _, _, _, rfl, sw6, dw6, kn, p6', TW6, a6, .nil, m6, by rw [List.drop_length]; exact .nil, L.go, fun _ _ => rfl, Nat.zero_le _⟩ (fun g σ H' _ ⟨_, _, _, _, _, _, _, _, _, _, _, _, _, h, _⟩ => SqL.of h) (fun g x σ H' ex ⟨fs', ap, aas, mas, kvs', p8, p9, p10, p11, eσ, sw7, dw7, kn7, pw7, TW7, aw7, TA7, mw7, TM7, E7, old, az⟩ => ?_) fun σ H' ⟨fs', ap, aas, mas, kvs', p8, p9, p10, p11, eσ, sw7, dw7, kn7, pw7, TW7, aw7, TA7, mw7, TM7, E7, old, az⟩ => ?_⟩
      · rw [List.getElem?_map] at ex
        obtain ⟨ag, eag, rfl⟩ := Option.map_eq_some_iff.mp ex
        have lg := (List.getElem?_eq_some_iff.mp eag).1
        have lt2 : at_ + g < fs.length := by omega
        obtain ⟨⟨wd, ii, jj⟩, eq0⟩ : ∃ q, fs[at_ + g]? = some q := ⟨fs[at_ + g], List.getElem?_eq_getElem lt2⟩
        have eq1 : fs'[at_ + g]? = some (wd, (ii, jj)) := by rw [old _ lt2, eq0]
        obtain ⟨⟨n0, n1⟩, n2, n3⟩ := E7.qu.inn _ (List.mem_of_getElem? eq1)
        obtain ⟨i, ei⟩ := Int.eq_ofNat_of_zero_le n0
        obtain ⟨j, ej⟩ := Int.eq_ofNat_of_zero_le n2
        dsimp only at ei ej n1 n3
        subst ei
        subst ej
        have wl := E7.qu.len _ _ eq1
        have fm7 := E7.qu.most mo to
        dsimp only at wl
        obtain ⟨dv, edv, tdv⟩ := TW7.get (i := g) (v := .ref ag) (by rw [List.getElem?_map, eag]; rfl)
        rw [List.getElem?_map, List.getElem?_drop, eq0] at edv
        cases edv
        obtain ⟨xs3, hag, hx3⟩ := tdv.tup_of
        obtain ⟨pa, rfl, tpa⟩ : ∃ pa, xs3 = [V.ref pa, .int (i : Int), .int (j : Int)] ∧ TD H' (.ref pa) (wordD wd) := by
          cases hx3 with
          | cons h1 h2 =>
            cases h2 with
            | cons h3 h4 =>
              cases h4 with
              | cons h5 h6 =>
                cases h6
                cases h3
                cases h5
                obtain ⟨pa, _, rfl, _, _⟩ := TD.ref_of h1
                exact ⟨pa, rfl, h1⟩
        subst eσ
        refine ⟨ag, _, rfl, SqT.of hag, rfl, _, _, rfl, _, _, rfl, _, _, rfl, rfl, ?_⟩
        obtain ⟨s_, es⟩ : ∃ st, ms[i]? = some st := ⟨ms[i]'(by omega), List.getElem?_eq_getElem _⟩
        obtain ⟨t_, et⟩ : ∃ st, ts[j]? = some st := ⟨ts[j]'(by omega), List.getElem?_eq_getElem _⟩
        have sto := mo.all s_ (List.mem_of_getElem? es)
        have tto := to.all t_ (List.mem_of_getElem? et)
        have rdm : ∀ {H8 : Hp}, Same H2 H8 → ∃ (bs : List Addr) (d : Addr), H8 tm = some (.lst (bs.map V.ref)) ∧ atI (bs.map V.ref) (i : Int) = some (.ref d) ∧ H8 d = some (.dT (s_.map mvOf)) := fun {H8} sm => by
          obtain ⟨bs, h1, h2, h3⟩ := mv2.same sm
          have e : bs[i]? = some (bs[i]'(by omega)) := List.getElem?_eq_getElem _
          exact ⟨bs, _, h1, atI_nat (by rw [List.getElem?_map, e]; rfl), h3 i _ s_ e es⟩
        have rdr : ∀ {H8 : Hp}, Same H2 H8 → ∃ (bs : List Addr) (d : Addr), H8 tr = some (.lst (bs.map V.ref)) ∧ atI (bs.map V.ref) (j : Int) = some (.ref d) ∧ H8 d = some (.dT (t_.map mvOf)) := fun {H8} sm => by
          obtain ⟨bs, h1, h2, h3⟩ := mr.same sm
          have e : bs[j]? = some (bs[j]'(by omega)) := List.getElem?_eq_getElem _
          exact ⟨bs, _, h1, atI_nat (by rw [List.getElem?_map, e]; rfl), h3 j _ t_ e et⟩
        -- sorted(set(list(..) + list(..)))
        obtain ⟨bs, d, r1, r2, r3⟩ := rdm sw7
        have sf := sto.few
        have tf := tto.few
        refine ⟨_, rfl, _, rfl, tm, _, _, _, rfl, rfl, SqL.of r1, r2, d, _, rfl, r3, by rw [List.length_map]; omega, fun LA pA kA tA hA => ?_⟩
        have u1 := same_new (o := .lst (LA.map fun q => V.ref q.1)) hA
        obtain ⟨bs', d', q1, q2, q3⟩ := rdr (sw7.trans u1)
        refine ⟨_, rfl, _, rfl, tr, _, _, _, rfl, rfl, SqL.of q1, q2, d', _, rfl, q3, by rw [List.length_map]; omega, fun LB pB kB tB hB => ?_⟩
        have u2 := u1.trans (same_new (o := .lst (LB.map fun q => V.ref q.1)) hB)
        have lA' : LA.length = s_.length := by have z := congrArg List.length kA; rwa [List.length_map, List.length_map, List.length_map] at z
        have lB' : LB.length = t_.length := by have z := congrArg List.length kB; rwa [List.length_map, List.length_map, List.length_map] at z
        refine ⟨pA, pB, _, _, rfl, rfl, same_new hB _ _ upd_same, upd_same, small_len (m := 48) (by rw [List.length_map, List.length_map]; omega), fun pC hC => ?_⟩
        have u3 := u2.trans (same_new (o := .lst ((LA.map fun q => V.ref q.1) ++ LB.map fun q => V.ref q.1)) hC)
        have hC' : (upd (upd (upd H' pA (.lst (LA.map fun q => V.ref q.1))) pB (.lst (LB.map fun q => V.ref q.1))) pC (.lst ((LA.map fun q => V.ref q.1) ++ LB.map fun q => V.ref q.1))) pC = some (.lst ((LA ++ LB).map fun q => V.ref q.1)) := by rw [List.map_append]; exact upd_same
        have tC : ∀ q ∈ LA ++ LB, (upd (upd (upd H' pA (.lst (LA.map fun q => V.ref q.1))) pB (.lst (LB.map fun q => V.ref q.1))) pC (.lst ((LA.map fun q => V.ref q.1) ++ LB.map fun q => V.ref q.1))) q.1 = some (.tup (q.2.map kV)) := fun q m => by
          rcases List.mem_append.mp m with m | m
          · exact u3 _ _ (tA q m)
          · exact same_new hC _ _ (same_new hB _ _ (tB q m))
        generalize upd (upd (upd H' pA (.lst (LA.map fun q => V.ref q.1))) pB (.lst (LB.map fun q => V.ref q.1))) pC (.lst ((LA.map fun q => V.ref q.1) ++ LB.map fun q => V.ref q.1)) = HC at u3 hC' tC ⊢
        have evs : ∀ q ∈ LA ++ LB, ∃ e, q.2 = evK e ∧ (InE s_ e ∨ InE t_ e) := fun q m => by
          rcases List.mem_append.mp m with m | m
          · have z : q.2 ∈ (s_.map mvOf).map Prod.fst := by rw [← kA]; exact List.mem_map.mpr ⟨q, m, rfl⟩
            rw [List.map_map] at z
            obtain ⟨x, mx, e⟩ := List.mem_map.mp z
            exact ⟨evOf x, e.symm, .inl ⟨x, mx, rfl⟩⟩
          · have z : q.2 ∈ (t_.map mvOf).map Prod.fst := by rw [← kB]; exact List.mem_map.mpr ⟨q, m, rfl⟩
            rw [List.map_map] at z
            obtain ⟨x, mx, e⟩ := List.mem_map.mp z
            exact ⟨evOf x, e.symm, .inr ⟨x, mx, rfl⟩⟩
        have evs2 : ∀ e, InE s_ e ∨ InE t_ e → evK e ∈ (LA ++ LB).map Prod.snd := fun e h => by
          rw [List.map_append, kA, kB, List.map_map, List.map_map]
          rcases h with ⟨x, mx, rfl⟩ | ⟨x, mx, rfl⟩
          · exact List.mem_append_left _ (List.mem_map.mpr ⟨x, mx, rfl⟩)
          · exact List.mem_append_right _ (List.mem_map.mpr ⟨x, mx, rfl⟩)
        refine ⟨pC, LA ++ LB, rfl, SqL.of hC', fun q m => SqT.of (tC q m), by rw [List.length_append]; omega, fun a2 LS ha2 sub all nd => ?_⟩
        have u4 := u3.trans (same_new (o := SetO P w a2 LS) ha2)
        have tS : ∀ q ∈ LA ++ LB, (upd HC a2 (SetO P w a2 LS)) q.1 = some (.tup (q.2.map kV)) := fun q m => same_new ha2 _ _ (tC q m)
        refine ⟨a2, LS, rfl, upd_same, fun q m => SqT.of (tS q (sub q m)), fun d hd d' hd' => ?_, .inl fun d hd => ?_, fun L1 pE pm less nd1 hE => ?_⟩
        · obtain ⟨q, m, rfl⟩ := List.mem_map.mp hd
          obtain ⟨r, m', rfl⟩ := List.mem_map.mp hd'
          obtain ⟨x, ex, _⟩ := evs q (sub q m)
          obtain ⟨y, ey, _⟩ := evs r (sub r m')
          rw [ex, ey]
          rfl
        · obtain ⟨q, m, rfl⟩ := List.mem_map.mp hd
          obtain ⟨x, ex, _⟩ := evs q (sub q m)
          rw [ex]
          exact ⟨_, _, rfl⟩
        have inE0 : ∀ e, evK e ∈ L1.map Prod.snd → InE s_ e ∨ InE t_ e := fun e m => by
          obtain ⟨q, mq, eq⟩ := List.mem_map.mp m
          obtain ⟨e', h1, h2⟩ := evs q (sub q (pm.mem_iff.mp mq))
          rw [h1] at eq
          rw [← evK_inj eq]
          exact h2
        generalize Kd.SetO (cxOf CX0 P w K mg base nFi (Str.ofString "_law_first") (defScope sFirst) f cdv A outer s H E).nox.prog (cxOf CX0 P w K mg base nFi (Str.ofString "_law_first") (defScope sFirst) f cdv A outer s H E).nox.w a2 LS = so at hE ⊢
        have u4 := u3.trans (same_new (o := so) ha2)
        have tS : ∀ q ∈ LA ++ LB, (upd HC a2 so) q.1 = some (.tup (q.2.map kV)) := fun q m => same_new ha2 _ _ (tC q m)
        obtain ⟨ees, eK, eA, eM⟩ := sorted_asc L1 (fun q m => by
          obtain ⟨e, h, _⟩ := evs q (sub q (pm.mem_iff.mp m))
          exact ⟨e, h⟩) ((pm.map Prod.snd).nodup_iff.mpr nd)
        have mem1 : ∀ q ∈ L1.mergeSort (PySem.W.dataLe false fun q : Addr × List Key => tD q.2), q ∈ LA ++ LB := fun q m => sub q (pm.mem_iff.mp ((List.mergeSort_perm _ _).mem_iff.mp m))
        have allE : ∀ e, InE s_ e ∨ InE t_ e → e ∈ ees := fun e h => by
          have z := evs2 e h
          obtain ⟨q, mq, eq⟩ := List.mem_map.mp z
          have z2 := all q mq
          rw [← (pm.map Prod.snd).mem_iff, ← ((List.mergeSort_perm L1 (PySem.W.dataLe false fun q : Addr × List Key => tD q.2)).map Prod.snd).mem_iff, eK, eq] at z2
          obtain ⟨e', me, ee⟩ := List.mem_map.mp z2
          rw [← evK_inj ee]
          exact me
        have pEal : pE ≠ al := fun z => by rw [z, u4 _ _ aw7] at hE; cases hE
        have pEml : pE ≠ ml := fun z => by rw [z, u4 _ _ mw7] at hE; cases hE
        have pEkd : pE ≠ kd := fun z => by rw [z, u4 _ _ dw7] at hE; cases hE
        have kal : kd ≠ al := fun z => by rw [z, aw7] at dw7; cases dw7
        have kml : kd ≠ ml := fun z => by rw [z, mw7] at dw7; cases dw7
        have kp : kd ≠ p := fun z => by rw [z, pw7] at dw7; cases dw7
        have lM64 : (L1.mergeSort (PySem.W.dataLe false fun q : Addr × List Key => tD q.2)).length ≤ 64 := by rw [List.length_mergeSort, pm.length_eq]; omega
        have tE : ∀ q ∈ L1.mergeSort (PySem.W.dataLe false fun q : Addr × List Key => tD q.2), (upd (upd HC a2 so) pE (.lst ((L1.mergeSort (PySem.W.dataLe false fun q : Addr × List Key => tD q.2)).map fun q => V.ref q.1))) q.1 = some (.tup (q.2.map kV)) := fun q m => same_new hE _ _ (tS q (mem1 q m))
        have u5 := u4.trans (same_new (o := .lst ((L1.mergeSort (PySem.W.dataLe false fun q : Addr × List Key => tD q.2)).map fun q => V.ref q.1)) hE)
        have hE' : (upd (upd HC a2 so) pE (.lst ((L1.mergeSort (PySem.W.dataLe false fun q : Addr × List Key => tD q.2)).map fun q => V.ref q.1))) pE = some (.lst ((L1.mergeSort (PySem.W.dataLe false fun q : Addr × List Key => tD q.2)).map fun q => V.ref q.1)) := upd_same
        generalize upd (upd HC a2 so) pE (.lst ((L1.mergeSort (PySem.W.dataLe false fun q : Addr × List Key => tD q.2)).map fun q => V.ref q.1)) = HE at tE u5 hE' ⊢
        generalize L1.mergeSort (PySem.W.dataLe false fun q : Addr × List Key => tD q.2) = M at eK tE hE' lM64 ⊢
        refine ⟨pE, rfl, ⟨_, SqL.of hE'⟩, for_list (K := K) (a := pE) (xs := M.map fun q => V.ref q.1) (fun h σ Hn => ∃ (fs2 : List WP) (ap2 : List Wd) (aa2 ma2 : List Addr) (kv2 : List (List L2.Key × V)) (dn : List Stp) (o11 : Option V), σ = [some (.ref a), some (.ref b), some (.ref tm), some (.ref tr), some (.ref kd), some (.ref lv), some (.ref al), some (.ref ml), some (.ref pa), some (.int (i : Int)), some (.int (j : Int)), o11, none, none] ∧ Same H2 Hn ∧ Hn kd = some (.dT kv2) ∧ KnAt kv2 fs2 ∧ Hn p = some (.lst (as.map V.ref)) ∧ TDs Hn (as.map V.ref) ((fs.drop at_).map lvD) ∧ Hn al = some (.lst (aa2.map V.ref)) ∧ TDs Hn (aa2.map V.ref) (ap2.map wordD) ∧ Hn ml = some (.lst (ma2.map V.ref)) ∧ TDs Hn (ma2.map V.ref) ((fs2.drop fs.length).map lvD) ∧ Hn pE = some (.lst (M.map fun q => V.ref q.1)) ∧ (∀ q ∈ M, Hn q.1 = some (.tup (q.2.map kV))) ∧ TD Hn (.ref pa) (wordD wd) ∧ Lm ms ts fs2 at_ fs.length ℓ (at_ + g) ap2 (wd, ((i : Int), (j : Int))) s_ t_ (ees.take h) dn ∧ (∀ k, k < fs.length → fs2[k]? = fs[k]?) ∧ aa2.length ≤ 64 * g + h)
          ⟨fs', ap, aas, mas, kvs', [], _, rfl, sw7.trans u5, u5 _ _ dw7, kn7, u5 _ _ pw7, TDs.to (Tup.of u5) TW7, u5 _ _ aw7, TDs.to (Tup.of u5) TA7, u5 _ _ mw7, TDs.to (Tup.of u5) TM7, hE', tE, tpa.to (Tup.of u5), by rw [List.take_zero]; exact E7.mid eq1, old, by omega⟩
          (fun h σ Hn _ ⟨_, _, _, _, _, _, _, _, _, _, _, _, _, _, _, _, _, z, _⟩ => SqL.of z) (fun h x σ Hn ex ⟨fs2, ap2, aa2, ma2, kv2, dn, o11, eσ, sn, dn_, kn, pn, TWn, an, TAn, mn, TMn, En, tn, tpn, Ln, oldn, zn⟩ => ?_) fun σ Hn ⟨fs2, ap2, aa2, ma2, kv2, dn, o11, eσ, sn, dn_, kn, pn, TWn, an, TAn, mn, TMn, En, tn, tpn, Ln, oldn, zn⟩ => ?_⟩
        · rw [List.getElem?_map] at ex
          obtain ⟨q, eq, rfl⟩ := Option.map_eq_some_iff.mp ex
          have mq := List.mem_of_getElem? eq
          have z : (M.map Prod.snd)[h]? = (ees.map evK)[h]? := by rw [eK]
          rw [List.getElem?_map, List.getElem?_map, eq] at z
          obtain ⟨e, ee, eqk⟩ := Option.map_eq_some_iff.mp z.symm
          have hq : Hn q.1 = some (.tup ((evK e).map kV)) := by rw [eqk]; exact tn q mq
          have tk : ees.take (h + 1) = ees.take h ++ [e] := by rw [List.take_succ, ee]; rfl
          have up : ∀ e' ∈ ees.take h, evLt e' e := fun e' m => (List.pairwise_append.mp (by rw [List.take_append_drop]; exact eA : (ees.take h ++ ees.drop h).Pairwise evLt)).2.2 e' m e (List.mem_iff_getElem?.mpr ⟨0, by rw [List.getElem?_drop]; exact ee⟩)
          subst eσ
          obtain ⟨bs1, d1, g1, g2, g3⟩ := rdm sn
          obtain ⟨bs2, d2', f1, f2, f3⟩ := rdr sn
          refine ⟨_, rfl, _, rfl, _, rfl, tm, _, _, _, rfl, rfl, SqL.of g1, g2, d1, _, rfl, .inr ⟨_, evK e, q.1, .inl g3, rfl, hq, rfl⟩, _, rfl, _, rfl, _, rfl, tr, _, _, _, rfl, rfl, SqL.of f1, f2, d2', _, rfl, .inr ⟨_, evK e, q.1, .inl f3, rfl, hq, rfl⟩, rfl, _, rfl, ?_⟩
          have inE := inE0 e (eM e (List.mem_of_getElem? ee))
          obtain ⟨pvs, hpa, pvs5, pvl⟩ := wordTD tpn
          have lh : h < 64 := by have := (List.getElem?_eq_some_iff.mp eq).1; omega
          have mst := Ln.mi.most mo to
          rcases mv_val sto.asc e with ⟨ev1, no1⟩ | ⟨x, mx, ex1, evx, ux⟩
          · rcases mv_val tto.asc e with ⟨ev2, no2⟩ | ⟨y, my, ey1, evy, uy⟩
            · rcases inE with ⟨x, mx, ex⟩ | ⟨x, mx, ex⟩
              · exact absurd ex.symm (no1 x mx)
              · exact absurd ex.symm (no2 x mx)
            rw [ev1, evy]
            have sepE : SepAt s_ t_ e := .inr ⟨⟨y, my, ey1.symm⟩, fun ⟨x, mx, ex⟩ => no1 x mx ex.symm⟩
            refine iteT ⟨_, rfl, .inl ⟨rfl, _, SqL.of an⟩, _, rfl, _, rfl, by show 1 ≤ sizeLine; decide, fun x1 hx1 => ?_⟩
            have v1 := same_new (o := .tup [V.ref q.1]) hx1
            refine ⟨pa, x1, pvs, [.ref q.1], rfl, rfl, v1 _ _ hpa, upd_same, small_len (m := 1601) (by rw [List.length_singleton]; omega), fun r HR v2 hr' => ?_⟩
            have v12 := v1.trans v2
            have anR := v12 _ _ an
            refine ⟨al, _, _, rfl, rfl, anR, small_lt (m := 200000) (by rw [List.length_map]; omega), ?_⟩
            have tp : Tup HR (upd HR al (.lst (aa2.map V.ref ++ [.ref r]))) := Tup.at_ anR fun xs z => nomatch z
            have tp2 := (Tup.of v12).trans tp
            have nr : al ≠ r := fun z => by rw [z, hr'] at anR; cases anR
            obtain ⟨dn', Ln'⟩ := Ln.sep (Nat.le_add_right _ _) lt2 rfl es et sto.asc sepE
            refine ⟨fs2, ap2 ++ [wd ++ [e]], aa2 ++ [r], ma2, kv2, dn', _, rfl, fun y o e => by rw [upd_ne (ne_of_none e nal)]; exact v12 _ _ (sn _ _ e), by rw [upd_ne kal]; exact v12 _ _ dn_, kn, by rw [upd_ne pal]; exact v12 _ _ pn, TDs.to tp2 TWn, by rw [upd_same, List.map_append]; rfl, by rw [List.map_append, List.map_append]; exact TDs.snoc (wordTD_snoc (tp _ _ hr') (TDs.to tp2 pvs5) (tp2 _ _ hq)) (TDs.to tp2 TAn), by rw [upd_ne (Ne.symm aml)]; exact v12 _ _ mn, TDs.to tp2 TMn, by rw [upd_ne pEal]; exact v12 _ _ En, fun q m => tp2 _ _ (tn q m), tpn.to tp2, by rw [tk]; exact Ln', oldn, by rw [List.length_append, List.length_singleton]; omega⟩
          · rcases mv_val tto.asc e with ⟨ev2, no2⟩ | ⟨y, my, ey1, evy, uy⟩
            · rw [evx, ev2]
              have sepE : SepAt s_ t_ e := .inl ⟨⟨x, mx, ex1.symm⟩, fun ⟨y, my, ey⟩ => no2 y my ey.symm⟩
              refine iteT ⟨_, rfl, .inl ⟨rfl, _, SqL.of an⟩, _, rfl, _, rfl, by show 1 ≤ sizeLine; decide, fun x1 hx1 => ?_⟩
              have v1 := same_new (o := .tup [V.ref q.1]) hx1
              refine ⟨pa, x1, pvs, [.ref q.1], rfl, rfl, v1 _ _ hpa, upd_same, small_len (m := 1601) (by rw [List.length_singleton]; omega), fun r HR v2 hr' => ?_⟩
              have v12 := v1.trans v2
              have anR := v12 _ _ an
              refine ⟨al, _, _, rfl, rfl, anR, small_lt (m := 200000) (by rw [List.length_map]; omega), ?_⟩
              have tp : Tup HR (upd HR al (.lst (aa2.map V.ref ++ [.ref r]))) := Tup.at_ anR fun xs z => nomatch z
              have tp2 := (Tup.of v12).trans tp
              have nr : al ≠ r := fun z => by rw [z, hr'] at anR; cases anR
              obtain ⟨dn', Ln'⟩ := Ln.sep (Nat.le_add_right _ _) lt2 rfl es et sto.asc sepE
              refine ⟨fs2, ap2 ++ [wd ++ [e]], aa2 ++ [r], ma2, kv2, dn', _, rfl, fun y o e => by rw [upd_ne (ne_of_none e nal)]; exact v12 _ _ (sn _ _ e), by rw [upd_ne kal]; exact v12 _ _ dn_, kn, by rw [upd_ne pal]; exact v12 _ _ pn, TDs.to tp2 TWn, by rw [upd_same, List.map_append]; rfl, by rw [List.map_append, List.map_append]; exact TDs.snoc (wordTD_snoc (tp _ _ hr') (TDs.to tp2 pvs5) (tp2 _ _ hq)) (TDs.to tp2 TAn), by rw [upd_ne (Ne.symm aml)]; exact v12 _ _ mn, TDs.to tp2 TMn, by rw [upd_ne pEal]; exact v12 _ _ En, fun q m => tp2 _ _ (tn q m), tpn.to tp2, by rw [tk]; exact Ln', oldn, by rw [List.length_append, List.length_singleton]; omega⟩
            rw [evx, evy]
            subst ex1
            have v0 : Same Hn Hn := fun _ _ z => z
            have xo := sto.all x mx
            have yo := tto.all y my
            have nn := Ln.n0
            have lma : ma2.length = fs2.length - fs.length := by
              have z := TMn.size
              rwa [List.length_map, List.length_map, List.length_drop] at z
            refine iteF ⟨_, rfl, _, rfl, tm, _, _, _, rfl, rfl, SqL.of (v0 _ _ g1), g2, _, rfl, d1, .int x.2.2, rfl, .inr ⟨_, evK (evOf x), q.1, .inl (v0 _ _ g3), rfl, v0 _ _ hq, evx.symm⟩, _, rfl, _, rfl, tr, _, _, _, rfl, rfl, SqL.of (v0 _ _ f1), f2, _, rfl, d2', .int y.2.2, rfl, .inr ⟨_, evK (evOf x), q.1, .inl (v0 _ _ f3), rfl, v0 _ _ hq, evy.symm⟩, by show 2 ≤ sizeLine; decide, fun pr hpr => ?_⟩
            have v1 := same_new (o := .tup [V.int x.2.2, .int y.2.2]) hpr
            have pr1 : (upd Hn pr (.tup [V.int x.2.2, .int y.2.2])) pr = some (.tup [V.int x.2.2, .int y.2.2]) := upd_same
            generalize upd Hn pr (.tup [V.int x.2.2, .int y.2.2]) = HA at v1 pr1 ⊢
            refine ⟨_, rfl, kd, _, rfl, .inr ⟨kv2, pK (x.2.2, y.2.2), pr, .inl (v1 _ _ dn_), rfl, pr1, rfl⟩, _, rfl, ?_⟩
            rw [valV_in (show kv2.map Prod.fst = (fs2.map Prod.snd).map pK from kn)]
            by_cases mem2 : ((x.2.2, y.2.2) : IP) ∈ fs2.map Prod.snd
            · rw [decide_eq_true mem2]
              have t1 := Tup.of v1
              exact iteF ⟨fs2, ap2, aa2, ma2, kv2, _, _, rfl, sn.trans v1, v1 _ _ dn_, kn, v1 _ _ pn, TDs.to t1 TWn, v1 _ _ an, TDs.to t1 TAn, v1 _ _ mn, TDs.to t1 TMn, v1 _ _ En, fun q m => v1 _ _ (tn q m), tpn.to t1, by rw [tk]; exact Ln.skip sto.asc mx my ey1 uy up mem2, oldn, by omega⟩
            · rw [decide_eq_false mem2]
              refine iteT ⟨_, rfl, _, rfl, _, rfl, tm, _, _, _, rfl, rfl, SqL.of (v1 _ _ g1), g2, _, rfl, d1, .int x.2.2, rfl, .inr ⟨_, evK (evOf x), q.1, .inl (v1 _ _ g3), rfl, v1 _ _ hq, evx.symm⟩, _, rfl, _, rfl, tr, _, _, _, rfl, rfl, SqL.of (v1 _ _ f1), f2, _, rfl, d2', .int y.2.2, rfl, .inr ⟨_, evK (evOf x), q.1, .inl (v1 _ _ f3), rfl, v1 _ _ hq, evy.symm⟩, by show 2 ≤ sizeLine; decide, fun p2 hp2 => ?_⟩
              have v2 := v1.trans (same_new (o := .tup [V.int x.2.2, .int y.2.2]) hp2)
              have pr2 : (upd HA p2 (.tup [V.int x.2.2, .int y.2.2])) p2 = some (.tup [V.int x.2.2, .int y.2.2]) := upd_same
              generalize upd HA p2 (.tup [V.int x.2.2, .int y.2.2]) = HB at v2 pr2 ⊢
              have dB := v2 _ _ dn_
              refine ⟨kd, _, rfl, .inr ⟨kv2, pK (x.2.2, y.2.2), p2, dB, rfl, pr2, small_lt (m := 1600) (by rw [KnAt.len kn]; omega), rfl⟩, ?_⟩
              have tpB : Tup HB (upd HB kd (.dT (putK kv2 (pK (x.2.2, y.2.2)) (.bl true)))) := Tup.at_ dB fun xs z => nomatch z
              have but : ∀ b o, Hn b = some o → b ≠ kd → (upd HB kd (.dT (putK kv2 (pK (x.2.2, y.2.2)) (.bl true)))) b = some o := fun b o e nb => by
                rw [upd_ne nb]
                exact v2 _ _ e
              have sB : Same H2 (upd HB kd (.dT (putK kv2 (pK (x.2.2, y.2.2)) (.bl true)))) := fun b o e => by
                rw [upd_ne (ne_of_none e hkd)]
                exact v2 _ _ (sn _ _ e)
              have dC : (upd HB kd (.dT (putK kv2 (pK (x.2.2, y.2.2)) (.bl true)))) kd = some (.dT (putK kv2 (pK (x.2.2, y.2.2)) (.bl true))) := upd_same
              have t2 := (Tup.of v2).trans tpB
              generalize upd HB kd (.dT (putK kv2 (pK (x.2.2, y.2.2)) (.bl true))) = HD at but sB dC t2 ⊢
              have mD := but _ _ mn (Ne.symm kml)
              refine ⟨_, rfl, .inl ⟨rfl, _, SqL.of mD⟩, _, rfl, _, rfl, by show 1 ≤ sizeLine; decide, fun x1 hx1 => ?_⟩
              have w1 := same_new (o := .tup [V.ref q.1]) hx1
              refine ⟨pa, x1, pvs, [.ref q.1], rfl, rfl, w1 _ _ (t2 _ _ hpa), upd_same, small_len (m := 1601) (by rw [List.length_singleton]; omega), fun r HR w2 hr' => ?_⟩
              have w12 := w1.trans w2
              obtain ⟨bs3, d3', g1', g2', g3'⟩ := rdm (sB.trans w12)
              obtain ⟨bs4, d4', f1', f2', f3'⟩ := rdr (sB.trans w12)
              have hq' := w12 _ _ (t2 _ _ hq)
              refine ⟨_, rfl, _, rfl, tm, _, _, _, rfl, rfl, SqL.of g1', g2', _, rfl, d3', .int x.2.2, rfl, .inr ⟨_, evK (evOf x), q.1, .inl g3', rfl, hq', evx.symm⟩, _, rfl, _, rfl, tr, _, _, _, rfl, rfl, SqL.of f1', f2', _, rfl, d4', .int y.2.2, rfl, .inr ⟨_, evK (evOf x), q.1, .inl f3', rfl, hq', evy.symm⟩, by show 3 ≤ sizeLine; decide, fun t3 ht3 => ?_⟩
              have w3 := w12.trans (same_new (o := .tup [V.ref r, .int x.2.2, .int y.2.2]) ht3)
              have ht3' : (upd HR t3 (.tup [V.ref r, .int x.2.2, .int y.2.2])) t3 = some (.tup [V.ref r, .int x.2.2, .int y.2.2]) := upd_same
              have hr3 := same_new (o := .tup [V.ref r, .int x.2.2, .int y.2.2]) ht3 _ _ hr'
              generalize upd HR t3 (.tup [V.ref r, .int x.2.2, .int y.2.2]) = HF at w3 ht3' hr3 ⊢
              have mF := w3 _ _ mD
              refine ⟨ml, _, _, rfl, rfl, mF, small_lt (m := 1600) (by rw [List.length_map]; omega), ?_⟩
              have tpF : Tup HF (upd HF ml (.lst (ma2.map V.ref ++ [.ref t3]))) := Tup.at_ mF fun xs z => nomatch z
              have t3' := (t2.trans (Tup.of w3)).trans tpF
              have pmlE := pEml
              refine ⟨fs2 ++ [(wd ++ [evOf x], (x.2.2, y.2.2))], ap2, aa2, ma2 ++ [t3], _, _, _, rfl, fun b o e => by rw [upd_ne (ne_of_none e nml)]; exact w3 _ _ (sB _ _ e), by rw [upd_ne kml]; exact w3 _ _ dC, KnAt.put (q := (wd ++ [evOf x], (x.2.2, y.2.2))) kn mem2, by rw [upd_ne pml]; exact w3 _ _ (but _ _ pn (Ne.symm kp)), TDs.to t3' TWn, by rw [upd_ne aml]; exact w3 _ _ (but _ _ an (Ne.symm kal)), TDs.to t3' TAn, by rw [upd_same, List.map_append]; rfl, ?_, by rw [upd_ne pEml]; exact w3 _ _ (but _ _ En pEkd), fun q m => t3' _ _ (tn q m), tpn.to t3', by rw [tk]; exact Ln.put (Nat.le_add_right _ _) lt2 sto.asc mx my ey1 uy up mem2 rfl es et xo yo, fun kk lk => ?_, by omega⟩
              · rw [List.map_append, List.drop_append_of_le_length nn, List.map_append]
                exact TDs.snoc (.tup (tpF _ _ ht3') (.cons (wordTD_snoc (tpF _ _ hr3) (TDs.to t3' pvs5) (t3' _ _ hq)) (.cons (.int _) (.cons (.int _) .nil)))) (TDs.to t3' TMn)
              · rw [List.getElem?_append_left (by omega)]
                exact oldn kk lk
        · subst eσ
          rw [List.length_map] at Ln zn
          have lM : M.length = ees.length := by have z := congrArg List.length eK; rwa [List.length_map, List.length_map] at z
          rw [lM, List.take_length] at Ln
          exact ⟨fs2, ap2, aa2, ma2, kv2, _, _, _, _, rfl, sn, dn_, kn, pn, TWn, an, TAn, mn, TMn, Ln.next rfl es et allE, oldn, by omega⟩
      · rw [List.length_map] at E7
        have eb : at_ + as.length = fs.length := by omega
        rw [eb] at E7
        subst eσ
        have ll : ℓ ≤ at_ := by
          have e1 : fs[at_]? = some fs[at_] := List.getElem?_eq_getElem lt
          have q1 := L.len at_ _ (Nat.le_refl _) e1
          have q2 := L.qu.len at_ _ e1
          omega
        refine ⟨_, rfl, by show 0 ≤ sizeLine; decide, fun el2 hel2 => ?_⟩
        have y4 := same_new (o := .lst []) hel2
        have le2 : (upd H' el2 (.lst [])) el2 = some (.lst []) := upd_same
        have sw8 := sw7.trans y4
        have dw8 := y4 _ _ dw7
        have aw8 := y4 _ _ aw7
        have mw8 := y4 _ _ mw7
        have TA8 := TDs.to (Tup.of y4) TA7
        have TM8 := TDs.to (Tup.of y4) TM7
        generalize upd H' el2 (.lst []) = H8 at le2 sw8 dw8 aw8 mw8 TA8 TM8 ⊢
        refine ⟨al, el2, _, rfl, rfl, aw8, le2, _, rfl, ?_⟩
        have lzA : aas.length = ap.length := by
          have z := TA7.size
          rwa [List.length_map, List.length_map] at z
        cases aas with
        | nil =>
          have e0 : ap = [] := List.length_eq_zero_iff.mp lzA.symm
          subst e0
          exact iteF ⟨_, rfl, fs', ℓ + 1, ml, mas, kvs', _, _, _, _, _, _, rfl, sw8, dw8, kn7, mw8, TM8, E7.up⟩
        | cons a1 aas =>
          cases ap with
          | nil => simp at lzA
          | cons w1 ap =>
            have lzB : aas.length = ap.length := by simpa using lzA
            have eA : (((a1, w1) :: aas.zip ap).map fun q : Addr × Wd => V.ref q.1) = (a1 :: aas).map V.ref := by
              have e : (((a1, w1) :: aas.zip ap).map fun q : Addr × Wd => V.ref q.1) = (((a1, w1) :: aas.zip ap).map Prod.fst).map V.ref := by rw [List.map_map]; rfl
              rw [e, List.map_cons, zip_fst lzB]
            have eD : ((aas.zip ap).map fun q : Addr × Wd => wordD q.2) = ap.map wordD := by
              have e : ((aas.zip ap).map fun q : Addr × Wd => wordD q.2) = ((aas.zip ap).map Prod.snd).map wordD := by rw [List.map_map]; rfl
              rw [e, zip_snd lzB]
            have td : ∀ q ∈ (a1, w1) :: aas.zip ap, TD H8 (.ref q.1) (wordD q.2) := fun q mq => zip_td (as := a1 :: aas) (qs := w1 :: ap) TA8 q mq
            refine iteT ⟨_, rfl, al, (a1, w1), aas.zip ap, rfl, by rw [eA]; exact aw8, fun q mq => TD.dp (td q mq), ⟨fun d hd d' hd' => ?_, fun d hd => ?_⟩, fun q _ => by have := depth_word q.2; omega, fun q mq eq => ?_⟩
            · obtain ⟨q, _, rfl⟩ := List.mem_map.mp hd
              obtain ⟨r, _, rfl⟩ := List.mem_map.mp hd'
              exact alike_word _ _
            · obtain ⟨q, _, rfl⟩ := List.mem_map.mp hd
              exact fun z => nomatch z
            obtain ⟨r, mr, er, low⟩ := minD_word ap w1
            rw [eD, er] at eq
            have qr := word_inj eq
            have rl := (E7.ap1 r mr).2
            exact k (.ref q.1) (some q.2) H8 (s12.trans sw8) ⟨q.1, rfl, td q mq⟩ (fun u e => by cases e; rw [qr]; omega) (by rw [qr]; exact E7.least mr low)
    · have e0 : as = [] := List.length_eq_zero_iff.mp (by omega)
      subst e0
      have ea : at_ = fs.length := by have := L.qu.le; omega
      subst ea
      exact iteF (k .non none _ (s12.trans sw2) rfl (fun w e => (nomatch e)) L.none_)
end
end My

-- ===== K7V =====
set_option Elab.async false
set_option linter.all false
set_option maxRecDepth 100000
set_option maxHeartbeats 4000000
namespace My
open PySem L2 PyProof.Rows PySem.Spec
/-! ### the end of a law with one table of code -/
theorem law_callT {P : Program} {w : World} {K : PySem.W.Frag} {mg mb : Str → Option Value} {CX : CXT} {k : Nat} {fa a c Pt : Addr} {fd : FuncData} {x : Str} {sp : Sp} {s₁ : Shared} {vs : List Value} {ns : List Int}
    (KX : K.In s₁.heap) (hns : s₁.heap.Ns mainGlobals mg) (hb : s₁.heap.Ns builtinsNs mb) (hbb : ∀ x : Str, x ≠ "__name__" → mb x = bootBuiltins x) (hlim : s₁.heap.NoLimit) (hg : s₁.gens = #[])
    (ht : s₁.heap.get? Pt = some (PySem.W.tabObj #[])) (hkp : K.lookup Pt = none) (hcd : PySem.W.CodeHd s₁.heap c Pt)
    (hbm : ∃ bm ob, mg "__builtins__" = some (.ref bm) ∧ bm ≠ builtinsNs ∧ s₁.heap.get? bm = some ob ∧ ob.cls = .type "module" ∧ ob.dict = some builtinsNs ∧ ob.data = .plain)
    (ha : s₁.heap.get? a = some { cls := .type "list", data := .seq vs.toArray }) (hi : IntsAre vs ns) (hl : ns.length ≤ sizeLine) (hr : Room k callerA)
    (F : ∀ base : Heap, K.In base → base.Ns mainGlobals mg → LamX.TabB base mg c Pt → FnG true (fun A => A.guards = some []) P w K mg base CX k fa fd [x] sp) (hbind : ∀ (s : Shared) (u : Value), BindsTo s fd ⟨[u], []⟩ [(x, u)])
    (hsp : ∀ H : Hp, H Pt = some (.tbl #[]) → SqL K H a (ns.map V.int) → sp [.ref a] H (fun v _ => v = .bl true) fun _ _ _ => False)
    (hCX : ∀ H e s', CX [] H s₁ (fun _ _ _ => False) e s' → False) :
    codeAny (model P w) callerA (.call (.ref fa) ⟨[.ref a], []⟩) (fun r s' => r = .ok (.ret (.bool true)) ∧ OldK s₁.heap s'.heap ∧ s'.os = s₁.os ∧ AllBare s'.gens) s₁ := by
  have rv := vals_ints hi
  have lenV := hi.length
  have aP : a ≠ Pt := fun z => by
    rw [z, ht] at ha
    cases ha
  have core : ∀ H : Hp, H Pt = some (.tbl #[]) → (∀ b, b ≠ Pt → H b = none ∨ ∃ o xs, H b = some (.frz o (.lst xs))) → SqL K H a (ns.map V.int) → HOk P w H s₁.heap → (∀ b, H b ≠ none → b = a ∨ b = Pt) → (H a ≠ none → K.lookup a = none) →
      codeAny (model P w) callerA (.call (.ref fa) ⟨[.ref a], []⟩) (fun r s' => r = .ok (.ret (.bool true)) ∧ OldK s₁.heap s'.heap ∧ s'.os = s₁.os ∧ AllBare s'.gens) s₁ := by
    intro H hP hO hS hok hA hK
    have base_of : ∀ {b : Addr} {o : Obj}, s₁.heap.get? b = some o → H b = none → (hidT s₁.heap H).get? b = some o := fun e n => hidT_get e n
    have no_ : ∀ {b : Addr} {o : Obj}, s₁.heap.get? b = some o → (∀ es, o.data ≠ .seq es) → (∀ es, o.data ≠ .fields es ∨ b ≠ Pt) → H b = none := fun {b o} e d1 d2 => by
      cases q : H b with
      | none => rfl
      | some u =>
        rcases hA b (by rw [q]; simp) with rfl | rfl
        · rw [ha] at e
          cases e
          exact absurd rfl (d1 _)
        · rw [ht] at e
          cases e
          rcases d2 #[] with z | z
          · exact absurd rfl z
          · exact absurd rfl z
    have noA : ∀ {b : Addr} {o : Obj} {es : Array DictEntry} {ep : Nat}, s₁.heap.get? b = some o → o.data = .dict es ep → H b = none := fun {b o es ep} e d => no_ e (fun es z => by rw [d] at z; cases z) fun es => .inl fun z => by rw [d] at z; cases z
    have nsK : ∀ {b : Addr} {m : Str → Option Value}, s₁.heap.Ns b m → (hidT s₁.heap H).Ns b m := fun {b m} ⟨o, es, ep, e, d, r⟩ => ⟨o, es, ep, base_of e (noA e d), d, r⟩
    have hKb : K.In (hidT s₁.heap H) := fun b o e => base_of (KX b o e) (by
      cases q : H b with
      | none => rfl
      | some u =>
        rcases hA b (by rw [q]; simp) with rfl | rfl
        · rw [hK (by rw [q]; simp)] at e
          cases e
        · rw [hkp] at e
          cases e)
    have hM : Mod K mg (hidT s₁.heap H) := ⟨hKb, nsK hns, ⟨mb, nsK hb, hbb⟩, let ⟨mc, h1, h2⟩ := hlim; ⟨mc, nsK h1, h2⟩⟩
    have e0 : Env0 P w K mg (hidT s₁.heap H) callerA [] s₁ H := ⟨rfl, hM, fun b o e => of_hidT e, Nat.le_of_eq (hidT_size _ _), trivial, fun b hb => absurd (show b ∈ ([] : List Addr) from hb) (by simp), hok, .of_eq hg⟩
    obtain ⟨co, cvs, file, tf, flags, tg, inF, text, tt, c1, c2, c3, c4, c5, c6, c7, c8, c9, c10⟩ := id hcd
    have tb : LamX.TabB (hidT s₁.heap H) mg c Pt := by
      obtain ⟨bm, ob, m1, m2, m3, m4, m5, m6⟩ := hbm
      have bP : bm ≠ Pt := fun z => by
        rw [z, ht] at m3
        cases m3
        cases m4
      refine ⟨⟨co, cvs, file, tf, flags, tg, inF, text, tt, base_of c1 (no_ c1 (fun es z => by rw [c3] at z; cases z) fun es => .inr c10), c2, c3, c4, c5, c6, c7, c8, c9, c10⟩, ⟨bm, ob, m1, m2, fun z => ?_, bP, base_of m3 (no_ m3 (fun es z => by rw [m6] at z; cases z) fun es => .inr bP), m4, m5, m6⟩, fun z => ?_⟩
      · obtain ⟨o, es, ep, e, d, _⟩ := hns
        rw [← z, m3] at e
        cases e
        rw [m6] at d
        cases d
      · obtain ⟨o, es, ep, e, d, _⟩ := hns
        rw [z, ht] at e
        cases e
        cases d
    refine codeAny_mono ((F _ hKb (nsK hns) tb).run callerA [] s₁ H ⟨[.ref a], []⟩ [.ref a] [.ref a] _ _ (fun _ => rfl) rfl (L2H.roomH_of hr) e0 (hbind s₁ (.ref a)) (.cons rfl .nil) (hsp H hP hS)) fun r s' h => ?_
    cases r with
    | error e => exact (hCX H e s' h).elim
    | ok fl =>
      cases fl with
      | next => exact False.elim h
      | brk => exact False.elim h
      | cont => exact False.elim h
      | ret u =>
        obtain ⟨v, H', os, bare, un, hok', r', q⟩ := h
        have q' : v = .bl true := q
        subst q'
        obtain rfl : u = Value.bool true := r'
        refine ⟨rfl, ⟨fun b o e => ?_, fun b o e => un.there b o e (by simp)⟩, os, bare⟩
        cases q : H b with
        | none => exact .inl (un.keep b o e q (by intro z; exact absurd (show b ∈ ([] : List Addr) from z) (by simp)) (by simp))
        | some u =>
          by_cases bp : b = Pt
          · subst bp
            rw [ht] at e
            cases e
            obtain ⟨more, z⟩ := un.tbls b _ hP
            have z2 : s'.heap.get? b = some { cls := Value.none, data := Data.fields (#[] ++ more) } := hok' b _ z
            exact .inr (.inl ⟨⟨c, co, cvs, c1, c2, c3, c4⟩, rfl, #[], more, rfl, z2⟩)
          · rcases hO b bp with z | ⟨ob, xs, z⟩
            · rw [q] at z; cases z
            · have z2 := un.frzs b ob _ z
              obtain ⟨e1, _⟩ := hok b _ z
              obtain ⟨e2, _⟩ := hok' b _ z2
              rw [e] at e1; cases e1
              exact .inl e2
  cases hk : K.lookup a with
  | some o =>
    have e := KX a o hk
    rw [ha] at e
    cases e
    refine core (fun b => if b = Pt then some (.tbl #[]) else none) (if_pos rfl) (fun b nb => .inl (if_neg nb)) (.inr ⟨_, vs.toArray, _, hk, rfl, rfl, rfl, by rw [List.size_toArray, lenV]; exact hl, by simpa using rv⟩) (fun b u z => ?_) (fun b z => ?_) fun z => absurd (if_neg aP) z
    · by_cases hb : b = Pt
      · have z' := (if_pos hb).symm.trans z
        cases z'
        subst hb
        exact ht
      · have z' := (if_neg hb).symm.trans z
        cases z'
    · by_cases hb : b = Pt
      · exact .inr hb
      · exact absurd (if_neg hb) z
  | none =>
    have hA : (fun b => if b = a then some (HO.frz { cls := .type "list", data := .seq vs.toArray } (.lst (ns.map V.int))) else if b = Pt then some (.tbl #[]) else none : Hp) Pt = some (.tbl #[]) := (if_neg (Ne.symm aP)).trans (if_pos rfl)
    refine core (fun b => if b = a then some (.frz { cls := .type "list", data := .seq vs.toArray } (.lst (ns.map V.int))) else if b = Pt then some (.tbl #[]) else none) hA (fun b nb => ?_) (.inl (.inr ⟨{ cls := .type "list", data := .seq vs.toArray }, if_pos rfl⟩)) (fun b u z => ?_) (fun b z => ?_) fun _ => hk
    · by_cases hb : b = a
      · exact .inr ⟨_, _, if_pos hb⟩
      · exact .inl ((if_neg hb).trans (if_neg nb))
    · by_cases hb : b = a
      · have z' := (if_pos hb).symm.trans z
        cases z'
        subst hb
        exact ⟨ha, by rw [List.length_map]; exact hl, vs, _, rv, ha⟩
      · by_cases hc : b = Pt
        · have z' := ((if_neg hb).trans (if_pos hc)).symm.trans z
          cases z'
          subst hc
          exact ht
        · have z' := ((if_neg hb).trans (if_neg hc)).symm.trans z
          cases z'
    · by_cases hb : b = a
      · exact .inl hb
      · by_cases hc : b = Pt
        · exact .inr hc
        · exact absurd ((if_neg hb).trans (if_neg hc)) z
theorem walk_ofT {l : PySem.W.OpenLaw} {n k : Nat} {q : Program} {loose : List Str} {XP : (Str → Option Value) → Heap → Prop} {YP : World → Heap → Prop} {d : DefRec} {K : Params → PySem.W.Frag} {sp : PySem.W.Frag → Addr → Sp} {x : Str} {c Pt : Addr}
    (hn : l.most = some n) (hn2 : n ≤ sizeLine) (hdf : d.params.defaults = []) (hr : Room k callerA) (hY : ∀ (w : World) (h : Heap), YP w h → (K w.params).In h) (hT : ∀ (w : World) (h : Heap), YP w h → h.get? Pt = some (PySem.W.tabObj #[]))
    (hkp : ∀ w : World, (K w.params).lookup Pt = none) (hcd : ∀ (w : World) (h : Heap), (K w.params).In h → PySem.W.CodeHd h c Pt)
    (F : ∀ (w : World) (mg : Str → Option Value) (fa : Addr) (h : Heap), (K w.params).In h → h.Ns mainGlobals mg → mg d.name = some (.ref fa) →
      ∃ fd : FuncData, (∀ (s : Shared) (u : Value), BindsTo s fd ⟨[u], []⟩ [(x, u)]) ∧ ∀ base : Heap, (K w.params).In base → base.Ns mainGlobals mg → LamX.TabB base mg c Pt → FnG true (fun A => A.guards = some []) l.prog w (K w.params) mg base CX0 k fa fd [x] (sp (K w.params) Pt))
    (hsp : ∀ (K : PySem.W.Frag) (H : Hp) (a : Addr) (ns : List Int), ns.length ≤ n → (∀ z ∈ ns, Builtin.Int.intBits z ≤ 1048576) → H Pt = some (.tbl #[]) → SqL K H a (ns.map V.int) → sp K Pt [.ref a] H (fun v _ => v = .bl true) fun _ _ _ => False) :
    PySem.W.WalkO q loose XP YP l.row.toRowW d [] (fun f vs => PySem.call f vs) := by
  refine Att.attach_callB hn hdf fun w s₀ s₁ mg mb fa o pm cd doc a vs ns G Y ho hd hcd' hmg hobj hints hlen hbits hg => ?_
  have KX := hY w _ Y
  obtain ⟨fd, hb, hF⟩ := F w mg fa _ KX G.T.g hmg
  exact law_callT KX G.T.g G.T.b G.T.builtins G.T.nolimit hg (hT w _ Y) (hkp w) (hcd w _ KX) G.T.bmain hobj hints (Nat.le_trans hlen hn2) hr hF hb (fun H hP hS => hsp _ H a ns hlen hbits hP hS) fun _ _ _ z => z
end My

-- ===== K7E1 =====
set_option Elab.async false
set_option linter.all false
set_option maxRecDepth 100000
set_option maxHeartbeats 4000000
namespace My
open PySem L2 PyProof.Rows PySem.Spec Kd TL StX ClX
/-- where a word leads in one machine -/
inductive LedW (ss : List (List Stp)) : Wd → Option Int → Prop
  | nil : LedW ss [] (some 0)
  | step {w : Wd} {i : Nat} {st : List Stp} {y : Stp} : LedW ss w (some (i : Int)) → ss[i]? = some st → y ∈ st → LedW ss (w ++ [evOf y]) (some y.2.2)
  | stop {w : Wd} {i : Nat} {st : List Stp} {e : Ev} : LedW ss w (some (i : Int)) → ss[i]? = some st → (∀ y ∈ st, e ≠ evOf y) → LedW ss (w ++ [e]) none
  | gone {w : Wd} {e : Ev} : LedW ss w none → LedW ss (w ++ [e]) none
theorem LedW.one {ss : List (List Stp)} (so : KOk ss) {w : Wd} {o : Option Int} (h : LedW ss w o) : ∀ {o'}, LedW ss w o' → o = o' := by
  induction h with
  | nil =>
    intro o' g
    generalize hv : ([] : Wd) = v at g
    cases g with
    | nil => rfl
    | step => exact absurd hv (by simp)
    | stop => exact absurd hv (by simp)
    | gone => exact absurd hv (by simp)
  | @step w i st y h1 es my ih =>
    intro o' g
    generalize hv : w ++ [evOf y] = v at g
    cases g with
    | nil => exact absurd hv (by simp)
    | @step w2 i2 st2 y2 g1 es2 my2 =>
      obtain ⟨hw, hx⟩ := List.append_inj' hv rfl
      subst hw
      have z := Option.some.inj (ih g1)
      have ii : i = i2 := by omega
      subst ii
      rw [es] at es2
      cases es2
      rw [one_row (so.all st (List.mem_of_getElem? es)).asc my my2 (List.cons.inj hx).1]
    | @stop w2 i2 st2 e2 g1 es2 no =>
      obtain ⟨hw, hx⟩ := List.append_inj' hv rfl
      subst hw
      have z := Option.some.inj (ih g1)
      have ii : i = i2 := by omega
      subst ii
      rw [es] at es2
      cases es2
      exact absurd (List.cons.inj hx).1.symm (no y my)
    | @gone w2 e2 g1 =>
      obtain ⟨hw, hx⟩ := List.append_inj' hv rfl
      subst hw
      exact nomatch ih g1
  | @stop w i st e h1 es no ih =>
    intro o' g
    generalize hv : w ++ [e] = v at g
    cases g with
    | nil => exact absurd hv (by simp)
    | @step w2 i2 st2 y2 g1 es2 my2 =>
      obtain ⟨hw, hx⟩ := List.append_inj' hv rfl
      subst hw
      have z := Option.some.inj (ih g1)
      have ii : i = i2 := by omega
      subst ii
      rw [es] at es2
      cases es2
      exact absurd (List.cons.inj hx).1 (no y2 my2)
    | stop => rfl
    | gone => rfl
  | @gone w e h1 ih =>
    intro o' g
    generalize hv : w ++ [e] = v at g
    cases g with
    | nil => exact absurd hv (by simp)
    | @step w2 i2 st2 y2 g1 es2 my2 =>
      obtain ⟨hw, hx⟩ := List.append_inj' hv rfl
      subst hw
      exact nomatch ih g1
    | stop => rfl
    | gone => rfl
theorem RunW.led {ms ts : List (List Stp)} {w : Wd} {i j : Int} (r : RunW ms ts w i j) : LedW ms w (some i) ∧ LedW ts w (some j) := by
  induction r with
  | base => exact ⟨.nil, .nil⟩
  | step _ e1 e2 mx my ev ih => exact ⟨.step ih.1 e1 mx, by rw [ev]; exact .step ih.2 e2 my⟩
theorem BeyW.led {ms ts : List (List Stp)} {w : Wd} (h : BeyW ms ts w) : ∃ (v : Wd) (e : Ev) (a b c : Int), w = v ++ [e] ∧ LedW ms v (some a) ∧ LedW ts v (some b) ∧ LedW ms w (some c) ∧ LedW ts w none := by
  obtain ⟨v, i, j, s, t, x, r, e1, e2, mx, n, rfl⟩ := h
  obtain ⟨l1, l2⟩ := r.led
  exact ⟨v, evOf x, i, j, _, rfl, l1, l2, .step l1 e1 mx, .stop l2 e2 n⟩
theorem LedW.low {ss : List (List Stp)} (so : KOk ss) {w : Wd} {i : Int} (h : LedW ss w (some i)) : 0 ≤ i ∧ i < (ss.length : Int) := by
  cases h with
  | nil => have := so.one; exact ⟨Int.le_refl _, by omega⟩
  | @step w i st y _ es my =>
    have z := (so.all st (List.mem_of_getElem? es)).all y my
    exact ⟨z.lo, z.hi⟩
theorem ev_of {H : Hp} {v : V} {e : Ev} (h : TD H v (tD (evK e))) : ∃ q, v = .ref q ∧ H q = some (.tup ((evK e).map kV)) := by
  obtain ⟨q, xs, rfl, hq, hx⟩ := TD.ref_of h
  refine ⟨q, rfl, ?_⟩
  rw [hq]
  cases hx with
  | cons h1 h2 =>
    cases h2 with
    | cons h3 h4 =>
      cases h4
      cases h1
      cases h3
      rfl
def VAt : Option Int → V
  | none => .non
  | some i => .int i
def spEnd (C : Addr) : Sp := fun vs H Q _ => ∃ (v : V) (a : Addr) (ss : List (List Stp)) (w : Wd), vs = [v, .ref a] ∧ KindAt C H v ss ∧ KOk ss ∧ TD H (.ref a) (wordD w) ∧ ∀ (o : Option Int) (H' : Hp), Same H H' → LedW ss w o → Q (VAt o) H'
section
variable {P : Program} {w : World} {K : PySem.W.Frag} {mg : Str → Option Value} {base : Heap} {C : Addr}
abbrev nEd : List Str := ["_law_made", "_law_sequence", "_law_here", "_law_event"]
theorem scEd : FnScope nEd ["_law_made", "_law_sequence"] (defScope sEnd) := ⟨rfl, rfl, rfl, by decide +kernel, rfl, by decide +kernel, by decide +kernel⟩
theorem ok_end {f gL : Addr} {fd : FuncData} (F : Fun K "_law_end" "_law_end" sEnd f fd) (cl : Cls K C) (hm : Meth K C "led" gL) (GL : FnR P w K mg base CX0 2 gL (spLedR C)) :
    FnOk P w K mg base CX0 3 f fd ["_law_made", "_law_sequence"] (spEnd C) := by
  refine F.ok scEd (fun vs H Q E h => ?_) (fun cdv A outer s H vs Q E hr h => ?_)
  · obtain ⟨v, a, ss, w, rfl, _⟩ := h
    rfl
  · obtain ⟨v, a, ss, wd, rfl, hk, so, ht, k⟩ := h
    refine ⟨_, pss_cons (ps_set (i := 2) scEd.nd rfl (Or.inl rfl) pe_int)
      (pss_cons (ps_for PassesOwn.never rfl (pi_tup (pv 1)) (pg_name (i := 3) scEd.nd rfl (Or.inl rfl))
        (pss_one (ps_set (i := 2) scEd.nd rfl (Or.inl rfl) (pe_ifExp (pt_cmp (pc_isN (pv 2))) pe_non (pe_methR (pl := _) (pv 0) cl hm GL hr pass0 (pa_cons (pv 2) (pa_cons (pv 3) pa_nil)))))))
      (pss_one (ps_ret (pv 2)))), ?_⟩
    obtain ⟨xs, ha, hxs, lx⟩ := wordTD ht
    refine ⟨_, rfl, a, rfl, ⟨_, SqT.of ha⟩, for_tup (K := K) (a := a) (xs := xs) (fun j σ H' => ∃ (o : Option Int) (o3 : Option V), σ = [some v, some (.ref a), some (VAt o), o3] ∧ Same H H' ∧ LedW ss (wd.take j) o) ⟨some 0, none, rfl, fun a o e => e, by rw [List.take_zero]; exact .nil⟩ (fun j σ H' _ ⟨_, _, _, s1, _⟩ => SqT.of (s1 _ _ ha)) (fun j x σ H' ex ⟨o, o3, eσ, s1, l1⟩ => ?_) fun σ H' ⟨o, o3, eσ, s1, l1⟩ => ?_⟩
    · subst eσ
      obtain ⟨d, ed, td⟩ := hxs.get ex
      rw [List.getElem?_map] at ed
      obtain ⟨e, ee, rfl⟩ := Option.map_eq_some_iff.mp ed
      obtain ⟨q, rfl, hq⟩ := ev_of td
      have tk : wd.take (j + 1) = wd.take j ++ [e] := by rw [List.take_succ, ee]; rfl
      refine ⟨_, rfl, _, rfl, ?_⟩
      cases o with
      | none =>
        refine iteT ⟨none, _, rfl, s1, ?_⟩
        rw [tk]
        exact .gone l1
      | some i0 =>
        obtain ⟨lo, hi⟩ := l1.low so
        obtain ⟨i, rfl⟩ := Int.eq_ofNat_of_zero_le lo
        have hk' := hk.same s1
        obtain ⟨ob, dx, as, m, rfl, ho, _, _⟩ := id hk'
        obtain ⟨st, es⟩ : ∃ st, ss[i]? = some st := ⟨ss[i]'(by omega), List.getElem?_eq_getElem _⟩
        refine iteF ⟨_, rfl, ob, dx, _, rfl, ho, rfl, _, rfl, _, rfl, [.ref ob, .int i], [.ref q], rfl, rfl, by show 1 ≤ sizeLine; decide, fun p hp => ?_⟩
        have s2 := same_new (o := .tup [V.ref q]) hp
        refine ⟨.ref ob, p, q, i, e, ss, st, rfl, hk'.same s2, so, es, upd_same, s2 _ _ (s1 _ _ hq), fun no => ⟨none, _, rfl, s1.trans s2, ?_⟩, fun y my ey => ⟨some y.2.2, _, rfl, s1.trans s2, ?_⟩⟩
        · rw [tk]
          exact .stop l1 es no
        · rw [tk, ey]
          exact .step l1 es my
    · subst eσ
      rw [lx, List.take_length] at l1
      exact ⟨_, rfl, k o H' s1 l1⟩
end
end My

-- ===== K7X0 =====
set_option Elab.async false
set_option linter.all false
set_option maxRecDepth 100000
set_option maxHeartbeats 4000000
namespace My
open PySem L2 PyProof.Rows PySem.Spec Kd TL StX ClX
/-! ### words in states: how long they are shown -/
theorem run_wrd {ms ts : List (List Stp)} (mo : KOk ms) {w : Wd} {i j : Int} (r : RunW ms ts w i j) : ∀ e ∈ w, Wrd e.1 ∧ Wrd e.2 := by
  induction r with
  | base => exact fun e m => nomatch m
  | @step w i j s t x y _ e1 _ mx _ _ ih =>
    intro e m
    rcases List.mem_append.mp m with m | m
    · exact ih e m
    · rw [List.mem_singleton.mp m]
      have z := (mo.all s (List.mem_of_getElem? e1)).all x mx
      exact ⟨z.w1, z.w2⟩
theorem bey_wrd {ms ts : List (List Stp)} (mo : KOk ms) {w : Wd} (h : BeyW ms ts w) : ∀ e ∈ w, Wrd e.1 ∧ Wrd e.2 := by
  obtain ⟨v, i, j, s, t, x, r, e1, e2, mx, n, rfl⟩ := h
  intro e m
  rcases List.mem_append.mp m with m | m
  · exact run_wrd mo r e m
  · rw [List.mem_singleton.mp m]
    have z := (mo.all s (List.mem_of_getElem? e1)).all x mx
    exact ⟨z.w1, z.w2⟩
theorem sep_wrd {ms ts : List (List Stp)} (mo : KOk ms) (to : KOk ts) {w : Wd} (h : SepW ms ts w) : ∀ e ∈ w, Wrd e.1 ∧ Wrd e.2 := h.elim (bey_wrd mo) (bey_wrd to)
def oD : Option Wd → PyData
  | none => .none
  | some w => wordD w
theorem WAt.dq {H : Hp} {v : V} : ∀ {o : Option Wd}, WAt H v o → Dq (fun _ => True) H v (oD o)
  | none, h => by rw [show v = V.non from h]; exact .non
  | some w, ⟨a, e, h⟩ => by rw [e]; exact TD.dq h
theorem sh_ev {e : Ev} (h : Wrd e.1 ∧ Wrd e.2) : Sh 251 (evD e) := by
  refine sh_tuple (k := 122) (m := 2) (fun d hd => ?_) (Nat.le_refl _)
  rcases List.mem_cons.mp hd with rfl | hd
  · show Sh 122 (.str e.1)
    exact ⟨by simp only [PyData.showable], repr_len h.1.2.1 fun c m => wrd_low h.1 m⟩
  · rw [List.mem_singleton.mp hd]
    show Sh 122 (.str e.2)
    exact ⟨by simp only [PyData.showable], repr_len h.2.2.1 fun c m => wrd_low h.2 m⟩
theorem sh_o {o : Option Wd} (l : ∀ w, o = some w → w.length ≤ 1601) (h : ∀ w, o = some w → ∀ e ∈ w, Wrd e.1 ∧ Wrd e.2) : Sh 405056 (oD o) := by
  cases o with
  | none => exact ⟨by simp [oD, PyData.showable], by show (PyData.none).shown.length ≤ _; exact Nat.le_trans (show (PyData.none).shown.length ≤ 4 by decide +kernel) (by decide)⟩
  | some w =>
    show Sh 405056 (wordD w)
    rw [wordD_eq]
    exact sh_tuple (k := 251) (m := 1601) (fun d hd => by
      obtain ⟨e, m, rfl⟩ := List.mem_map.mp hd
      exact sh_ev (h w rfl e m)) (by rw [List.length_map]; exact l w rfl)
theorem sh_lst {k m : Nat} {ds : List PyData} (h : ∀ d ∈ ds, Sh k d) (hl : ds.length ≤ m) : Sh (m * k + 2 * m + 3) (.list ds) := by
  obtain ⟨h1, h3, h4⟩ := sh_all h
  refine ⟨by simp only [PyData.showable, h1], ?_⟩
  have h5 := listText_len_le (PyData.shownAll ds)
  simp only [PyData.shown]
  rw [h4] at h5
  have h6 : ds.length * k ≤ m * k := Nat.mul_le_mul_right _ hl
  omega
abbrev o3D (o : Option Wd) : PyData := .list [oD o, oD o, oD o]
theorem depth_o (o : Option Wd) : (oD o).depth ≤ 2 := by
  cases o with
  | none => simp [oD, PyData.depth]
  | some w => exact depth_word w
theorem sh_o3 {o : Option Wd} (h : Sh 405056 (oD o)) : (o3D o).showable = true ∧ (o3D o).depth ≤ 60 ∧ (o3D o).shown.length ≤ sizeLine := by
  have z := sh_lst (k := 405056) (m := 3) (ds := [oD o, oD o, oD o]) (fun d hd => by
    simp only [List.mem_cons, List.not_mem_nil, or_false, or_self] at hd
    rw [hd]
    exact h) (Nat.le_refl _)
  have dd := depth_o o
  refine ⟨z.sh, ?_, Nat.le_trans z.sz (by rw [sizeLine_eq]; decide)⟩
  simp only [PyData.depth, PyData.depthAll]
  omega
/-! ### tables stay -/
theorem tabs_save {T : List (Addr × Str)} {p c : Addr} {H H' : Hp} {ks : List Int} {y n : Int} (t : LamX.Tabs T H) (F : FeedAt H p c ks y n) (sv : Save p c H H') : LamX.Tabs T H' := fun q m => by
  obtain ⟨ps, h1, h2, h3⟩ := t q m
  refine ⟨ps, sv _ _ h1 (fun z => by rw [z, F.ob] at h1; cases h1) (fun z => by rw [z, F.cs] at h1; cases h1), h2, fun pos cv hc => ?_⟩
  obtain ⟨d, e1, e2⟩ := h3 pos cv hc
  exact ⟨d, e1, sv _ _ e2 (fun z => by rw [z, F.ob] at e2; unfold LamX.CodeO at e2; cases e2) (fun z => by rw [z, F.cs] at e2; unfold LamX.CodeO at e2; cases e2)⟩
theorem FeedAt.extN {H H' : Hp} {p c : Addr} {ks : List Int} {w n : Int} (F : FeedAt H p c ks w n) (s : LamX.ExtN H H') : FeedAt H' p c ks w n := ⟨s _ _ F.ob (fun ps z => nomatch z), s _ _ F.cs (fun ps z => nomatch z), F.bits, F.len, F.w0, F.w1, F.n0⟩
theorem sep_self {ss : List (List Stp)} (so : KOk ss) : LeastOf (SepW ss ss) none := fun w h => h.elim (BeyW.self so) (BeyW.self so)
/-- where the ends are of a word that parts two machines: just one stops, and neither a step before -/
theorem sep_ends {ms ts : List (List Stp)} (mo : KOk ms) (to : KOk ts) {w : Wd} (h : SepW ms ts w) {a b : Option Int} (h1 : LedW ms w a) (h2 : LedW ts w b) : w ≠ [] ∧ decide (V.bl (decide (VAt a = V.non)) = V.bl (decide (VAt b = V.non))) = false := by
  rcases h with h | h
  · obtain ⟨v, e, x, y, z, rfl, l1, l2, l3, l4⟩ := h.led
    have e1 := LedW.one mo h1 l3
    have e2 := LedW.one to h2 l4
    subst e1 e2
    exact ⟨by simp, by simp [VAt]⟩
  · obtain ⟨v, e, x, y, z, rfl, l1, l2, l3, l4⟩ := h.led
    have e1 := LedW.one to h2 l3
    have e2 := LedW.one mo h1 l4
    subst e1 e2
    exact ⟨by simp, by simp [VAt]⟩
theorem sep_cut {ms ts : List (List Stp)} (mo : KOk ms) {w : Wd} (h : SepW ms ts w) {c : Option Int} (h3 : LedW ms w.dropLast c) : decide (VAt c = V.non) = false := by
  rcases h with h | h
  · obtain ⟨v, e, x, y, z, rfl, l1, l2, l3, l4⟩ := h.led
    rw [List.dropLast_concat] at h3
    have e3 := LedW.one mo h3 l1
    subst e3
    simp [VAt]
  · obtain ⟨v, e, x, y, z, rfl, l1, l2, l3, l4⟩ := h.led
    rw [List.dropLast_concat] at h3
    have e3 := LedW.one mo h3 l2
    subst e3
    simp [VAt]
theorem cut_last (xs : List V) (h : xs ≠ []) : cutV xs none (some (-1)) = xs.dropLast := by
  have l : 0 < xs.length := List.length_pos_iff.mpr h
  rw [List.dropLast_eq_take]
  unfold cutV HT.sIx
  simp
  have e1 : ¬ ((xs.length : Int) + -1 < 0) := by omega
  first
    | (congr 1; omega)
    | (rw [if_neg e1]; congr 1; omega)
    | skip
theorem word_cut {H : Hp} {xs : List V} {w : Wd} (h : TDs H xs (w.map evD)) : TDs H xs.dropLast (w.dropLast.map evD) := by
  have l := h.len
  rw [List.length_map] at l
  rw [List.dropLast_eq_take, List.dropLast_eq_take, ← l, List.map_take]
  exact TDs.take_ _ h
/-- one name given: other -/
def kgo {α : Type} : List α → List α → List α
  | [s], [a] => [s, a]
  | _, _ => []
structure KOf (P : Program) (w : World) (K : PySem.W.Frag) (mg : Str → Option Value) (base : Heap) (C : Addr) : Prop where
  nm : mg "Kind" = some (.ref C)
  cr : ∃ mc, ClX.CRead K C mc ∧ ∃ p g fd, ClX.CMet K C mc "of" p g ∧ FnOk P w K mg base CX0 7 g fd ["cls", "states"] (spOf C) ∧ Binds K fd ["cls", "states"] []
theorem fnR_of {P : Program} {w : World} {K : PySem.W.Frag} {mg : Str → Option Value} {base : Heap} {CX : CXT} {k : Nat} {f : Addr} {fd : FuncData} {ps : List Str} {sp : Sp} (F : FnOk P w K mg base CX k f fd ps sp) (hb : Binds K fd ps []) : FnR P w K mg base CX k f sp :=
  (F.raw hb .nil).imp fun vs H Q E h => by rw [List.append_nil]; exact h
end My

-- ===== K7X =====
set_option Elab.async false
set_option linter.all false
set_option maxRecDepth 100000
set_option maxHeartbeats 4000000
namespace My
open PySem L2 PyProof.Rows PySem.Spec Kd TL StX ClX
def uM : TE := fun σ H Q => ∃ t : Int, σ[2]? = some (some (.int t)) ∧ ∀ m : Int, 2 ≤ m → m ≤ 40 → Q (.int m) H
def spLaw (K : PySem.W.Frag) (Pt : Addr) : Sp := fun vs H Q _ => ∃ (a : Addr) (ns : List Int), vs = [.ref a] ∧ SqL K H a (ns.map V.int) ∧ ns.length ≤ 63 ∧ Bits ns ∧ H Pt = some (.tbl #[]) ∧ ∀ H', Q (.bl true) H'
section
variable {P : Program} {w : World} {K : PySem.W.Frag} {mg : Str → Option Value} {base : Heap} {C : Addr}
abbrev nLw : List Str := ["_law_script", "_law_feed_here", "_law_turn", "_law_states_here", "_law_others", "_law_first_here", "_law_second", "_law_due", "_law_told", "_law_ends"]
theorem scLw : FnScope nLw ["_law_script"] (defScope sLaw) := ⟨rfl, rfl, rfl, by decide +kernel, rfl, by decide +kernel, by decide +kernel⟩
theorem ok_law {f fF fR fI fE gD Pt : Addr} {fd fdF fdR fdI fdE fdD : FuncData} (F : Fun K "law" "law" sLaw f fd) (T : KOf P w K mg base C) (cl : Cls K C) (mrepr : mg "repr" = none) (mrange : mg "range" = none)
    (GF : FnOk P w K mg base CX0 1 fF fdF ["_law_script"] (spFeed K)) (mF : mg "_law_feed" = some (.ref fF)) (kF : PySem.W.keepIn K (.ref fF) = true) (bF : Binds K fdF ["_law_script"] [])
    (GR : FnOk P w K mg base CX0 4 fR fdR ["_law_feed_here", "_law_most"] spPair) (mR : mg "_law_pair" = some (.ref fR)) (kR : PySem.W.keepIn K (.ref fR) = true) (bR : Binds K fdR ["_law_feed_here", "_law_most"] [])
    (GI : FnOk P w K mg base CX0 1 fI fdI ["_law_states_here", "_law_others"] spFirst) (mI : mg "_law_first" = some (.ref fI)) (kI : PySem.W.keepIn K (.ref fI) = true) (bI : Binds K fdI ["_law_states_here", "_law_others"] [])
    (GE : FnOk P w K mg base CX0 3 fE fdE ["_law_made", "_law_sequence"] (spEnd C)) (mE : mg "_law_end" = some (.ref fE)) (kE : PySem.W.keepIn K (.ref fE) = true) (bE : Binds K fdE ["_law_made", "_law_sequence"] [])
    (hmD : Meth K C "difference" gD) (GD : FnOk P w K mg base CX0 6 gD fdD ["self", "other"] (spKdif C Pt)) (bD : Binds K fdD ["self", "other"] []) (kbD : KBinds K fdD ["self", "other"] ["other"] kgo kgo) :
    FnG true (fun A => A.guards = some []) P w K mg base CX0 9 f fd ["_law_script"] (spLaw K Pt) := by
  obtain ⟨mc, cr, p1, g1, fd1, m1, G1, b1⟩ := T.cr
  have R1 := fnR_of G1 b1
  refine okG F scLw (fun vs H Q E h => ?_) (fun cdv A outer s H vs Q E hh hgA hr h => ?_)
  · obtain ⟨a, ns, rfl, _⟩ := h
    rfl
  · obtain ⟨a, ns, rfl, hS, hlen, hbits, tb0, k⟩ := h
    have hR : Room 8 (A.deeper (envOfC "law" (defScope sLaw) s.heap.objs.size f cdv)) := ⟨hh rfl, hr.dp, hr.un⟩
    have hG : (A.deeper (envOfC "law" (defScope sLaw) s.heap.objs.size f cdv)).guards = some [] := hgA
    have hu := hR.units
    have hR6 := hR.mono (show 6 ≤ 8 by omega)
    have hR4 := hR.mono (show 4 ≤ 8 by omega)
    have hR3 := hR.mono (show 3 ≤ 8 by omega)
    have hR1 := hR.mono (show 1 ≤ 8 by omega)
    have hR := hR.mono (show 7 ≤ 8 by omega)
    have tb : LamX.Tabs [(Pt, qDif)] H := fun q m => by
      rw [List.mem_singleton.mp m]
      exact LamX.TabS.nil tb0
    refine ⟨_, PSs.nox (pss_cons (ps_set (i := 1) scLw.nd rfl (Or.inl rfl) (pe_call GF hR1 (by rfl) mF kF bF .nil pass0 (pa_cons (pv 0) pa_nil))) (pss_cons (ps_for PassesOwn.never rfl (pi_range1 (by rfl) mrange (pa_cons pe_int pa_nil)) (pg_name (i := 2) scLw.nd rfl (Or.inl rfl)) (pss_cons (ps_asg (pe_call GR hR4 (by rfl) mR kR bR .nil pass0 (pa_cons (pv 1) (pa_cons (PE.wkC (u := uM) (pe_ifExp (pt_cmpR op_lt (pv 2) pe_int (nomark _)) pe_int pe_int) (fun σ H Q ⟨t, e2, q⟩ => by
          refine ⟨_, e2, _, _, rfl, rfl, _, rfl, ?_⟩
          cases decide (t < 2) with
          | true => exact iteT (q 40 (by decide) (by decide))
          | false => exact iteF (q 12 (by decide) (by decide)))) pa_nil))) (pg_tup (by rfl) (pgs_cons (pg_name (i := 3) scLw.nd rfl (Or.inl rfl)) (pgs_cons (pg_name (i := 4) scLw.nd rfl (Or.inl rfl)) pgs_nil)))) (pss_cons (ps_par (i := 5) (j := 6) rfl scLw.nd rfl rfl (by decide) rfl rfl (pa_cons (ClX.pe_cmeth (pl := _) (pe_glob (v := .ref C) (by rfl) T.nm rfl) cr m1 R1 hR pass0 (pa_cons (pv 3) pa_nil)) (pa_cons (ClX.pe_cmeth (pl := _) (pe_glob (v := .ref C) (by rfl) T.nm rfl) cr m1 R1 hR pass0 (pa_cons (pv 4) pa_nil)) pa_nil)) (by rfl)) (pss_cons (ps_set (i := 7) scLw.nd rfl (Or.inl rfl) (pe_call GI hR1 (by rfl) mI kI bI .nil pass0 (pa_cons (pv 3) (pa_cons (pv 4) pa_nil)))) (pss_cons (ps_set (i := 8) scLw.nd rfl (Or.inl rfl) (pe_lstL (pa_cons (pe_meth (pl := _) (pv 5) cl hmD GD hR6 bD .nil pass0 (pa_cons (pv 6) pa_nil)) (pa_cons (pe_meth (pl := _) (pv 6) cl hmD GD hR6 bD .nil pass0 (pa_cons (pv 5) pa_nil)) (pa_cons (pe_methK (pl := _) (pv 5) cl hmD GD hR6 kbD pass0 (pk_cons (pv 6) pk_nil)) pa_nil))))) (pss_cons (ps_if (PW.pt (pw_or (pt_cmpR op_ne (pe_callB (call_reprD (F := fun _ => True) hG hu) (by rfl) mrepr boot_repr (pa_cons (pv 8) pa_nil)) (pe_callB (call_reprD (F := fun _ => True) hG hu) (by rfl) mrepr boot_repr (pa_cons (pe_lstL (pa_cons (pv 7) (pa_cons (pv 7) (pa_cons (pv 7) pa_nil)))) pa_nil)) (nomark _)) (pw_or1 (pt_cmp (pc_notN (pe_meth (pl := _) (pv 5) cl hmD GD hR6 bD .nil pass0 (pa_cons (pv 5) pa_nil))))))) (pss_one (ps_ret pe_bl)) pss_nil) (pss_one (ps_if (pt_cmp (pc_notN (pv 7))) (pss_cons (ps_set (i := 9) scLw.nd rfl (Or.inl rfl) (pe_lst (pa_cons (pe_call GE hR3 (by rfl) mE kE bE .nil pass0 (pa_cons (pv 5) (pa_cons (pv 7) pa_nil))) (pa_cons (pe_call GE hR3 (by rfl) mE kE bE .nil pass0 (pa_cons (pv 6) (pa_cons (pv 7) pa_nil))) pa_nil)))) (pss_cons (ps_if (pt_cmpR op_eq (pe_cmp (pc_isN (pe_ix (r := rIxL K) ix_list (pv 9) pe_int (fun _ _ => rfl)))) (pe_cmp (pc_isN (pe_ix (r := rIxL K) ix_list (pv 9) pe_int (fun _ _ => rfl)))) (nomark _)) (pss_one (ps_ret pe_bl)) pss_nil) (pss_one (ps_if (PW.pt (pw_or (pt_cmp (pc_isN (pe_call GE hR3 (by rfl) mE kE bE .nil pass0 (pa_cons (pv 5) (pa_cons (pe_slice (r := rSlT K) sl_tup (pv 7) po_none (po_some (pe_un un_neg pe_int))) pa_nil))))) (pw_or1 (pt_cmp (pc_isN (pe_call GE hR3 (by rfl) mE kE bE .nil pass0 (pa_cons (pv 6) (pa_cons (pe_slice (r := rSlT K) sl_tup (pv 7) po_none (po_some (pe_un un_neg pe_int))) pa_nil)))))))) (pss_one (ps_ret pe_bl)) pss_nil)))) pss_nil)))))))) (pss_one (ps_ret pe_bl)))), ?_⟩
    refine ⟨_, rfl, a, ns, rfl, hS, hlen, hbits, fun p c ks y H1 s1 hp hc FA => ?_⟩
    refine ⟨8, rfl, by decide, by decide, for_range (lo := 0) (n := 8) (fun m σ H2 => ∃ (o2 o3 o4 o5 o6 o7 o8 o9 : Option V) (ks' : List Int) (n' : Int), σ = [some (.ref a), some (.ref p), o2, o3, o4, o5, o6, o7, o8, o9] ∧ FeedAt H2 p c ks' y n' ∧ n' ≤ 1000 * (m : Int) ∧ LamX.Tabs [(Pt, qDif)] H2) ⟨none, none, none, none, none, none, none, none, ks, 0, rfl, FA, by omega, tabs_to s1 tb⟩ ?_ ?_⟩
    · rintro m σ H2 hm ⟨o2, o3, o4, o5, o6, o7, o8, o9, ks1, n1, rfl, FA1, le1, tb2⟩
      refine ⟨_, rfl, 0 + (m : Int), rfl, fun most m0 m1 => ⟨p, c, ks1, y, n1, most, rfl, FA1, by omega, m0, m1, fun r ad bd ms ts ks2 n2 H3 hr3 tA tB mo to F3 le3 sv3 => ?_⟩⟩
      have tb3 := tabs_save tb2 FA1 sv3
      refine ⟨r, _, rfl, SqT.of hr3, rfl, _, _, rfl, _, _, rfl, rfl, ?_⟩
      refine ⟨rfl, _, rfl, ad, ms, rfl, tA, mo, fun v1 H4 s4 hk1 => ?_⟩
      refine ⟨rfl, _, rfl, bd, ts, rfl, tB.to (Tup.of s4), to, fun v2 H5 s5 hk2 => ⟨_, _, rfl, ?_⟩⟩
      have s45 := s4.trans s5
      refine ⟨_, rfl, _, rfl, ad, bd, ms, ts, rfl, tA.to (Tup.of s45), tB.to (Tup.of s45), mo, to, fun dv od H6 s6 wd ld hd => ?_⟩
      have s46 := s45.trans s6
      have hk1' := hk1.same (s5.trans s6)
      have hk2' := hk2.same s6
      have tb6 := tabs_to s46 tb3
      have F6 := F3.same s46
      have sho : Sh 405056 (oD od) := sh_o ld fun w e => by rw [e] at hd; exact sep_wrd mo to hd.1
      obtain ⟨sh1, sh2, sh3⟩ := sh_o3 sho
      obtain ⟨a1, dx1, am1, mm1, rfl, ho1, _, _⟩ := id hk1'
      obtain ⟨a2, dx2, am2, mm2, rfl, ho2, _, _⟩ := id hk2'
      -- the three that are told
      refine ⟨_, rfl, a1, dx1, _, rfl, ho1, rfl, _, rfl, .ref a1, .ref a2, ms, ts, rfl, hk1', hk2', mo, to, tb6, fun x1 q1 H7 e7 tb7 w1 l1 h1 => ?_⟩
      rw [LeastOf.one h1 hd] at w1
      have hk1_7 := hk1'.ext e7
      have hk2_7 := hk2'.ext e7
      refine ⟨_, rfl, a2, dx2, _, rfl, e7 _ _ ho2 (fun ps z => nomatch z), rfl, _, rfl, .ref a2, .ref a1, ts, ms, rfl, hk2_7, hk1_7, to, mo, tb7, fun x2 q2 H8 e8 tb8 w2 l2 h2 => ?_⟩
      rw [LeastOf.one h2.swap hd] at w2
      have e78 := e7.trans e8
      have hk1_8 := hk1'.ext e78
      have hk2_8 := hk2'.ext e78
      refine ⟨_, rfl, a1, dx1, _, rfl, e78 _ _ ho1 (fun ps z => nomatch z), rfl, _, rfl, .ref a1, .ref a2, ms, ts, rfl, hk1_8, hk2_8, mo, to, tb8, fun x3 q3 H9 e9 tb9 w3 l3 h3 => ?_⟩
      rw [LeastOf.one h3 hd] at w3
      have e79 := e78.trans e9
      refine ⟨by show 3 ≤ sizeLine; decide, fun l1 hl1 big1 => ?_⟩
      have t1 := same_new (o := .lst [x1, x2, x3]) hl1
      have at1 : (upd H9 l1 (.lst [x1, x2, x3])) l1 = some (.lst [x1, x2, x3]) := upd_same
      have d1 := WAt.dq (WAt.to w1 ((Tup.extN (e8.trans e9)).trans (Tup.of t1)))
      have d2 := WAt.dq (WAt.to w2 ((Tup.extN e9).trans (Tup.of t1)))
      have d3 := WAt.dq (WAt.to w3 (Tup.of t1))
      have wd1 := WAt.to wd ((Tup.extN e79).trans (Tup.of t1))
      have ho1_9 := t1 _ _ (e79 _ _ ho1 (fun ps z => nomatch z))
      have hk1_9 := (hk1'.ext e79).same t1
      have hk2_9 := (hk2'.ext e79).same t1
      have F9 := (F6.extN e79).same t1
      have tb9' := tabs_to t1 tb9
      generalize upd H9 l1 (.lst [x1, x2, x3]) = Ha at t1 at1 d1 d2 d3 wd1 ho1_9 hk1_9 hk2_9 F9 tb9' ⊢
      refine ⟨_, rfl, .ref l1, o3D od, rfl, .lst big1 trivial at1 (.cons d1 (.cons d2 (.cons d3 .nil))), sh1, sh2, sh3, ?_⟩
      refine ⟨_, rfl, _, rfl, _, rfl, by show 3 ≤ sizeLine; decide, fun l2' hl2 big2 => ?_⟩
      have t2 := same_new (o := .lst [dv, dv, dv]) hl2
      have dd := WAt.dq (WAt.to wd1 (Tup.of t2))
      have wd2 := WAt.to wd1 (Tup.of t2)
      have at2 : (upd Ha l2' (.lst [dv, dv, dv])) l2' = some (.lst [dv, dv, dv]) := upd_same
      have ho1_b := t2 _ _ ho1_9
      have hk1_b := hk1_9.same t2
      have hk2_b := hk2_9.same t2
      have Fb := F9.same t2
      have tbb := tabs_to t2 tb9'
      generalize upd Ha l2' (.lst [dv, dv, dv]) = Hb at dd wd2 at2 ho1_b hk1_b hk2_b Fb tbb ⊢
      refine ⟨.ref l2', o3D od, rfl, .lst big2 trivial at2 (.cons dd (.cons dd (.cons dd .nil))), sh1, sh2, sh3, rfl, _, rfl, ?_⟩
      rw [decide_eq_true rfl]
      refine iteF ?_
      refine ⟨_, rfl, a1, dx1, _, rfl, ho1_b, rfl, _, rfl, .ref a1, .ref a1, ms, ms, rfl, hk1_b, hk1_b, mo, mo, tbb, fun x4 q4 Hc ec tbc w4 l4 h4 => ?_⟩
      rw [LeastOf.one h4 (sep_self mo)] at w4
      obtain rfl : x4 = .non := w4
      refine ⟨_, rfl, iteF ?_⟩
      have Fc := Fb.extN ec
      have hk1_c := hk1_b.ext ec
      have hk2_c := hk2_b.ext ec
      have wdc := WAt.to wd2 (Tup.extN ec)
      refine ⟨_, rfl, _, rfl, ?_⟩
      cases od with
      | none =>
        obtain rfl : dv = .non := wdc
        exact iteF ⟨_, _, _, _, _, _, _, _, ks2, n2, rfl, Fc, by omega, tbc⟩
      | some wo =>
        obtain ⟨da, rfl, tD⟩ := wdc
        refine iteT ?_
        have sep : SepW ms ts wo := hd.1
        refine ⟨_, rfl, _, rfl, .ref a1, da, ms, wo, rfl, hk1_c, mo, tD, fun oa Hd sd la => ?_⟩
        refine ⟨_, rfl, _, rfl, .ref a2, da, ts, wo, rfl, hk2_c.same sd, to, tD.to (Tup.of sd), fun ob He se lb => ?_⟩
        refine ⟨by show 2 ≤ sizeLine; decide, fun el hel => ?_⟩
        have s3 := (sd.trans se).trans (same_new (o := .lst [VAt oa, VAt ob]) hel)
        have ea : (upd He el (.lst [VAt oa, VAt ob])) el = some (.lst [VAt oa, VAt ob]) := upd_same
        generalize upd He el (.lst [VAt oa, VAt ob]) = Hf at s3 ea ⊢
        obtain ⟨nw, dne⟩ := sep_ends mo to sep la lb
        refine ⟨_, rfl, el, _, 0, _, rfl, rfl, SqL.of ea, rfl, ?_⟩
        refine ⟨_, rfl, el, _, 1, _, rfl, rfl, SqL.of ea, rfl, ?_⟩
        refine ⟨rfl, _, rfl, ?_⟩
        rw [dne]
        refine iteF ?_
        obtain ⟨ws, hws, hx, lw⟩ := wordTD tD
        have wl : 0 < wo.length := List.length_pos_iff.mpr nw
        have nws : ws ≠ [] := fun z => by rw [z] at lw; simp at lw; omega
        have nwh : ¬ (HT.sIx ws.length 0 none = 0 ∧ HT.sIx ws.length ws.length (some (-1)) = ws.length) := fun z => by
          have z2 : ((-1 : Int) + (ws.length : Int)).toNat = ws.length := z.2
          omega
        have hwf := s3 _ _ hws
        have hk1_f := hk1_c.same s3
        have hk2_f := hk2_c.same s3
        refine ⟨_, rfl, _, rfl, 1, rfl, _, rfl, da, ws, rfl, SqT.of hwf, nwh, fun q1' hq1 => ?_⟩
        have s4' := s3.trans (same_new (o := .tup (cutV ws none (some (-1)))) hq1)
        have eq1 : (upd Hf q1' (.tup (cutV ws none (some (-1))))) q1' = some (.tup ws.dropLast) := by rw [upd_same, cut_last ws nws]
        generalize upd Hf q1' (.tup (cutV ws none (some (-1)))) = Hg at s4' eq1 ⊢
        have td1 : TD Hg (.ref q1') (wordD wo.dropLast) := .tup eq1 (word_cut (hx.to (Tup.of s4')))
        refine ⟨.ref a1, q1', ms, wo.dropLast, rfl, hk1_c.same s4', mo, td1, fun oc Hh sh lc => ⟨_, rfl, ?_⟩⟩
        have s5' := s4'.trans sh
        rw [sep_cut mo sep lc]
        refine iteF ?_
        refine ⟨_, rfl, _, rfl, 1, rfl, _, rfl, da, ws, rfl, SqT.of (s5' _ _ hws), nwh, fun q2' hq2 => ?_⟩
        have s6' := s5'.trans (same_new (o := .tup (cutV ws none (some (-1)))) hq2)
        have eq2 : (upd Hh q2' (.tup (cutV ws none (some (-1))))) q2' = some (.tup ws.dropLast) := by rw [upd_same, cut_last ws nws]
        generalize upd Hh q2' (.tup (cutV ws none (some (-1)))) = Hi at s6' eq2 ⊢
        have td2 : TD Hi (.ref q2') (wordD wo.dropLast) := .tup eq2 (word_cut (hx.to (Tup.of s6')))
        refine ⟨.ref a2, q2', ts, wo.dropLast, rfl, hk2_c.same s6', to, td2, fun od2 Hj sj ld2 => ⟨_, rfl, ?_⟩⟩
        rw [sep_cut to (Or.symm sep) ld2]
        refine iteF ?_
        have s7' := s6'.trans sj
        exact ⟨_, _, _, _, _, _, _, _, ks2, n2, rfl, Fc.same s7', by omega, tabs_to s7' tbc⟩
    · rintro σ H2 ⟨o2, o3, o4, o5, o6, o7, o8, o9, ks1, n1, rfl, FA1, le1, tb2⟩
      exact k _
end
end My

-- ===== K7Y =====
set_option Elab.async false
set_option linter.all false
set_option maxRecDepth 100000
set_option maxHeartbeats 4000000
namespace My
open PySem L2 PyProof.Rows PySem.Spec Kd StX ClX TL
theorem kgo_rel {vs zs : List V} {us ws : List Value} (r : Vals vs us) (z : Vals zs ws) : Vals (kgo vs zs) (kgo us ws) := by
  match vs, us, r with
  | [], _, .nil => exact .nil
  | [_], _, .cons a .nil =>
    match zs, ws, z with
    | [], _, .nil => exact .nil
    | [_], _, .cons b .nil => exact .cons a (.cons b .nil)
    | _ :: _ :: _, _, .cons _ (.cons _ _) => exact .nil
  | _ :: _ :: _, _, .cons _ (.cons _ _) => exact .nil
set_option linter.unusedVariables false in
theorem all_mk {P : Program} {w : World} {K : PySem.W.Frag} {h : Heap} {mg : Str → Option Value} {fa C p1 c Pt fM fY fR fV fW fB fS fA fE fF fD fK fb1 fb2 fb3 fb4 fb5 fb6 fb7 fb8 fL fi fo fr fv : Addr} {rest1 : List Value} {t1 t2 t3 t4 : Tok} (X : K.In h) (G : h.Ns mainGlobals mg) (hfa : mg "law" = some (.ref fa))
    {oc_M kV_M doc_M pm_M cd_M ct_M : Value} {od_M an_M : Option Addr} {sl_M : Array (Option Value)} {oc_Y kV_Y doc_Y pm_Y cd_Y ct_Y : Value} {od_Y an_Y : Option Addr} {sl_Y : Array (Option Value)} {oc_R kV_R doc_R pm_R cd_R ct_R : Value} {od_R an_R : Option Addr} {sl_R : Array (Option Value)} {oc_V kV_V doc_V pm_V ct_V : Value} {od_V an_V : Option Addr} {sl_V : Array (Option Value)} {oc_W kV_W doc_W pm_W cd_W ct_W : Value} {od_W an_W : Option Addr} {sl_W : Array (Option Value)} {oc_B kV_B doc_B pm_B cd_B ct_B : Value} {od_B an_B : Option Addr} {sl_B : Array (Option Value)} {oc_S kV_S doc_S pm_S cd_S ct_S : Value} {od_S an_S : Option Addr} {sl_S : Array (Option Value)} {oc_A kV_A doc_A pm_A cd_A ct_A : Value} {od_A an_A : Option Addr} {sl_A : Array (Option Value)} {oc_E kV_E doc_E pm_E cd_E ct_E : Value} {od_E an_E : Option Addr} {sl_E : Array (Option Value)} {oc_F kV_F doc_F pm_F cd_F ct_F : Value} {od_F an_F : Option Addr} {sl_F : Array (Option Value)} {oc_D kV_D doc_D pm_D cd_D ct_D : Value} {od_D an_D : Option Addr} {sl_D : Array (Option Value)} {oc_K kV_K doc_K pm_K cd_K ct_K : Value} {od_K an_K : Option Addr} {sl_K : Array (Option Value)} {oc_b1 kV_b1 doc_b1 pm_b1 cd_b1 ct_b1 : Value} {od_b1 an_b1 : Option Addr} {sl_b1 : Array (Option Value)} {oc_b2 kV_b2 doc_b2 pm_b2 cd_b2 ct_b2 : Value} {od_b2 an_b2 : Option Addr} {sl_b2 : Array (Option Value)} {oc_b3 kV_b3 doc_b3 pm_b3 cd_b3 ct_b3 : Value} {od_b3 an_b3 : Option Addr} {sl_b3 : Array (Option Value)} {oc_b4 kV_b4 doc_b4 pm_b4 cd_b4 ct_b4 : Value} {od_b4 an_b4 : Option Addr} {sl_b4 : Array (Option Value)} {oc_b5 kV_b5 doc_b5 pm_b5 cd_b5 ct_b5 : Value} {od_b5 an_b5 : Option Addr} {sl_b5 : Array (Option Value)} {oc_b6 kV_b6 doc_b6 pm_b6 cd_b6 ct_b6 : Value} {od_b6 an_b6 : Option Addr} {sl_b6 : Array (Option Value)} {oc_b7 kV_b7 doc_b7 pm_b7 cd_b7 ct_b7 : Value} {od_b7 an_b7 : Option Addr} {sl_b7 : Array (Option Value)} {oc_b8 kV_b8 doc_b8 pm_b8 cd_b8 ct_b8 : Value} {od_b8 an_b8 : Option Addr} {sl_b8 : Array (Option Value)} {oc_L kV_L doc_L pm_L cd_L ct_L : Value} {od_L an_L : Option Addr} {sl_L : Array (Option Value)} {oc_i kV_i doc_i pm_i cd_i ct_i : Value} {od_i an_i : Option Addr} {sl_i : Array (Option Value)} {oc_o kV_o doc_o pm_o cd_o ct_o : Value} {od_o an_o : Option Addr} {sl_o : Array (Option Value)} {oc_r kV_r doc_r pm_r cd_r ct_r : Value} {od_r an_r : Option Addr} {sl_r : Array (Option Value)} {oc_v kV_v doc_v pm_v cd_v ct_v : Value} {od_v an_v : Option Addr} {sl_v : Array (Option Value)}
    (aC : PySem.W.nsIn K mainGlobals "Kind" = some (some (.ref C)))
    (clpg : PySem.W.plainGet K C Str.empty = true)
    (clhd : PySem.W.hasDictIn K C = true)
    (clpo : PySem.W.plainOver K C = true)
    (clsa : PySem.W.findIn K (.ref C) "__setattr__" = some (some (.builtin "object.__setattr__")))
    (n1 : PySem.W.findIn K (.ref C) "states" = some none)
    (n2 : PySem.W.findIn K (.ref C) "moves" = some none)
    (rd : PySem.W.readsIn K C (.type "type") = true)
    (ga : PySem.W.specialIn K (.ref C) "__getattribute__" = some (some (.builtin "type.__getattribute__")))
    (m_of : PySem.W.findCls K (.ref C) (.type "type") "of" = some (.get (.builtin "classmethod.__get__") (.ref p1) .none (.ref C)))
    (r_of : PySem.W.recIn K p1 "classmethod" = some (.ref fo :: rest1))
    (f_of : PySem.W.fnIn K fo = true)
    (mk1 : PySem.W.makesIn K C = true)
    (mk2 : PySem.W.findIn K (.ref C) "__init__" = some (some (.ref fi)))
    (mk3 : PySem.W.isFn K (.ref fi) = true)
    (mk4 : PySem.W.keepIn K (.ref C) = true)
    (rc1 : PySem.W.findIn K (.ref C) "led" = some (some (.ref fr)))
    (rc2 : PySem.W.isFn K (.ref fr) = true)
    (rd1 : PySem.W.findIn K (.ref C) "difference" = some (some (.ref fv)))
    (rd2 : PySem.W.isFn K (.ref fv) = true)
    (a_M : PySem.W.nsIn K mainGlobals "moves_of" = some (some (.ref fM)))
    (l_M : K.lookup fM = some ⟨oc_M, od_M, .func (PySem.W.fnOf "moves_of" "moves_of" (defArgs sMoves) (defBody sMoves) (defScope sMoves) .none kV_M doc_M pm_M an_M cd_M ct_M), sl_M⟩)
    (e_M : PySem.W.codeIn K cd_M "moves_of" = true)
    (k_M : PySem.W.keepIn K (.ref fM) = true)
    (a_Y : PySem.W.nsIn K mainGlobals "led_by" = some (some (.ref fY)))
    (l_Y : K.lookup fY = some ⟨oc_Y, od_Y, .func (PySem.W.fnOf "led_by" "led_by" (defArgs sLedBy) (defBody sLedBy) (defScope sLedBy) .none kV_Y doc_Y pm_Y an_Y cd_Y ct_Y), sl_Y⟩)
    (e_Y : PySem.W.codeIn K cd_Y "led_by" = true)
    (k_Y : PySem.W.keepIn K (.ref fY) = true)
    (a_R : PySem.W.nsIn K mainGlobals "first_beyond" = some (some (.ref fR)))
    (l_R : K.lookup fR = some ⟨oc_R, od_R, .func (PySem.W.fnOf "first_beyond" "first_beyond" (defArgs sBeyond) (defBody sBeyond) (defScope sBeyond) .none kV_R doc_R pm_R an_R cd_R ct_R), sl_R⟩)
    (e_R : PySem.W.codeIn K cd_R "first_beyond" = true)
    (k_R : PySem.W.keepIn K (.ref fR) = true)
    (a_V : PySem.W.nsIn K mainGlobals "first_difference" = some (some (.ref fV)))
    (l_V : K.lookup fV = some ⟨oc_V, od_V, .func (PySem.W.fnOf "first_difference" "first_difference" (defArgs sDif) (defBody sDif) (defScope sDif) .none kV_V doc_V pm_V an_V (.ref c) ct_V), sl_V⟩)
    (e_V : PySem.W.codeIn K (.ref c) "first_difference" = true)
    (k_V : PySem.W.keepIn K (.ref fV) = true)
    (a_W : PySem.W.nsIn K mainGlobals "is_word" = some (some (.ref fW)))
    (l_W : K.lookup fW = some ⟨oc_W, od_W, .func (PySem.W.fnOf "is_word" "is_word" (defArgs sWord) (defBody sWord) (defScope sWord) .none kV_W doc_W pm_W an_W cd_W ct_W), sl_W⟩)
    (e_W : PySem.W.codeIn K cd_W "is_word" = true)
    (k_W : PySem.W.keepIn K (.ref fW) = true)
    (a_B : PySem.W.nsIn K mainGlobals "is_number" = some (some (.ref fB)))
    (l_B : K.lookup fB = some ⟨oc_B, od_B, .func (PySem.W.fnOf "is_number" "is_number" (defArgs sNumber) (defBody sNumber) (defScope sNumber) .none kV_B doc_B pm_B an_B cd_B ct_B), sl_B⟩)
    (e_B : PySem.W.codeIn K cd_B "is_number" = true)
    (k_B : PySem.W.keepIn K (.ref fB) = true)
    (a_S : PySem.W.nsIn K mainGlobals "is_states" = some (some (.ref fS)))
    (l_S : K.lookup fS = some ⟨oc_S, od_S, .func (PySem.W.fnOf "is_states" "is_states" (defArgs sStates) (defBody sStates) (defScope sStates) .none kV_S doc_S pm_S an_S cd_S ct_S), sl_S⟩)
    (e_S : PySem.W.codeIn K cd_S "is_states" = true)
    (k_S : PySem.W.keepIn K (.ref fS) = true)
    (a_A : PySem.W.nsIn K mainGlobals "_is_state" = some (some (.ref fA)))
    (l_A : K.lookup fA = some ⟨oc_A, od_A, .func (PySem.W.fnOf "_is_state" "_is_state" (defArgs sState) (defBody sState) (defScope sState) .none kV_A doc_A pm_A an_A cd_A ct_A), sl_A⟩)
    (e_A : PySem.W.codeIn K cd_A "_is_state" = true)
    (k_A : PySem.W.keepIn K (.ref fA) = true)
    (a_E : PySem.W.nsIn K mainGlobals "_is_step" = some (some (.ref fE)))
    (l_E : K.lookup fE = some ⟨oc_E, od_E, .func (PySem.W.fnOf "_is_step" "_is_step" (defArgs sStep) (defBody sStep) (defScope sStep) .none kV_E doc_E pm_E an_E cd_E ct_E), sl_E⟩)
    (e_E : PySem.W.codeIn K cd_E "_is_step" = true)
    (k_E : PySem.W.keepIn K (.ref fE) = true)
    (a_F : PySem.W.nsIn K mainGlobals "_law_feed" = some (some (.ref fF)))
    (l_F : K.lookup fF = some ⟨oc_F, od_F, .func (PySem.W.fnOf "_law_feed" "_law_feed" (defArgs sFeed) (defBody sFeed) (defScope sFeed) .none kV_F doc_F pm_F an_F cd_F ct_F), sl_F⟩)
    (e_F : PySem.W.codeIn K cd_F "_law_feed" = true)
    (k_F : PySem.W.keepIn K (.ref fF) = true)
    (a_D : PySem.W.nsIn K mainGlobals "_law_digit" = some (some (.ref fD)))
    (l_D : K.lookup fD = some ⟨oc_D, od_D, .func (PySem.W.fnOf "_law_digit" "_law_digit" (defArgs sDigit) (defBody sDigit) (defScope sDigit) .none kV_D doc_D pm_D an_D cd_D ct_D), sl_D⟩)
    (e_D : PySem.W.codeIn K cd_D "_law_digit" = true)
    (k_D : PySem.W.keepIn K (.ref fD) = true)
    (a_K : PySem.W.nsIn K mainGlobals "_law_pick" = some (some (.ref fK)))
    (l_K : K.lookup fK = some ⟨oc_K, od_K, .func (PySem.W.fnOf "_law_pick" "_law_pick" (defArgs sPick) (defBody sPick) (defScope sPick) .none kV_K doc_K pm_K an_K cd_K ct_K), sl_K⟩)
    (e_K : PySem.W.codeIn K cd_K "_law_pick" = true)
    (k_K : PySem.W.keepIn K (.ref fK) = true)
    (a_b1 : PySem.W.nsIn K mainGlobals "_law_menu" = some (some (.ref fb1)))
    (l_b1 : K.lookup fb1 = some ⟨oc_b1, od_b1, .func (PySem.W.fnOf "_law_menu" "_law_menu" (defArgs sMenu) (defBody sMenu) (defScope sMenu) .none kV_b1 doc_b1 pm_b1 an_b1 cd_b1 ct_b1), sl_b1⟩)
    (e_b1 : PySem.W.codeIn K cd_b1 "_law_menu" = true)
    (k_b1 : PySem.W.keepIn K (.ref fb1) = true)
    (a_b2 : PySem.W.nsIn K mainGlobals "_law_states" = some (some (.ref fb2)))
    (l_b2 : K.lookup fb2 = some ⟨oc_b2, od_b2, .func (PySem.W.fnOf "_law_states" "_law_states" (defArgs sLStates) (defBody sLStates) (defScope sLStates) .none kV_b2 doc_b2 pm_b2 an_b2 cd_b2 ct_b2), sl_b2⟩)
    (e_b2 : PySem.W.codeIn K cd_b2 "_law_states" = true)
    (k_b2 : PySem.W.keepIn K (.ref fb2) = true)
    (a_b3 : PySem.W.nsIn K mainGlobals "_law_chain" = some (some (.ref fb3)))
    (l_b3 : K.lookup fb3 = some ⟨oc_b3, od_b3, .func (PySem.W.fnOf "_law_chain" "_law_chain" (defArgs sChain) (defBody sChain) (defScope sChain) .none kV_b3 doc_b3 pm_b3 an_b3 cd_b3 ct_b3), sl_b3⟩)
    (e_b3 : PySem.W.codeIn K cd_b3 "_law_chain" = true)
    (k_b3 : PySem.W.keepIn K (.ref fb3) = true)
    (a_b4 : PySem.W.nsIn K mainGlobals "_law_otherwise" = some (some (.ref fb4)))
    (l_b4 : K.lookup fb4 = some ⟨oc_b4, od_b4, .func (PySem.W.fnOf "_law_otherwise" "_law_otherwise" (defArgs sOther) (defBody sOther) (defScope sOther) .none kV_b4 doc_b4 pm_b4 an_b4 cd_b4 ct_b4), sl_b4⟩)
    (e_b4 : PySem.W.codeIn K cd_b4 "_law_otherwise" = true)
    (k_b4 : PySem.W.keepIn K (.ref fb4) = true)
    (a_b5 : PySem.W.nsIn K mainGlobals "_law_twice" = some (some (.ref fb5)))
    (l_b5 : K.lookup fb5 = some ⟨oc_b5, od_b5, .func (PySem.W.fnOf "_law_twice" "_law_twice" (defArgs sTwice) (defBody sTwice) (defScope sTwice) .none kV_b5 doc_b5 pm_b5 an_b5 cd_b5 ct_b5), sl_b5⟩)
    (e_b5 : PySem.W.codeIn K cd_b5 "_law_twice" = true)
    (k_b5 : PySem.W.keepIn K (.ref fb5) = true)
    (a_b6 : PySem.W.nsIn K mainGlobals "_law_pair" = some (some (.ref fb6)))
    (l_b6 : K.lookup fb6 = some ⟨oc_b6, od_b6, .func (PySem.W.fnOf "_law_pair" "_law_pair" (defArgs sPair) (defBody sPair) (defScope sPair) .none kV_b6 doc_b6 pm_b6 an_b6 cd_b6 ct_b6), sl_b6⟩)
    (e_b6 : PySem.W.codeIn K cd_b6 "_law_pair" = true)
    (k_b6 : PySem.W.keepIn K (.ref fb6) = true)
    (a_b7 : PySem.W.nsIn K mainGlobals "_law_first" = some (some (.ref fb7)))
    (l_b7 : K.lookup fb7 = some ⟨oc_b7, od_b7, .func (PySem.W.fnOf "_law_first" "_law_first" (defArgs sFirst) (defBody sFirst) (defScope sFirst) .none kV_b7 doc_b7 pm_b7 an_b7 cd_b7 ct_b7), sl_b7⟩)
    (e_b7 : PySem.W.codeIn K cd_b7 "_law_first" = true)
    (k_b7 : PySem.W.keepIn K (.ref fb7) = true)
    (a_b8 : PySem.W.nsIn K mainGlobals "_law_end" = some (some (.ref fb8)))
    (l_b8 : K.lookup fb8 = some ⟨oc_b8, od_b8, .func (PySem.W.fnOf "_law_end" "_law_end" (defArgs sEnd) (defBody sEnd) (defScope sEnd) .none kV_b8 doc_b8 pm_b8 an_b8 cd_b8 ct_b8), sl_b8⟩)
    (e_b8 : PySem.W.codeIn K cd_b8 "_law_end" = true)
    (k_b8 : PySem.W.keepIn K (.ref fb8) = true)
    (a_L : PySem.W.nsIn K mainGlobals "law" = some (some (.ref fL)))
    (l_L : K.lookup fL = some ⟨oc_L, od_L, .func (PySem.W.fnOf "law" "law" (defArgs sLaw) (defBody sLaw) (defScope sLaw) .none kV_L doc_L pm_L an_L cd_L ct_L), sl_L⟩)
    (e_L : PySem.W.codeIn K cd_L "law" = true)
    (k_L : PySem.W.keepIn K (.ref fL) = true)
    (l_i : K.lookup fi = some ⟨oc_i, od_i, .func (PySem.W.fnOf "__init__" "Kind.__init__" (defArgs sInit) (defBody sInit) (defScope sInit) .none kV_i doc_i pm_i an_i cd_i ct_i), sl_i⟩)
    (e_i : PySem.W.codeIn K cd_i "Kind.__init__" = true)
    (k_i : PySem.W.keepIn K (.ref fi) = true)
    (l_o : K.lookup fo = some ⟨oc_o, od_o, .func (PySem.W.fnOf "of" "Kind.of" (defArgs sOf) (defBody sOf) (defScope sOf) .none kV_o doc_o pm_o an_o cd_o ct_o), sl_o⟩)
    (e_o : PySem.W.codeIn K cd_o "Kind.of" = true)
    (k_o : PySem.W.keepIn K (.ref fo) = true)
    (l_r : K.lookup fr = some ⟨oc_r, od_r, .func (PySem.W.fnOf "led" "Kind.led" (defArgs sKled) (defBody sKled) (defScope sKled) .none kV_r doc_r pm_r an_r cd_r ct_r), sl_r⟩)
    (e_r : PySem.W.codeIn K cd_r "Kind.led" = true)
    (k_r : PySem.W.keepIn K (.ref fr) = true)
    (l_v : K.lookup fv = some ⟨oc_v, od_v, .func (PySem.W.fnOf "difference" "Kind.difference" (defArgs sKdif) (defBody sKdif) (defScope sKdif) .none kV_v doc_v pm_v an_v cd_v ct_v), sl_v⟩)
    (e_v : PySem.W.codeIn K cd_v "Kind.difference" = true)
    (k_v : PySem.W.keepIn K (.ref fv) = true)
    (z_isinstance : PySem.W.nsIn K mainGlobals "isinstance" = some none)
    (z_str : PySem.W.nsIn K mainGlobals "str" = some none)
    (z_int : PySem.W.nsIn K mainGlobals "int" = some none)
    (z_bool : PySem.W.nsIn K mainGlobals "bool" = some none)
    (z_tuple : PySem.W.nsIn K mainGlobals "tuple" = some none)
    (z_len : PySem.W.nsIn K mainGlobals "len" = some none)
    (z_all : PySem.W.nsIn K mainGlobals "all" = some none)
    (z_set : PySem.W.nsIn K mainGlobals "set" = some none)
    (z_sorted : PySem.W.nsIn K mainGlobals "sorted" = some none)
    (z_range : PySem.W.nsIn K mainGlobals "range" = some none)
    (z_repr : PySem.W.nsIn K mainGlobals "repr" = some none)
    (z_enumerate : PySem.W.nsIn K mainGlobals "enumerate" = some none)
    (z_list : PySem.W.nsIn K mainGlobals "list" = some none)
    (z_min : PySem.W.nsIn K mainGlobals "min" = some none)
    (z_dict : PySem.W.nsIn K mainGlobals "dict" = some none)
    (v_MOST_STATES : PySem.W.nsIn K mainGlobals "MOST_STATES" = some (some (.int 40 t1)))
    (v_MOST_EVENTS : PySem.W.nsIn K mainGlobals "MOST_EVENTS" = some (some (.int 24 t2)))
    (v_MOST_LETTERS : PySem.W.nsIn K mainGlobals "MOST_LETTERS" = some (some (.int 12 t3)))
    (v_LETTERS : PySem.W.nsIn K mainGlobals "LETTERS" = some (some (.str LETS t4))) :
    ∃ fd : FuncData, (∀ (s : Shared) (v : Value), BindsTo s fd ⟨[v], []⟩ [("_law_script", v)]) ∧ ∀ base : Heap, K.In base → base.Ns mainGlobals mg → LamX.TabB base mg c Pt → FnG true (fun A => A.guards = some []) P w K mg base CX0 9 fa fd ["_law_script"] (spLaw K Pt) := by
  have e := hfa.symm.trans (PySem.W.mg_of X G a_L)
  cases e
  have nn : ∀ {n : Str}, PySem.W.nsIn K mainGlobals n = some none → mg n = none := fun {n} e => PySem.W.mg_none_of X G e
  have g : Gs mg := ⟨nn z_isinstance, nn z_str, nn z_int, nn z_bool, nn z_tuple, nn z_len, nn z_all, nn z_set, nn z_sorted, nn z_range, nn z_repr, nn z_enumerate, nn z_list, nn z_min, ⟨t1, PySem.W.mg_of X G v_MOST_STATES⟩, ⟨t2, PySem.W.mg_of X G v_MOST_EVENTS⟩, ⟨t3, PySem.W.mg_of X G v_MOST_LETTERS⟩, ⟨t4, PySem.W.mg_of X G v_LETTERS⟩⟩
  have cl : Cls K C := ⟨clpg, clhd, clpo, clsa⟩
  have M : Mk K C fi := ⟨mk1, mk2, mk3, mk4⟩
  have FM := fun_mk (st := sMoves) l_M e_M k_M
  have bM := FM.binds (ps := ["states"]) fun _ _ _ _ _ _ us hl => match us, hl with | [_], _ => rfl
  have mM := PySem.W.mg_of X G a_M
  have FY := fun_mk (st := sLedBy) l_Y e_Y k_Y
  have bY := FY.binds (ps := ["moves", "state", "events"]) fun _ _ _ _ _ _ us hl => match us, hl with | [_, _, _], _ => rfl
  have mY := PySem.W.mg_of X G a_Y
  have FR := fun_mk (st := sBeyond) l_R e_R k_R
  have bR := FR.binds (ps := ["mine", "one", "theirs", "other"]) fun _ _ _ _ _ _ us hl => match us, hl with | [_, _, _, _], _ => rfl
  have mR := PySem.W.mg_of X G a_R
  have FV := fun_mk (st := sDif) l_V e_V k_V
  have bV := FV.binds (ps := ["mine", "theirs"]) fun _ _ _ _ _ _ us hl => match us, hl with | [_, _], _ => rfl
  have mV := PySem.W.mg_of X G a_V
  have FW := fun_mk (st := sWord) l_W e_W k_W
  have bW := FW.binds (ps := ["thing"]) fun _ _ _ _ _ _ us hl => match us, hl with | [_], _ => rfl
  have mW := PySem.W.mg_of X G a_W
  have FB := fun_mk (st := sNumber) l_B e_B k_B
  have bB := FB.binds (ps := ["thing"]) fun _ _ _ _ _ _ us hl => match us, hl with | [_], _ => rfl
  have mB := PySem.W.mg_of X G a_B
  have FS := fun_mk (st := sStates) l_S e_S k_S
  have bS := FS.binds (ps := ["thing"]) fun _ _ _ _ _ _ us hl => match us, hl with | [_], _ => rfl
  have mS := PySem.W.mg_of X G a_S
  have FA := fun_mk (st := sState) l_A e_A k_A
  have bA := FA.binds (ps := ["thing", "many"]) fun _ _ _ _ _ _ us hl => match us, hl with | [_, _], _ => rfl
  have mA := PySem.W.mg_of X G a_A
  have FE := fun_mk (st := sStep) l_E e_E k_E
  have bE := FE.binds (ps := ["thing", "many"]) fun _ _ _ _ _ _ us hl => match us, hl with | [_, _], _ => rfl
  have mE := PySem.W.mg_of X G a_E
  have FF := fun_mk (st := sFeed) l_F e_F k_F
  have bF := FF.binds (ps := ["_law_script"]) fun _ _ _ _ _ _ us hl => match us, hl with | [_], _ => rfl
  have mF := PySem.W.mg_of X G a_F
  have FD := fun_mk (st := sDigit) l_D e_D k_D
  have bD := FD.binds (ps := ["_law_feed_here", "_law_many"]) fun _ _ _ _ _ _ us hl => match us, hl with | [_, _], _ => rfl
  have mD := PySem.W.mg_of X G a_D
  have FK := fun_mk (st := sPick) l_K e_K k_K
  have bK := FK.binds (ps := ["_law_feed_here", "_law_some"]) fun _ _ _ _ _ _ us hl => match us, hl with | [_, _], _ => rfl
  have mK := PySem.W.mg_of X G a_K
  have Fb1 := fun_mk (st := sMenu) l_b1 e_b1 k_b1
  have bb1 := Fb1.binds (ps := ["_law_feed_here", "_law_many"]) fun _ _ _ _ _ _ us hl => match us, hl with | [_, _], _ => rfl
  have mb1 := PySem.W.mg_of X G a_b1
  have Fb2 := fun_mk (st := sLStates) l_b2 e_b2 k_b2
  have bb2 := Fb2.binds (ps := ["_law_feed_here", "_law_many", "_law_menu_here", "_law_share"]) fun _ _ _ _ _ _ us hl => match us, hl with | [_, _, _, _], _ => rfl
  have mb2 := PySem.W.mg_of X G a_b2
  have Fb3 := fun_mk (st := sChain) l_b3 e_b3 k_b3
  have bb3 := Fb3.binds (ps := ["_law_feed_here", "_law_far"]) fun _ _ _ _ _ _ us hl => match us, hl with | [_, _], _ => rfl
  have mb3 := PySem.W.mg_of X G a_b3
  have Fb4 := fun_mk (st := sOther) l_b4 e_b4 k_b4
  have bb4 := Fb4.binds (ps := ["_law_feed_here", "_law_states_here"]) fun _ _ _ _ _ _ us hl => match us, hl with | [_, _], _ => rfl
  have mb4 := PySem.W.mg_of X G a_b4
  have Fb5 := fun_mk (st := sTwice) l_b5 e_b5 k_b5
  have bb5 := Fb5.binds (ps := ["_law_feed_here", "_law_states_here"]) fun _ _ _ _ _ _ us hl => match us, hl with | [_, _], _ => rfl
  have mb5 := PySem.W.mg_of X G a_b5
  have Fb6 := fun_mk (st := sPair) l_b6 e_b6 k_b6
  have bb6 := Fb6.binds (ps := ["_law_feed_here", "_law_most"]) fun _ _ _ _ _ _ us hl => match us, hl with | [_, _], _ => rfl
  have mb6 := PySem.W.mg_of X G a_b6
  have Fb7 := fun_mk (st := sFirst) l_b7 e_b7 k_b7
  have bb7 := Fb7.binds (ps := ["_law_states_here", "_law_others"]) fun _ _ _ _ _ _ us hl => match us, hl with | [_, _], _ => rfl
  have mb7 := PySem.W.mg_of X G a_b7
  have Fb8 := fun_mk (st := sEnd) l_b8 e_b8 k_b8
  have bb8 := Fb8.binds (ps := ["_law_made", "_law_sequence"]) fun _ _ _ _ _ _ us hl => match us, hl with | [_, _], _ => rfl
  have mb8 := PySem.W.mg_of X G a_b8
  have FL := fun_mk (st := sLaw) l_L e_L k_L
  have Fi := fun_mk (st := sInit) l_i e_i k_i
  have Fo := fun_mk (st := sOf) l_o e_o k_o
  have bo := Fo.binds (ps := ["cls", "states"]) fun _ _ _ _ _ _ us hl => match us, hl with | [_, _], _ => rfl
  have Fr := fun_mk (st := sKled) l_r e_r k_r
  have Fv := fun_mk (st := sKdif) l_v e_v k_v
  have bv := Fv.binds (ps := ["self", "other"]) fun _ _ _ _ _ _ us hl => match us, hl with | [_, _], _ => rfl
  refine ⟨PySem.W.fnOf "law" "law" (defArgs sLaw) (defBody sLaw) (defScope sLaw) .none kV_L doc_L pm_L an_L cd_L ct_L, fun s v => .of_eq rfl, fun base _ _ TB => ?_⟩
  have mC := PySem.W.mg_of X G aC
  have oF := ok_feed (P := P) (w := w) (mg := mg) (base := base) FF g.list
  have oD := ok_digit (P := P) (w := w) (mg := mg) (base := base) FD
  have oW := ok_word (P := P) (w := w) (mg := mg) (base := base) FW g
  have oB := ok_number (P := P) (w := w) (mg := mg) (base := base) FB g
  have oE := ok_step (P := P) (w := w) (mg := mg) (base := base) FE g oW mW k_W bW oB mB k_B bB
  have oA := ok_state (P := P) (w := w) (mg := mg) (base := base) FA g oE mE k_E bE
  have oS := ok_states (P := P) (w := w) (mg := mg) (base := base) FS g oA mA k_A bA
  have oM := ok_moves (P := P) (w := w) (mg := mg) (base := base) FM
  have oi := ok_init (P := P) (w := w) (mg := mg) (base := base) Fi cl n1 n2 oS mS k_S bS oM mM k_M bM
  have oo := ok_of (P := P) (w := w) (mg := mg) (base := base) Fo g M oi
  have oR := ok_beyond (P := P) (w := w) (mg := mg) (base := base) FR g
  have oV := ok_dif (P := P) (w := w) (mg := mg) (base := base) l_V e_V TB g oR mR k_R bR
  have oY := ok_ledby (P := P) (w := w) (mg := mg) (base := base) FY
  have hmA : Meth K C "led" fr := ⟨rc1, rc2, k_r⟩
  have hmB : Meth K C "difference" fv := ⟨rd1, rd2, k_v⟩
  have orr := ok_led (P := P) (w := w) (mg := mg) (base := base) Fr cl n2 oY mY k_Y bY
  have ov := ok_kdif (P := P) (w := w) (mg := mg) (base := base) Fv cl n2 oV mV k_V bV
  have kbB : KBinds K (PySem.W.fnOf "difference" "Kind.difference" (defArgs sKdif) (defBody sKdif) (defScope sKdif) .none kV_v doc_v pm_v an_v cd_v ct_v) ["self", "other"] ["other"] kgo kgo := by
    refine ⟨fun s us ws _ hl => ?_, fun r z => kgo_rel r z⟩
    match us, ws, hl with
    | [s0], [a], _ => exact .of_eq rfl
  have oK := ok_pick (P := P) (w := w) (mg := mg) (base := base) FK g.len oD mD k_D bD
  have ob1 := ok_menu (P := P) (w := w) (mg := mg) (base := base) Fb1 g oK mK k_K bK
  have ob2 := ok_lst (P := P) (w := w) (mg := mg) (base := base) Fb2 g oD mD k_D bD
  have ob3 := ok_chain (P := P) (w := w) (mg := mg) (base := base) Fb3 g oK mK k_K bK oD mD k_D bD
  have ob4 := ok_other (P := P) (w := w) (mg := mg) (base := base) Fb4 g oD mD k_D bD
  have ob5 := ok_twice (P := P) (w := w) (mg := mg) (base := base) Fb5 g oD mD k_D bD
  have ob6 := ok_pair (P := P) (w := w) (mg := mg) (base := base) Fb6 g oK mK k_K bK oD mD k_D bD ob3 mb3 k_b3 bb3 ob4 mb4 k_b4 bb4 ob1 mb1 k_b1 bb1 ob2 mb2 k_b2 bb2 ob5 mb5 k_b5 bb5
  have ob7 := ok_first (P := P) (w := w) (mg := mg) (base := base) Fb7 g (nn z_dict)
  have ob8 := ok_end (P := P) (w := w) (mg := mg) (base := base) Fb8 cl hmA orr
  have T : KOf P w K mg base C := ⟨mC, ⟨.type "type", ⟨rd, ga⟩, p1, fo, _, ⟨m_of, ⟨rest1, r_of⟩, f_of⟩, oo, bo⟩⟩
  exact ok_law FL T cl (nn z_repr) (nn z_range) oF mF k_F bF ob6 mb6 k_b6 bb6 ob7 mb7 k_b7 bb7 ob8 mb8 k_b8 bb8 hmB ov bv kbB
end My
-- ===== end =====
open PySem PySem.W PyProof.Rows
set_option maxRecDepth 100000
set_option maxHeartbeats 0
open_top head07 for PySem.Challenge.rw_mustwait_k07_differences
set_option maxRecDepth 100000 in
set_option maxHeartbeats 0 in
theorem PySem.Challenge.cw_mustwait_k07_differences_holds : PySem.Challenge.rw_mustwait_k07_differences.Holds :=
  head07 (by
  k_fill
  refine My.walk_ofT (l := PySem.Challenge.rw_mustwait_k07_differences) (n := 63) (k := 9) (x := "_law_script") (c := 81) (Pt := 79) (sp := My.spLaw) rfl (by decide) rfl ⟨rfl, by decide, by decide⟩ (fun w h Y => PySem.W.km_in_of Y) (fun w h Y => PySem.W.km_tabs_of Y 79 (by decide)) ?hkp ?hcd ?F (fun K H a ns hl hb hP hS => ⟨a, ns, rfl, hS, hl, hb, hP, fun _ => rfl⟩)
  case hkp => intro w; first | rfl | kernel_rfl
  case hcd =>
    intro w h KX
    refine PySem.W.codeHd_of_K KX ?hc
    case hc => first | rfl | kernel_rfl
  case F =>
    intro w mg fa h KX G hmg
    refine' My.all_mk (c := 81) (Pt := 79) KX G hmg ?aC ?clpg ?clhd ?clpo ?clsa ?n1 ?n2 ?rd ?ga ?m_of ?r_of ?f_of ?mk1 ?mk2 ?mk3 ?mk4 ?rc1 ?rc2 ?rd1 ?rd2 ?a_M ?l_M ?e_M ?k_M ?a_Y ?l_Y ?e_Y ?k_Y ?a_R ?l_R ?e_R ?k_R ?a_V ?l_V ?e_V ?k_V ?a_W ?l_W ?e_W ?k_W ?a_B ?l_B ?e_B ?k_B ?a_S ?l_S ?e_S ?k_S ?a_A ?l_A ?e_A ?k_A ?a_E ?l_E ?e_E ?k_E ?a_F ?l_F ?e_F ?k_F ?a_D ?l_D ?e_D ?k_D ?a_K ?l_K ?e_K ?k_K ?a_b1 ?l_b1 ?e_b1 ?k_b1 ?a_b2 ?l_b2 ?e_b2 ?k_b2 ?a_b3 ?l_b3 ?e_b3 ?k_b3 ?a_b4 ?l_b4 ?e_b4 ?k_b4 ?a_b5 ?l_b5 ?e_b5 ?k_b5 ?a_b6 ?l_b6 ?e_b6 ?k_b6 ?a_b7 ?l_b7 ?e_b7 ?k_b7 ?a_b8 ?l_b8 ?e_b8 ?k_b8 ?a_L ?l_L ?e_L ?k_L ?l_i ?e_i ?k_i ?l_o ?e_o ?k_o ?l_r ?e_r ?k_r ?l_v ?e_v ?k_v ?z_isinstance ?z_str ?z_int ?z_bool ?z_tuple ?z_len ?z_all ?z_set ?z_sorted ?z_range ?z_repr ?z_enumerate ?z_list ?z_min ?z_dict ?v_MOST_STATES ?v_MOST_EVENTS ?v_MOST_LETTERS ?v_LETTERS
    (case aC => k_is)
    (case clpg => k_is)
    (case clhd => k_is)
    (case clpo => k_is)
    (case clsa => k_is)
    (case n1 => k_is)
    (case n2 => k_is)
    (case rd => k_is)
    (case ga => k_is)
    (case m_of => k_is)
    (case r_of => k_is)
    (case f_of => k_is)
    (case mk1 => k_is)
    (case mk2 => k_is)
    (case mk3 => k_is)
    (case mk4 => k_is)
    (case rc1 => k_is)
    (case rc2 => k_is)
    (case rd1 => k_is)
    (case rd2 => k_is)
    (case a_M => k_is)
    (case l_M => k_is)
    (case e_M => k_is)
    (case k_M => k_is)
    (case a_Y => k_is)
    (case l_Y => k_is)
    (case e_Y => k_is)
    (case k_Y => k_is)
    (case a_R => k_is)
    (case l_R => k_is)
    (case e_R => k_is)
    (case k_R => k_is)
    (case a_V => k_is)
    (case l_V => k_is)
    (case e_V => k_is)
    (case k_V => k_is)
    (case a_W => k_is)
    (case l_W => k_is)
    (case e_W => k_is)
    (case k_W => k_is)
    (case a_B => k_is)
    (case l_B => k_is)
    (case e_B => k_is)
    (case k_B => k_is)
    (case a_S => k_is)
    (case l_S => k_is)
    (case e_S => k_is)
    (case k_S => k_is)
    (case a_A => k_is)
    (case l_A => k_is)
    (case e_A => k_is)
    (case k_A => k_is)
    (case a_E => k_is)
    (case l_E => k_is)
    (case e_E => k_is)
    (case k_E => k_is)
    (case a_F => k_is)
    (case l_F => k_is)
    (case e_F => k_is)
    (case k_F => k_is)
    (case a_D => k_is)
    (case l_D => k_is)
    (case e_D => k_is)
    (case k_D => k_is)
    (case a_K => k_is)
    (case l_K => k_is)
    (case e_K => k_is)
    (case k_K => k_is)
    (case a_b1 => k_is)
    (case l_b1 => k_is)
    (case e_b1 => k_is)
    (case k_b1 => k_is)
    (case a_b2 => k_is)
    (case l_b2 => k_is)
    (case e_b2 => k_is)
    (case k_b2 => k_is)
    (case a_b3 => k_is)
    (case l_b3 => k_is)
    (case e_b3 => k_is)
    (case k_b3 => k_is)
    (case a_b4 => k_is)
    (case l_b4 => k_is)
    (case e_b4 => k_is)
    (case k_b4 => k_is)
    (case a_b5 => k_is)
    (case l_b5 => k_is)
    (case e_b5 => k_is)
    (case k_b5 => k_is)
    (case a_b6 => k_is)
    (case l_b6 => k_is)
    (case e_b6 => k_is)
    (case k_b6 => k_is)
    (case a_b7 => k_is)
    (case l_b7 => k_is)
    (case e_b7 => k_is)
    (case k_b7 => k_is)
    (case a_b8 => k_is)
    (case l_b8 => k_is)
    (case e_b8 => k_is)
    (case k_b8 => k_is)
    (case a_L => k_is)
    (case l_L => k_is)
    (case e_L => k_is)
    (case k_L => k_is)
    (case l_i => k_is)
    (case e_i => k_is)
    (case k_i => k_is)
    (case l_o => k_is)
    (case e_o => k_is)
    (case k_o => k_is)
    (case l_r => k_is)
    (case e_r => k_is)
    (case k_r => k_is)
    (case l_v => k_is)
    (case e_v => k_is)
    (case k_v => k_is)
    (case z_isinstance => k_is)
    (case z_str => k_is)
    (case z_int => k_is)
    (case z_bool => k_is)
    (case z_tuple => k_is)
    (case z_len => k_is)
    (case z_all => k_is)
    (case z_set => k_is)
    (case z_sorted => k_is)
    (case z_range => k_is)
    (case z_repr => k_is)
    (case z_enumerate => k_is)
    (case z_list => k_is)
    (case z_min => k_is)
    (case z_dict => k_is)
    (case v_MOST_STATES => k_is)
    (case v_MOST_EVENTS => k_is)
    (case v_MOST_LETTERS => k_is)
    (case v_LETTERS => k_is))
#print axioms PySem.Challenge.cw_mustwait_k07_differences_holds
