import PyProof.Rows.All
import Wide.All
import OpenK.AllK
import Wide.FinOn
import HandS.ForMost
import HandS.Wide
import HandS.Style
import HandS.EndBits
import HandS.Conv
import PyProof.ReprLen
import PyProof.ReprReads
import PyProof.ReprRoads
import HandS.TupSets
import KE.KDictKeyed
import HandS.Strs
import KE.SortData
import KE.LtData
import HandS.Comp
import HandS.SetBool
import HandS.DictComp
import HandS.IsInst
import HandS.FStr
import HandS.Star
import HandS.ClsMeth
import HandS.Property
import HandS.Iter
import KE.GoesMore
import KE.GoesEnum
import HandS.SlotsOwn
import HandS.OwnEq
import PyProof.InstNe
import HandS.More
import HandS.Text
import HandS.Walk
import HandS.WordsExc
import HandS.HotCalls
import KE.KDictWalk
import KE.KDictCopyH
import KE.KeyNested
import PyProof.Rows.TupTab
import HandS.TupLen
import HandS.Flow
import HandS.SetFor
import HandS.SortInts
import HandS.Dict
import PyProof.DictMoreH
import HandS.Deep
import PyProof.TupleOfSeq
import PyProof.P3In
import OpenK.KOps
import HandS.Words
import PySem.Challenge.RW_mustwait_k04_reached
-- ===== K4A =====
set_option Elab.async false
set_option linter.all false
set_option maxRecDepth 100000
set_option maxHeartbeats 4000000
namespace My
open PySem L2
def top (i : Nat) : Stmt := PySem.Challenge.pw_mustwait_k04_reached.main.body.getD i (.Pass ⟨0, 0, 0, 0⟩)
abbrev sFeed : Stmt := top 31
abbrev sDigit : Stmt := top 32

/-- bits of the script's numbers -/
def Bits (ks : List Int) : Prop := ∀ k ∈ ks, Builtin.Int.intBits k ≤ 1048576
/-- a feed at p: its numbers at c, the mixed number, how many draws there were -/
structure FeedAt (H : Hp) (p c : Addr) (ks : List Int) (w n : Int) : Prop where
  ob : H p = some (.lst [.ref c, .int w, .int n])
  cs : H c = some (.lst (ks.map V.int))
  bits : Bits ks
  len : ks.length ≤ 62
  w0 : 0 ≤ w
  w1 : w < 2147483648
  n0 : 0 ≤ n
theorem FeedAt.ne {H : Hp} {p c : Addr} {ks : List Int} {w n : Int} (F : FeedAt H p c ks w n) : c ≠ p := by
  intro e
  have h1 := F.ob
  have h2 := F.cs
  rw [e, h1] at h2
  have h3 := HO.lst.inj (Option.some.inj h2)
  cases ks with
  | nil => cases h3
  | cons k r =>
    injection h3 with h4 _
    cases h4
/-- all that was tracked is as it was, but for these two -/
def Save (p c : Addr) (H H' : Hp) : Prop := ∀ b o, H b = some o → b ≠ p → b ≠ c → H' b = some o
theorem Save.refl (p c : Addr) (H : Hp) : Save p c H H := fun _ _ h _ _ => h
theorem Save.trans {p c : Addr} {H H1 H2 : Hp} (a : Save p c H H1) (b : Save p c H1 H2) : Save p c H H2 := fun x o h h1 h2 => b x o (a x o h h1 h2) h1 h2
theorem Save.of {p c : Addr} {H H1 : Hp} (a : Same H H1) : Save p c H H1 := fun x o h _ _ => a x o h

/-- _law_feed(script): a new feed -/
def spFeed (K : PySem.W.Frag) : Sp := fun vs H Q _ => ∃ (a : Addr) (ns : List Int), vs = [.ref a] ∧ SqL K H a (ns.map V.int) ∧ ns.length ≤ 63 ∧ Bits ns ∧
  ∀ (p c : Addr) (ks : List Int) (w : Int) (H' : Hp), Same H H' → H p = none → H c = none → FeedAt H' p c ks w 0 → Q (.ref p) H'
/-- _law_digit(feed, many): a number below many -/
def spDigit : Sp := fun vs H Q _ => ∃ (p c : Addr) (ks : List Int) (w n m : Int), vs = [.ref p, .int m] ∧ FeedAt H p c ks w n ∧ n < 1000000 ∧ 0 < m ∧ m < 1000000 ∧
  ∀ (i : Int) (ks' : List Int) (H' : Hp), 0 ≤ i → i < m → FeedAt H' p c ks' w (n + 1) → Save p c H H' → Q (.int i) H'

theorem cut62 (xs : List V) : cutV xs none (some (62 : Int)) = xs.take 62 := by
  unfold cutV HT.sIx
  simp [List.take_eq_take_min]
theorem lay_ints : ∀ ks : List Int, PyData.canLayAll0 (ks.map PyData.int) = true
  | [] => by simp only [List.map_nil, PyData.canLayAll0]
  | k :: r => by simp only [List.map_cons, PyData.canLayAll0, PyData.canLay0, lay_ints r, Bool.and_self]
theorem deep_ints : ∀ ks : List Int, PyData.depthAll (ks.map PyData.int) ≤ 1
  | [] => by simp only [List.map_nil, PyData.depthAll]; omega
  | k :: r => by
    have ih := deep_ints r
    simp only [List.map_cons, PyData.depthAll, PyData.depth]
    omega
theorem shaped_ints (ks : List Int) : SeqAt.shaped (.list (ks.map PyData.int)) = true := by
  have h := deep_ints ks
  unfold SeqAt.shaped
  rw [Bool.and_eq_true]
  refine ⟨by simp only [PyData.canLay0, lay_ints], decide_eq_true ?_⟩
  simp only [PyData.depth]
  omega
theorem dp_ints {K : PySem.W.Frag} {H : Hp} : ∀ ks : List Int, DpAll K H (ks.map V.int) (ks.map PyData.int)
  | [] => .nil
  | k :: r => .cons (.int k) (dp_ints r)
theorem some_ints : ∀ (ks : List Int) (z : Int), PyData.eqv (.list ((ks ++ [z]).map PyData.int)) (.list []) = false
  | [], z => by simp [PyData.eqv, PyData.eqvAll]
  | k :: r, z => by simp [PyData.eqv, PyData.eqvAll]
theorem bits_mono {i j : Int} (h0 : 0 ≤ i) (h : i ≤ j) : Builtin.Int.intBits i ≤ Builtin.Int.intBits j := by
  unfold Builtin.Int.intBits
  by_cases e : i = 0
  · subst e
    simp
  · have ej : ¬ j = 0 := by omega
    have e1 : (i == 0) = false := by simpa using e
    have e2 : (j == 0) = false := by simpa using ej
    rw [e1, e2]
    have h2 : i.natAbs ≤ j.natAbs := by omega
    have h3 : i.natAbs ≠ 0 := by omega
    have h4 : j.natAbs ≠ 0 := by omega
    have := (Nat.le_log2 h4).mpr (Nat.le_trans (Nat.log2_self_le h3) h2)
    simp
    exact this
section
variable {P : Program} {w : World} {K : PySem.W.Frag} {mg : Str → Option Value} {base : Heap}
theorem scF : FnScope ["_law_script", "_law_cells", "_law_whole", "_law_figure"] ["_law_script"] (defScope sFeed) := ⟨rfl, rfl, rfl, by decide +kernel, rfl, by decide +kernel, by decide +kernel⟩
theorem ok_feed {f : Addr} {fd : FuncData} (F : Fun K "_law_feed" "_law_feed" sFeed f fd) (mlist : mg "list" = none) : FnOk P w K mg base CX0 1 f fd ["_law_script"] (spFeed K) := by
  refine F.ok scF (fun vs H Q E h => ?_) (fun cdv A outer s H vs Q E hr h => ?_)
  · obtain ⟨a, ns, rfl, _⟩ := h
    rfl
  · obtain ⟨a, ns, rfl, hS, hlen, hbits, k⟩ := h
    refine ⟨_, pss_cons (ps_par (i := 1) (j := 2) rfl scF.nd rfl rfl (by decide) rfl rfl
        (pa_cons (pe_callTy call_list_of (by rfl) mlist (by decide +kernel) (pa_cons (pe_slice sl_list (pv 0) po_none (po_some pe_int)) pa_nil)) (pa_cons pe_int pa_nil)) (by rfl))
      (pss_cons (ps_for PassesOwn.never rfl (pi_list (pv 1)) (pg_name (i := 3) scF.nd rfl (Or.inl rfl))
        (pss_one (ps_set (i := 2) scF.nd rfl (Or.inl rfl)
          (pe_op op_mod (pe_op op_add (pe_op op_add (pe_op op_mul (pv 2) pe_int) (pe_op op_mod (pv 3) pe_int)) pe_int) pe_int))))
      (pss_one (ps_ret (pe_lst (pa_cons (pe_revL (pv 1)) (pa_cons (pv 2) (pa_cons pe_int pa_nil))))))), ?_⟩
    -- list(script[:62]), 40004
    refine ⟨_, rfl, 62, rfl, a, _, rfl, hS, fun q hq => ⟨q, _, rfl, .inl (SqL.of upd_same), fun l hl => ⟨_, _, rfl, ?_⟩⟩⟩
    have nlq : l ≠ q := fun e => by
      rw [e, upd_same] at hl
      cases hl
    have hl0 : H l = none := by
      rw [upd_ne nlq] at hl
      exact hl
    have s0 : Same H (upd (upd H q (.lst (cutV (ns.map V.int) none (some 62)))) l (.lst (cutV (ns.map V.int) none (some 62)))) := fun b o e => by
      rw [upd_ne (ne_of_none e hl0), upd_ne (ne_of_none e hq)]
      exact e
    have ecut : cutV (ns.map V.int) none (some 62) = (ns.take 62).map V.int := by rw [cut62, List.map_take]
    -- for figure in cells
    refine ⟨_, rfl, l, rfl, ⟨_, SqL.of upd_same⟩, for_list (K := K) (a := l) (xs := (ns.take 62).map V.int) (fun i σ H2 => ∃ (y : Int) (v : Option V), σ = [some (.ref a), some (.ref l), some (.int y), v] ∧ 0 ≤ y ∧ y < 2147483629 ∧ Same H H2 ∧ H2 l = some (.lst ((ns.take 62).map V.int)))
      ⟨40004, none, rfl, by decide, by decide, s0, by rw [upd_same, ecut]⟩ (fun i σ H2 _ ⟨_, _, _, _, _, _, e⟩ => SqL.of e) ?_ ?_⟩
    · rintro i x σ H2 hi ⟨y, v, rfl, y0, y1, s2, hc⟩
      obtain ⟨z, rfl⟩ : ∃ z, x = V.int z := by
        rw [List.getElem?_map] at hi
        cases e : (ns.take 62)[i]? with
        | none =>
          rw [e] at hi
          cases hi
        | some z =>
          rw [e] at hi
          exact ⟨z, (Option.some.inj hi).symm⟩
      refine ⟨_, rfl, _, _, rfl, rfl, .inl ⟨by omega, by omega⟩, _, rfl, _, _, rfl, rfl, (by show (0 : Int) < _; decide), _, _, rfl, rfl, _, _, rfl, rfl, _, _, rfl, rfl, (by show (0 : Int) < _; decide), ?_⟩
      exact ⟨_, _, rfl, Int.emod_nonneg _ (by decide), Int.emod_lt_of_pos _ (by decide), s2, hc⟩
    · rintro σ H2 ⟨y, v, rfl, y0, y1, s2, hc⟩
      refine ⟨_, rfl, l, _, rfl, SqL.of hc, fun c hcn => ⟨_, rfl, by show 3 ≤ sizeLine; decide, fun p hp => ?_⟩⟩
      have npc : p ≠ c := fun e => by
        rw [e, upd_same] at hp
        cases hp
      have hp0 : H2 p = none := by
        rw [upd_ne npc] at hp
        exact hp
      refine k p c (ns.take 62).reverse y _ (fun b o e => ?_) (s2.free hp0) (s2.free hcn) ⟨upd_same, ?_, ?_, ?_, y0, by omega, by decide⟩
      · rw [upd_ne (ne_of_none (s2 b o e) hp0), upd_ne (ne_of_none (s2 b o e) hcn)]
        exact s2 b o e
      · rw [upd_ne (Ne.symm npc), upd_same, List.map_reverse]
      · exact fun z hz => hbits z (List.mem_of_mem_take (List.mem_reverse.mp hz))
      · rw [List.length_reverse, List.length_take]
        omega
theorem scD : FnScope ["_law_feed_here", "_law_many", "_law_mix", "_law_figure"] ["_law_feed_here", "_law_many"] (defScope sDigit) := ⟨rfl, rfl, rfl, by decide +kernel, rfl, by decide +kernel, by decide +kernel⟩
theorem ok_digit {f : Addr} {fd : FuncData} (F : Fun K "_law_digit" "_law_digit" sDigit f fd) : FnOk P w K mg base CX0 1 f fd ["_law_feed_here", "_law_many"] spDigit := by
  refine F.ok scD (fun vs H Q E h => ?_) (fun cdv A outer s H vs Q E hr h => ?_)
  · obtain ⟨p, c, ks, y, n, m, rfl, _⟩ := h
    rfl
  · obtain ⟨p, c, ks, y, n, m, rfl, FA, hn, m0, m1, k⟩ := h
    have hu := hu_of hr
    have ncp := FA.ne
    have w0 := FA.w0
    have w1 := FA.w1
    have n0 := FA.n0
    refine ⟨_, pss_cons (ps_asg (pe_op op_add (pe_ix ix_list (pv 0) pe_int (fun _ _ => rfl)) pe_int) (pg_sub (pv 0) pe_int set_list))
      (pss_cons (ps_set (i := 2) scD.nd rfl (Or.inl rfl) (pe_op op_add (pe_ix ix_list (pv 0) pe_int (fun _ _ => rfl)) (pe_op op_mul (pe_op op_mul pe_int (pe_ix ix_list (pv 0) pe_int (fun _ _ => rfl))) (pe_ix ix_list (pv 0) pe_int (fun _ _ => rfl)))))
      (pss_cons (ps_if (pt_cmpR (op_neD hr.units) (pe_ix ix_list (pv 0) pe_int (fun _ _ => rfl)) (pe_lst pa_nil) (nomark _))
        (pss_cons (ps_set (i := 3) scD.nd rfl (Or.inl rfl) (pe_bm0 PySem.F.plainAttrs_list PySem.F.slot_list_pop PySem.F.type_list_pop mt_pop (pe_ix ix_list (pv 0) pe_int (fun _ _ => rfl))))
        (pss_cons (ps_if (pt_cmpR op_ge (pv 3) (pe_op op_pow pe_int pe_int) (nomark _))
          (pss_cons (ps_expr (pe_bm PySem.F.plainAttrs_list PySem.F.slot_list_append PySem.F.type_list_append mt_append (pe_ix ix_list (pv 0) pe_int (fun _ _ => rfl)) (pa_cons (pe_op op_fdivW (pv 3) (pv 1)) pa_nil)))
          (pss_one (ps_ret (pe_op op_mod (pv 3) (pv 1))))) pss_nil)
        (pss_one (ps_set (i := 2) scD.nd rfl (Or.inl rfl) (pe_op op_add (pv 2) (pv 3)))))) pss_nil)
      (pss_cons (ps_set (i := 2) scD.nd rfl (Or.inl rfl) (pe_op op_mod (pe_op op_mul (pe_op op_mod (pv 2) pe_int) pe_int) pe_int))
      (pss_cons (ps_set (i := 2) scD.nd rfl (Or.inl rfl) (pe_op op_mod (pe_op op_add (pe_op op_add (pe_op op_mul (pv 2) (pv 2)) (pe_op op_mul pe_int (pv 2))) pe_int) pe_int))
      (pss_one (ps_ret (pe_op op_mod (pe_op op_fdiv (pe_op op_mod (pe_op op_mul (pv 2) pe_int) pe_int) pe_int) (pv 1)))))))), ?_⟩
    -- feed[2] = feed[2] + 1
    refine ⟨_, rfl, p, _, 2, .int n, rfl, rfl, SqL.of FA.ob, rfl, _, _, rfl, rfl, _, rfl, p, _, _, 2, rfl, rfl, FA.ob, rfl, ?_⟩
    have hp1 : (upd H p (.lst ([V.ref c, .int y, .int n].set 2 (.int (n + 1))))) p = some (.lst [V.ref c, .int y, .int (n + 1)]) := upd_same
    have hc1 : (upd H p (.lst ([V.ref c, .int y, .int n].set 2 (.int (n + 1))))) c = some (.lst (ks.map V.int)) := by
      rw [upd_ne ncp]
      exact FA.cs
    have sv1 : Save p c H (upd H p (.lst ([V.ref c, .int y, .int n].set 2 (.int (n + 1))))) := fun b o e h1 _ => by
      rw [upd_ne h1]
      exact e
    generalize upd H p (.lst ([V.ref c, .int y, .int n].set 2 (.int (n + 1)))) = H1 at hp1 hc1 sv1 ⊢
    -- mix = feed[1] + 61843 * feed[2] * feed[2]
    refine ⟨_, rfl, p, _, 1, .int y, rfl, rfl, SqL.of hp1, rfl, _, rfl, p, _, 2, .int (n + 1), rfl, rfl, SqL.of hp1, rfl, _, _, rfl, rfl, .inl ⟨by decide, by decide⟩, _, rfl, p, _, 2, .int (n + 1), rfl, rfl, SqL.of hp1, rfl, _, _, rfl, rfl, .inl ⟨by omega, by omega⟩, _, _, rfl, rfl, ?_⟩
    generalize y + 61843 * (n + 1) * (n + 1) = mix
    -- if feed[0] != []
    refine ⟨_, rfl, p, _, 0, .ref c, rfl, rfl, SqL.of hp1, rfl, by show 0 ≤ sizeLine; decide, fun e he => ?_⟩
    refine ⟨.list (ks.map PyData.int), .list [], .lst (SqL.of (by rw [upd_ne (ne_of_none hc1 he)]; exact hc1)) (dp_ints ks), .lst (SqL.of upd_same) .nil, shaped_ints ks, by decide, _, rfl, ?_⟩
    have nce : c ≠ e := ne_of_none hc1 he
    have npe : p ≠ e := ne_of_none hp1 he
    have hp2 : (upd H1 e (.lst [])) p = some (.lst [V.ref c, .int y, .int (n + 1)]) := by
      rw [upd_ne npe]
      exact hp1
    have hc2 : (upd H1 e (.lst [])) c = some (.lst (ks.map V.int)) := by
      rw [upd_ne nce]
      exact hc1
    have sv2 : Save p c H (upd H1 e (.lst [])) := fun b o q h1 h2 => by
      have q1 := sv1 b o q h1 h2
      rw [upd_ne (ne_of_none q1 he)]
      exact q1
    generalize upd H1 e (.lst []) = H2 at hp2 hc2 sv2 ⊢
    have hbit := FA.bits
    have hlen := FA.len
    clear FA
    rcases List.eq_nil_or_concat ks with rfl | ⟨r, z, rfl⟩
    · have hb : (!PyData.eqv (.list (([] : List Int).map PyData.int)) (.list [])) = false := by decide
      rw [hb]
      refine iteF ?_
      refine ⟨_, rfl, _, _, rfl, rfl, (by show (0 : Int) < _; decide), _, _, rfl, rfl, .inl ⟨by omega, by omega⟩, _, _, rfl, rfl, (by show (0 : Int) < _; decide), ?_⟩
      have b0 := Int.emod_nonneg (mix % 2147483563 * 48271) (show (2147483647 : Int) ≠ 0 by decide)
      have b1 := Int.emod_lt_of_pos (mix % 2147483563 * 48271) (show (0 : Int) < 2147483647 by decide)
      generalize mix % 2147483563 * 48271 % 2147483647 = g at b0 b1 ⊢
      refine ⟨_, rfl, _, rfl, _, _, rfl, rfl, .inl ⟨by omega, by omega⟩, _, rfl, _, _, rfl, rfl, .inl ⟨by decide, by decide⟩, _, _, rfl, rfl, _, _, rfl, rfl, _, _, rfl, rfl, (by show (0 : Int) < _; decide), ?_⟩
      have d0 := Int.emod_nonneg (g * g + 39373 * g + 401) (show (2147483587 : Int) ≠ 0 by decide)
      have d1 := Int.emod_lt_of_pos (g * g + 39373 * g + 401) (show (0 : Int) < 2147483587 by decide)
      generalize (g * g + 39373 * g + 401) % 2147483587 = j at d0 d1 ⊢
      refine ⟨_, rfl, _, _, rfl, rfl, .inl ⟨by omega, by omega⟩, _, _, rfl, rfl, (by show (0 : Int) < _; decide), _, _, rfl, rfl, ⟨by decide, by decide⟩, _, rfl, _, _, rfl, rfl, m0, ?_⟩
      exact k _ [] H2 (Int.emod_nonneg _ (by omega)) (Int.emod_lt_of_pos _ m0) ⟨hp2, hc2, hbit, hlen, w0, w1, by omega⟩ sv2
    · rw [List.concat_eq_append] at hc2 hbit hlen ⊢
      have hb : (!PyData.eqv (.list ((r ++ [z]).map PyData.int)) (.list [])) = true := by rw [some_ints] <;> rfl
      rw [hb]
      refine iteT ?_
      rw [List.map_append] at hc2
      -- figure = feed[0].pop()
      have hc2' : H2 c = some (.lst (r.map V.int ++ [V.int z])) := hc2
      have hbr : Bits r := fun v hv => hbit v (List.mem_append_left _ hv)
      have hbz : Builtin.Int.intBits z ≤ 1048576 := hbit z (List.mem_append_right _ List.mem_cons_self)
      have hlr : r.length + 1 ≤ 62 := by
        rw [List.length_append] at hlen
        exact hlen
      refine ⟨_, rfl, p, _, 0, .ref c, rfl, rfl, SqL.of hp2, rfl, .inl ⟨rfl, _, SqL.of hc2'⟩, c, _, .int z, rfl, rfl, hc2', by simp, ?_⟩
      rw [List.dropLast_concat]
      have hp3 : (upd H2 c (.lst (r.map V.int))) p = some (.lst [V.ref c, .int y, .int (n + 1)]) := by
        rw [upd_ne (Ne.symm ncp)]
        exact hp2
      have hc3 : (upd H2 c (.lst (r.map V.int))) c = some (.lst (r.map V.int)) := upd_same
      have sv3 : Save p c H (upd H2 c (.lst (r.map V.int))) := fun b o q h1 h2 => by
        rw [upd_ne h2]
        exact sv2 b o q h1 h2
      generalize upd H2 c (.lst (r.map V.int)) = H3 at hp3 hc3 sv3 ⊢
      -- if figure >= 10 ** 18
      refine ⟨_, rfl, _, _, rfl, rfl, ⟨by decide, by decide, by decide⟩, _, _, rfl, rfl, _, rfl, ?_⟩
      by_cases big : (10 : Int) ^ ((18 : Int).toNat) ≤ z
      · rw [decide_eq_true big]
        refine iteT ?_
        have zb : (0 : Int) ≤ z := Int.le_trans (by decide) big
        -- feed[0].append(figure // many); return figure % many
        refine ⟨_, rfl, p, _, 0, .ref c, rfl, rfl, SqL.of hp3, rfl, .inl ⟨rfl, _, SqL.of hc3⟩, _, rfl, _, rfl, _, _, rfl, rfl, wide_div m0 (b := 30) (by omega) (by decide) (by decide), c, _, _, rfl, rfl, hc3, small1000 (by rw [List.length_map]; omega), ?_⟩
        refine ⟨_, rfl, _, rfl, _, _, rfl, rfl, m0, ?_⟩
        refine k _ (r ++ [z / m]) _ (Int.emod_nonneg _ (by omega)) (Int.emod_lt_of_pos _ m0) ⟨by rw [upd_ne (Ne.symm ncp)]; exact hp3, by rw [upd_same, List.map_append] <;> rfl, fun v hv => ?_, by rw [List.length_append]; exact hlr, w0, w1, by omega⟩ fun b o q h1 h2 => ?_
        · rcases List.mem_append.mp hv with hv | hv
          · exact hbr v hv
          · obtain rfl : v = z / m := by simpa using hv
            exact Nat.le_trans (bits_mono (Int.ediv_nonneg zb (by omega)) (Int.ediv_le_self _ zb)) hbz
        · rw [upd_ne h2]
          exact sv3 b o q h1 h2
      · rw [decide_eq_false big]
        refine iteF ?_
        refine ⟨_, rfl, _, rfl, _, _, rfl, rfl, ?_⟩
        refine ⟨_, rfl, _, _, rfl, rfl, (by show (0 : Int) < _; decide), _, _, rfl, rfl, .inl ⟨by omega, by omega⟩, _, _, rfl, rfl, (by show (0 : Int) < _; decide), ?_⟩
        have b0 := Int.emod_nonneg ((mix + z) % 2147483563 * 48271) (show (2147483647 : Int) ≠ 0 by decide)
        have b1 := Int.emod_lt_of_pos ((mix + z) % 2147483563 * 48271) (show (0 : Int) < 2147483647 by decide)
        generalize (mix + z) % 2147483563 * 48271 % 2147483647 = g at b0 b1 ⊢
        refine ⟨_, rfl, _, rfl, _, _, rfl, rfl, .inl ⟨by omega, by omega⟩, _, rfl, _, _, rfl, rfl, .inl ⟨by decide, by decide⟩, _, _, rfl, rfl, _, _, rfl, rfl, _, _, rfl, rfl, (by show (0 : Int) < _; decide), ?_⟩
        have d0 := Int.emod_nonneg (g * g + 39373 * g + 401) (show (2147483587 : Int) ≠ 0 by decide)
        have d1 := Int.emod_lt_of_pos (g * g + 39373 * g + 401) (show (0 : Int) < 2147483587 by decide)
        generalize (g * g + 39373 * g + 401) % 2147483587 = j at d0 d1 ⊢
        refine ⟨_, rfl, _, _, rfl, rfl, .inl ⟨by omega, by omega⟩, _, _, rfl, rfl, (by show (0 : Int) < _; decide), _, _, rfl, rfl, ⟨by decide, by decide⟩, _, rfl, _, _, rfl, rfl, m0, ?_⟩
        exact k _ r H3 (Int.emod_nonneg _ (by omega)) (Int.emod_lt_of_pos _ m0) ⟨hp3, hc3, hbr, by omega, w0, w1, by omega⟩ sv3
end
end My

-- ===== K4D =====
set_option Elab.async false
set_option linter.all false
set_option maxRecDepth 100000
set_option maxHeartbeats 4000000
namespace My
open PySem L2 PyProof.Rows PySem.Spec
/-! ### data, apart from two addresses -/
mutual
/-- v is the data d; F holds of where its objects stand -/
inductive Dq (F : Addr → Prop) (H : Hp) : V → PyData → Prop
  | non : Dq F H .non .none
  | bl (b : Bool) : Dq F H (.bl b) (.bool b)
  | int (i : Int) : Dq F H (.int i) (.int i)
  | str (x : Str) : Dq F H (.str x) (.str x)
  | lst {a : Addr} {xs : List V} {ds : List PyData} : sysModules < a → F a → H a = some (.lst xs) → DqAll F H xs ds → Dq F H (.ref a) (.list ds)
  | tup {a : Addr} {xs : List V} {ds : List PyData} : F a → H a = some (.tup xs) → DqAll F H xs ds → Dq F H (.ref a) (.tuple ds)
  | dct {a : Addr} {k : Str} {v : V} {d : PyData} : F a → H a = some (.dK [(Sum.inr k, v)]) → Dq F H v d → Dq F H (.ref a) (.dict [(.str k, d)])
inductive DqAll (F : Addr → Prop) (H : Hp) : List V → List PyData → Prop
  | nil : DqAll F H [] []
  | cons {v : V} {vs : List V} {d : PyData} {ds : List PyData} : Dq F H v d → DqAll F H vs ds → DqAll F H (v :: vs) (d :: ds)
end
mutual
/-- .. in another heap, where these objects stand, too; of less -/
theorem Dq.to {F F' : Addr → Prop} {H H' : Hp} (s : ∀ a o, F a → H a = some o → H' a = some o) (m : ∀ a, F a → F' a) : ∀ {v : V} {d : PyData}, Dq F H v d → Dq F' H' v d
  | _, _, .non => .non
  | _, _, .bl b => .bl b
  | _, _, .int i => .int i
  | _, _, .str x => .str x
  | _, _, .lst h1 h2 h4 h5 => .lst h1 (m _ h2) (s _ _ h2 h4) (DqAll.to s m h5)
  | _, _, .tup h2 h4 h5 => .tup (m _ h2) (s _ _ h2 h4) (DqAll.to s m h5)
  | _, _, .dct h2 h4 h5 => .dct (m _ h2) (s _ _ h2 h4) (Dq.to s m h5)
theorem DqAll.to {F F' : Addr → Prop} {H H' : Hp} (s : ∀ a o, F a → H a = some o → H' a = some o) (m : ∀ a, F a → F' a) : ∀ {vs : List V} {ds : List PyData}, DqAll F H vs ds → DqAll F' H' vs ds
  | _, _, .nil => .nil
  | _, _, .cons h1 h2 => .cons (Dq.to s m h1) (DqAll.to s m h2)
end
theorem DqAll.snoc {F : Addr → Prop} {H : Hp} {v : V} {d : PyData} (h : Dq F H v d) : ∀ {vs : List V} {ds : List PyData}, DqAll F H vs ds → DqAll F H (vs ++ [v]) (ds ++ [d])
  | _, _, .nil => .cons h .nil
  | _, _, .cons h1 h2 => .cons h1 (DqAll.snoc h h2)
section
variable {X : Cx} {pins : List (Addr × Obj)} {σ : L2.St} {H : Hp} {s : Shared} {F : Addr → Prop}
theorem modules_not {as bs : List Addr} (h1 : sysModules ∉ as) (h2 : sysModules ∉ bs) : sysModules ∉ as ++ bs := fun h => (List.mem_append.mp h).elim h1 h2
mutual
theorem Dq.reads (I : Inv X pins σ H s) : ∀ (d : PyData) (v : V) (u : Value), Dq F H v d → RelV v u → ∃ as, Reads s.heap u d as ∧ sysModules ∉ as
  | .none, _, _, h, r => by
    cases h
    cases r
    exact ⟨_, Reads.none, by simp⟩
  | .bool b, _, _, h, r => by
    cases h
    cases r
    exact ⟨_, Reads.bool b, by simp⟩
  | .int i, _, _, h, r => by
    cases h
    obtain ⟨t, rfl⟩ := r
    exact ⟨_, Reads.int i t, by simp⟩
  | .str x, _, _, h, r => by
    cases h
    obtain ⟨t, rfl⟩ := r
    exact ⟨_, Reads.str x t, by simp⟩
  | .list ds, _, _, h, r => by
    cases h with
    | lst big n1 ha hd =>
      rename_i a xs
      cases r
      obtain ⟨_, its, n, rv, ho⟩ := (show ObjOk X.prog X.w H s.heap a (.lst xs) from I.hok a _ ha)
      obtain ⟨as, hr, hn⟩ := DqAll.reads I ds _ its hd rv
      refine ⟨_, Reads.list ho rfl rfl (by simpa using hr), ?_⟩
      intro hm
      rcases List.mem_cons.mp hm with e | e
      · exact absurd big (by rw [← e]; exact Nat.lt_irrefl _)
      · exact hn e
  | .tuple ds, _, _, h, r => by
    cases h with
    | tup n1 ha hd =>
      rename_i a xs
      cases r
      obtain ⟨_, its, rv, o, ho, hc, n, hdt⟩ := (show ObjOk X.prog X.w H s.heap a (.tup xs) from I.hok a _ ha)
      obtain ⟨as, hr, hn⟩ := DqAll.reads I ds _ its hd rv
      exact ⟨_, Reads.tuple ho hc hdt (by simpa using hr), hn⟩
  | .dict [], _, _, h, _ => by cases h
  | .dict [(k, d)], _, _, h, r => by
    cases h with
    | dct n1 ha hd =>
      rename_i a k v
      cases r
      obtain ⟨_, low, vs, rel, o, es, ep, ho, hx, hdt, _, hp, _⟩ := (show ObjOk X.prog X.w H s.heap a (.dK [(Sum.inr k, v)]) from I.hok a _ ha)
      rcases vs with _ | ⟨⟨kk, u⟩, _ | ⟨_, _⟩⟩
      · cases rel
      · have r1 : (Sum.inr k = kk) ∧ RelV v u := by
          cases rel with
          | cons r1 rn => exact r1
        obtain ⟨e1, rv⟩ := r1
        subst e1
        generalize hl : es.toList = l at hp
        cases hp with
        | cons hk hv hrest =>
          cases hrest
          rename_i en
          obtain ⟨as, hr, hn⟩ := Dq.reads I d v u hd rv
          obtain ⟨t, hk'⟩ : ∃ t, en.key = Value.str k t := by
            have hk2 : keyIs (Sum.inr k) en.key = true := hk
            rcases keyIs_shape hk2 with ⟨i, t, q, _⟩ | ⟨y, t, q, z⟩
            · cases q
            · cases q
              exact ⟨t, z⟩
          refine ⟨_, Reads.dict (es := es) (as := []) (bs := as ++ []) ho hx.1 hdt ?_ ?_, ?_⟩
          · rw [hl]
            show ReadsAll s.heap [en.key] [PyData.str k] []
            rw [hk']
            exact .cons (as := []) (bs := []) (.str k t) .nil
          · rw [hl]
            show ReadsAll s.heap [en.val] [d] (as ++ [])
            rw [show en.val = u from hv]
            exact .cons hr .nil
          · intro hm
            have hm' : sysModules ∈ a :: (as ++ []) := by simpa using hm
            rcases List.mem_cons.mp hm' with e | e
            · rw [← e] at low
              exact absurd low (by simp)
            · exact hn (by simpa using e)
      · cases rel with
        | cons _ rn => cases rn
  | .dict (_ :: _ :: _), _, _, h, _ => by cases h
theorem DqAll.reads (I : Inv X pins σ H s) : ∀ (ds : List PyData) (vs : List V) (us : List Value), DqAll F H vs ds → Vals vs us → ∃ as, ReadsAll s.heap us ds as ∧ sysModules ∉ as
  | [], _, _, h, r => by
    cases h
    cases r
    exact ⟨_, ReadsAll.nil, by simp⟩
  | d :: ds, _, _, h, r => by
    cases h with
    | cons h1 h2 =>
      cases r with
      | cons r1 r2 =>
        obtain ⟨as, q1, n1⟩ := Dq.reads I d _ _ h1 r1
        obtain ⟨bs, q2, n2⟩ := DqAll.reads I ds _ _ h2 r2
        exact ⟨_, ReadsAll.cons q1 q2, modules_not n1 n2⟩
end
/-! ### repr of such data -/
def rReprD (F : Addr → Prop) : List V → Hp → VK → Prop := fun xs H Q => ∃ v d, xs = [v] ∧ Dq F H v d ∧ d.showable = true ∧ d.depth ≤ 60 ∧ d.shown.length ≤ sizeLine ∧ Q (.str d.shown) H
theorem call_reprD (hg : X.A.guards = some []) (hu : X.A.units + 64 < cLine) : CallR X (.builtin "repr") (rReprD F) := by
  intro pins s σ H xs us Q I r h
  obtain ⟨v, d, rfl, hd, hs, hdp, hz, q⟩ := h
  obtain ⟨u, rfl, rx⟩ := vals1 r
  obtain ⟨as, hr, hn⟩ := Dq.reads I d v u hd rx
  cases hd with
  | non =>
    cases (show u = Value.none from rx)
    exact P.repr_of_none ⟨.str _, H, I.tok _, ⟨_, rfl⟩, q⟩
  | bl b =>
    cases (show u = Value.bool b from rx)
    exact P.repr_of_bool ⟨.str _, H, I.tok _, ⟨_, rfl⟩, q⟩
  | int i =>
    obtain ⟨t, rfl⟩ := (show ∃ t, u = Value.int i t from rx)
    exact P.repr_of_int (by simpa [PyData.showable] using hs) ⟨.str _, H, I.tok _, ⟨_, rfl⟩, q⟩
  | str x =>
    obtain ⟨t, rfl⟩ := (show ∃ t, u = Value.str x t from rx)
    exact P.repr_of_str ⟨.str _, H, I.tok _, ⟨_, rfl⟩, q⟩ (by simpa only [PyData.shown] using hz)
  | lst _ _ _ _ =>
    cases rx
    exact repr_of_reads' hr hs (fun _ => hn) hg (by omega) (fun _ _ e => e) (fun h' t tk k => ⟨.str _, H, I.kept k, ⟨t, rfl⟩, q⟩) hz
  | tup _ _ _ =>
    cases rx
    exact repr_of_reads' hr hs (fun _ => hn) hg (by omega) (fun _ _ e => e) (fun h' t tk k => ⟨.str _, H, I.kept k, ⟨t, rfl⟩, q⟩) hz
  | dct _ _ _ =>
    cases rx
    exact repr_of_reads' hr hs (fun _ => hn) hg (by omega) (fun _ _ e => e) (fun h' t tk k => ⟨.str _, H, I.kept k, ⟨t, rfl⟩, q⟩) hz
end
end My

-- ===== KS1 =====
set_option Elab.async false
set_option linter.all false
set_option maxRecDepth 100000
set_option maxHeartbeats 1600000
/-! Sets whose members are objects told by a key (tuples of texts, nested tuples): search and add. -/
namespace Kd
open PySem PySem.Spec PyProof.Rows L2

section
variable {P : Program} {w : World} {K : Type} [DecidableEq K]
/-- keys that a set can have for members: nothing of the program is asked when they are compared -/
structure SetKind (knd : HeapKind P w K) : Prop where
  st : knd.Stays
  cls : ∀ {A : Around} {E : Value → Shared → Prop} {s : Shared} {k : K} {b : Addr} {Q : Bool → Shared → Prop}, knd.is s.heap k b → Q false s → wpAny (model P w) A (ofAClassStatement 8 (.ref b)) Q E s
  byv : ∀ {A : Around} {E : Value → Shared → Prop} {s : Shared} {k : K} {b : Addr} {Q : Bool → Shared → Prop}, knd.is s.heap k b → (∀ c, Q c s) → wpAny (model P w) A (hashByValue 8 (.ref b)) Q E s

def rowsH (knd : HeapKind P w K) (L : List (Addr × K)) : List (Int × Value) := L.map fun q => (knd.hash q.2, Value.ref q.1)
def hashH (knd : HeapKind P w K) (L : List (Addr × K)) : List Int := L.map fun q => knd.hash q.2
theorem rowsH_len (knd : HeapKind P w K) (L : List (Addr × K)) : (rowsH knd L).length = L.length := List.length_map ..
theorem hashH_len (knd : HeapKind P w K) (L : List (Addr × K)) : (hashH knd L).length = L.length := List.length_map ..
/-- at a the set with the members L: their addresses and keys, in the order of the table -/
structure SetH (knd : HeapKind P w K) (h : Heap) (a : Addr) (L : List (Addr × K)) (es : Array (Int × Value)) (ep : Nat) (t : SetTable) : Prop where
  ob : ∃ o, h.get? a = some o ∧ o.ExactSet ∧ o.data = .set es ep t
  rows : es.toList = rowsH knd L
  tab : TabOk t (hashH knd L)
  nd : (L.map Prod.snd).Nodup
  key : ∀ q ∈ L, knd.is h q.2 q.1
  led : w.params.followText "set-order" = true ∨ t.led = true
  room : L.length * 5 < t.mask * 3
  few : L.length < 64
end

section
variable {P : Program} {w : World} {K : Type} [DecidableEq K] {knd : HeapKind P w K} {A : Around} {E : Value → Shared → Prop} {s : Shared} {h : Heap} {a : Addr} {L : List (Addr × K)} {es : Array (Int × Value)} {ep : Nat} {t : SetTable}

theorem SetH.esz (Z : SetH knd h a L es ep t) : es.size = L.length := by
  have q := congrArg List.length Z.rows
  rwa [rowsH_len, Array.length_toList] at q
theorem SetH.psz (Z : SetH knd h a L es ep t) : t.place.size = L.length := by
  have q := Z.tab.sz
  rwa [hashH_len] at q
theorem SetH.fit (Z : SetH knd h a L es ep t) : t.fits es.size = true := by
  have q1 := Z.psz
  have q2 := Z.esz
  have q3 := Z.room
  unfold SetTable.fits SetTable.fill
  rw [Z.tab.dm, Bool.and_eq_true, beq_iff_eq, decide_eq_true_eq, q1, q2]
  refine ⟨rfl, ?_⟩
  show L.length + 0 ≤ t.mask
  omega
theorem SetH.at_ (Z : SetH knd h a L es ep t) {i : Nat} {q : Addr × K} (e : L[i]? = some q) : es[i]? = some (knd.hash q.2, Value.ref q.1) := by
  have z : es.toList[i]? = some (knd.hash q.2, Value.ref q.1) := by
    rw [Z.rows]
    show (L.map _)[i]? = _
    rw [List.getElem?_map, e]
    rfl
  rwa [Array.getElem?_toList] at z
theorem SetH.stands (Z : SetH knd h a L es ep t) : ¬ t.gaveWay = true := by
  unfold SetTable.gaveWay
  rw [mask_odd Z.tab.mok]
  decide
theorem nth_plain (m : Nat) : ∀ (n : Nat) (p : SetTable.Probe), p.dummy = none → (nth m p n).dummy = none
  | 0, _, e => e
  | n + 1, p, e => nth_plain m n (adv m p) (by unfold adv; split <;> exact e)

/-- comparing keys shows nothing -/
theorem unseen (S : SetKind knd) {k : K} {b : Addr} {Q : Bool → Shared → Prop} (hb : knd.is s.heap k b) {ys : List Value} (hy : ∀ y ∈ ys, ∃ k' c, y = Value.ref c ∧ knd.is s.heap k' c) (q : Q false s) :
    wpAny (model P w) A (searchCouldBeSeen (.ref b) ys) Q E s := by
  unfold searchCouldBeSeen
  refine wpAny_bind (wpAny_forIn_list _ (fun todo r s1 => r.1 = none ∧ s1 = s ∧ ∀ y ∈ todo, ∃ k' c, y = Value.ref c ∧ knd.is s.heap k' c) _ (fun y todo r s1 hI => ?_) (fun r s1 hI => ?_) _ _ ⟨rfl, rfl, hy⟩)
  · obtain ⟨e1, e2, e3⟩ := hI
    subst e2
    obtain ⟨k', c, e4, hc⟩ := e3 y List.mem_cons_self
    subst e4
    have more : ∀ y ∈ todo, ∃ k' c, y = Value.ref c ∧ knd.is s1.heap k' c := fun u hu => e3 u (List.mem_cons_of_mem _ hu)
    dsimp only
    by_cases same : (b == c || (carriedByValue (.ref b) && carriedByValue (.ref c))) = true
    · exact wp_if_pos same (wpAny_pure ⟨rfl, rfl, more⟩)
    · refine wp_if_neg same (wpAny_bind (knd.quiet hb ?_))
      simp only [Bool.not_true, Bool.false_eq_true, if_false]
      refine wpAny_bind (knd.quiet hc ?_)
      simp only [Bool.not_true, Bool.false_eq_true, if_false]
      refine wpAny_bind (S.cls hb ?_)
      simp only [Bool.false_eq_true, if_false]
      refine wpAny_bind (S.cls hc ?_)
      simp only [Bool.false_eq_true, if_false]
      exact wpAny_pure ⟨rfl, rfl, more⟩
  · obtain ⟨r1, r2⟩ := r
    obtain ⟨e1, e2, _⟩ := hI
    have e1 : r1 = none := e1
    subst e1
    subst e2
    exact wpAny_pure q

/-- the probe's state behind c steps -/
abbrev prob (t : SetTable) (g : Int) (c : Nat) : SetTable.Probe := nth t.mask (runAt t.mask (SetTable.bits g % (t.mask + 1)) (SetTable.bits g)) c

theorem seek (S : SetKind knd) (Z : SetH knd s.heap a L es ep t) {x : Addr} {k : K} (hx : knd.is s.heap k x) (hr : knd.room A) {K0 : Nat} (kf : K0 < 10 * SetTable.turns t.mask)
    (kout : way t.mask (knd.hash k) K0 ∉ t.place.toList) (kin : ∀ c, c < K0 → way t.mask (knd.hash k) c ∈ t.place.toList) {Q : SetFound → Shared → Prop}
    (yes : k ∈ L.map Prod.snd → Q (.there none) s) (no : k ∉ L.map Prod.snd → Q (.free (way t.mask (knd.hash k) K0) false) s) :
    ∀ (m f c : Nat) (stand : Option SetTable.Probe), K0 - c = m → m < f → c ≤ K0 → stand.getD (t.probeStart (knd.hash k)) = prob t (knd.hash k) c →
      (∀ (i : Nat) q, L[i]? = some q → q.2 = k → ∃ d, c ≤ d ∧ d < K0 ∧ t.place.toList[i]? = some (way t.mask (knd.hash k) d)) →
      wpAny (model P w) A (setSearchFrom a (.ref x) (knd.hash k) true f stand) Q E s := by
  intro m
  induction m using Nat.strongRecOn with
  | ind m ih =>
    intro f c stand em mf ck es0 left
    obtain ⟨f, rfl⟩ : ∃ f', f = f' + 1 := ⟨f - 1, by omega⟩
    obtain ⟨o, ho, hex, hdat⟩ := Z.ob
    rw [setSearchFrom_succ]
    refine wpAny_bind (wpAny_setState_of ho hdat Z.fit ?_)
    dsimp only
    refine wp_if_neg Z.stands ?_
    have step : ∀ d, nth t.mask (prob t (knd.hash k) c) d = prob t (knd.hash k) (c + d) := fun d => (nth_add t.mask c _ d).symm
    have stepj : ∀ d, (nth t.mask (prob t (knd.hash k) c) d).j = way t.mask (knd.hash k) (c + d) := fun d => by rw [step d]
    have hend : c + (K0 - c) = K0 := by omega
    have hat : ∀ (i : Nat) q, L[i]? = some q → (fun i => (es[i]?.map (·.1)).getD 0) i = knd.hash q.2 := fun i q e => by
      show (es[i]?.map (·.1)).getD 0 = _
      rw [Z.at_ e]
      rfl
    rcases go_spec t Z.tab.ris Z.tab.dm (fun i => (es[i]?.map (·.1)).getD 0) (knd.hash k) (10 * SetTable.turns t.mask) (K0 - c) (prob t (knd.hash k) c) (nth_plain _ _ _ rfl) (by omega)
        (fun d hd => by rw [stepj]; exact kin _ (by omega)) (by rw [stepj, hend]; exact kout) with ⟨d, i, d1, d2, d3, d4, d5⟩ | ⟨d1, d2⟩
    · rw [stepj] at d2
      rw [stepj, step] at d5
      have pr : t.probe (fun i => (es[i]?.map (·.1)).getD 0) (knd.hash k) (stand.getD (t.probeStart (knd.hash k))) = some (.candidate (way t.mask (knd.hash k) (c + d)) i (prob t (knd.hash k) (c + (d + 1)))) := by
        rw [es0]
        exact d5
      rw [pr]
      dsimp only
      have il : i < L.length := by
        have z := (List.getElem?_eq_some_iff.mp d2).1
        rw [Array.length_toList, Z.psz] at z
        exact z
      obtain ⟨q, eq⟩ : ∃ q, L[i]? = some q := ⟨_, List.getElem?_eq_getElem il⟩
      have qm : q ∈ L := List.mem_of_getElem? eq
      have go : wpAny (model P w) A (searchRest a (.ref x) (knd.hash k) true f es t (way t.mask (knd.hash k) (c + d)) i (prob t (knd.hash k) (c + (d + 1)))) Q E s := by
        unfold searchRest
        rw [Z.at_ eq]
        dsimp only
        refine wpAny_bind (wpAny_holding (knd.eqBool hr (Z.key q qm) hx ?_))
        refine wpAny_bind (wpAny_setState_of ho hdat Z.fit ?_)
        dsimp only
        have live : t.slot (way t.mask (knd.hash k) (c + d)) = .live i := slot_live Z.tab.ris d2
        by_cases ek : q.2 = k
        · exact wp_if_pos (by simp [ek]) (wpAny_pure (yes (List.mem_map.mpr ⟨q, qm, ek⟩)))
        · refine wp_if_neg (by simp [ek]) ?_
          rw [sameMem]
          dsimp only
          simp only [if_true, live, Z.at_ eq]
          refine wpAny_bind (wpAny_isSame_ref_self (wpAny_bind (wpAny_pure ?_)))
          simp only [if_true]
          refine wp_if_neg (by simp [ek]) (ih (K0 - (c + (d + 1))) (by omega) f (c + (d + 1)) _ rfl (by omega) (by omega) rfl fun i0 q0 e0 ek0 => ?_)
          obtain ⟨v, v1, v2, v3⟩ := left i0 q0 e0 ek0
          refine ⟨v, ?_, v2, v3⟩
          rcases Nat.lt_trichotomy v (c + d) with lt | e | gt
          · exact absurd ((hat i0 q0 e0).trans (congrArg knd.hash ek0)) (d4 (v - c) i0 (by omega) (by rw [stepj, show c + (v - c) = v by omega]; exact v3))
          · rw [e] at v3
            have live2 := slot_live Z.tab.ris v3
            rw [live] at live2
            cases live2
            rw [eq] at e0
            cases e0
            exact absurd ek0 ek
          · omega
      by_cases ld : t.led = true
      · exact wp_if_neg (by simp [ld]) go
      · refine wp_if_pos (by simp [ld]) (wpAny_bind (unseen S hx (fun y hy => ?_) (wp_if_neg (by decide) go)))
        obtain ⟨u, hu, rfl⟩ := List.mem_map.mp hy
        have hu1 : u ∈ es := by
          have z : u ∈ es ∧ u.1 = knd.hash k := by simpa using hu
          exact z.1
        have hu2 : u ∈ rowsH knd L := by
          rw [← Z.rows]
          simpa using hu1
        obtain ⟨q2, h2, rfl⟩ := List.mem_map.mp hu2
        exact ⟨q2.2, q2.1, rfl, Z.key q2 h2⟩
    · rw [stepj, hend] at d2
      have pr : t.probe (fun i => (es[i]?.map (·.1)).getD 0) (knd.hash k) (stand.getD (t.probeStart (knd.hash k))) = some (.empty (way t.mask (knd.hash k) K0) none) := by
        rw [es0]
        exact d2
      rw [pr]
      dsimp only
      refine wpAny_pure (no fun km => ?_)
      obtain ⟨q0, m0, ek0⟩ := List.mem_map.mp km
      obtain ⟨i0, l0, e0⟩ := List.getElem_of_mem m0
      have e1 : L[i0]? = some q0 := by rw [List.getElem?_eq_getElem l0, e0]
      obtain ⟨v, v1, v2, v3⟩ := left i0 q0 e1 ek0
      exact d1 (v - c) i0 (by omega) (by rw [stepj, show c + (v - c) = v by omega]; exact v3) ((hat i0 q0 e1).trans (congrArg knd.hash ek0))

/-- the search before an add -/
theorem find_at (S : SetKind knd) (Z : SetH knd s.heap a L es ep t) {x : Addr} {k : K} (hx : knd.is s.heap k x) (hr : knd.room A) {Q : SetFound → Shared → Prop} (yes : k ∈ L.map Prod.snd → Q (.there none) s)
    (no : ∀ c, k ∉ L.map Prod.snd → way t.mask (knd.hash k) c ∉ t.place.toList → (∀ d, d < c → way t.mask (knd.hash k) d ∈ t.place.toList) → Q (.free (way t.mask (knd.hash k) c) false) s) :
    wpAny (model P w) A (setSearch a (.ref x) (knd.hash k) true) Q E s := by
  have hroom := Z.room
  obtain ⟨c, c1, c2, c3⟩ := Z.tab.first (by rw [hashH_len]; omega) (knd.hash k)
  have small : c < 100000 := by
    have z : 10 * SetTable.turns t.mask ≤ 1420 := by
      unfold SetTable.turns
      rcases Z.tab.mok with e | e | e <;> omega
    omega
  refine seek S Z hx hr c1 c2 c3 yes (fun h => no c h c2 c3) c 100000 0 none (by omega) small (Nat.zero_le _) rfl fun i q e ek => ?_
  have hi : (hashH knd L)[i]? = some (knd.hash k) := by
    show (L.map _)[i]? = _
    rw [List.getElem?_map, e, ← ek]
    rfl
  have il : i < t.place.toList.length := by
    rw [Array.length_toList, Z.psz]
    exact (List.getElem?_eq_some_iff.mp e).1
  obtain ⟨d, d1, d2⟩ := Z.tab.before c2 hi (List.getElem?_eq_getElem il)
  exact ⟨d, Nat.zero_le _, d1, by rw [d2]; exact List.getElem?_eq_getElem il⟩
end
end Kd

-- ===== KS2 =====
set_option Elab.async false
set_option linter.all false
set_option maxRecDepth 100000
set_option maxHeartbeats 1600000
namespace Kd
open PySem PySem.Spec PyProof.Rows L2

theorem range_pick {α : Type} (L : List α) : ∀ n, n ≤ L.length → (List.range n).filterMap (fun i => L[i]?) = L.take n
  | 0, _ => by simp
  | n + 1, le => by
    have lt : n < L.length := le
    rw [List.range_succ, List.filterMap_append, range_pick L n (Nat.le_of_lt lt), List.take_succ, List.getElem?_eq_getElem lt]
    simp [List.getElem?_eq_getElem lt]

section
variable {P : Program} {w : World} {K : Type} [DecidableEq K] {knd : HeapKind P w K} {A : Around} {E : Value → Shared → Prop} {s : Shared} {a : Addr} {L : List (Addr × K)} {es : Array (Int × Value)} {ep : Nat} {t : SetTable}

theorem rows_get {L : List (Addr × K)} {es : Array (Int × Value)} (hr : es.toList = rowsH knd L) (i : Nat) : es[i]? = (L[i]?).map fun q => (knd.hash q.2, Value.ref q.1) := by
  have z : es.toList[i]? = (rowsH knd L)[i]? := by rw [hr]
  rw [Array.getElem?_toList] at z
  rw [z]
  unfold rowsH
  rw [List.getElem?_map]
theorem rows_hash {L : List (Addr × K)} {es : Array (Int × Value)} (hr : es.toList = rowsH knd L) : ∀ l : List Nat, (∀ i ∈ l, i < L.length) → hashH knd (l.filterMap fun i => L[i]?) = l.map fun i => (es.map Prod.fst).getD i 0
  | [], _ => rfl
  | i :: l, hl => by
    have lt := hl i List.mem_cons_self
    have ih := rows_hash hr l fun j hj => hl j (List.mem_cons_of_mem _ hj)
    have g := rows_get hr i
    rw [List.getElem?_eq_getElem lt] at g
    have g2 : (es.map Prod.fst).getD i 0 = knd.hash (L[i]).2 := by
      rw [Array.getD_eq_getD_getElem?, Array.getElem?_map, g]
      rfl
    rw [List.filterMap_cons_some (List.getElem?_eq_getElem lt), List.map_cons, g2, ← ih]
    rfl
/-- a key stays a key when a set changes -/
theorem SetKind.keeps (S : SetKind knd) {h h' : Heap} {a b : Addr} {k : K} {o : Obj} {es : Array (Int × Value)} {ep : Nat} {t : SetTable} (ho : h.get? a = some o) (hd : o.data = .set es ep t) (sb : Heap.SameBut a h h') (x : knd.is h k b) : knd.is h' k b := by
  refine S.st.stays (fun c u vs n e d => ?_) x
  have ne : c ≠ a := fun z => by
    rw [z, ho] at e
    rw [← Option.some.inj e, hd] at d
    cases d
  rw [sb.2 c ne]
  exact e

/-- the table laid anew -/
theorem relay (S : SetKind knd) {o : Obj} (ho : s.heap.get? a = some o) (hex : o.ExactSet) (hd : o.data = .set es ep t) (hr : es.toList = rowsH knd L) (hp : t.place.size = es.size) (dm : t.dummies = #[]) (fl : es.size ≤ t.mask) (nd : (L.map Prod.snd).Nodup)
    (key : ∀ q ∈ L, knd.is s.heap q.2 q.1) (ld : w.params.followText "set-order" = true ∨ t.led = true) (few : L.length < 64) {wanted M : Nat} (hw : SetTable.sizeAbove wanted - 1 = M) (hM : MaskOk M) (hw2 : SetTable.sizeAbove wanted ≤ 128) (hn : L.length * 5 < M * 3)
    {Q : Unit → Shared → Prop} (q : ∀ h' L' es' ep' t', Heap.SameBut a s.heap h' → SetH knd h' a L' es' ep' t' → L'.Perm L → Q () { s with heap := h' }) : wpAny (model P w) A (setRelay a wanted) Q E s := by
  have sz : es.size = L.length := by
    have z := congrArg List.length hr
    rwa [rowsH_len, Array.length_toList] at z
  have fit : t.fits es.size = true := by
    unfold SetTable.fits SetTable.fill
    rw [dm, Bool.and_eq_true, beq_iff_eq, decide_eq_true_eq, hp]
    exact ⟨rfl, fl⟩
  obtain ⟨t', ord, e1, e2, e3, e4, e5, _, _⟩ := relaid_ok t (hs := es.map Prod.fst) (wanted := wanted) hw hM (by rw [Array.size_map]; omega)
  rw [Array.size_map, sz] at e2
  have lt : ∀ i ∈ ord.toList, i < L.length := fun i hi => List.mem_range.mp (e2.mem_iff.mp hi)
  have pm : (ord.toList.filterMap fun i => L[i]?).Perm L := by
    have z := e2.filterMap fun i => L[i]?
    rwa [range_pick L L.length (Nat.le_refl _), List.take_length] at z
  rw [← rows_hash hr ord.toList lt] at e3
  have er : (ord.filterMap (es[·]?)).toList = rowsH knd (ord.toList.filterMap fun i => L[i]?) := by
    rw [Array.toList_filterMap]
    unfold rowsH
    rw [List.map_filterMap]
    congr 1
    funext i
    exact rows_get hr i
  generalize ord.toList.filterMap (fun i => L[i]?) = L' at e3 er pm
  have sz' : (ord.filterMap (es[·]?)).size = L.length := by
    rw [← Array.length_toList, er, rowsH_len, pm.length_eq]
  rw [setRelay_eq]
  refine wpAny_bind (wpAny_setState_of ho hd fit ?_)
  dsimp only
  refine wp_if_neg (by rw [sizeLine_eq]; omega) ?_
  rw [e1]
  dsimp only
  refine wpAny_bind (wp_if_neg (by rw [sz', sz]; simp) (wpAny_pure ?_))
  dsimp only
  have sb : Heap.SameBut a s.heap (s.heap.update a (Obj.putSet (ord.filterMap (es[·]?)) t')) := Heap.SameBut.update ..
  refine wpAny_storeSet_of ho hd (q _ L' _ (ep + 1) t' sb ⟨⟨_, store_at ho hd, hex, rfl⟩, er, e3, ?_, fun p hp => S.keeps ho hd sb (key p (pm.mem_iff.mp hp)), ?_, ?_, ?_⟩ pm) (by rw [sz', sizeLine_eq]; omega)
  · exact (pm.map Prod.snd).nodup_iff.mpr nd
  · rw [e5]
    exact ld
  · rw [pm.length_eq, e4]
    exact hn
  · rw [pm.length_eq]
    exact few

/-- a member added -/
theorem add_key (S : SetKind knd) (Z : SetH knd s.heap a L es ep t) {x : Addr} {k : K} (hx : knd.is s.heap k x) (hr : knd.room A) (hfew : k ∉ L.map Prod.snd → L.length + 1 < 64) {Q : Bool → Shared → Prop}
    (q : ∀ b h' L' es' ep' t', Heap.SameBut a s.heap h' → SetH knd h' a L' es' ep' t' → (k ∈ L.map Prod.snd → L' = L) → (k ∉ L.map Prod.snd → L'.Perm ((x, k) :: L)) → Q b { s with heap := h' }) :
    wpAny (model P w) A (setAddHashed a (.ref x) (knd.hash k)) Q E s := by
  obtain ⟨o, ho, hex, hd⟩ := Z.ob
  have sz := Z.esz
  have rm := Z.room
  unfold setAddHashed
  refine wpAny_holding ?_
  rw [show (100000 : Nat) = 99999 + 1 from rfl, setAddHashedIn_succ]
  refine wpAny_bind (wpAny_setState_of ho hd Z.fit ?_)
  dsimp only
  refine wp_if_neg (by simp [byScan, Value.scannable]) (wpAny_bind (find_at S Z hx hr (fun km => ?_) fun c kn out inn => ?_))
  · exact wpAny_pure (q false s.heap L es ep t (Heap.SameBut.refl a s.heap) Z (fun _ => rfl) fun n => absurd km n)
  · have less := hfew kn
    dsimp only
    refine wpAny_bind (wpAny_setState_of ho hd Z.fit ?_)
    dsimp only
    obtain ⟨p1, p2, p3, p4, p5, _, _, _, p9⟩ := Z.tab.put out inn
    rw [hashH_len] at p2 p9
    generalize t.put (way t.mask (knd.hash k) c) = pt at p1 p3 p4 p5 p9 ⊢
    obtain ⟨t1, at_⟩ := pt
    dsimp only at p1 p3 p4 p5 p9 ⊢
    subst p1
    generalize SetTable.below t.place (way t.mask (knd.hash k) c) = n at p2 p3 ⊢
    have pm : (L.take n ++ (x, k) :: L.drop n).Perm ((x, k) :: L) := put_perm L n (x, k)
    have hh : hashH knd (L.take n ++ (x, k) :: L.drop n) = (hashH knd L).take n ++ knd.hash k :: (hashH knd L).drop n := by
      unfold hashH
      rw [List.map_append, List.map_cons, List.map_take, List.map_drop]
    have rr : (SetTable.insertAt es n (knd.hash k, Value.ref x)).toList = rowsH knd (L.take n ++ (x, k) :: L.drop n) := by
      rw [SetTable.toList_insertAt, Z.rows]
      unfold rowsH
      rw [List.map_append, List.map_cons, List.map_take, List.map_drop]
    rw [← hh] at p3
    generalize L.take n ++ (x, k) :: L.drop n = L1 at pm p3 rr
    have len1 : L1.length = L.length + 1 := pm.length_eq
    have esz1 : (SetTable.insertAt es n (knd.hash k, Value.ref x)).size = L.length + 1 := by
      rw [← Array.length_toList, rr, rowsH_len, len1]
    have nd1 : (L1.map Prod.snd).Nodup := (pm.map Prod.snd).nodup_iff.mpr (List.nodup_cons.mpr ⟨kn, Z.nd⟩)
    generalize SetTable.insertAt es n (knd.hash k, Value.ref x) = es1 at rr esz1 ⊢
    -- whatever is told of the hash, the table is the same but for a mark
    have fin : ∀ t2 : SetTable, t2.mask = t1.mask → TabOk t2 (hashH knd L1) → t2.led = t1.led → t2.fill = t1.fill →
        wpAny (model P w) A (do
          storeSet a es1 t2
          if (!false && t2.tooFull) = true then do
              let _ ← setRelay a (SetTable.grown (es.size + 1))
              pure true
            else pure true) Q E s := fun t2 m2 ok2 led2 fill2 => by
      have sb : Heap.SameBut a s.heap (s.heap.update a (Obj.putSet es1 t2)) := Heap.SameBut.update ..
      have ho1 := store_at (es' := es1) (t' := t2) ho hd
      refine wpAny_bind (wpAny_storeSet_of ho hd ?_ (by rw [esz1, sizeLine_eq]; omega))
      generalize s.heap.update a (Obj.putSet es1 t2) = h1 at sb ho1 ⊢
      have key1 : ∀ p ∈ L1, knd.is h1 p.2 p.1 := fun p hp => by
        rcases List.mem_cons.mp (pm.mem_iff.mp hp) with e | m
        · rw [e]
          exact S.keeps ho hd sb hx
        · exact S.keeps ho hd sb (Z.key p m)
      have led1 : w.params.followText "set-order" = true ∨ t2.led = true := by
        rw [led2, p5]
        exact Z.led
      have full : t2.tooFull = decide ((L.length + 1) * 5 ≥ t.mask * 3) := by
        unfold SetTable.tooFull
        rw [fill2, p9, m2, p4]
      by_cases hf : (L.length + 1) * 5 ≥ t.mask * 3
      · refine wp_if_pos (by rw [full, decide_eq_true hf]; rfl) (wpAny_bind ?_)
        have sized : (t.mask = 7 ∧ L.length = 4) ∨ (t.mask = 31 ∧ L.length = 18) := by
          rcases Z.tab.mok with e | e | e
          · exact .inl ⟨e, by omega⟩
          · exact .inr ⟨e, by omega⟩
          · omega
        have anew : ∀ M, SetTable.sizeAbove (SetTable.grown (L.length + 1)) - 1 = M → MaskOk M → SetTable.sizeAbove (SetTable.grown (L.length + 1)) ≤ 128 → (L.length + 1) * 5 < M * 3 →
            wpAny (model P w) A (setRelay a (SetTable.grown (es.size + 1))) (fun _ s' => wpAny (model P w) A (pure true) Q E s') E { s with heap := h1 } := fun M g1 g2 g3 g4 => by
          rw [sz]
          refine relay S (s := { s with heap := h1 }) ho1 hex rfl rr ?_ ok2.dm ?_ nd1 key1 led1 (by rw [len1]; exact less) g1 g2 g3 (by rw [len1]; exact g4) fun h2 L2 es2 ep2 t2' sb2 Z2 pm2 => ?_
          · rw [ok2.sz, hashH_len, len1, esz1]
          · rw [esz1, m2, p4]
            rcases sized with ⟨e, e'⟩ | ⟨e, e'⟩ <;> omega
          · exact wpAny_pure (q true h2 L2 es2 ep2 t2' (sb.trans sb2) Z2 (fun n => absurd n kn) fun _ => pm2.trans pm)
        rcases sized with ⟨_, e⟩ | ⟨_, e⟩
        · exact anew 31 (by rw [e, size_20]) (.inr (.inl rfl)) (by rw [e, size_20]; decide) (by omega)
        · exact anew 127 (by rw [e, size_76]) (.inr (.inr rfl)) (by rw [e, size_76]; decide) (by omega)
      · refine wp_if_neg (by rw [full, decide_eq_false hf]; decide) (wpAny_pure (q true h1 L1 es1 (ep + 1) t2 sb ⟨⟨_, ho1, hex, rfl⟩, rr, ok2, nd1, key1, led1, ?_, by rw [len1]; exact less⟩ (fun n => absurd n kn) fun _ => pm))
        rw [len1, m2, p4]
        omega
    by_cases pl : t1.plain = true
    · refine wp_if_pos pl (wpAny_bind (S.byv hx fun c => ?_))
      cases c with
      | true => exact fin t1 rfl p3 rfl rfl
      | false => exact fin { t1 with plain := false } rfl ⟨p3.ris, p3.dm, p3.sz, p3.mok, p3.bd, p3.reach⟩ rfl rfl
    · refine wp_if_neg pl (wpAny_bind (wpAny_pure ?_))
      exact fin t1 rfl p3 rfl rfl

/-- set.add as a call -/
theorem call_add (S : SetKind knd) (Z : SetH knd s.heap a L es ep t) {x : Addr} {k : K} (hx : knd.is s.heap k x) (hr : knd.room A.in1) (hfew : k ∉ L.map Prod.snd → L.length + 1 < 64) {Q : Value → Shared → Prop}
    (q : ∀ h' tk L' es' ep' t', Heap.SameBut a s.heap h' → SetH knd h' a L' es' ep' t' → (k ∈ L.map Prod.snd → L' = L) → (k ∉ L.map Prod.snd → L'.Perm ((x, k) :: L)) → s.toks ≤ tk → Q .none { s with heap := h', toks := tk }) :
    wpAny (model P w) A (call (.builtin "set.add") [.ref a, .ref x]) Q E s := by
  obtain ⟨o, ho, hex, hd⟩ := Z.ob
  refine wpAny_call_entry F.slot_set_add ⟨o, ho, hex.1⟩ F.entry_set_add ?_ (F.args_set_add_2 _ _)
  unfold Builtin.«set.add» Builtin.Frozenset.oneOther
  simp only [List.isEmpty_nil, bind_assoc]
  unfold Builtin.Frozenset.addrOf setAdd
  refine wpAny_bind (wpAny_pure ?_)
  try dsimp only
  refine wpAny_bind (wpAny_pure ?_)
  try dsimp only
  refine wpAny_bind (wpAny_holding (wpAny_bind (knd.pyHash hr hx ?_)))
  refine add_key (s := { s with toks := s.toks + knd.draws k }) S Z hx hr hfew fun b h' L' es' ep' t' sb Z' c1 c2 => ?_
  show wpAny _ _ (ret Value.none) _ _ _
  exact wpAny_pure ⟨_, rfl, q h' (s.toks + knd.draws k) L' es' ep' t' sb Z' c1 c2 (Nat.le_add_right _ _)⟩
end
end Kd

-- ===== KS3 =====
set_option Elab.async false
set_option linter.all false
set_option maxRecDepth 100000
set_option maxHeartbeats 1600000
namespace Kd
open PySem PySem.Spec PyProof.Rows L2

/-! ### tuples of ints and texts are keys -/
section
variable {P : Program} {w : World} {A : Around} {E : Value → Shared → Prop} {s : Shared}
theorem mixed {ks : List Key} {vs : List Value} (x : ItemsAre (mixKind P w) ks vs) : ∀ v ∈ vs, (∃ i t, v = Value.int i t) ∨ ∃ z t, v = Value.str z t := by
  induction x with
  | nil => exact fun v m => nomatch m
  | @cons k u ks vs h _ ih =>
    intro v m
    rcases List.mem_cons.mp m with e | m
    · subst e
      have h : keyIs k v = true := h
      cases k with
      | inl i =>
        obtain ⟨t, e⟩ := Value.isInt_shape (k := i) (v := v) h
        exact .inl ⟨i, t, e⟩
      | inr z =>
        obtain ⟨t, e⟩ := Value.isStrOf_shape (x := z) (v := v) h
        exact .inr ⟨z, t, e⟩
    · exact ih v m
theorem mixed_cls (n : Nat) {v : Value} (h : (∃ i t, v = Value.int i t) ∨ ∃ z t, v = Value.str z t) : ofAClassStatement n v = pure false := by
  rcases h with ⟨i, t, rfl⟩ | ⟨z, t, rfl⟩ <;> cases n <;> rfl
theorem mixed_byv (n : Nat) {v : Value} (h : (∃ i t, v = Value.int i t) ∨ ∃ z t, v = Value.str z t) : ∃ c, hashByValue n v = pure c := by
  rcases h with ⟨i, t, rfl⟩ | ⟨z, t, rfl⟩ <;> cases n <;> exact ⟨_, rfl⟩
theorem mix_cls {ks : List Key} {b : Addr} {Q : Bool → Shared → Prop} (x : IsTupleKey (mixKind P w) s.heap ks b) (q : Q false s) : wpAny (model P w) A (ofAClassStatement 8 (.ref b)) Q E s := by
  have T := x.typeIs
  obtain ⟨o, its, n, ho, _, hd, hi⟩ := x
  unfold ofAClassStatement
  refine wpAny_bind (wpAny_typeOf T ?_)
  dsimp only
  have e : (("tuple" : String) == "tuple") = true := by decide
  simp only [e, if_true, Bool.not_true, Bool.false_eq_true, if_false]
  try refine wpAny_bind (wpAny_pure ?_)
  try simp only [Bool.not_true, Bool.false_eq_true, if_false]
  show wpAny _ _ (seqItems? (.ref b) >>= _) _ _ s
  refine wpAny_bind (wpAny_seqItems ho hd ?_)
  dsimp only
  refine wpAny_bind ?_
  show wpAny _ _ (forIn its _ _) _ _ s
  rw [← Array.forIn_toList]
  refine wpAny_forIn_list _ (fun todo r s1 => r.1 = none ∧ s1 = s ∧ ∀ v ∈ todo, (∃ i t, v = Value.int i t) ∨ ∃ z t, v = Value.str z t) _ (fun v todo r s1 hI => ?_) (fun r s1 hI => ?_) _ _ ⟨rfl, rfl, mixed hi⟩
  · obtain ⟨_, e2, e3⟩ := hI
    rw [mixed_cls 7 (e3 v List.mem_cons_self)]
    refine wpAny_bind (wpAny_pure ?_)
    simp only [Bool.false_eq_true, if_false]
    exact wpAny_pure ⟨rfl, e2, fun u m => e3 u (List.mem_cons_of_mem _ m)⟩
  · obtain ⟨r1, r2⟩ := r
    obtain ⟨e1, e2, _⟩ := hI
    have e1 : r1 = none := e1
    subst e1
    subst e2
    exact wpAny_pure q
theorem mix_byv {ks : List Key} {b : Addr} {Q : Bool → Shared → Prop} (x : IsTupleKey (mixKind P w) s.heap ks b) (q : ∀ c, Q c s) : wpAny (model P w) A (hashByValue 8 (.ref b)) Q E s := by
  have T := x.typeIs
  obtain ⟨o, its, n, ho, _, hd, hi⟩ := x
  unfold hashByValue
  refine wpAny_bind (wpAny_specialOf T F.slot_tuple_hash.lookup ?_)
  show wpAny _ _ (seqItems? (.ref b) >>= _) _ _ s
  refine wpAny_bind (wpAny_seqItems ho hd ?_)
  refine wpAny_bind ?_
  show wpAny _ _ (forIn its _ _) _ _ s
  rw [← Array.forIn_toList]
  refine wpAny_forIn_list _ (fun todo r s1 => r.1 = none ∧ s1 = s ∧ ∀ v ∈ todo, (∃ i t, v = Value.int i t) ∨ ∃ z t, v = Value.str z t) _ (fun v todo r s1 hI => ?_) (fun r s1 hI => ?_) _ _ ⟨rfl, rfl, mixed hi⟩
  · obtain ⟨_, e2, e3⟩ := hI
    obtain ⟨c, ec⟩ := mixed_byv 7 (e3 v List.mem_cons_self)
    rw [ec]
    refine wpAny_bind (wpAny_pure ?_)
    cases c with
    | true =>
      simp only [Bool.not_true, Bool.false_eq_true, if_false]
      exact wpAny_pure ⟨rfl, e2, fun u m => e3 u (List.mem_cons_of_mem _ m)⟩
    | false =>
      simp only [Bool.not_false, if_true]
      subst e2
      exact wpAny_pure (wpAny_pure (q false))
  · obtain ⟨r1, r2⟩ := r
    obtain ⟨e1, e2, _⟩ := hI
    have e1 : r1 = none := e1
    subst e1
    subst e2
    exact wpAny_pure (q true)
theorem mixSet : SetKind (tupleKind (mixKind P w)) where
  st := tupleKind_stays
  cls := fun x q => mix_cls x q
  byv := fun x q => mix_byv x q
end
end Kd

-- ===== KS4 =====
set_option Elab.async false
set_option linter.all false
set_option maxRecDepth 100000
set_option maxHeartbeats 3200000
namespace Kd
open PySem PySem.Spec PyProof.Rows L2

section
variable {P : Program} {w : World} {K : Type} [DecidableEq K] {knd : HeapKind P w K}
theorem SetH.stay (S : SetKind knd) {h h' : Heap} {a : Addr} {L : List (Addr × K)} {es : Array (Int × Value)} {ep : Nat} {t : SetTable} (Z : SetH knd h a L es ep t) (ha : ∀ o, h.get? a = some o → h'.get? a = some o) (hk : ∀ q ∈ L, knd.is h' q.2 q.1) : SetH knd h' a L es ep t := by
  obtain ⟨o, ho, r⟩ := Z.ob
  exact ⟨⟨o, ha o ho, r⟩, Z.rows, Z.tab, Z.nd, hk, Z.led, Z.room, Z.few⟩
theorem SetKind.kept (S : SetKind knd) {h h' : Heap} {k : K} {b : Addr} (x : knd.is h k b) (hk : ∀ c o, h.get? c = some o → h'.get? c = some o) : knd.is h' k b := S.st.stays (fun c o _ _ e _ => hk c o e) x
/-- an empty set, just made -/
abbrev newO (w : World) : Obj := { cls := .type "set", dict := none, data := .set #[] 0 (.fresh 0 0 (!w.params.followText "set-order")) }
theorem setH_new {h : Heap} {a : Addr} (ho : h.get? a = some (newO w)) : SetH knd h a [] #[] 0 (.fresh 0 0 (!w.params.followText "set-order")) where
  ob := ⟨_, ho, ⟨rfl, rfl, rfl⟩, rfl⟩
  rows := rfl
  tab := { ris := List.Pairwise.nil, dm := rfl, sz := rfl, mok := .inl rfl, bd := (fun x hx => nomatch hx), reach := fun i g j e => by simp [hashH] at e }
  nd := List.nodup_nil
  key := fun q m => nomatch m
  led := by
    show _ ∨ (!w.params.followText "set-order") = true
    cases e : w.params.followText "set-order"
    · exact .inr rfl
    · exact .inl rfl
  room := by
    show 0 * 5 < 7 * 3
    decide
  few := by
    show 0 < 64
    decide

/-- what came of the first i of the rows ks -/
structure Came (ks : List (Addr × K)) (i : Nat) (L : List (Addr × K)) : Prop where
  inn : ∀ q ∈ L, q ∈ ks.take i
  got : ∀ q ∈ ks.take i, q.2 ∈ L.map Prod.snd
  most : L.length ≤ i
theorem Came.step {ks L L' : List (Addr × K)} {i : Nat} {x : Addr × K} (c : Came ks i L) (e : ks[i]? = some x) (h1 : x.2 ∈ L.map Prod.snd → L' = L) (h2 : x.2 ∉ L.map Prod.snd → L'.Perm (x :: L)) : Came ks (i + 1) L' := by
  have tk : ks.take (i + 1) = ks.take i ++ [x] := by rw [List.take_succ, e]; rfl
  by_cases m : x.2 ∈ L.map Prod.snd
  · rw [h1 m]
    refine ⟨fun q hq => by rw [tk]; exact List.mem_append_left _ (c.inn q hq), fun q hq => ?_, Nat.le_succ_of_le c.most⟩
    rw [tk] at hq
    rcases List.mem_append.mp hq with z | z
    · exact c.got q z
    · rw [List.mem_singleton.mp z]
      exact m
  · have pm := h2 m
    refine ⟨fun q hq => ?_, fun q hq => ?_, by rw [pm.length_eq]; exact Nat.succ_le_succ c.most⟩
    · rw [tk]
      rcases List.mem_cons.mp (pm.mem_iff.mp hq) with z | z
      · rw [z]
        exact List.mem_append_right _ List.mem_cons_self
      · exact List.mem_append_left _ (c.inn q z)
    · rw [(pm.map Prod.snd).mem_iff]
      rw [tk] at hq
      rcases List.mem_append.mp hq with z | z
      · exact List.mem_cons_of_mem _ (c.got q z)
      · rw [List.mem_singleton.mp z]
        exact List.mem_cons_self
end

section
variable {P : Program} {w : World} {K : Type} [DecidableEq K] {knd : HeapKind P w K} {A : Around} {E : Value → Shared → Prop}
theorem nodup_most {α : Type} [DecidableEq α] : ∀ (l D : List α), l.Nodup → (∀ x ∈ l, x ∈ D) → l.length ≤ D.length
  | [], _, _, _ => Nat.zero_le _
  | x :: l, D, nd, sub => by
    obtain ⟨n1, n2⟩ := List.nodup_cons.mp nd
    have mx := sub x List.mem_cons_self
    have ih := nodup_most l (D.erase x) n2 fun y my => (List.mem_erase_of_ne fun (e : y = x) => n1 (by rw [← e]; exact my)).2 (sub y (List.mem_cons_of_mem _ my))
    rw [List.length_erase_of_mem mx] at ih
    have pos := List.length_pos_of_mem mx
    rw [List.length_cons]
    omega
theorem few_of {ks L : List (Addr × K)} {i : Nat} {q : Addr × K} (less : ∃ ds : List K, (∀ q ∈ ks, q.2 ∈ ds) ∧ ds.length < 64) (inn : ∀ p ∈ L, p ∈ ks.take i) (nd : (L.map Prod.snd).Nodup) (mq : q ∈ ks) (nq : q.2 ∉ L.map Prod.snd) : L.length + 1 < 64 := by
  obtain ⟨ds, h1, h2⟩ := less
  have z := nodup_most (q.2 :: L.map Prod.snd) ds (List.nodup_cons.mpr ⟨nq, nd⟩) fun x mx => by
    rcases List.mem_cons.mp mx with rfl | mx
    · exact h1 q mq
    · obtain ⟨p, mp, rfl⟩ := List.mem_map.mp mx
      exact h1 p (List.mem_of_mem_take (inn p mp))
  rw [List.length_cons, List.length_map] at z
  omega
/-- all that is walked goes into the set -/
theorem filled (S : SetKind knd) {I B : Addr} {fp wr : List Addr} {G : Array GenState → Array GenState → Prop} {n : Nat} {Pv : Nat → Value → Prop} {St : Nat → Shared → Prop} {R : Result → Shared → Prop} (W : WalksS P w A.in1 I fp wr G n Pv St) (hB : B ∉ fp)
    (ks : List (Addr × K)) (hn : n = ks.length) (less : ∃ ds : List K, (∀ q ∈ ks, q.2 ∈ ds) ∧ ds.length < 64) (val : ∀ i v, Pv i v → ∃ q, ks[i]? = some q ∧ v = .ref q.1) (g : Heap) (gk : ∀ q ∈ ks, knd.is g q.2 q.1) (gB : g.get? B = none) (gw : ∀ b ∈ wr, g.get? b = none) (room : knd.room A.in1) :
    ∀ (m i : Nat) (s : Shared), n - i = m → i ≤ n → St i s → (∀ b o, g.get? b = some o → s.heap.get? b = some o) → (∃ L es ep t, SetH knd s.heap B L es ep t ∧ Came ks i L) →
      (∀ s' L es ep t, Moved (B :: wr) G s s' → SetH knd s'.heap B L es ep t → Came ks n L → (∀ b o, g.get? b = some o → s'.heap.get? b = some o) → R (.ok (.ret .none)) s') →
      codeAny (model P w) A (.builtin "set.update.loop" ⟨[.ref B, .ref I], []⟩) R s := by
  have nBw : B ∉ wr := fun m => hB (W.sub _ m)
  have more : ∀ b ∈ wr, b ∈ B :: wr := fun b m => List.mem_cons_of_mem _ m
  have on : ∀ {s s' : Shared}, Moved wr G s s' → (∀ b o, g.get? b = some o → s.heap.get? b = some o) → ∀ b o, g.get? b = some o → s'.heap.get? b = some o := fun mv k b o e =>
    mv.heap b o (fun m => by rw [gw b m] at e; cases e) (k b o e)
  intro m
  induction m with
  | zero =>
    intro i s em le st kp ⟨L, es, ep, t, Z, c⟩ fin
    obtain rfl : i = n := by omega
    refine codeAny_builtin F.entry_set_update_loop ?_
    rw [Around.under_plainId F.plain_set_update_loop _]
    show wpAny _ A.in1 (pyNext (.ref I) >>= _) _ _ s
    refine wpAny_bind (W.done s _ _ st fun s' mv => ?_)
    show wpAny _ A.in1 (ret Value.none) _ _ s'
    have kp' := on mv kp
    exact wpAny_pure (fin s' L es ep t (mv.mono more) (Z.stay S (fun o e => mv.heap B o nBw e) fun q hq => S.kept (gk q (List.mem_of_mem_take (c.inn q hq))) kp') c kp')
  | succ m ih =>
    intro i s em le st kp ⟨L, es, ep, t, Z, c⟩ fin
    have lt : i < n := by omega
    refine codeAny_builtin F.entry_set_update_loop ?_
    rw [Around.under_plainId F.plain_set_update_loop _]
    show wpAny _ A.in1 (pyNext (.ref I) >>= _) _ _ s
    refine wpAny_bind (W.item i s _ _ lt st fun v s' pv st' mv => ?_)
    obtain ⟨q, eq, rfl⟩ := val i v pv
    have kp' := on mv kp
    have Z' : SetH knd s'.heap B L es ep t := Z.stay S (fun o e => mv.heap B o nBw e) fun p hp => S.kept (gk p (List.mem_of_mem_take (c.inn p hp))) kp'
    have hx : knd.is s'.heap q.2 q.1 := S.kept (gk q (List.mem_of_getElem? eq)) kp'
    show wpAny _ A.in1 (holding [Value.ref q.1] (setAdd B (.ref q.1)) >>= _) _ _ s'
    refine wpAny_bind (wpAny_holding ?_)
    unfold setAdd
    refine wpAny_holding (wpAny_bind (knd.pyHash room hx ?_))
    refine add_key (s := { s' with toks := s'.toks + knd.draws q.2 }) S Z' hx room (few_of less c.inn Z.nd (List.mem_of_getElem? eq)) fun b h' L' es' ep' t' sb Z2 c1 c2 => ?_
    have nB : ∀ b o, g.get? b = some o → b ≠ B := fun b o e z => by
      rw [z, gB] at e
      cases e
    have kp2 : ∀ b o, g.get? b = some o → h'.get? b = some o := fun b o e => (sb.2 b (nB b o e)).trans (kp' b o e)
    refine wpAny_pure ⟨plainId_quiet F.plain_set_update_loop _, ih (i + 1) _ (by omega) lt (W.frame _ s' _ _ st' (Nat.le_add_right _ _) fun b m o e => ?_) kp2 ⟨L', es', ep', t', Z2, c.step eq c1 c2⟩ fun s'' L2 es2 ep2 t2 mv2 Z3 c3 kp3 => ?_⟩
    · rw [sb.2 b fun z => hB (z ▸ m)]
      exact e
    · refine fin s'' L2 es2 ep2 t2 (Moved.trans W.gtrans ((mv.mono more).then_heap (Nat.le_add_right _ _) fun b o m e => ?_) mv2) Z3 c3 kp3
      rw [sb.2 b fun z => m (by rw [z]; exact List.mem_cons_self)]
      exact e
end
end Kd

-- ===== KS5 =====
set_option Elab.async false
set_option linter.all false
set_option maxRecDepth 100000
set_option maxHeartbeats 3200000
namespace Kd
open PySem PySem.Spec PyProof.Rows L2
section
variable {P : Program} {w : World} {K : Type} [DecidableEq K] {knd : HeapKind P w K} {A : Around} {E : Value → Shared → Prop} {s : Shared}
/-- what is left when set(..) has run -/
def SetMade (knd : HeapKind P w K) (s : Shared) (ks : List (Addr × K)) (s2 : Shared) : Prop :=
  ∃ h' tk L es ep t, s2 = { s with heap := h', toks := tk } ∧ SetH knd h' s.heap.objs.size L es ep t ∧ Came ks ks.length L ∧ ∀ b o, s.heap.get? b = some o → h'.get? b = some o
theorem call_set_keys (S : SetKind knd) {l : Addr} {its : Array Value} (ks : List (Addr × K)) {Q : Value → Shared → Prop} (calm : A.handled = none) (il : s.heap.IsList l its) (ev : its.toList = ks.map fun q => Value.ref q.1) (kk : ∀ q ∈ ks, knd.is s.heap q.2 q.1)
    (less : ∃ ds : List K, (∀ q ∈ ks, q.2 ∈ ds) ∧ ds.length < 64) (room : knd.room A.in1.in1.in1) (q : ∀ s2, SetMade knd s ks s2 → Q (.ref s.heap.objs.size) s2) : wpAny (model P w) A (call (.type "set") [.ref l]) Q E s := by
  have isz : its.size = ks.length := by rw [← Array.length_toList, ev, List.length_map]
  obtain ⟨c, tl, mro⟩ := F.called_set.mro
  have made := F.called_set.made
  have sub := F.called_set.sub
  refine wpAny_call (codeAny_of_tree ?_)
  show wpAny _ _ (callAny (.type "set") _) _ _ _
  refine wpAny_pure ⟨Code.quiet_builtin _ (by decide +kernel), codeAny_builtin F.entry_type_call ?_⟩
  rw [Around.under_plain (weight_type_call_type "set" [.ref l] []) rfl]
  have z1 := F.called_set.notType
  have z2 := F.called_set.canCreate
  have z3 := F.typeCall_set_1 (.ref l)
  repeat (any_goals (first | assumption | wp_step))
  refine codeAny_mono (code_set_led1 (.ref l) (E := E) (Q₁ := fun v s1 => v = .ref s.heap.objs.size ∧ s1 = { s with heap := s.heap.push (newO w) }) ⟨rfl, rfl⟩) fun r s1 hr => ?_
  rcases r with e | fl
  · exact hr
  cases fl with
  | ret obj =>
    obtain ⟨rfl, rfl⟩ := hr
    have at0 : (s.heap.push (newO w)).get? s.heap.objs.size = some (newO w) := Heap.get?_push_size _ rfl
    have T0 : Shared.TypeIs { s with heap := s.heap.push (newO w) } (.ref s.heap.objs.size) "set" := ⟨_, at0, rfl⟩
    have li := F.called_set.init.lookup
    have bi := F.called_set.init.bind (.ref s.heap.objs.size)
    repeat (any_goals (first | assumption | wp_step))
    refine codeAny_mono (codeAny_call_builtin (R := wants (fun r s2 => r = .none ∧ SetMade knd s ks s2) E) F.called_set.init.plain F.entry_set_init (check_set_init_1 T0 ?_)) fun r s2 hr => ?_
    · obtain ⟨⟨oc, od, ob, os⟩, ol, oc', on, ob'⟩ := il
      simp only at oc' ob'
      subst oc'
      subst ob'
      have ol2 := Heap.get?_push_of_some (newO w) ol
      have y1 := F.sub_list_set
      have y2 := F.sub_list_frozenset
      have y3 : (Value.type "list" == Value.type "dict") = false := by decide
      have il2 : (s.heap.push (newO w)).IsList l its := ⟨_, ol2, rfl, on, rfl⟩
      unfold Builtin.«set.__init__» noKeywords Builtin.Frozenset.updateFrom
      generalize hPI : pyIter = PI
      wp_walk
      subst hPI
      refine wpAny_pyIter_list il2 (wpAny_bind (wpAny_runValue ?_))
      have lS : l < s.heap.objs.size := Heap.lt_size ol
      have calm3 : A.in1.in1.in1.handled = none := by simp [calm]
      have szp : (s.heap.push (newO w)).objs.size = s.heap.objs.size + 1 := Heap.size_push ..
      have lI : l ≠ (s.heap.push (newO w)).objs.size := by
        rw [szp]
        exact Nat.ne_of_lt (Nat.lt_succ_of_lt lS)
      have free : ∀ b, s.heap.objs.size ≤ b → s.heap.get? b = none := fun b le => by
        cases e : s.heap.get? b with
        | none => rfl
        | some o => exact absurd (Heap.lt_size e) (Nat.not_lt.mpr le)
      refine filled S ((Walks.list calm3 _ l lI its).toS) (B := s.heap.objs.size) (fun m => ?_) ks isz less (fun i v e => ?_) s.heap kk (free _ (Nat.le_refl _)) (fun b m => free b ?_) room (its.size - 0) 0 _ rfl (Nat.zero_le _)
        ⟨⟨_, Heap.get?_push_size _ rfl, rfl, rfl⟩, il2.push _⟩ (fun b o e => Heap.get?_push_of_some _ (Heap.get?_push_of_some _ e)) ⟨[], #[], 0, _, setH_new (Heap.get?_push_of_some _ at0), fun q m => (nomatch m), fun q m => (by simp at m), Nat.le_refl _⟩ fun s' L es ep t mv Z c kp => ?_
      · rcases List.mem_cons.mp m with e | m
        · rw [szp] at e
          exact absurd e (Nat.ne_of_lt (Nat.lt_succ_self _))
        · have e := List.mem_singleton.mp m
          rw [← e] at lS
          exact absurd lS (Nat.lt_irrefl _)
      · have e2 : its.toList[i]? = some v := by rw [Array.getElem?_toList]; exact e
        rw [ev, List.getElem?_map] at e2
        obtain ⟨q, e3, e4⟩ := Option.map_eq_some_iff.mp e2
        exact ⟨q, e3, e4.symm⟩
      · rw [List.mem_singleton.mp m, szp]
        exact Nat.le_succ _
      · obtain ⟨h', g', d', tk, os'⟩ := s'
        obtain rfl : g' = s.gens := mv.gens
        obtain rfl : d' = s.drawn := mv.drawn
        obtain rfl : os' = s.os := mv.os
        show wpAny _ _ _ _ _ _
        refine wpAny_pure ?_
        show wpAny _ _ (ret Value.none) _ _ _
        rw [isz] at c
        exact wpAny_pure ⟨rfl, h', tk, L, es, ep, t, rfl, Z, c, kp⟩
    · rcases r with e | fl
      · exact hr
      cases fl with
      | ret r =>
        obtain ⟨rfl, mk⟩ := hr
        repeat (any_goals (first | assumption | wp_step))
        exact q _ mk
      | _ => exact hr.elim
  | _ => exact hr.elim
end
end Kd

-- ===== KS6 =====
set_option Elab.async false
set_option linter.all false
set_option maxRecDepth 100000
set_option maxHeartbeats 3200000
namespace Kd
open PySem PySem.Spec PyProof.Rows L2 PySem.W

theorem perm_lift {α β : Type} (f : α → β) {l m : List β} (p : l.Perm m) : ∀ L : List α, m = L.map f → ∃ L1 : List α, L1.Perm L ∧ l = L1.map f := by
  induction p with
  | nil =>
    intro L e
    refine ⟨[], ?_, rfl⟩
    rw [List.map_eq_nil_iff.mp e.symm]
  | cons x _ ih =>
    intro L e
    obtain ⟨y, L', rfl, rfl, e2⟩ := List.map_eq_cons_iff.mp e.symm
    obtain ⟨L1, p1, e3⟩ := ih L' e2.symm
    exact ⟨y :: L1, p1.cons y, by rw [e3, List.map_cons]⟩
  | swap x y l =>
    intro L e
    obtain ⟨u, L', rfl, rfl, e2⟩ := List.map_eq_cons_iff.mp e.symm
    obtain ⟨v, L'', rfl, rfl, e3⟩ := List.map_eq_cons_iff.mp e2
    exact ⟨v :: u :: L'', List.Perm.swap .., by rw [← e3]; rfl⟩
  | trans _ _ ih1 ih2 =>
    intro L e
    obtain ⟨L1, p1, e1⟩ := ih2 L e
    obtain ⟨L2, p2, e2⟩ := ih1 L1 e1
    exact ⟨L2, p2.trans p1, e2⟩

/-- a key as data -/
def kD : Key → PyData
  | .inl i => .int i
  | .inr x => .str x
def tD (k : List Key) : PyData := .tuple (k.map kD)

/-! ### the set as a tracked thing -/
structure Held (P : Program) (w : World) (h : Heap) (a : Addr) (L : List (Addr × List Key)) : Prop where
  ex : ∃ (es : Array (Int × Value)) (ep : Nat) (t : SetTable), (∃ o, h.get? a = some o ∧ o.ExactSet ∧ o.data = .set es ep t) ∧ es.toList = rowsH (tupleKind (mixKind P w)) L ∧ TabOk t (hashH (tupleKind (mixKind P w)) L) ∧ (L.map Prod.snd).Nodup ∧
    (w.params.followText "set-order" = true ∨ t.led = true) ∧ L.length * 5 < t.mask * 3 ∧ L.length < 64
/-- the set at a with the members L -/
def SetO (P : Program) (w : World) (a : Addr) (L : List (Addr × List Key)) : HO := .ext fun h => Held P w h a L
section
variable {P : Program} {w : World} {h : Heap} {a : Addr} {L : List (Addr × List Key)}
theorem SetH.held {es : Array (Int × Value)} {ep : Nat} {t : SetTable} (Z : SetH (tupleKind (mixKind P w)) h a L es ep t) : Held P w h a L := ⟨es, ep, t, Z.ob, Z.rows, Z.tab, Z.nd, Z.led, Z.room, Z.few⟩
theorem Held.set (R : Held P w h a L) (key : ∀ q ∈ L, IsTupleKey (mixKind P w) h q.2 q.1) : ∃ es ep t, SetH (tupleKind (mixKind P w)) h a L es ep t := by
  obtain ⟨es, ep, t, r1, r2, r3, r4, r5, r6, r7⟩ := R.ex
  exact ⟨es, ep, t, r1, r2, r3, r4, key, r5, r6, r7⟩
theorem setO_ok {H : Hp} (R : Held P w h a L) : ObjOk P w H h a (SetO P w a L) := by
  obtain ⟨es, ep, t, ⟨o, ho, _⟩, _⟩ := R.ex
  refine ⟨R, ⟨o, ho⟩, fun g1 g2 (R1 : Held P w g1 a L) k => ?_⟩
  obtain ⟨es, ep, t, ⟨o, ho, r⟩, q⟩ := R1.ex
  exact ⟨es, ep, t, ⟨o, k o ho, r⟩, q⟩
end

section
variable {X : Cx} {pins : List (Addr × Obj)} {σ : L2.St} {H : Hp} {s : Shared}
theorem items_mix {P : Program} {w : World} : ∀ {k : List Key} {us : List Value}, Vals (k.map kV) us → ItemsAre (mixKind P w) k us
  | [], _, .nil => .nil
  | .inl i :: k, _, .cons r t => by
    obtain ⟨tk, rfl⟩ := r
    exact .cons (mixKind_int P w i tk) (items_mix t)
  | .inr x :: k, _, .cons r t => by
    obtain ⟨tk, rfl⟩ := r
    exact .cons (mixKind_str P w x tk) (items_mix t)
theorem reads_mix {h : Heap} : ∀ {k : List Key} {us : List Value}, Vals (k.map kV) us → ReadsAll h us (k.map kD) []
  | [], _, .nil => .nil
  | .inl i :: k, _, .cons r t => by
    obtain ⟨tk, rfl⟩ := r
    exact ReadsAll.cons (as := []) (bs := []) (Reads.int i tk) (reads_mix t)
  | .inr x :: k, _, .cons r t => by
    obtain ⟨tk, rfl⟩ := r
    exact ReadsAll.cons (as := []) (bs := []) (Reads.str x tk) (reads_mix t)
theorem key_raw (I : Inv X pins σ H s) {b : Addr} {k : List Key} (h : SqT X.K H b (k.map kV)) : IsTupleKey (mixKind X.prog X.w) s.heap k b ∧ Reads s.heap (.ref b) (tD k) [] := by
  obtain ⟨its, r, ⟨o, ho, hc, n, hd⟩, _⟩ := I.tuple h
  exact ⟨⟨o, its.toArray, n, ho, hc, hd, by simpa using items_mix r⟩, Reads.tuple ho hc hd (by simpa using reads_mix r)⟩
theorem refs_raw {α : Type} (f : α → Addr) : ∀ {ks : List α} {us : List Value}, Vals (ks.map fun q => V.ref (f q)) us → us = ks.map fun q => Value.ref (f q)
  | [], _, .nil => rfl
  | q :: ks, _, .cons r t => by
    cases r
    rw [refs_raw f t]
    rfl
theorem refs_vals {α : Type} (f : α → Addr) : ∀ (ks : List α), Vals (ks.map fun q => V.ref (f q)) (ks.map fun q => Value.ref (f q))
  | [] => .nil
  | q :: ks => .cons rfl (refs_vals f ks)

/-- set(xs), xs a list of tuples -/
def rSetOfD (K : PySem.W.Frag) (P : Program) (w : World) : List V → Hp → VK → Prop := fun vs H Q => ∃ (l : Addr) (ks : List (Addr × List Key)), vs = [V.ref l] ∧ SqL K H l (ks.map fun q => V.ref q.1) ∧ (∀ q ∈ ks, SqT K H q.1 (q.2.map kV)) ∧ (∃ ds : List (List Key), (∀ q ∈ ks, q.2 ∈ ds) ∧ ds.length < 64) ∧
  ∀ a L, H a = none → (∀ q ∈ L, q ∈ ks) → (∀ q ∈ ks, q.2 ∈ L.map Prod.snd) → (L.map Prod.snd).Nodup → Q (.ref a) (upd H a (SetO P w a L))
theorem cr_setOfD (hc : X.calm = true) (hu : X.A.units + 64 < cLine) : CallR X (.type "set") (rSetOfD X.K X.prog X.w) := by
  intro pins s σ H vs us Q I r h
  obtain ⟨l, ks, rfl, hl, hk, hf, q⟩ := h
  rw [Vals.ref1 r]
  obtain ⟨its, rv, il, _⟩ := I.list hl
  refine call_set_keys (P := X.prog) (w := X.w) (knd := tupleKind (mixKind X.prog X.w)) mixSet ks (I.ok.hd hc) il.isList (by simpa using refs_raw Prod.fst rv) (fun p hp => (key_raw I (hk p hp)).1) hf (by show X.A.in1.in1.in1.units < cLine; have z : X.A.in1.in1.in1.units ≤ X.A.units + 64 := (by simp only [Around.in1]; omega); omega) fun s2 mk => ?_
  obtain ⟨h', tk, L, es, ep, t, rfl, Z, c, kp⟩ := mk
  refine ⟨.ref s.heap.objs.size, upd H s.heap.objs.size (SetO X.prog X.w s.heap.objs.size L), I.laid (t' := tk) kp (Nat.le_refl _) (setO_ok Z.held), rfl, q _ L (I.hok.fresh (Nat.le_refl _)) (fun p m => List.mem_of_mem_take (c.inn p m)) (fun p m => c.got p (by rw [List.take_length]; exact m)) Z.nd⟩

/-- set(xs), xs short -/
def rSetOf (K : PySem.W.Frag) (P : Program) (w : World) : List V → Hp → VK → Prop := fun vs H Q => ∃ (l : Addr) (ks : List (Addr × List Key)), vs = [V.ref l] ∧ SqL K H l (ks.map fun q => V.ref q.1) ∧ (∀ q ∈ ks, SqT K H q.1 (q.2.map kV)) ∧ ks.length < 64 ∧
  ∀ a L, H a = none → (∀ q ∈ L, q ∈ ks) → (∀ q ∈ ks, q.2 ∈ L.map Prod.snd) → (L.map Prod.snd).Nodup → Q (.ref a) (upd H a (SetO P w a L))
theorem cr_setOf (hc : X.calm = true) (hu : X.A.units + 64 < cLine) : CallR X (.type "set") (rSetOf X.K X.prog X.w) := by
  intro pins s σ H vs us Q I r h
  obtain ⟨l, ks, e, hl, hk, hf, q⟩ := h
  exact cr_setOfD hc hu pins s σ H vs us Q I r ⟨l, ks, e, hl, hk, ⟨ks.map Prod.snd, fun q m => List.mem_map.mpr ⟨q, m, rfl⟩, by rw [List.length_map]; exact hf⟩, q⟩

/-- len of such a set -/
def rLenS (P : Program) (w : World) : List V → Hp → VK → Prop := fun vs H Q => ∃ (a : Addr) (L : List (Addr × List Key)), vs = [V.ref a] ∧ H a = some (SetO P w a L) ∧ Q (.int L.length) H
theorem held_fits {P : Program} {w : World} {h : Heap} {L : List (Addr × List Key)} {es : Array (Int × Value)} {t : SetTable} (r : es.toList = rowsH (tupleKind (mixKind P w)) L) (T : TabOk t (hashH (tupleKind (mixKind P w)) L)) (rm : L.length * 5 < t.mask * 3) : es.size = L.length ∧ t.fits es.size = true := by
  have e1 : es.size = L.length := by rw [← Array.length_toList, r, rowsH_len]
  have e2 := T.sz
  rw [hashH_len] at e2
  refine ⟨e1, ?_⟩
  unfold SetTable.fits SetTable.fill
  rw [T.dm, Bool.and_eq_true, beq_iff_eq, decide_eq_true_eq, e2, e1]
  refine ⟨rfl, ?_⟩
  show L.length + 0 ≤ t.mask
  omega
theorem cr_lenS : CallR X (.builtin "len") (rLenS X.prog X.w) := by
  intro pins s σ H vs us Q I r h
  obtain ⟨a, L, rfl, ha, q⟩ := h
  rw [Vals.ref1 r]
  have R : Held X.prog X.w s.heap a L := (I.hok a _ ha).1
  obtain ⟨es, ep, t, ⟨o, ho, hex, hd⟩, r2, r3, _, _, r6, r7⟩ := R.ex
  obtain ⟨e1, e2⟩ := held_fits (h := s.heap) r2 r3 r6
  refine call_len_set ho hex hd e2 (by rw [e1]; omega) ⟨.int L.length, H, I.tok _, ⟨_, by rw [e1]⟩, q⟩

/-- sorted(xs) of a list of tuples: one list -/
def rSortL (K : PySem.W.Frag) : List V → Hp → VK → Prop := fun vs H Q => ∃ (a : Addr) (L : List (Addr × List Key)), vs = [V.ref a] ∧ SqL K H a (L.map fun q => V.ref q.1) ∧ (∀ q ∈ L, SqT K H q.1 (q.2.map kV)) ∧ AllAlike (L.map fun q => tD q.2) ∧ Sortable (L.map fun q => tD q.2) ∧
  ∀ p, H p = none → Q (.ref p) (upd H p (.lst ((L.mergeSort (dataLe false fun q => tD q.2)).map fun q => V.ref q.1)))
theorem tD_depth (k : List Key) : (tD k).depth ≤ 1 := by
  have all : ∀ k : List Key, PyData.depthAll (k.map kD) = 0 := by
    intro k
    induction k with
    | nil => rfl
    | cons x k ih => cases x <;> simp [kD, PyData.depthAll, PyData.depth, ih]
  simp [tD, PyData.depth, all]
theorem cr_sortL (hu : X.A.units + 64 < cLine) : CallR X (.builtin "sorted") (rSortL X.K) := by
  intro pins s σ H vs us Q I r h
  obtain ⟨a, L, rfl, hl, hk, al, so, q⟩ := h
  rw [Vals.ref1 r]
  obtain ⟨its, rv, il, sz⟩ := I.list hl
  have ei := refs_raw Prod.fst rv
  have each : ∀ (R : Value → Addr × List Key → Prop) (M : List (Addr × List Key)), (∀ q ∈ M, R (.ref q.1) q) → EachIs R (M.map fun q => Value.ref q.1) M := by
    intro R M
    induction M with
    | nil => exact fun _ => .nil
    | cons x M ih => exact fun g => .cons (g x List.mem_cons_self) (ih fun y m => g y (List.mem_cons_of_mem _ m))
  rw [List.length_map] at sz
  subst ei
  refine sorted_data (R := fun v q => v = Value.ref q.1) (enc := fun q : Addr × List Key => tD q.2) (bs := L) il.isList (each _ L fun q _ => rfl) (each _ L fun q m => ⟨[], (key_raw I (hk q m)).2⟩) al so sz (fun b _ => by have z := tD_depth b.2; omega) fun out lo eo => ?_
  have eout : ∀ {o : List Value} {M : List (Addr × List Key)}, EachIs (fun v q => v = Value.ref q.1) o M → o = M.map fun q => Value.ref q.1 := by
    intro o M z
    induction z with
    | nil => rfl
    | cons e _ ih => rw [e, ih]; rfl
  have eo' := eout eo
  subst eo'
  obtain ⟨ep, he⟩ := PyProof.Rows.sortedAll_at s.heap (L.map fun q => Value.ref q.1) (((L.mergeSort (dataLe false fun q => tD q.2)).map fun q => Value.ref q.1).toArray)
  refine ⟨.ref _, upd H (s.heap.objs.size + 1) (.lst ((L.mergeSort (dataLe false fun q => tD q.2)).map fun q => V.ref q.1)), I.laid (t' := s.toks) (fun _ _ => PyProof.Rows.sortedAll_old) (Nat.le_succ _) ⟨?_, _, ep, refs_vals Prod.fst _, he⟩, rfl, q _ (I.hok.fresh (Nat.le_succ _))⟩
  rw [List.length_map, List.length_mergeSort]
  exact sz

/-- sorted(set): one list, of the members in some order sorted -/
def rSortS (K : PySem.W.Frag) (P : Program) (w : World) : List V → Hp → VK → Prop := fun vs H Q => ∃ (a : Addr) (L : List (Addr × List Key)), vs = [V.ref a] ∧ H a = some (SetO P w a L) ∧ (∀ q ∈ L, SqT K H q.1 (q.2.map kV)) ∧ (AllAlike (L.map fun q => tD q.2)) ∧ Sortable (L.map fun q => tD q.2) ∧
  ∀ (L1 : List (Addr × List Key)) p, L1.Perm L → L.length < 64 → (L.map Prod.snd).Nodup → H p = none → Q (.ref p) (upd H p (.lst ((L1.mergeSort (dataLe false fun q => tD q.2)).map fun q => V.ref q.1)))
theorem cr_sortS (hc : X.calm = true) (hu : X.A.units + 64 < cLine) : CallR X (.builtin "sorted") (rSortS X.K X.prog X.w) := by
  intro pins s σ H vs us Q I r h
  obtain ⟨a, L, rfl, ha, hk, al, so, q⟩ := h
  rw [Vals.ref1 r]
  have R : Held X.prog X.w s.heap a L := (I.hok a _ ha).1
  obtain ⟨es, ep, t, ⟨o, ho, hex, hd⟩, r2, r3, r4, r5, r6, r7⟩ := R.ex
  obtain ⟨e1, e2⟩ := held_fits (h := s.heap) r2 r3 r6
  refine Calls.call_function_entry kind_sorted plain_sorted entry_sorted (args_sorted1 _) ?_
  unfold Builtin.«sorted»
  refine wpAny_bind (m := checkCount "sorted" 1 1 _) (wpAny_pure ?_)
  refine wpAny_bind (collect_set (A := X.A.in1) (I.ok.hd hc) ⟨o, ho, hex.1, hd⟩ e2 (by unfold scanBound; omega) r3.ris r5 fun s1 vs kp gr g1 o1 pm => ?_)
  have em : es.toList.map (·.2) = L.map fun q => Value.ref q.1 := by
    rw [r2]
    unfold rowsH
    rw [List.map_map]
    rfl
  rw [em] at pm
  obtain ⟨L1, p1, ev⟩ := perm_lift (fun q : Addr × List Key => Value.ref q.1) pm L rfl
  have less : L1.length < 64 := by rw [p1.length_eq]; exact r7
  have vlen : vs.length = L1.length := by rw [ev, List.length_map]
  refine wpAny_bind (wpAny_newList ?_ (by rw [sizeLine_eq]; omega))
  have oL : (s1.heap.push (seqObj "list" vs.toArray 0)).get? s1.heap.objs.size = some (seqObj "list" vs.toArray 0) := Heap.get?_push_size _ rfl
  have each : ∀ (R : Value → Addr × List Key → Prop) (M : List (Addr × List Key)), (∀ q ∈ M, R (.ref q.1) q) → EachIs R (M.map fun q => Value.ref q.1) M := by
    intro R M
    induction M with
    | nil => exact fun _ => .nil
    | cons x M ih => exact fun g => .cons (g x List.mem_cons_self) (ih fun y m => g y (List.mem_cons_of_mem _ m))
  have pmap : (L1.map fun q => tD q.2).Perm (L.map fun q => tD q.2) := p1.map _
  refine wpAny_bind (wpAny_holding (list_sort_data (s := { s1 with heap := s1.heap.push (seqObj "list" vs.toArray 0) }) (R := fun v q => v = Value.ref q.1) (enc := fun q : Addr × List Key => tD q.2) (bs := L1) oL (by rw [ev]; exact each _ L1 fun q _ => rfl)
    (by rw [ev]; exact each _ L1 fun q m => ⟨[], PyProof.Rows.Reads.keeps (fun b u e => Heap.get?_push_of_some _ (kp b u e)) (key_raw I (hk q (p1.mem_iff.mp m))).2, fun z => nomatch z⟩)
    (fun d m d' m' => al d (pmap.mem_iff.mp m) d' (pmap.mem_iff.mp m')) ?_ (by rw [sizeLine_eq]; omega) (fun b _ => by have z := tD_depth b.2; have y : X.A.in1.units ≤ X.A.units + 32 := (by simp only [Around.in1]; omega); omega) fun out lo eo => ?_))
  · rcases so with g | g
    · exact .inl fun d m => g d (pmap.mem_iff.mp m)
    · exact .inr fun d m => g d (pmap.mem_iff.mp m)
  · have eout : ∀ {o : List Value} {M : List (Addr × List Key)}, EachIs (fun v q => v = Value.ref q.1) o M → o = M.map fun q => Value.ref q.1 := by
      intro o M z
      induction z with
      | nil => rfl
      | cons e _ ih => rw [e, ih]; rfl
    have eo' := eout eo
    subst eo'
    obtain ⟨c, hc2⟩ := sortedHeap_at (vs := vs) (out := (List.toArray ((L1.mergeSort (dataLe false fun q => tD q.2)).map fun q => Value.ref q.1))) oL
    have kp2 : ∀ b u, s.heap.get? b = some u → (sortedHeap (s1.heap.push (seqObj "list" vs.toArray 0)) s1.heap.objs.size vs (List.toArray ((L1.mergeSort (dataLe false fun q => tD q.2)).map fun q => Value.ref q.1))).get? b = some u := fun b u e => by
      have z := kp b u e
      have lt := Heap.lt_size z
      rw [sortedHeap_old (Nat.ne_of_lt lt) (by rw [size_push']; exact Nat.lt_succ_of_lt lt)]
      exact Heap.get?_push_of_some _ z
    have ll : ((L1.mergeSort (dataLe false fun q => tD q.2)).map fun q => V.ref q.1).length ≤ sizeLine := by
      rw [List.length_map, List.length_mergeSort, sizeLine_eq]
      omega
    have J : Inv X pins σ (upd H s1.heap.objs.size (.lst ((L1.mergeSort (dataLe false fun q => tD q.2)).map fun q => V.ref q.1))) { s with heap := sortedHeap (s1.heap.push (seqObj "list" vs.toArray 0)) s1.heap.objs.size vs (List.toArray ((L1.mergeSort (dataLe false fun q => tD q.2)).map fun q => Value.ref q.1)), gens := s1.gens, drawn := s1.drawn, toks := s1.toks } :=
      I.call (ch := []) (Un.laid kp2 gr (I.hok.fresh gr)) (I.hok.laid kp2 gr ⟨ll, _, c, refs_vals Prod.fst _, hc2⟩) (by rw [g1]; exact I.bare) (fun _ z => nomatch z)
    have es : ({ s1 with heap := sortedHeap (s1.heap.push (seqObj "list" vs.toArray 0)) s1.heap.objs.size vs (List.toArray ((L1.mergeSort (dataLe false fun q => tD q.2)).map fun q => Value.ref q.1)) } : Shared) = { s with heap := sortedHeap (s1.heap.push (seqObj "list" vs.toArray 0)) s1.heap.objs.size vs (List.toArray ((L1.mergeSort (dataLe false fun q => tD q.2)).map fun q => Value.ref q.1)), gens := s1.gens, drawn := s1.drawn, toks := s1.toks } := by
      rw [← o1]
    refine wpAny_pure ⟨_, rfl, ?_⟩
    rw [es]
    exact ⟨.ref s1.heap.objs.size, _, J, rfl, q L1 _ p1 r7 r4 (I.hok.fresh gr)⟩
end
end Kd

-- ===== KS7 =====
set_option Elab.async false
set_option linter.all false
set_option maxRecDepth 100000
set_option maxHeartbeats 3200000
namespace Kd
open PySem PySem.Spec PyProof.Rows L2

/-! ### {elt for a in A for b in B} -/
section
variable {prog : Program} {w : World} {A : Around} {R : Result → Shared → Prop} {s : Shared} {elt ta ia tb ib : Expr} {scope : Scope} {pos : Pos} {it acc : Value} {env : Env}
/-- the comprehension itself -/
abbrev two (elt ta ia tb ib : Expr) (scope : Scope) (pos : Pos) : Expr := .SetComp elt [⟨ta, ia, [], 0⟩, ⟨tb, ib, [], 0⟩] scope pos
theorem turn_a : compTurn (two elt ta ia tb ib scope pos) 0 it acc env = (do
    standAt ia.pos
    match ← pyNext it with
    | none => pure (.done .next)
    | some v =>
      letOwnedTupleGo ta it v
      assign ta env v
      let x ← eval ib env
      standAt ib.pos
      let x ← foldedSetIterable ib env x
      let _ ← runOwn (.compStart (two elt ta ia tb ib scope pos) 1 (← holding [x] (pyIter x)) acc env) env
      again (.compLoop (two elt ta ia tb ib scope pos) 0 it acc env)) := by rfl
theorem turn_b : compTurn (two elt ta ia tb ib scope pos) 1 it acc env = (do
    standAt ib.pos
    match ← pyNext it with
    | none => pure (.done .next)
    | some v =>
      letOwnedTupleGo tb it v
      assign tb env v
      (do let v ← eval elt env; standAt elt.pos; let _ ← call (.builtin "set.add") [acc, v])
      again (.compLoop (two elt ta ia tb ib scope pos) 1 it acc env)) := by rfl
/-- what fails leaves by the frame's note -/
abbrev fails (prog : Program) (w : World) (A : Around) (env : Env) (R : Result → Shared → Prop) : Value → Shared → Prop := notedBy (model prog w) A env fun e s' => R (.error e) s'
theorem loop_a (pureI : ∀ x, foldedSetIterable ib env x = pure x) (I : Nat → Shared → Prop)
    (turn : ∀ n s, I n s → wpAny (model prog w) A (pyNext it) (fun r s1 => match r with
      | none => R (.ok .next) s1
      | some v => wpAny (model prog w) A (letOwnedTupleGo ta it v) (fun _ s2 => wpAny (model prog w) A (assign ta env v) (fun _ s3 => wpAny (model prog w) A (eval ib env) (fun x s4 => wpAny (model prog w) A (pyIter x) (fun jt s5 =>
          codeAny (model prog w) A (.compStart (two elt ta ia tb ib scope pos) 1 jt acc env) (fun r s' => match r with
            | .ok _ => ∃ m, m < n ∧ I m s'
            | .error _ => False) s5) (fails prog w A env R) s4) (fails prog w A env R) s3) (fails prog w A env R) s2) (fails prog w A env R) s1) (fails prog w A env R) s)
    (n : Nat) (h : I n s) : codeAny (model prog w) A (.compLoop (two elt ta ia tb ib scope pos) 0 it acc env) R s := by
  refine codeAny_loop rfl I (fun n s hI => ?_) n h
  show wpAny _ A ((compTurn (two elt ta ia tb ib scope pos) 0 it acc env).onRaise (fun x => do noteFrame x env; theTreesLotGoes x)) _ _ s
  refine wpAny_noted ?_
  rw [turn_a]
  refine wpAny_bind (wpAny_standAt (wpAny_bind (wpAny_mono (turn n s hI) (fun r s1 g => ?_) fun _ _ x => x)))
  cases r with
  | none => exact wpAny_pure g
  | some v =>
    refine wpAny_bind (wpAny_mono g (fun _ s2 g2 => wpAny_bind (wpAny_mono g2 (fun _ s3 g3 => wpAny_bind (wpAny_mono g3 (fun x s4 g4 => ?_) fun _ _ x => x)) fun _ _ x => x)) fun _ _ x => x)
    refine wpAny_bind (wpAny_standAt (wpAny_bind (wpAny_of_eq (pureI x) (wpAny_bind (wpAny_holding (wpAny_mono g4 (fun jt s5 g5 => ?_) fun _ _ x => x))))))
    refine wpAny_bind (wpAny_runOwn ?_)
    rw [Around.mark_none]
    refine codeAny_mono g5 fun r s' hr => ?_
    cases r with
    | ok f => exact wpAny_pure ⟨rfl, hr⟩
    | error e => exact hr.elim
theorem loop_b (I : Nat → Shared → Prop)
    (turn : ∀ n s, I n s → wpAny (model prog w) A (pyNext it) (fun r s1 => match r with
      | none => R (.ok .next) s1
      | some v => wpAny (model prog w) A (letOwnedTupleGo tb it v) (fun _ s2 => wpAny (model prog w) A (assign tb env v) (fun _ s3 => wpAny (model prog w) A (eval elt env) (fun x s4 =>
          wpAny (model prog w) A (call (.builtin "set.add") [acc, x]) (fun _ s5 => ∃ m, m < n ∧ I m s5) (fails prog w A env R) s4) (fails prog w A env R) s3) (fails prog w A env R) s2) (fails prog w A env R) s1) (fails prog w A env R) s)
    (n : Nat) (h : I n s) : codeAny (model prog w) A (.compLoop (two elt ta ia tb ib scope pos) 1 it acc env) R s := by
  refine codeAny_loop rfl I (fun n s hI => ?_) n h
  show wpAny _ A ((compTurn (two elt ta ia tb ib scope pos) 1 it acc env).onRaise (fun x => do noteFrame x env; theTreesLotGoes x)) _ _ s
  refine wpAny_noted ?_
  rw [turn_b]
  refine wpAny_bind (wpAny_standAt (wpAny_bind (wpAny_mono (turn n s hI) (fun r s1 g => ?_) fun _ _ x => x)))
  cases r with
  | none => exact wpAny_pure g
  | some v =>
    refine wpAny_bind (wpAny_mono g (fun _ s2 g2 => wpAny_bind (wpAny_mono g2 (fun _ s3 g3 => ?_) fun _ _ x => x)) fun _ _ x => x)
    exact wpAny_bind (wpAny_bind (wpAny_mono g3 (fun x s4 g4 => wpAny_bind (wpAny_standAt (wpAny_bind (wpAny_mono g4 (fun _ s5 g5 => wpAny_pure (wpAny_pure ⟨rfl, g5⟩)) fun _ _ x => x)))) fun _ _ x => x))
/-- a clause's start, the first's or the second's -/
theorem start_b (h0 : codeAny (model prog w) A (.compLoop (two elt ta ia tb ib scope pos) 1 it acc env) R s)
    (h : wpAny (model prog w) A (pyIter it) (fun it' s' => codeAny (model prog w) A (.compLoop (two elt ta ia tb ib scope pos) 1 it' acc env) R s') (fails prog w A env R) s) : codeAny (model prog w) A (.compStart (two elt ta ia tb ib scope pos) 1 it acc env) R s := by
  refine codeAny_of_tree ?_
  show wpAny _ _ ((compStart (two elt ta ia tb ib scope pos) 1 it acc env).onRaise (fun x => do noteFrame x env; standAt theWindowsPlace)) _ _ s
  refine wpAny_notedAt ?_
  unfold compStart
  show wpAny _ _ (ask >>= _) _ _ s
  refine wpAny_bind (wpAny_askSetting (wpAny_ite ?_))
  split
  · exact wpAny_pure (And.intro rfl h0)
  · refine wpAny_bind (wpAny_rule ?_)
    show wpAny _ _ (standAt ib.pos >>= _) _ _ s
    exact wpAny_bind (wpAny_standAt (wpAny_bind (wpAny_mono h (fun it' s' g => wpAny_pure (And.intro rfl g)) fun _ _ x => x)))
end

section
variable {X : Cx} {pins : List (Addr × Obj)} {σ : L2.St} {H : Hp} {s : Shared}
/-- a key added to a tracked set -/
theorem add_ok {E : Value → Shared → Prop} {D e : Addr} {k : List Key} {L : List (Addr × List Key)} {Q : Value → Shared → Prop} (I : Inv X pins σ H s) (hD : H D = some (SetO X.prog X.w D L)) (he : SqT X.K H e (k.map kV)) (hL : ∀ q ∈ L, SqT X.K H q.1 (q.2.map kV))
    (room : k ∉ L.map Prod.snd → L.length + 1 < 64) (hu : X.A.units + 2 < cLine) (h : ∀ L' s', (k ∈ L.map Prod.snd → L' = L) → (k ∉ L.map Prod.snd → L'.Perm ((e, k) :: L)) → Inv X pins σ (upd H D (SetO X.prog X.w D L')) s' → Q .none s') :
    wpAny (model X.prog X.w) X.A (call (.builtin "set.add") [.ref D, .ref e]) Q E s := by
  have R : Held X.prog X.w s.heap D L := (I.hok D _ hD).1
  obtain ⟨es, ep, t, Z⟩ := R.set fun q m => (key_raw I (hL q m)).1
  refine call_add mixSet Z (key_raw I he).1 (by show X.A.in1.units < cLine; have z : X.A.in1.units ≤ X.A.units + 2 := (by simp only [Around.in1]; omega); omega) room fun h' tk L' es' ep' t' sb Z' c1 c2 le => ?_
  obtain ⟨o, ho, _⟩ := Z'.ob
  exact h L' _ c1 c2 (I.write (e := D) (t' := tk) (by rw [hD]; trivial) (.inl rfl) (fun b u hb hu => (sb.2 b hb).trans hu) ⟨o, ho⟩ (setO_ok Z'.held))
end
end Kd

-- ===== KS8 =====
set_option Elab.async false
set_option linter.all false
set_option maxRecDepth 100000
set_option maxHeartbeats 3200000
namespace Kd
open PySem PySem.Spec PyProof.Rows L2
section
variable {X : Cx}
/-- the contexts in which a comprehension's parts run -/
abbrev Blks (X : Cx) (scope : Scope) (p : Cx → Prop) : Prop := ∀ (s : Shared) (H : Hp) (C : Addr) (cl : List (PySem.Str × Addr)) (fp : List Addr), p (X.blk s H scope (compEnvC scope cl C X.env) fp)
/-- {elt for ta in ia for tb in ib}, elt a tuple: D the new set. vs: the block's names; us: those of the second target -/
def tSc2 (K : PySem.W.Frag) (P : Program) (w : World) (wa : TI) (ga : TG) (wb : TI) (gb : TG) (te : TE) (vs us : List Nat) : TE := fun σ H Q => wa σ H fun J H1 => ∀ D, H1 D = none → ∃ W : Nat → Nat → Hp → Prop, (∃ m, W 0 m (upd H1 D (SetO P w D []))) ∧ ∀ i m H2, W i m H2 →
  (J.stop i H2 ∧ Q (.ref D) H2) ∨ (J.go i H2 ∧ ∃ Nx : Hp → Prop, (∀ H3, Nx H3 → ∃ m', m' < m ∧ W (i + 1) m' H3) ∧ ∀ x H3, J.yld i H2 x H3 → ga x (wipe σ vs) H3 fun σ4 H4 => wipe σ4 vs = wipe σ vs ∧ wb σ4 H4 fun J1 H5 =>
    ∃ W1 : Nat → Nat → Hp → Prop, (∃ m, W1 0 m H5) ∧ ∀ j k H6, W1 j k H6 → (J1.stop j H6 ∧ Nx H6) ∨ (J1.go j H6 ∧ ∃ Nx1 : Hp → Prop, (∀ H7, Nx1 H7 → ∃ k', k' < k ∧ W1 (j + 1) k' H7) ∧ ∀ x H7, J1.yld j H6 x H7 →
      gb x (wipe σ4 us) H7 fun σ8 H8 => wipe σ8 us = wipe σ4 us ∧ te σ8 H8 fun y H9 => ∃ (e : Addr) (c : List Key) (L : List (Addr × List Key)), y = .ref e ∧ SqT K H9 e (c.map kV) ∧ H9 D = some (SetO P w D L) ∧ (∀ q ∈ L, SqT K H9 q.1 (q.2.map kV)) ∧ (c ∉ L.map Prod.snd → L.length + 1 < 64) ∧
        ∀ L', (c ∈ L.map Prod.snd → L' = L) → (c ∉ L.map Prod.snd → L'.Perm ((e, c) :: L)) → Nx1 (upd H9 D (SetO P w D L'))))

theorem pe_sc2 {elt ta ia tb ib : Expr} {scope : Scope} {own : List (PySem.Str × Nat)} {us : List Nat} {pos : Pos} {wa wb : TI} {ga gb : TG} {te : TE} (hc : X.calm = true) (hN : X.N.Nodup) (hu : X.A.units + 2 < cLine) (hia : PI X ta ia wa) (ok : BlkOk X.N X.env.scope scope own) (hus : ∀ i ∈ us, i ∈ own.map (·.2))
    (hga : Blks X scope fun Y => PG Y ta ga) (hib : Blks X scope fun Y => PI Y tb ib wb) (hgb : Blks X scope fun Y => PG Y tb gb) (hel : Blks X scope fun Y => PE Y elt te)
    (pa : ∀ x, foldedSetIterable ia X.env x = pure x := by intro _; rfl) (pb : ∀ env x, foldedSetIterable ib env x = pure x := by intro _ _; rfl) :
    PE X (two elt ta ia tb ib scope pos) (tSc2 X.K X.prog X.w wa ga wb gb te (own.map (·.2)) us) := by
  refine ⟨fun pins s σ H Q I h => ?_⟩
  rw [PpSet.eval_SetComp]
  have caught : ∀ y ∈ scope.names, y.2 = .free → ∃ c, X.env.cells.lookup y.1 = some c := fun y m e => (ok.free y m e).elim (fun k => I.ok.has _ (.inl k)) (fun k => I.ok.has _ (.inr k))
  refine wpAny_comprehension_free (use := none) rfl pa (closure_ok caught) ok.kind (fun y m e => by rw [ok.uniq y m, e]) (thn (hia.run pins s σ H _ I h) fun xv s1 hx => thn hx fun itv s2 h2 => ?_)
  obtain ⟨it, fp, tn, J, H2, rfl, I2, T, st2, f2, q⟩ := h2
  refine PpSet.newSet_ok (newEnv_comp ?_)
  generalize eD : s2.heap.objs.size = D
  have D0 : H2 D = none := I2.hok.fresh (Nat.le_of_eq eD)
  obtain ⟨W, ⟨m0, w0⟩, turn⟩ := q D D0
  -- the new set stands
  generalize e3 : ({ s2 with heap := s2.heap.push (newO X.w) } : Shared) = s3
  have hp3 : s3.heap = s2.heap.push (newO X.w) := by rw [← e3]
  have I3 : Inv X pins σ (upd H2 D (SetO X.prog X.w D [])) s3 := by
    rw [← e3]
    refine I2.laid (t' := s2.toks) (fun b o e => Heap.get?_push_of_some _ e) (Nat.le_of_eq eD) (setO_ok (SetH.held (ep := 0) (setH_new ?_)))
    rw [← eD]
    exact Heap.get?_push_size _ rfl
  have low : ∀ b ∈ fp, b < s2.heap.objs.size := fun b m => by
    obtain ⟨o, e, _⟩ := T.obj _ _ st2 b m
    exact Heap.lt_size e
  have f3 : ∀ b ∈ fp, FpOk X pins (upd H2 D (SetO X.prog X.w D [])) b ∧ b < s3.heap.objs.size := fun b m => by
    refine ⟨⟨?_, (f2 b m).2⟩, by rw [hp3, Heap.size_push]; exact Nat.lt_succ_of_lt (low b m)⟩
    rw [upd_ne (by rw [← eD]; exact Nat.ne_of_lt (low b m))]
    exact (f2 b m).1
  have st3 : tn 0 s3.heap := T.keep _ _ _ st2 fun b _ o e => by rw [hp3]; exact Heap.get?_push_of_some _ e
  have I4 := block_start I3 ok hN f3
  have ga4 := hga s3 (upd H2 D (SetO X.prog X.w D [])) s3.heap.objs.size (cellsFrom (s3.heap.objs.size + 1) scope.names (cloFrom X.env.cells scope.names [])) fp
  have ib4 := hib s3 (upd H2 D (SetO X.prog X.w D [])) s3.heap.objs.size (cellsFrom (s3.heap.objs.size + 1) scope.names (cloFrom X.env.cells scope.names [])) fp
  have gb4 := hgb s3 (upd H2 D (SetO X.prog X.w D [])) s3.heap.objs.size (cellsFrom (s3.heap.objs.size + 1) scope.names (cloFrom X.env.cells scope.names [])) fp
  have el4 := hel s3 (upd H2 D (SetO X.prog X.w D [])) s3.heap.objs.size (cellsFrom (s3.heap.objs.size + 1) scope.names (cloFrom X.env.cells scope.names [])) fp
  show codeAny _ _ (.compStart (two elt ta ia tb ib scope pos) 0 (.ref it) (.ref D) (compEnvC scope (cellsFrom (s3.heap.objs.size + 1) scope.names (cloFrom X.env.cells scope.names [])) s3.heap.objs.size X.env)) (compPost (model X.prog X.w) X.A X.xe none _ (.ref D) s3.heap.objs.size) { s3 with heap := pushCells (s3.heap.push { cls := .type "dict", data := .dict #[] }) scope.names }
  have fp0 : ∀ b ∈ fp, (upd H2 D (SetO X.prog X.w D [])) b = none := fun b m => (f3 b m).1.1
  generalize ece : compEnvC scope (cellsFrom (s3.heap.objs.size + 1) scope.names (cloFrom X.env.cells scope.names [])) s3.heap.objs.size X.env = ce at I4 ga4 ib4 gb4 el4 ⊢
  have loc : ce.locals = s3.heap.objs.size := by subst ece; rfl
  generalize upd H2 D (SetO X.prog X.w D []) = H3 at I3 I4 ga4 ib4 gb4 el4 w0 fp0 f3
  generalize e4 : ({ s3 with heap := pushCells (s3.heap.push { cls := .type "dict", data := .dict #[] }) scope.names } : Shared) = s4 at I4 ⊢
  have st4 : tn 0 s4.heap := T.keep _ _ _ st3 fun b _ o e => by rw [← e4]; exact pushCells_keeps _ _ _ _ (Heap.get?_push_of_some _ e)
  have still : ∀ {τ : L2.St} {G : Hp} {u : Shared}, Inv (X.blk s3 H3 scope ce fp) [] τ G u → (∀ b ∈ fp, G b = none) → ∀ b ∈ fp, FpOk (X.blk s3 H3 scope ce fp) [] G b := fun {τ G u} Iu no b m =>
    ⟨no b m, (Iu.ok.exf b m).1, Iu.ok.exfs b m, .inl m, fun x c e => (Iu.ok.exf b m).2 x c e, fun p z => absurd (show p ∈ ([] : List (Addr × Obj)) ++ [] from z) (by simp)⟩
  refine PpSet.codeAny_compStart_set ?loop (T.self X.A 0 _ _ _ st4 ?loop)
  refine loop_a (pb ce) (fun n u => ∃ i G, Inv (X.blk s3 H3 scope ce fp) [] (wipe σ (own.map (·.2))) G u ∧ tn i u.heap ∧ (∀ b ∈ fp, G b = none) ∧ W i n G) (fun n s5 hI => ?_) m0 ⟨0, H3, I4, st4, fp0, w0⟩
  obtain ⟨i, H5, I5, st5, no5, w5⟩ := hI
  rcases turn i n H5 w5 with ⟨stop, fin⟩ | ⟨go, Nx, hNx, step⟩
  · -- at the end: back in the def
    refine thnF (T.done (X.blk s3 H3 scope ce fp) rfl rfl rfl hc i [] s5 _ H5 (fun _ _ => False) I5 (still I5 no5) st5 stop) fun r s6 ⟨hr, I6⟩ => ?_
    subst hr
    have I7 : Inv X pins σ H5 s6 := I3.call' (ch := fp) I6.os I6.base I6.hok I6.bare fun b m => ⟨(f3 b m).1.2.2.2.1, (f3 b m).1.2.1, (f3 b m).1.2.2.2.2.1, (f3 b m).1.2.2.2.2.2⟩
    have none5 : H5 s3.heap.objs.size = none := by
      have z : H5 ce.locals = none := I6.free
      rwa [loc] at z
    obtain ⟨m, hn, _⟩ := I6.loc
    have hn : s6.heap.Ns ce.locals m := hn
    rw [loc] at hn
    obtain ⟨g0, g1, g2, g3, g4, g5⟩ := I3.fpOk (Nat.le_refl _) none5
    exact ⟨m, hn, fun h'' sb => ⟨.ref D, H5, I7.turned (t' := s6.toks) (fun b o ne e => (sb.2 b ne).trans e) g0 g1 g3 g4 g5, rfl, fin⟩⟩
  · refine thnF (T.item (X.blk s3 H3 scope ce fp) rfl rfl rfl hc i [] s5 _ H5 (fun _ _ => False) I5 (still I5 no5) st5 go) fun r s6 ⟨u, hr, h6⟩ => ?_
    subst hr
    refine thnF h6 fun _ s7 ⟨x, H7, I7, r7, y7, st7, no7⟩ => ?_
    have I7p := I7.pinned (still I7 no7) (T.obj _ _ st7)
    refine thnF (ga4.run _ s7 _ H7 x u _ I7p r7 (step x H7 y7)) fun _ s8 ⟨σ8, H8, I8, wp8, q8⟩ => ?_
    have len8 : (wipe σ (own.map (·.2))).length = σ8.length := by rw [← wp8, wipe_length]
    -- what the turn comes to
    have next : ∀ {τ : L2.St} {v : Shared} {G : Hp}, Inv (X.blk s3 H3 scope ce fp) ([] ++ pinsAt fp s7.heap) τ G v → (wipe σ (own.map (·.2))).length = τ.length → (∀ (j : Nat) z, (wipe σ (own.map (·.2)))[j]? = some (some z) → τ[j]? = some (some z)) → Nx G →
        ∃ m, m < n ∧ ∃ i G, Inv (X.blk s3 H3 scope ce fp) [] (wipe σ (own.map (·.2))) G v ∧ tn i v.heap ∧ (∀ b ∈ fp, G b = none) ∧ W i m G := fun {τ v G} Iv le ke nx => by
      obtain ⟨m', lt, w'⟩ := hNx G nx
      have pinned : ∀ b ∈ fp, ∀ o, s7.heap.get? b = some o → v.heap.get? b = some o ∧ G b = none := fun b m o e =>
        have z := Iv.pin (b, o) (List.mem_append_right _ (List.mem_append_right _ (mem_pinsAt m e)))
        ⟨z.1, z.2.1⟩
      refine ⟨m', lt, i + 1, G, (Iv.unpinned (pins := [])).weak le ke, T.keep _ _ _ st7 fun b m o e => (pinned b m o e).1, fun b m => ?_, w'⟩
      obtain ⟨o, e, _⟩ := T.obj _ _ st7 b m
      exact (pinned b m o e).2
    refine thnF (ib4.run _ s8 σ8 H8 _ I8 q8) fun xv s9 hx => thnF hx fun jt s10 h10 => ?_
    obtain ⟨jt, gp, un, J1, H10, rfl, I10, U, su10, f10, W1, ⟨m1, v1⟩, turn1⟩ := h10
    have still1 : ∀ {G : Hp}, (∀ b ∈ gp, G b = none) → ∀ b ∈ gp, FpOk (X.blk s3 H3 scope ce fp) ([] ++ pinsAt fp s7.heap) G b := fun no b m => ⟨no b m, (f10 b m).2⟩
    have inner : codeAny (model X.prog X.w) X.A (.compLoop (two elt ta ia tb ib scope pos) 1 (.ref jt) (.ref D) ce) (fun r v => match r with
        | .ok _ => ∃ m, m < n ∧ ∃ i G, Inv (X.blk s3 H3 scope ce fp) [] (wipe σ (own.map (·.2))) G v ∧ tn i v.heap ∧ (∀ b ∈ fp, G b = none) ∧ W i m G
        | .error _ => False) s10 := by
      refine loop_b (fun k v => ∃ j G, Inv (X.blk s3 H3 scope ce fp) ([] ++ pinsAt fp s7.heap) (wipe σ8 us) G v ∧ un j v.heap ∧ (∀ b ∈ gp, G b = none) ∧ W1 j k G) (fun k s12 hI => ?_) m1 ⟨0, H10, I10.weak (wipe_length _ _) (fun j v e => (wipe_some e).1), su10, fun b m => (f10 b m).1, v1⟩
      obtain ⟨j, H12, I12, su12, no12, w12⟩ := hI
      rcases turn1 j k H12 w12 with ⟨stop1, nx⟩ | ⟨go1, Nx1, hNx1, step1⟩
      · refine thnF (U.done (X.blk s3 H3 scope ce fp) rfl rfl rfl hc j _ s12 (wipe σ8 us) H12 (fun _ _ => False) I12 (still1 no12) su12 stop1) fun r s13 ⟨hr, I13⟩ => ?_
        subst hr
        refine next I13 (len8.trans (wipe_length σ8 us).symm) (fun j v e => ?_) nx
        rw [← wp8] at e
        obtain ⟨a1, a2⟩ := wipe_some e
        rw [wipe_out fun z => a2 (hus j z)]
        exact a1
      · refine thnF (U.item (X.blk s3 H3 scope ce fp) rfl rfl rfl hc j _ s12 (wipe σ8 us) H12 (fun _ _ => False) I12 (still1 no12) su12 go1) fun r s13 ⟨u1, hr, h13⟩ => ?_
        subst hr
        refine thnF h13 fun _ s14 ⟨x1, H14, I14, r14, y14, su14, no14⟩ => ?_
        have I14p := I14.pinned (still1 no14) (U.obj _ _ su14)
        refine thnF (gb4.run _ s14 (wipe σ8 us) H14 x1 u1 _ I14p r14 (step1 x1 H14 y14)) fun _ s15 ⟨σ15, H15, I15, wp15, q15⟩ => ?_
        refine thnF (el4.run _ s15 σ15 H15 _ I15 q15) fun z s17 ⟨yv, H17, I17, r17, e, c, L, ey, he, hD, hL, room, nx⟩ => ?_
        subst ey
        cases r17
        refine add_ok (X := X.blk s3 H3 scope ce fp) I17 hD he hL room hu fun L' s18 c1 c2 I18 => ?_
        obtain ⟨m', lt, w'⟩ := hNx1 _ (nx L' c1 c2)
        have pinned : ∀ b ∈ gp, ∀ o, s14.heap.get? b = some o → s18.heap.get? b = some o ∧ (upd H17 D (SetO X.prog X.w D L')) b = none := fun b m o e =>
          have z := I18.pin (b, o) (List.mem_append_right _ (List.mem_append_right _ (mem_pinsAt m e)))
          ⟨z.1, z.2.1⟩
        refine ⟨m', lt, j + 1, _, I18.unpinned.weak (by rw [← wp15, wipe_length]) (fun j v e => by rw [← wp15] at e; exact (wipe_some e).1), U.keep _ _ _ su14 fun b m o e => (pinned b m o e).1, fun b m => ?_, w'⟩
        obtain ⟨o, e, _⟩ := U.obj _ _ su14 b m
        exact (pinned b m o e).2
    exact start_b inner (U.self X.A 0 _ _ _ su10 inner)
end
end Kd

-- ===== KS9 =====
set_option Elab.async false
set_option linter.all false
set_option maxRecDepth 100000
set_option maxHeartbeats 3200000
namespace Kd
open PySem PySem.Spec PyProof.Rows L2
section
variable {X : Cx} {pins : List (Addr × Obj)} {σ : L2.St} {H : Hp} {s : Shared}
/-- an entry with a tuple for its key, by a comprehension -/
theorem put_ok {E : Value → Shared → Prop} {D b : Addr} {kvs : List (List Key × V)} {k : List Key} {v : V} {r : Value} {Q : Unit → Shared → Prop} (hu : X.A.units + 2 < cLine) (I : Inv X pins σ H s) (hD : H D = some (.dT kvs)) (hb : H b = some (.tup (k.map kV))) (room : kvs.length < sizeLine) (rv : RelV v r)
    (h : ∀ s', Inv X pins σ (upd H D (.dT (putK kvs k v))) s' → Q () s') : wpAny (model X.prog X.w) X.A (dictSet D (.ref b) r) Q E s := by
  obtain ⟨z, nsys, xs, rel, dd⟩ := dt_of I.hok hD
  have xz : xs.length ≤ sizeLine := by rw [← Paired.length rel]; exact z
  have pz : (putK kvs k v).length ≤ sizeLine := by have := length_putK kvs k v; omega
  refine wpAny_dictSet_heap (hsz := xz) (show X.A.units < cLine by omega) (key_of I.hok hb) dd fun h' dd' sb => h _ ?_
  obtain ⟨o, es, ep, ho, o2, o3, o4, _, o5⟩ := dd'
  refine d_write I (by rw [hD]; exact True.intro) sb ⟨o, ho⟩ ⟨pz, nsys, _, (rel.put k hb rv).keeps fun c ys e => ?_, o, es, ep, ho, o2, o3, o4, o5⟩
  rw [upd_ne (ne_of e hD (fun z => nomatch z))]
  exact e
end
section
variable {X : Cx}
/-- {key: val for ta in ia}, the key a tuple: D the new dict -/
def tDcT (wa : TI) (ga : TG) (tk tv : TE) (vs : List Nat) : TE := fun σ H Q => wa σ H fun J H1 => ∀ D, H1 D = none → ∃ W : Nat → Nat → Hp → Prop, (∃ m, W 0 m (upd H1 D (.dT []))) ∧ ∀ i m H2, W i m H2 →
  (J.stop i H2 ∧ Q (.ref D) H2) ∨ (J.go i H2 ∧ ∃ Nx : Hp → Prop, (∀ H3, Nx H3 → ∃ m', m' < m ∧ W (i + 1) m' H3) ∧ ∀ x H3, J.yld i H2 x H3 → ga x (wipe σ vs) H3 fun σ4 H4 => wipe σ4 vs = wipe σ vs ∧ tk σ4 H4 fun y H5 => tv σ4 H5 fun z H6 =>
    ∃ (kvs : List (List Key × V)) (k : List Key) (b : Addr), y = .ref b ∧ H6 b = some (.tup (k.map kV)) ∧ H6 D = some (.dT kvs) ∧ kvs.length < sizeLine ∧ Nx (upd H6 D (.dT (putK kvs k z))))
theorem pe_dcT {kx vx ta ia : Expr} {scope : Scope} {own : List (PySem.Str × Nat)} {pos : Pos} {wa : TI} {ga : TG} {tk tv : TE} (hc : X.calm = true) (hN : X.N.Nodup) (hu : X.A.units + 2 < cLine) (hia : PI X ta ia wa) (ok : BlkOk X.N X.env.scope scope own)
    (hga : Blks X scope fun Y => PG Y ta ga) (hk : Blks X scope fun Y => PE Y kx tk) (hv : Blks X scope fun Y => PE Y vx tv) (pa : ∀ x, foldedSetIterable ia X.env x = pure x := by intro _; rfl) :
    PE X (.DictComp kx vx [⟨ta, ia, [], 0⟩] scope pos) (tDcT wa ga tk tv (own.map (·.2))) := by
  refine ⟨fun pins s σ H Q I h => ?_⟩
  rw [arm_eval_DictComp]
  have caught : ∀ y ∈ scope.names, y.2 = .free → ∃ c, X.env.cells.lookup y.1 = some c := fun y m e => (ok.free y m e).elim (fun k => I.ok.has _ (.inl k)) (fun k => I.ok.has _ (.inr k))
  refine wpAny_comprehension_free (use := none) rfl pa (closure_ok caught) ok.kind (fun y m e => by rw [ok.uniq y m, e]) (thn (hia.run pins s σ H _ I h) fun xv s1 hx => thn hx fun itv s2 h2 => ?_)
  obtain ⟨it, fp, tn, J, H2, rfl, I2, T, st2, f2, q⟩ := h2
  refine wpAny_newObj_type (newEnv_comp ?_)
  generalize eD : s2.heap.objs.size = D
  have D0 : H2 D = none := I2.hok.fresh (Nat.le_of_eq eD)
  obtain ⟨W, ⟨m0, w0⟩, turn⟩ := q D D0
  generalize e3 : ({ s2 with heap := s2.heap.push { cls := .type "dict", data := .dict #[] } } : Shared) = s3
  have hp3 : s3.heap = s2.heap.push { cls := .type "dict", data := .dict #[] } := by rw [← e3]
  have I3 : Inv X pins σ (upd H2 D (.dT [])) s3 := by
    rw [← e3]
    refine I2.laid (t' := s2.toks) (fun b o e => Heap.get?_push_of_some _ e) (Nat.le_of_eq eD) ?_
    rw [← eD]
    exact dt_empty s2.heap I2.big
  have low : ∀ b ∈ fp, b < s2.heap.objs.size := fun b m => by
    obtain ⟨o, e, _⟩ := T.obj _ _ st2 b m
    exact Heap.lt_size e
  have f3 : ∀ b ∈ fp, FpOk X pins (upd H2 D (.dT [])) b ∧ b < s3.heap.objs.size := fun b m => by
    refine ⟨⟨?_, (f2 b m).2⟩, by rw [hp3, Heap.size_push]; exact Nat.lt_succ_of_lt (low b m)⟩
    rw [upd_ne (by rw [← eD]; exact Nat.ne_of_lt (low b m))]
    exact (f2 b m).1
  have st3 : tn 0 s3.heap := T.keep _ _ _ st2 fun b _ o e => by rw [hp3]; exact Heap.get?_push_of_some _ e
  have I4 := block_start I3 ok hN f3
  have ga4 := hga s3 (upd H2 D (.dT [])) s3.heap.objs.size (cellsFrom (s3.heap.objs.size + 1) scope.names (cloFrom X.env.cells scope.names [])) fp
  have k4 := hk s3 (upd H2 D (.dT [])) s3.heap.objs.size (cellsFrom (s3.heap.objs.size + 1) scope.names (cloFrom X.env.cells scope.names [])) fp
  have v4 := hv s3 (upd H2 D (.dT [])) s3.heap.objs.size (cellsFrom (s3.heap.objs.size + 1) scope.names (cloFrom X.env.cells scope.names [])) fp
  show codeAny _ _ (.compStart (.DictComp kx vx [⟨ta, ia, [], 0⟩] scope pos) 0 (.ref it) (.ref D) (compEnvC scope (cellsFrom (s3.heap.objs.size + 1) scope.names (cloFrom X.env.cells scope.names [])) s3.heap.objs.size X.env)) (compPost (model X.prog X.w) X.A X.xe none _ (.ref D) s3.heap.objs.size) { s3 with heap := pushCells (s3.heap.push { cls := .type "dict", data := .dict #[] }) scope.names }
  have fp0 : ∀ b ∈ fp, (upd H2 D (.dT [])) b = none := fun b m => (f3 b m).1.1
  generalize ece : compEnvC scope (cellsFrom (s3.heap.objs.size + 1) scope.names (cloFrom X.env.cells scope.names [])) s3.heap.objs.size X.env = ce at I4 ga4 k4 v4 ⊢
  have loc : ce.locals = s3.heap.objs.size := by subst ece; rfl
  generalize upd H2 D (.dT []) = H3 at I3 I4 ga4 k4 v4 w0 fp0 f3
  generalize e4 : ({ s3 with heap := pushCells (s3.heap.push { cls := .type "dict", data := .dict #[] }) scope.names } : Shared) = s4 at I4 ⊢
  have st4 : tn 0 s4.heap := T.keep _ _ _ st3 fun b _ o e => by rw [← e4]; exact pushCells_keeps _ _ _ _ (Heap.get?_push_of_some _ e)
  have still : ∀ {τ : L2.St} {G : Hp} {u : Shared}, Inv (X.blk s3 H3 scope ce fp) [] τ G u → (∀ b ∈ fp, G b = none) → ∀ b ∈ fp, FpOk (X.blk s3 H3 scope ce fp) [] G b := fun {τ G u} Iu no b m =>
    ⟨no b m, (Iu.ok.exf b m).1, Iu.ok.exfs b m, .inl m, fun x c e => (Iu.ok.exf b m).2 x c e, fun p z => absurd (show p ∈ ([] : List (Addr × Obj)) ++ [] from z) (by simp)⟩
  refine codeAny_compStart_dict ?loop (T.self X.A 0 _ _ _ st4 ?loop)
  refine compLoop_anyD (fun n u => ∃ i G, Inv (X.blk s3 H3 scope ce fp) [] (wipe σ (own.map (·.2))) G u ∧ tn i u.heap ∧ (∀ b ∈ fp, G b = none) ∧ W i n G) (fun n s5 hI => ?_) m0 ⟨0, H3, I4, st4, fp0, w0⟩
  obtain ⟨i, H5, I5, st5, no5, w5⟩ := hI
  rcases turn i n H5 w5 with ⟨stop, fin⟩ | ⟨go, Nx, hNx, step⟩
  · refine thnF (T.done (X.blk s3 H3 scope ce fp) rfl rfl rfl hc i [] s5 _ H5 (fun _ _ => False) I5 (still I5 no5) st5 stop) fun r s6 ⟨hr, I6⟩ => ?_
    subst hr
    have I7 : Inv X pins σ H5 s6 := I3.call' (ch := fp) I6.os I6.base I6.hok I6.bare fun b m => ⟨(f3 b m).1.2.2.2.1, (f3 b m).1.2.1, (f3 b m).1.2.2.2.2.1, (f3 b m).1.2.2.2.2.2⟩
    have none5 : H5 s3.heap.objs.size = none := by
      have z : H5 ce.locals = none := I6.free
      rwa [loc] at z
    obtain ⟨m, hn, _⟩ := I6.loc
    have hn : s6.heap.Ns ce.locals m := hn
    rw [loc] at hn
    obtain ⟨g0, g1, g2, g3, g4, g5⟩ := I3.fpOk (Nat.le_refl _) none5
    exact ⟨m, hn, fun h'' sb => ⟨.ref D, H5, I7.turned (t' := s6.toks) (fun b o ne e => (sb.2 b ne).trans e) g0 g1 g3 g4 g5, rfl, fin⟩⟩
  · refine thnF (T.item (X.blk s3 H3 scope ce fp) rfl rfl rfl hc i [] s5 _ H5 (fun _ _ => False) I5 (still I5 no5) st5 go) fun r s6 ⟨u, hr, h6⟩ => ?_
    subst hr
    refine thnF h6 fun _ s7 ⟨x, H7, I7, r7, y7, st7, no7⟩ => ?_
    have I7p := I7.pinned (still I7 no7) (T.obj _ _ st7)
    refine thnF (ga4.run _ s7 _ H7 x u _ I7p r7 (step x H7 y7)) fun _ s8 ⟨σ8, H8, I8, wp8, q8⟩ => ?_
    refine thnF ((pts_nil (X := X.blk s3 H3 scope ce fp)).run _ s8 σ8 H8 (fun b G => b = true ∧ tk σ8 G _) I8 ⟨rfl, q8⟩) fun b s9 ⟨H9, I9, eb, q9⟩ => ?_
    subst eb
    simp only [if_true]
    refine thnF (k4.run _ s9 σ8 H9 _ I9 q9) fun z1 s10 ⟨yk, H10, I10, r10, q10⟩ => ?_
    refine thnF (v4.run _ s10 σ8 H10 _ I10 q10) fun z2 s11 ⟨yv, H11, I11, r11, kvs, k, b, ek, hb, hD, room, nx⟩ => ?_
    subst ek
    cases r10
    refine put_ok (X := X.blk s3 H3 scope ce fp) hu I11 hD hb room r11 fun s12 I12 => ?_
    obtain ⟨m', lt, w'⟩ := hNx _ nx
    have pinned : ∀ b ∈ fp, ∀ o, s7.heap.get? b = some o → s12.heap.get? b = some o ∧ (upd H11 D (.dT (putK kvs k yv))) b = none := fun b m o e =>
      have z := I12.pin (b, o) (List.mem_append_right _ (List.mem_append_right _ (mem_pinsAt m e)))
      ⟨z.1, z.2.1⟩
    refine ⟨m', lt, i + 1, _, (I12.unpinned (pins := [])).weak (by rw [← wp8, wipe_length]) (fun j v e => by rw [← wp8] at e; exact (wipe_some e).1), T.keep _ _ _ st7 fun b m o e => (pinned b m o e).1, fun b m => ?_, w'⟩
    obtain ⟨o, e, _⟩ := T.obj _ _ st7 b m
    exact (pinned b m o e).2
end
end Kd

-- ===== K4B =====
set_option Elab.async false
set_option linter.all false
set_option maxRecDepth 100000
set_option maxHeartbeats 4000000
namespace My
open PySem L2 PyProof.Rows PySem.Spec Kd
abbrev sMoves : Stmt := top 6
abbrev sText : Stmt := top 14
abbrev sLine : Stmt := top 15
abbrev sUntext : Stmt := top 16
abbrev sUnline : Stmt := top 17
abbrev sUnstep : Stmt := top 18
abbrev sWord : Stmt := top 24
abbrev sNumber : Stmt := top 25
abbrev sStates : Stmt := top 26
abbrev sState : Stmt := top 27
abbrev sStep : Stmt := top 28
/-! ### data of tuples, texts and ints -/
mutual
inductive TD (H : Hp) : V → PyData → Prop
  | int (i : Int) : TD H (.int i) (.int i)
  | str (x : Str) : TD H (.str x) (.str x)
  | tup {a : Addr} {xs : List V} {ds : List PyData} : H a = some (.tup xs) → TDs H xs ds → TD H (.ref a) (.tuple ds)
inductive TDs (H : Hp) : List V → List PyData → Prop
  | nil : TDs H [] []
  | cons {v : V} {vs : List V} {d : PyData} {ds : List PyData} : TD H v d → TDs H vs ds → TDs H (v :: vs) (d :: ds)
end
/-- tuples that stood stand -/
def Tup (H H' : Hp) : Prop := ∀ a xs, H a = some (.tup xs) → H' a = some (.tup xs)
theorem Tup.refl (H : Hp) : Tup H H := fun _ _ e => e
theorem Tup.trans {H H1 H2 : Hp} (a : Tup H H1) (b : Tup H1 H2) : Tup H H2 := fun x xs e => b x xs (a x xs e)
theorem Tup.of {H H' : Hp} (s : Same H H') : Tup H H' := fun a xs e => s a _ e
theorem Tup.new {H : Hp} {p : Addr} {o : HO} (n : H p = none) : Tup H (upd H p o) := fun a xs e => by
  rw [upd_ne (ne_of_none e n)]
  exact e
theorem Tup.at_ {H : Hp} {p : Addr} {o o' : HO} (n : H p = some o') (h : ∀ xs, o' ≠ .tup xs) : Tup H (upd H p o) := fun a xs e => by
  rw [upd_ne (fun z => by rw [z, n] at e; exact h xs (Option.some.inj e))]
  exact e
mutual
theorem TD.to {H H' : Hp} (s : Tup H H') : ∀ {v : V} {d : PyData}, TD H v d → TD H' v d
  | _, _, .int i => .int i
  | _, _, .str x => .str x
  | _, _, .tup h1 h2 => .tup (s _ _ h1) (TDs.to s h2)
theorem TDs.to {H H' : Hp} (s : Tup H H') : ∀ {vs : List V} {ds : List PyData}, TDs H vs ds → TDs H' vs ds
  | _, _, .nil => .nil
  | _, _, .cons h1 h2 => .cons (TD.to s h1) (TDs.to s h2)
end
mutual
theorem TD.dp {K : PySem.W.Frag} {H : Hp} : ∀ {v : V} {d : PyData}, TD H v d → Dp K H v d
  | _, _, .int i => .int i
  | _, _, .str x => .str x
  | _, _, .tup h1 h2 => .tup (SqT.of h1) (TDs.dp h2)
theorem TDs.dp {K : PySem.W.Frag} {H : Hp} : ∀ {vs : List V} {ds : List PyData}, TDs H vs ds → DpAll K H vs ds
  | _, _, .nil => .nil
  | _, _, .cons h1 h2 => .cons (TD.dp h1) (TDs.dp h2)
end
mutual
theorem TD.dq {H : Hp} : ∀ {v : V} {d : PyData}, TD H v d → Dq (fun _ => True) H v d
  | _, _, .int i => .int i
  | _, _, .str x => .str x
  | _, _, .tup h1 h2 => .tup trivial h1 (TDs.dq h2)
theorem TDs.dq {H : Hp} : ∀ {vs : List V} {ds : List PyData}, TDs H vs ds → DqAll (fun _ => True) H vs ds
  | _, _, .nil => .nil
  | _, _, .cons h1 h2 => .cons (TD.dq h1) (TDs.dq h2)
end
theorem TDs.len {H : Hp} : ∀ {vs : List V} {ds : List PyData}, TDs H vs ds → vs.length = ds.length
  | _, _, .nil => rfl
  | _, _, .cons _ h2 => by rw [List.length_cons, List.length_cons, h2.len]
theorem TDs.get {H : Hp} : ∀ {vs : List V} {ds : List PyData}, TDs H vs ds → ∀ {i : Nat} {v : V}, vs[i]? = some v → ∃ d, ds[i]? = some d ∧ TD H v d
  | _, _, .nil, i, v, e => by simp at e
  | _, _, .cons h1 h2, 0, v, e => ⟨_, rfl, by have z := Option.some.inj e; rw [← z]; exact h1⟩
  | _, _, .cons h1 h2, i + 1, v, e => h2.get (i := i) e
theorem TDs.snoc {H : Hp} {v : V} {d : PyData} (h : TD H v d) : ∀ {vs : List V} {ds : List PyData}, TDs H vs ds → TDs H (vs ++ [v]) (ds ++ [d])
  | _, _, .nil => .cons h .nil
  | _, _, .cons h1 h2 => .cons h1 (TDs.snoc h h2)

/-! ### kinds as mathematics -/
abbrev Stp := Str × Str × Int
def stepD (x : Stp) : PyData := .tuple [.str x.1, .str x.2.1, .int x.2.2]
def stateD (st : List Stp) : PyData := .tuple (st.map stepD)
def statesD (ss : List (List Stp)) : PyData := .tuple (ss.map stateD)
abbrev evOf (x : Stp) : Str × Str := (x.1, x.2.1)
def LETS : Str := "abcdefghijklmnopqrstuvwxyz0123456789"
def Wrd (z : Str) : Prop := 1 ≤ z.length ∧ z.length ≤ 12 ∧ ∀ c ∈ z.cps.toList, c ∈ LETS.cps.toList
def evLt (x y : Str × Str) : Prop := x.1.cps.toList < y.1.cps.toList ∨ (x.1 = y.1 ∧ x.2.cps.toList < y.2.cps.toList)
structure StpOk (n : Nat) (x : Stp) : Prop where
  w1 : Wrd x.1
  w2 : Wrd x.2.1
  lo : 0 ≤ x.2.2
  hi : x.2.2 < n
structure StOk (n : Nat) (st : List Stp) : Prop where
  all : ∀ x ∈ st, StpOk n x
  asc : (st.map evOf).Pairwise evLt
  few : st.length ≤ 24
structure KOk (ss : List (List Stp)) : Prop where
  one : 1 ≤ ss.length
  most : ss.length ≤ 40
  all : ∀ st ∈ ss, StOk ss.length st
  evs : ∃ es : List (Str × Str), es.length ≤ 24 ∧ ∀ st ∈ ss, ∀ x ∈ st, evOf x ∈ es

/-- what the module's names hold -/
structure Gs (mg : Str → Option Value) : Prop where
  isi : mg "isinstance" = none
  str : mg "str" = none
  int : mg "int" = none
  bool : mg "bool" = none
  tuple : mg "tuple" = none
  len : mg "len" = none
  all : mg "all" = none
  set : mg "set" = none
  sorted : mg "sorted" = none
  range : mg "range" = none
  repr : mg "repr" = none
  enum : mg "enumerate" = none
  list : mg "list" = none
  min : mg "min" = none
  c40 : ∃ t, mg "MOST_STATES" = some (.int 40 t)
  c24 : ∃ t, mg "MOST_EVENTS" = some (.int 24 t)
  c12 : ∃ t, mg "MOST_LETTERS" = some (.int 12 t)
  lets : ∃ t, mg "LETTERS" = some (.str LETS t)

theorem same_at {H H2 : Hp} {D : Addr} {o : HO} (s : Same H H2) (n : H D = none) : Same H (upd H2 D o) := fun b u e => by
  rw [upd_ne (ne_of_none e n)]
  exact s b u e
theorem small_len {n m : Nat} (h : n ≤ m) (hm : m ≤ 16777216 := by decide) : n ≤ sizeLine := by rw [sizeLine_eq]; omega
theorem small_lt {n m : Nat} (h : n ≤ m) (hm : m < 16777216 := by decide) : n < sizeLine := by rw [sizeLine_eq]; omega
/-! ### walks of comprehensions -/
/-- what a list comprehension's loop over J asks, the list at D -/
def LcW (J : It) (g : TG) (tt : TT) (te : TE) (vs : List Nat) (σ : L2.St) (H1 : Hp) (D : Addr) (Qd : Hp → Prop) : Prop := ∃ W : Nat → Nat → Hp → Prop, (∃ m, W 0 m (upd H1 D (.lst []))) ∧ ∀ i m H, W i m H →
  (J.stop i H ∧ Qd H) ∨ (J.go i H ∧ ∃ Nx : Hp → Prop, (∀ H', Nx H' → ∃ m', m' < m ∧ W (i + 1) m' H') ∧ ∀ x H', J.yld i H x H' → g x (wipe σ vs) H' fun σ2 H2 => wipe σ2 vs = wipe σ vs ∧ tt σ2 H2 fun b H3 =>
    if b = true then te σ2 H3 fun y H4 => ∃ acc, H4 D = some (.lst acc) ∧ acc.length < sizeLine ∧ Nx (upd H4 D (.lst (acc ++ [y]))) else Nx H3)
theorem lc_text {x : Str} {g : TG} {tt : TT} {te : TE} {vs : List Nat} {σ : L2.St} {H1 : Hp} {D : Addr} {Qd : Hp → Prop} (Pv : Nat → Hp → Prop) (first : Pv 0 (upd H1 D (.lst [])))
    (turn : ∀ i c H, x.cps[i]? = some c → Pv i H → g (.str ⟨#[c]⟩) (wipe σ vs) H fun σ2 H2 => wipe σ2 vs = wipe σ vs ∧ tt σ2 H2 fun b H3 => if b = true then te σ2 H3 fun y H4 => ∃ acc, H4 D = some (.lst acc) ∧ acc.length < sizeLine ∧ Pv (i + 1) (upd H4 D (.lst (acc ++ [y]))) else Pv (i + 1) H3)
    (last : ∀ H, Pv x.cps.size H → Qd H) : LcW (Its x) g tt te vs σ H1 D Qd := by
  refine ⟨fun i m H => m = x.cps.size - i ∧ i ≤ x.cps.size ∧ Pv i H, ⟨_, rfl, Nat.zero_le _, first⟩, fun i m H ⟨em, le, p⟩ => ?_⟩
  subst em
  rcases Nat.lt_or_ge i x.cps.size with lt | ge
  · refine .inr ⟨lt, Pv (i + 1), fun H' p' => ⟨_, by omega, rfl, lt, p'⟩, fun v H' ⟨eH, c, ec, ev⟩ => ?_⟩
    subst eH
    subst ev
    exact turn i c _ ec p
  · have e : i = x.cps.size := by omega
    subst e
    exact .inl ⟨Nat.le_refl _, last H p⟩
/-! ### is_word -/
def spWord : Sp := fun vs H Q _ => ∃ z : Str, vs = [.str z] ∧ Wrd z ∧ ∀ H', Same H H' → Q (.bl true) H'
def spNumber : Sp := fun vs H Q _ => ∃ i : Int, vs = [.int i] ∧ 0 ≤ i ∧ Q (.bl true) H
def spStep : Sp := fun vs H Q _ => ∃ (a : Addr) (x : Stp) (n : Nat), vs = [.ref a, .int n] ∧ TD H (.ref a) (stepD x) ∧ StpOk n x ∧ ∀ H', Same H H' → Q (.bl true) H'
theorem small_str {z : Str} (h : z.length ≤ 12) : z.length ≤ sizeLine := by rw [sizeLine_eq]; omega
section
variable {P : Program} {w : World} {K : PySem.W.Frag} {mg : Str → Option Value} {base : Heap}
theorem scW : FnScope ["thing", "letter"] ["thing"] (defScope sWord) := ⟨rfl, rfl, rfl, by decide +kernel, rfl, by decide +kernel, by decide +kernel⟩
theorem ok_word {f : Addr} {fd : FuncData} (F : Fun K "is_word" "is_word" sWord f fd) (G : Gs mg) : FnOk P w K mg base CX0 1 f fd ["thing"] spWord := by
  obtain ⟨t12, m12⟩ := G.c12
  obtain ⟨tl, mlet⟩ := G.lets
  refine F.ok scW (fun vs H Q E h => ?_) (fun cdv A outer s H vs Q E hr h => ?_)
  · obtain ⟨z, rfl, _⟩ := h
    rfl
  · obtain ⟨z, rfl, wz, k⟩ := h
    refine ⟨_, pss_cons (ps_if (PW.pt (pw_or (pt_not (pt_val (pe_callB call_isi (by rfl) G.isi boot_isinstance (pa_cons (pv 0) (pa_cons (pe_bltn (v := .ty "str") (by rfl) G.str PyProof.Rows.boot_str rfl) pa_nil)))))
          (pw_or1 (pt_not (pt_chain op_le op_le pe_int (pe_callB call_len_str (by rfl) G.len PySem.boot_len (pa_cons (pv 0) pa_nil)) (pe_glob (v := .int 12) (by rfl) m12 ⟨_, rfl⟩)))))) (pss_one (ps_ret pe_bl)) pss_nil)
      (pss_one (ps_ret (pe_callB (cr_all rfl) (by rfl) G.all PyProof.Rows.boot_all (pa_cons (pe_lc (own := [("letter", 1)]) (g := gName 1) (tt := tYes) rfl scW.nd (pi_str (pv 0)) (blkOk_by (N := ["thing", "letter"]) (sc := defScope sWord) (by decide +kernel))
        (fun _ _ _ _ _ => pg_name (i := 1) scW.nd rfl (Or.inl rfl)) (fun _ _ _ _ _ => pts_nil) (fun _ _ _ _ _ => pe_cmpR op_in_sign (pv 1) (pe_glob (v := .str LETS) (by rfl) mlet ⟨_, rfl⟩) (by rfl))) pa_nil)))), ?_⟩
    refine ⟨_, rfl, _, _, _, _, _, rfl, .ty "str", .base (.str z), kit_ty (a := "str") (b := "str") (r := true) (by decide +kernel), _, rfl, iteF ?_⟩
    refine ⟨_, rfl, z, rfl, small_str wz.2.1, _, _, rfl, rfl, _, rfl, ?_⟩
    have l1 := wz.1
    have l2 := wz.2.1
    rw [decide_eq_true (show (1 : Int) ≤ z.length by omega)]
    refine iteT ⟨_, _, rfl, rfl, _, rfl, ?_⟩
    rw [decide_eq_true (show (z.length : Int) ≤ 12 by omega)]
    refine iteF ?_
    refine ⟨_, rfl, z, rfl, fun D hD => lc_text (x := z) (fun i H2 => Same H H2 ∧ H2 D = some (.lst ((List.replicate i true).map V.bl))) ⟨?_, upd_same⟩ (fun i c H2 ec ⟨s2, d2⟩ => ?_) fun H2 ⟨s2, d2⟩ => ?_⟩
    · exact same_at (Same.refl H) hD
    · have lt : i < z.cps.size := (Array.getElem?_eq_some_iff.mp ec).1
      have mem : c ∈ z.cps.toList := List.mem_of_getElem? (by rw [Array.getElem?_toList]; exact ec)
      refine ⟨rfl, _, rfl, c, LETS, rfl, rfl, ?_⟩
      rw [decide_eq_true (wz.2.2 c mem)]
      refine ⟨_, d2, ?_, same_at s2 hD, ?_⟩
      · rw [List.length_map, List.length_replicate]
        exact small_lt (m := 12) (Nat.le_trans (Nat.le_of_lt lt) l2)
      · rw [upd_same, List.replicate_succ', List.map_append]
        rfl
    · refine ⟨D, _, rfl, SqL.of d2, ?_⟩
      have e : ((List.replicate z.cps.size true).all id) = true := by simp
      rw [e]
      exact k _ s2
theorem scNu : FnScope ["thing"] ["thing"] (defScope sNumber) := ⟨rfl, rfl, rfl, by decide +kernel, rfl, by decide +kernel, by decide +kernel⟩
theorem ok_number {f : Addr} {fd : FuncData} (F : Fun K "is_number" "is_number" sNumber f fd) (G : Gs mg) : FnOk P w K mg base CX0 1 f fd ["thing"] spNumber := by
  refine F.ok scNu (fun vs H Q E h => ?_) (fun cdv A outer s H vs Q E hr h => ?_)
  · obtain ⟨i, rfl, _⟩ := h
    rfl
  · obtain ⟨i, rfl, i0, k⟩ := h
    refine ⟨_, pss_one (ps_ret (pe_and (pe_callB call_isi (by rfl) G.isi boot_isinstance (pa_cons (pv 0) (pa_cons (pe_bltn (v := .ty "int") (by rfl) G.int PyProof.Rows.boot_int rfl) pa_nil)))
      (pe_and (pe_not (pe_callB call_isi (by rfl) G.isi boot_isinstance (pa_cons (pv 0) (pa_cons (pe_bltn (v := .ty "bool") (by rfl) G.bool PyProof.Rows.boot_bool rfl) pa_nil)))) (pe_one (pe_cmpR op_ge (pv 0) pe_int (nomark _)))))), ?_⟩
    refine ⟨_, rfl, _, _, _, _, _, rfl, .ty "int", .base (.int i), kit_ty (a := "int") (b := "int") (r := true) (by decide +kernel), _, rfl, ?_⟩
    refine ⟨_, rfl, _, _, _, _, _, rfl, .ty "bool", .base (.int i), kit_ty (a := "int") (b := "bool") (r := false) (by decide +kernel), _, rfl, ?_⟩
    refine ⟨_, rfl, iteT ⟨_, rfl, _, _, rfl, rfl, ?_⟩⟩
    show Q (V.bl (decide (0 ≤ i))) H
    rw [decide_eq_true i0]
    exact k
theorem scSp : FnScope ["thing", "many"] ["thing", "many"] (defScope sStep) := ⟨rfl, rfl, rfl, by decide +kernel, rfl, by decide +kernel, by decide +kernel⟩
theorem TD.tup_of {H : Hp} {a : Addr} {ds : List PyData} (h : TD H (.ref a) (.tuple ds)) : ∃ xs, H a = some (.tup xs) ∧ TDs H xs ds := by
  cases h with
  | tup h1 h2 => exact ⟨_, h1, h2⟩
theorem TD.ref_of {H : Hp} {v : V} {ds : List PyData} (h : TD H v (.tuple ds)) : ∃ a xs, v = .ref a ∧ H a = some (.tup xs) ∧ TDs H xs ds := by
  cases h with
  | tup h1 h2 => exact ⟨_, _, rfl, h1, h2⟩
theorem step_of {H : Hp} {v : V} {x : Stp} (h : TD H v (stepD x)) : ∃ a, v = .ref a ∧ H a = some (.tup [.str x.1, .str x.2.1, .int x.2.2]) := by
  obtain ⟨a, xs, rfl, ha, hx⟩ := h.ref_of
  refine ⟨a, rfl, ?_⟩
  cases hx with
  | cons h1 t1 =>
    cases h1
    cases t1 with
    | cons h2 t2 =>
      cases h2
      cases t2 with
      | cons h3 t3 =>
        cases h3
        cases t3
        exact ha
theorem ok_step {f fW fN : Addr} {fd fdW fdN : FuncData} (F : Fun K "_is_step" "_is_step" sStep f fd) (G : Gs mg)
    (GW : FnOk P w K mg base CX0 1 fW fdW ["thing"] spWord) (mW : mg "is_word" = some (.ref fW)) (kW : PySem.W.keepIn K (.ref fW) = true) (bW : Binds K fdW ["thing"] [])
    (GN : FnOk P w K mg base CX0 1 fN fdN ["thing"] spNumber) (mN : mg "is_number" = some (.ref fN)) (kN : PySem.W.keepIn K (.ref fN) = true) (bN : Binds K fdN ["thing"] []) :
    FnOk P w K mg base CX0 2 f fd ["thing", "many"] spStep := by
  refine F.ok scSp (fun vs H Q E h => ?_) (fun cdv A outer s H vs Q E hr h => ?_)
  · obtain ⟨a, x, n, rfl, _⟩ := h
    rfl
  · obtain ⟨a, x, n, rfl, hx, xo, k⟩ := h
    refine ⟨_, pss_cons (ps_if (PW.pt (pw_or (pt_not (pt_val (pe_callB call_isi (by rfl) G.isi boot_isinstance (pa_cons (pv 0) (pa_cons (pe_bltn (v := .ty "tuple") (by rfl) G.tuple PyProof.Rows.boot_tuple rfl) pa_nil)))))
          (pw_or1 (pt_cmpR op_ne (pe_callB call_len_seq (by rfl) G.len PySem.boot_len (pa_cons (pv 0) pa_nil)) pe_int (nomark _))))) (pss_one (ps_ret pe_bl)) pss_nil)
      (pss_one (ps_ret (pe_and (pe_call GW hr (by rfl) mW kW bW .nil pass0 (pa_cons (pe_ix ix_tup (pv 0) pe_int (fun _ _ => rfl)) pa_nil))
        (pe_and (pe_call GW hr (by rfl) mW kW bW .nil pass0 (pa_cons (pe_ix ix_tup (pv 0) pe_int (fun _ _ => rfl)) pa_nil))
        (pe_and (pe_call GN hr (by rfl) mN kN bN .nil pass0 (pa_cons (pe_ix ix_tup (pv 0) pe_int (fun _ _ => rfl)) pa_nil))
        (pe_one (pe_cmpR op_lt (pe_ix ix_tup (pv 0) pe_int (fun _ _ => rfl)) (pv 1) (nomark _)))))))), ?_⟩
    obtain ⟨a', e, ha⟩ := step_of hx
    cases e
    refine ⟨_, rfl, _, _, _, _, _, rfl, .ty "tuple", .base (.tup ha), kit_ty (a := "tuple") (b := "tuple") (r := true) (by decide +kernel), _, rfl, iteF ?_⟩
    refine ⟨_, rfl, a, _, rfl, .inr (SqT.of ha), ?_⟩
    refine ⟨rfl, _, rfl, iteF ?_⟩
    refine ⟨_, rfl, a, _, _, _, rfl, rfl, SqT.of ha, rfl, x.1, rfl, xo.w1, fun H1 s1 => ⟨_, rfl, iteT ?_⟩⟩
    have h1 := s1 _ _ ha
    refine ⟨_, rfl, a, _, _, _, rfl, rfl, SqT.of h1, rfl, x.2.1, rfl, xo.w2, fun H2 s2 => ⟨_, rfl, iteT ?_⟩⟩
    have h2 := s2 _ _ h1
    refine ⟨_, rfl, a, _, _, _, rfl, rfl, SqT.of h2, rfl, x.2.2, rfl, xo.lo, ⟨_, rfl, iteT ?_⟩⟩
    refine ⟨_, rfl, a, _, _, _, rfl, rfl, SqT.of h2, rfl, _, rfl, _, _, rfl, rfl, ?_⟩
    show Q (V.bl (decide (x.2.2 < (n : Int)))) H2
    rw [decide_eq_true xo.hi]
    exact k _ (s1.trans s2)
end
end My

-- ===== K4M =====
set_option Elab.async false
set_option linter.all false
set_option maxRecDepth 100000
set_option maxHeartbeats 1600000
namespace My
open PySem L2 PyProof.Rows PySem.Spec Kd PySem.W
theorem cps_inj {x y : Str} (h : x.cps.toList = y.cps.toList) : x = y := by
  cases x
  cases y
  simp only [Str.mk.injEq]
  exact Array.toList_inj.mp h
/-- a pair of texts as a key -/
def evK (x : Str × Str) : List Key := [Sum.inr x.1, Sum.inr x.2]
theorem evK_inj {x y : Str × Str} (h : evK x = evK y) : x = y := by
  unfold evK at h
  injection h with h1 h2
  injection h2 with h3 _
  exact Prod.ext (Sum.inr.inj h1) (Sum.inr.inj h3)
theorem evLt_irrefl (x : Str × Str) : ¬ evLt x x := fun h => by
  rcases h with h | ⟨_, h⟩
  · exact List.lt_irrefl _ h
  · exact List.lt_irrefl _ h
theorem evLt_trans {x y z : Str × Str} (h1 : evLt x y) (h2 : evLt y z) : evLt x z := by
  rcases h1 with a | ⟨a, b⟩
  · rcases h2 with c | ⟨c, d⟩
    · exact .inl (List.lt_trans a c)
    · exact .inl (by rw [← c]; exact a)
  · rcases h2 with c | ⟨c, d⟩
    · exact .inl (by rw [a]; exact c)
    · exact .inr ⟨a.trans c, List.lt_trans b d⟩
theorem evLt_tri (x y : Str × Str) (h1 : ¬ evLt x y) (h2 : ¬ evLt y x) : x = y := by
  unfold evLt at h1 h2
  have a : x.1 = y.1 := cps_inj (List.le_antisymm (List.not_lt.mp fun z => h2 (.inl z)) (List.not_lt.mp fun z => h1 (.inl z)))
  have b : x.2 = y.2 := cps_inj (List.le_antisymm (List.not_lt.mp fun z => h2 (.inr ⟨a.symm, z⟩)) (List.not_lt.mp fun z => h1 (.inr ⟨a, z⟩)))
  exact Prod.ext a b
theorem eqv_str (x y : Str) : PyData.eqv (.str x) (.str y) = decide (x = y) := by
  by_cases e : x = y
  · subst e
    simp [PyData.eqv]
  · rw [decide_eq_false e]
    simp [PyData.eqv, e]
/-- the order of sorted on such keys -/
theorem lt_evK (x y : Str × Str) : dataLt (tD (evK x)) (tD (evK y)) = true ↔ evLt x y := by
  unfold tD evK evLt
  simp only [List.map_cons, List.map_nil, kD]
  rw [dataLt_pair rfl rfl, eqv_str, eqv_str]
  by_cases e : x.1 = y.1
  · have e0 : ¬ x.1.cps.toList < y.1.cps.toList := by rw [e]; exact List.lt_irrefl _
    rw [decide_eq_true e, if_pos rfl]
    by_cases e2 : x.2 = y.2
    · have e3 : ¬ x.2.cps.toList < y.2.cps.toList := by rw [e2]; exact List.lt_irrefl _
      rw [decide_eq_true e2, if_pos rfl]
      simp [e0, e3]
    · rw [decide_eq_false e2, if_neg (by decide), dataLt_str, decide_eq_true_eq]
      exact ⟨fun h => .inr ⟨e, h⟩, fun h => h.elim (fun z => absurd z e0) fun z => z.2⟩
  · rw [decide_eq_false e, if_neg (by decide), dataLt_str, decide_eq_true_eq]
    simp [e]
theorem le_evK {q r : Addr × List Key} {x y : Str × Str} (hq : q.2 = evK x) (hr : r.2 = evK y) : dataLe false (fun q : Addr × List Key => tD q.2) q r = true ↔ ¬ evLt y x := by
  rw [dataLe_eq]
  show (!dataLt (tD r.2) (tD q.2)) = true ↔ _
  rw [hq, hr, Bool.not_eq_true', ← Bool.not_eq_true, lt_evK]
theorem asc_nodup {es : List (Str × Str)} (h : es.Pairwise evLt) : es.Nodup := List.Pairwise.imp (fun {x y} lt e => by rw [e] at lt; exact evLt_irrefl _ lt) h
/-- whatever is sorted of what has just these keys -/
theorem sorted_is (L : List (Addr × List Key)) (es : List (Str × Str)) (asc : es.Pairwise evLt) (nd : (L.map Prod.snd).Nodup) (mem : ∀ k, k ∈ L.map Prod.snd ↔ k ∈ es.map evK) :
    (L.mergeSort (dataLe false fun q : Addr × List Key => tD q.2)).map Prod.snd = es.map evK := by
  have tot := sortLe_total (listOrd itemOrd) false fun q : Addr × List Key => keyToks (tD q.2)
  have srt : (L.mergeSort (dataLe false fun q : Addr × List Key => tD q.2)).Pairwise fun q r => dataLe false (fun q : Addr × List Key => tD q.2) q r = true := List.pairwise_mergeSort tot.trans (fun a b => by rw [Bool.or_eq_true]; exact tot.total a b) L
  have pm : (L.mergeSort (dataLe false fun q : Addr × List Key => tD q.2)).Perm L := List.mergeSort_perm _ _
  generalize L.mergeSort (dataLe false fun q : Addr × List Key => tD q.2) = M at srt pm
  have key : ∀ q ∈ M, ∃ x, q.2 = evK x := fun q hq => by
    have z := (mem q.2).mp (List.mem_map.mpr ⟨q, pm.mem_iff.mp hq, rfl⟩)
    obtain ⟨x, _, e⟩ := List.mem_map.mp z
    exact ⟨x, e.symm⟩
  -- as pairs of texts
  have back : ∃ xs : List (Str × Str), M.map Prod.snd = xs.map evK := by
    clear srt pm
    induction M with
    | nil => exact ⟨[], rfl⟩
    | cons q M ih =>
      obtain ⟨x, e⟩ := key q List.mem_cons_self
      obtain ⟨xs, e2⟩ := ih fun r hr => key r (List.mem_cons_of_mem _ hr)
      exact ⟨x :: xs, by rw [List.map_cons, List.map_cons, e, e2]⟩
  obtain ⟨xs, ex⟩ := back
  have px : (xs.map evK).Perm (es.map evK) := by
    rw [← ex]
    refine (pm.map Prod.snd).trans ((List.perm_ext_iff_of_nodup nd ?_).mpr mem)
    exact List.Pairwise.map _ (fun {x y} ne e => ne (evK_inj e)) (asc_nodup asc)
  have sx : xs.Pairwise fun x y => ¬ evLt y x := by
    have z : (M.map Prod.snd).Pairwise fun k l => ∀ x y, k = evK x → l = evK y → ¬ evLt y x := List.pairwise_map.mpr (List.Pairwise.imp (fun {q r} h x y e1 e2 => (le_evK e1 e2).mp h) srt)
    rw [ex] at z
    exact List.Pairwise.imp (fun {x y} h => h x y rfl rfl) (List.pairwise_map.mp z)
  have inj : Function.Injective evK := fun _ _ e => evK_inj e
  have p2 : xs.Perm es := by
    obtain ⟨ys, p1, e1⟩ := Kd.perm_lift evK px es rfl
    have e2 : xs = ys := by
      have : ∀ (l m : List (Str × Str)), l.map evK = m.map evK → l = m := by
        intro l
        induction l with
        | nil => intro m e; cases m with | nil => rfl | cons _ _ => cases e
        | cons x l ih =>
          intro m e
          cases m with
          | nil => cases e
          | cons y m =>
            injection e with a b
            rw [evK_inj a, ih m b]
      exact this _ _ e1
    rw [e2]
    exact p1
  have fin : xs = es := List.Perm.eq_of_pairwise (le := fun x y => ¬ evLt y x) (fun a b _ _ h1 h2 => evLt_tri a b h2 h1) sx (List.Pairwise.imp (fun {x y} lt gt => evLt_irrefl _ (evLt_trans lt gt)) asc) p2
  rw [ex, fin]
end My

-- ===== K4C =====
set_option Elab.async false
set_option linter.all false
set_option maxRecDepth 100000
set_option maxHeartbeats 4000000
namespace My
open PySem L2 PyProof.Rows PySem.Spec Kd
def spState : Sp := fun vs H Q _ => ∃ (a : Addr) (st : List Stp) (n : Nat), vs = [.ref a, .int n] ∧ TD H (.ref a) (stateD st) ∧ StOk n st ∧ ∀ H', Same H H' → Q (.bl true) H'
theorem same_new {H : Hp} {p : Addr} {o : HO} (n : H p = none) : Same H (upd H p o) := same_at (Same.refl H) n
theorem dp_keys {K : PySem.W.Frag} {H : Hp} : ∀ k : List Key, DpAll K H (k.map kV) (k.map kD)
  | [] => .nil
  | .inl i :: k => .cons (.int i) (dp_keys k)
  | .inr x :: k => .cons (.str x) (dp_keys k)
theorem dp_rows {K : PySem.W.Frag} {H : Hp} : ∀ M : List (Addr × List Key), (∀ q ∈ M, H q.1 = some (.tup (q.2.map kV))) → DpAll K H (M.map fun q => V.ref q.1) ((M.map Prod.snd).map tD)
  | [], _ => .nil
  | q :: M, h => .cons (.tup (SqT.of (h q List.mem_cons_self)) (dp_keys q.2)) (dp_rows M fun r m => h r (List.mem_cons_of_mem _ m))
theorem lets_low : ∀ c ∈ LETS.cps.toList, c < 1114112 := by decide +kernel
theorem wrd_ok {z : Str} (h : Wrd z) : PyData.strOk z = true := by
  unfold PyData.strOk
  rw [Array.all_eq_true']
  intro c hc
  have := lets_low c (h.2.2 c (Array.mem_toList_iff.mpr hc))
  simpa using this
theorem lay_rows : ∀ es : List (Str × Str), (∀ e ∈ es, Wrd e.1 ∧ Wrd e.2) → PyData.canLayAll0 ((es.map evK).map tD) = true
  | [], _ => by simp only [List.map_nil, PyData.canLayAll0]
  | e :: es, h => by
    have h1 := wrd_ok (h e List.mem_cons_self).1
    have h2 := wrd_ok (h e List.mem_cons_self).2
    simp only [List.map_cons, List.map_nil, tD, evK, kD, PyData.canLayAll0, PyData.canLay0, h1, h2, lay_rows es fun x m => h x (List.mem_cons_of_mem _ m), Bool.and_self]
theorem deep_rows : ∀ ks : List (List Key), PyData.depthAll (ks.map tD) ≤ 1
  | [] => by simp only [List.map_nil, PyData.depthAll]; omega
  | k :: ks => by
    have h1 := tD_depth k
    have h2 := deep_rows ks
    simp only [List.map_cons, PyData.depthAll]
    omega
theorem shaped_rows (es : List (Str × Str)) (w : ∀ e ∈ es, Wrd e.1 ∧ Wrd e.2) : SeqAt.shaped (.list ((es.map evK).map tD)) = true := by
  have h := deep_rows (es.map evK)
  unfold SeqAt.shaped
  rw [Bool.and_eq_true]
  refine ⟨by simp only [PyData.canLay0, lay_rows es w], decide_eq_true ?_⟩
  simp only [PyData.depth]
  omega
section
variable {P : Program} {w : World} {K : PySem.W.Frag} {mg : Str → Option Value} {base : Heap}
abbrev nSt : List Str := ["thing", "many", "events", "step"]
theorem scSt : FnScope nSt ["thing", "many"] (defScope sState) := ⟨rfl, rfl, rfl, by decide +kernel, rfl, by decide +kernel, by decide +kernel⟩
theorem ok_state {f fS : Addr} {fd fdS : FuncData} (F : Fun K "_is_state" "_is_state" sState f fd) (G : Gs mg)
    (GS : FnOk P w K mg base CX0 2 fS fdS ["thing", "many"] spStep) (mS : mg "_is_step" = some (.ref fS)) (kS : PySem.W.keepIn K (.ref fS) = true) (bS : Binds K fdS ["thing", "many"] []) :
    FnOk P w K mg base CX0 3 f fd ["thing", "many"] spState := by
  refine F.ok scSt (fun vs H Q E h => ?_) (fun cdv A outer s H vs Q E hr h => ?_)
  · obtain ⟨a, st, n, rfl, _⟩ := h
    rfl
  · obtain ⟨a, st, n, rfl, hx, so, k⟩ := h
    have hu := hr.units
    refine ⟨_, pss_cons (ps_if (PW.pt (pw_or (pt_not (pt_val (pe_callB call_isi (by rfl) G.isi boot_isinstance (pa_cons (pv 0) (pa_cons (pe_bltn (v := .ty "tuple") (by rfl) G.tuple PyProof.Rows.boot_tuple rfl) pa_nil)))))
          (pw_or1 (pt_not (pt_val (pe_callB (cr_all rfl) (by rfl) G.all PyProof.Rows.boot_all (pa_cons (pe_lc (own := [("step", 3)]) (g := gName 3) (tt := tYes) rfl scSt.nd (pi_tup (pv 0)) (blkOk_by (N := nSt) (sc := defScope sState) (by decide +kernel))
            (fun _ _ _ _ _ => pg_name (i := 3) scSt.nd rfl (Or.inl rfl)) (fun _ _ _ _ _ => pts_nil) (fun _ _ _ _ _ => pe_call GS hr (by rfl) mS kS bS .nil pass0 (pa_cons (pv 3) (pa_cons (pv 1) pa_nil)))) pa_nil))))))) (pss_one (ps_ret pe_bl)) pss_nil)
      (pss_cons (ps_setLc (i := 2) (own := [("step", 3)]) (g := gName 3) (tt := tYes) rfl scSt.nd rfl rfl (sw_true rfl rfl rfl (by decide +kernel)) (pi_tup (pv 0)) (blkOk_by (N := nSt) (sc := defScope sState) (by decide +kernel))
            (fun _ _ _ _ _ => pg_name (i := 3) scSt.nd rfl (Or.inl rfl)) (fun _ _ _ _ _ => pts_nil) (fun _ _ _ _ _ => pe_slice (r := rSlT K) sl_tup (pv 3) po_none (po_some pe_int)))
      (pss_one (ps_ret (pe_cmpR (op_eqD hu) (pv 2) (pe_callB (cr_sortS rfl hu) (by rfl) G.sorted PyProof.Rows.boot_sorted (pa_cons (pe_callTy (cr_setOf rfl hu) (by rfl) G.set PyProof.Rows.boot_set (pa_cons (pv 2) pa_nil)) pa_nil)) (nomark _))))), ?_⟩
    obtain ⟨xs, ha, hxs⟩ := hx.tup_of
    have sx : ∀ {i : Nat} {x : V}, xs[i]? = some x → ∃ y a', st[i]? = some y ∧ x = .ref a' ∧ TD H (.ref a') (stepD y) := fun {i x} e => by
      obtain ⟨d, ed, td⟩ := hxs.get e
      rw [List.getElem?_map] at ed
      obtain ⟨y, ey, rfl⟩ := Option.map_eq_some_iff.mp ed
      obtain ⟨a', rfl, _⟩ := step_of td
      exact ⟨y, a', ey, rfl, td⟩
    have len : xs.length = st.length := by
      have z := hxs.len
      rwa [List.length_map] at z
    have few := so.few
    refine ⟨_, rfl, _, _, _, _, _, rfl, .ty "tuple", .base (.tup ha), kit_ty (a := "tuple") (b := "tuple") (r := true) (by decide +kernel), _, rfl, iteF ?_⟩
    refine ⟨_, rfl, a, rfl, ⟨_, SqT.of ha⟩, fun D hD => lc_tup (K := K) (a := a) (xs := xs) (fun i H2 => Same H H2 ∧ H2 D = some (.lst ((List.replicate i true).map V.bl))) ⟨same_at (Same.refl H) hD, upd_same⟩ (fun i H2 _ ⟨s2, _⟩ => SqT.of (s2 _ _ ha)) (fun i x H2 ex ⟨s2, d2⟩ => ?_) fun H2 ⟨s2, d2⟩ => ?_⟩
    · obtain ⟨y, a', ey, rfl, td⟩ := sx ex
      have lt : i < st.length := (List.getElem?_eq_some_iff.mp ey).1
      refine ⟨rfl, _, rfl, _, rfl, a', y, n, rfl, td.to (Tup.of s2), so.all y (List.mem_of_getElem? ey), fun H3 s3 => ⟨_, s3 _ _ d2, ?_, same_at (s2.trans s3) hD, ?_⟩⟩
      · rw [List.length_map, List.length_replicate]
        exact small_lt (m := 24) (by omega)
      · rw [upd_same, List.replicate_succ', List.map_append]
        rfl
    · refine ⟨D, _, rfl, SqL.of d2, _, rfl, ?_⟩
      have e : ((List.replicate xs.length true).all id) = true := by simp
      rw [e]
      refine iteF ?_
      -- events
      have ha2 := s2 _ _ ha
      refine ⟨_, rfl, a, rfl, ⟨_, SqT.of ha2⟩, fun D2 hD2 => lc_tup (K := K) (a := a) (xs := xs) (fun i H3 => Same H2 H3 ∧ ∃ ks : List (Addr × List Key), ks.map Prod.snd = ((st.take i).map evOf).map evK ∧ H3 D2 = some (.lst (ks.map fun q => V.ref q.1)) ∧ ∀ q ∈ ks, H3 q.1 = some (.tup (q.2.map kV)))
        ⟨same_at (Same.refl H2) hD2, [], by simp, upd_same, fun q m => nomatch m⟩ (fun i H3 _ ⟨s3, _⟩ => SqT.of (s3 _ _ ha2)) (fun i x H3 ex ⟨s3, ks, k1, k2, k3⟩ => ?_) fun H3 ⟨s3, ks, k1, k2, k3⟩ => ?_⟩
      · obtain ⟨y, a', ey, rfl, td⟩ := sx ex
        obtain ⟨a'', e', hy⟩ := step_of (td.to (Tup.of (s2.trans s3)))
        cases e'
        have lt : i < st.length := (List.getElem?_eq_some_iff.mp ey).1
        have kl : ks.length ≤ 24 := by
          have z := congrArg List.length k1
          rw [List.length_map, List.length_map, List.length_map, List.length_take] at z
          omega
        refine ⟨rfl, _, rfl, 2, rfl, a', _, rfl, SqT.of hy, (fun z => absurd (show HT.sIx 3 3 (some 2) = 3 from z.2) (by decide)), fun p hp => ⟨ks.map fun q => V.ref q.1, ?_, ?_, ?_, ks ++ [(p, evK (evOf y))], ?_, ?_, ?_⟩⟩
        · rw [upd_ne (ne_of_none k2 hp)]
          exact k2
        · rw [List.length_map]
          exact small_lt (m := 24) kl
        · exact same_at (s3.trans (same_new hp)) hD2
        · rw [List.map_append, k1, List.take_succ, ey]
          simp
        · rw [upd_same, List.map_append]
          rfl
        · intro q hq
          have nD : ∀ (b : Addr) (xs : List V), (upd H3 p (.tup (cutV [V.str y.1, V.str y.2.1, V.int y.2.2] none (some 2)))) b = some (.tup xs) → b ≠ D2 := fun b xs e z => by
            rw [z, upd_ne (ne_of_none k2 hp), k2] at e
            cases e
          have at_ : (upd H3 p (.tup (cutV [V.str y.1, V.str y.2.1, V.int y.2.2] none (some 2)))) q.1 = some (.tup (q.2.map kV)) := by
            rcases List.mem_append.mp hq with m | m
            · rw [upd_ne (ne_of_none (k3 q m) hp)]
              exact k3 q m
            · rw [List.mem_singleton.mp m, upd_same]
              rfl
          rw [upd_ne (nD _ _ at_)]
          exact at_
      · -- events == sorted(set(events))
        rw [len, List.take_length] at k1
        have kl : ks.length ≤ 24 := by
          have z := congrArg List.length k1
          rw [List.length_map, List.length_map, List.length_map] at z
          omega
        have evs : ∀ q ∈ ks, ∃ e, q.2 = evK e := fun q m => by
          have z : q.2 ∈ (st.map evOf).map evK := by
            rw [← k1]
            exact List.mem_map.mpr ⟨q, m, rfl⟩
          obtain ⟨e, _, h⟩ := List.mem_map.mp z
          exact ⟨e, h.symm⟩
        refine ⟨_, rfl, _, rfl, D2, ks, rfl, SqL.of k2, fun q m => SqT.of (k3 q m), by omega, fun a2 L ha2 sub all nd => ?_⟩
        have keep : ∀ q ∈ ks, (upd H3 a2 (SetO P w a2 L)) q.1 = some (.tup (q.2.map kV)) := fun q m => by
          rw [upd_ne (ne_of_none (k3 q m) ha2)]
          exact k3 q m
        refine ⟨a2, L, rfl, upd_same, fun q m => SqT.of (keep q (sub q m)), ?_, ?_, fun L1 p pm less nd1 hp => ?_⟩
        · intro d hd d' hd'
          obtain ⟨q, m, rfl⟩ := List.mem_map.mp hd
          obtain ⟨r, m', rfl⟩ := List.mem_map.mp hd'
          obtain ⟨x, ex⟩ := evs q (sub q m)
          obtain ⟨y, ey⟩ := evs r (sub r m')
          rw [ex, ey]
          rfl
        · refine .inl fun d hd => ?_
          obtain ⟨q, m, rfl⟩ := List.mem_map.mp hd
          obtain ⟨x, ex⟩ := evs q (sub q m)
          rw [ex]
          exact ⟨_, _, rfl⟩
        have srt := sorted_is L1 (st.map evOf) so.asc ((pm.map Prod.snd).nodup_iff.mpr nd) fun k => by
          rw [(pm.map Prod.snd).mem_iff, ← k1]
          refine ⟨fun z => ?_, fun z => ?_⟩
          · obtain ⟨q, m, rfl⟩ := List.mem_map.mp z
            exact List.mem_map.mpr ⟨q, sub q m, rfl⟩
          · obtain ⟨q, m, rfl⟩ := List.mem_map.mp z
            exact all q m
        have mem1 : ∀ q ∈ L1.mergeSort (PySem.W.dataLe false fun q : Addr × List Key => tD q.2), q ∈ ks := fun q m => sub q (pm.mem_iff.mp ((List.mergeSort_perm _ _).mem_iff.mp m))
        generalize L1.mergeSort (PySem.W.dataLe false fun q : Addr × List Key => tD q.2) = M at srt mem1 ⊢
        have keep2 : ∀ q ∈ ks, (upd (upd H3 a2 (SetO P w a2 L)) p (.lst (M.map fun q => V.ref q.1))) q.1 = some (.tup (q.2.map kV)) := fun q m => by
          rw [upd_ne (ne_of_none (keep q m) hp)]
          exact keep q m
        have words : ∀ e ∈ st.map evOf, Wrd e.1 ∧ Wrd e.2 := fun e m => by
          obtain ⟨x, hx, rfl⟩ := List.mem_map.mp m
          exact ⟨(so.all x hx).w1, (so.all x hx).w2⟩
        have sh := shaped_rows (st.map evOf) words
        have hev : (upd (upd H3 a2 (SetO P w a2 L)) p (.lst (M.map fun q => V.ref q.1))) D2 = some (.lst (ks.map fun q => V.ref q.1)) := by
          have z : (upd H3 a2 (SetO P w a2 L)) D2 = some (.lst (ks.map fun q => V.ref q.1)) := by
            rw [upd_ne (ne_of_none k2 ha2)]
            exact k2
          rw [upd_ne (ne_of_none z hp)]
          exact z
        have d1 := dp_rows (K := K) ks keep2
        have d2' := dp_rows (K := K) M fun q m => keep2 q (mem1 q m)
        rw [k1] at d1
        rw [srt] at d2'
        refine ⟨_, _, .lst (SqL.of hev) d1, .lst (SqL.of upd_same) d2', sh, sh, ?_⟩
        rw [SeqAt.eqv_refl _ (by simp only [PyData.canLay0]; exact lay_rows _ words)]
        refine k _ ((s2.trans s3).trans ((same_new ha2).trans (same_new hp)))
end
end My

-- ===== K4E =====
set_option Elab.async false
set_option linter.all false
set_option maxRecDepth 100000
set_option maxHeartbeats 4000000
namespace My
open PySem L2 PyProof.Rows PySem.Spec Kd
theorem nodup_most {α : Type} [DecidableEq α] : ∀ (l D : List α), l.Nodup → (∀ x ∈ l, x ∈ D) → l.length ≤ D.length
  | [], _, _, _ => Nat.zero_le _
  | x :: l, D, nd, sub => by
    obtain ⟨n1, n2⟩ := List.nodup_cons.mp nd
    have mx := sub x List.mem_cons_self
    have ih := nodup_most l (D.erase x) n2 fun y my => (List.mem_erase_of_ne fun (e : y = x) => n1 (by rw [← e]; exact my)).2 (sub y (List.mem_cons_of_mem _ my))
    rw [List.length_erase_of_mem mx] at ih
    have pos := List.length_pos_of_mem mx
    rw [List.length_cons]
    omega
/-- what a set comprehension over J asks -/
def Sc2W (K : PySem.W.Frag) (P : Program) (w : World) (ga : TG) (wb : TI) (gb : TG) (te : TE) (vs us : List Nat) (σ : L2.St) (Q : VK) (J : It) (H1 : Hp) : Prop := ∀ D, H1 D = none → ∃ W : Nat → Nat → Hp → Prop, (∃ m, W 0 m (upd H1 D (SetO P w D []))) ∧ ∀ i m H2, W i m H2 →
  (J.stop i H2 ∧ Q (.ref D) H2) ∨ (J.go i H2 ∧ ∃ Nx : Hp → Prop, (∀ H3, Nx H3 → ∃ m', m' < m ∧ W (i + 1) m' H3) ∧ ∀ x H3, J.yld i H2 x H3 → ga x (wipe σ vs) H3 fun σ4 H4 => wipe σ4 vs = wipe σ vs ∧ wb σ4 H4 fun J1 H5 =>
    ∃ W1 : Nat → Nat → Hp → Prop, (∃ m, W1 0 m H5) ∧ ∀ j k H6, W1 j k H6 → (J1.stop j H6 ∧ Nx H6) ∨ (J1.go j H6 ∧ ∃ Nx1 : Hp → Prop, (∀ H7, Nx1 H7 → ∃ k', k' < k ∧ W1 (j + 1) k' H7) ∧ ∀ x H7, J1.yld j H6 x H7 →
      gb x (wipe σ4 us) H7 fun σ8 H8 => wipe σ8 us = wipe σ4 us ∧ te σ8 H8 fun y H9 => ∃ (e : Addr) (c : List Key) (L : List (Addr × List Key)), y = .ref e ∧ SqT K H9 e (c.map kV) ∧ H9 D = some (SetO P w D L) ∧ (∀ q ∈ L, SqT K H9 q.1 (q.2.map kV)) ∧ (c ∉ L.map Prod.snd → L.length + 1 < 64) ∧
        ∀ L', (c ∈ L.map Prod.snd → L' = L) → (c ∉ L.map Prod.snd → L'.Perm ((e, c) :: L)) → Nx1 (upd H9 D (SetO P w D L'))))
def stOf {H : Hp} {v : V} {st : List Stp} (h : TD H v (stateD st)) := h
/-- the set at D has the events that p tells -/
structure Evs (P : Program) (w : World) (H H' : Hp) (D : Addr) (p : List Key → Prop) : Prop where
  same : Same H H'
  ex : ∃ L : List (Addr × List Key), H' D = some (SetO P w D L) ∧ (∀ q ∈ L, H' q.1 = some (.tup (q.2.map kV))) ∧ (L.map Prod.snd).Nodup ∧ ∀ k, k ∈ L.map Prod.snd ↔ p k
theorem Evs.like {P : Program} {w : World} {H H' : Hp} {D : Addr} {p q : List Key → Prop} (h : Evs P w H H' D p) (e : ∀ k, p k ↔ q k) : Evs P w H H' D q := by
  obtain ⟨s, L, h1, h2, h3, h4⟩ := h
  exact ⟨s, L, h1, h2, h3, fun k => (h4 k).trans (e k)⟩
theorem ev_set {K : PySem.W.Frag} {P : Program} {w : World} {o : Option V} {a : Addr} {xs : List V} {ss : List (List Stp)} {es : List (Str × Str)} {H : Hp} (ha : H a = some (.tup xs)) (hx : TDs H xs (ss.map stateD)) (les : es.length ≤ 24) (hes : ∀ st ∈ ss, ∀ x ∈ st, evOf x ∈ es) {Q : VK}
    (q : ∀ D H' (L : List (Addr × List Key)), Same H H' → H' D = some (SetO P w D L) → (∀ q ∈ L, H' q.1 = some (.tup (q.2.map kV))) → (L.map Prod.snd).Nodup → (∀ k, k ∈ L.map Prod.snd ↔ ∃ st ∈ ss, ∃ x ∈ st, k = evK (evOf x)) → L.length ≤ 24 → Q (.ref D) H') :
    Sc2W K P w (gName 1) (iTup K (tVar 1)) (gName 2) (tSl (rSlT K) (tVar 2) tNoPart (tPart (tC (V.int 2)))) [1, 2] [2] [o, none, none] Q (Itt K a) H := by
  intro D hD
  have len : xs.length = ss.length := by
    have z := hx.len
    rwa [List.length_map] at z
  have few : ∀ {L : List (Addr × List Key)} {p : List Key → Prop}, (L.map Prod.snd).Nodup → (∀ k, k ∈ L.map Prod.snd ↔ p k) → (∀ k, p k → ∃ st ∈ ss, ∃ x ∈ st, k = evK (evOf x)) → L.length ≤ 24 := fun {L p} nd me im => by
    have z := nodup_most (L.map Prod.snd) (es.map evK) nd fun k hk => by
      obtain ⟨st, m1, x, m2, rfl⟩ := im k ((me k).mp hk)
      exact List.mem_map.mpr ⟨_, hes st m1 x m2, rfl⟩
    rw [List.length_map, List.length_map] at z
    omega
  refine ⟨fun i m H2 => m = xs.length - i ∧ i ≤ xs.length ∧ Evs P w H H2 D fun k => ∃ st ∈ ss.take i, ∃ x ∈ st, k = evK (evOf x), ⟨_, rfl, Nat.zero_le _, same_new hD, [], upd_same, (fun q m => nomatch m), List.nodup_nil, fun k => by simp⟩, fun i m H2 ⟨em, le, ev⟩ => ?_⟩
  subst em
  have ha2 := ev.same _ _ ha
  rcases Nat.lt_or_ge i xs.length with lt | ge
  · obtain ⟨x, ex⟩ : ∃ x, xs[i]? = some x := ⟨_, List.getElem?_eq_getElem lt⟩
    obtain ⟨d, ed, td⟩ := hx.get ex
    rw [List.getElem?_map] at ed
    obtain ⟨st, est, rfl⟩ := Option.map_eq_some_iff.mp ed
    obtain ⟨b, ys, rfl, hb, hy⟩ := td.ref_of
    have stm : st ∈ ss := List.mem_of_getElem? est
    have leny : ys.length = st.length := by
      have z := hy.len
      rwa [List.length_map] at z
    refine .inr ⟨⟨xs, _, SqT.of ha2, ex⟩, fun H3 => Evs P w H H3 D fun k => ∃ st ∈ ss.take (i + 1), ∃ x ∈ st, k = evK (evOf x), fun H3 e3 => ⟨_, by omega, rfl, lt, e3⟩, fun v H3 yl => ?_⟩
    obtain ⟨eH, yv⟩ := yl
    subst eH
    have e0 : xs[i]? = some v := yv _ (SqT.of ha2)
    rw [ex] at e0
    cases e0
    have hb2 := ev.same _ _ hb
    refine ⟨rfl, _, rfl, b, rfl, ⟨_, SqT.of hb2⟩, fun j m H4 => m = ys.length - j ∧ j ≤ ys.length ∧ Evs P w H H4 D fun k => (∃ st ∈ ss.take i, ∃ x ∈ st, k = evK (evOf x)) ∨ ∃ x ∈ st.take j, k = evK (evOf x), ⟨_, rfl, Nat.zero_le _, ev.like fun k => by simp⟩, fun j k H4 ⟨ek, lej, ev4⟩ => ?_⟩
    subst ek
    have hb4 := ev4.same _ _ hb
    rcases Nat.lt_or_ge j ys.length with ltj | gej
    · obtain ⟨y, ey⟩ : ∃ y, ys[j]? = some y := ⟨_, List.getElem?_eq_getElem ltj⟩
      obtain ⟨d, ed, td4⟩ := hy.get ey
      rw [List.getElem?_map] at ed
      obtain ⟨sx, esx, rfl⟩ := Option.map_eq_some_iff.mp ed
      obtain ⟨c, rfl, hc⟩ := step_of td4
      refine .inr ⟨⟨ys, _, SqT.of hb4, ey⟩, fun H5 => Evs P w H H5 D fun k => (∃ st ∈ ss.take i, ∃ x ∈ st, k = evK (evOf x)) ∨ ∃ x ∈ st.take (j + 1), k = evK (evOf x), fun H5 e5 => ⟨_, by omega, rfl, ltj, e5⟩, fun v H5 yl => ?_⟩
      obtain ⟨eH, yv⟩ := yl
      subst eH
      have e0 : ys[j]? = some v := yv _ (SqT.of hb4)
      rw [ey] at e0
      cases e0
      obtain ⟨s4, L, l1, l2, l3, l4⟩ := ev4
      have hc4 := s4 _ _ hc
      refine ⟨rfl, _, rfl, 2, rfl, c, _, rfl, SqT.of hc4, (fun z => absurd (show HT.sIx 3 3 (some 2) = 3 from z.2) (by decide)), fun p hp => ?_⟩
      have at_ : ∀ q ∈ L, (upd H5 p (.tup (cutV [V.str sx.1, V.str sx.2.1, V.int sx.2.2] none (some 2)))) q.1 = some (.tup (q.2.map kV)) := fun q m => by
        rw [upd_ne (ne_of_none (l2 q m) hp)]
        exact l2 q m
      have atD : (upd H5 p (.tup (cutV [V.str sx.1, V.str sx.2.1, V.int sx.2.2] none (some 2)))) D = some (SetO P w D L) := by
        rw [upd_ne (ne_of_none l1 hp)]
        exact l1
      have llen : L.length ≤ 24 := few l3 l4 fun k h => by
        rcases h with ⟨st', m1, x, m2, e⟩ | ⟨x, m2, e⟩
        · exact ⟨st', List.mem_of_mem_take m1, x, m2, e⟩
        · exact ⟨st, stm, x, List.mem_of_mem_take m2, e⟩
      refine ⟨p, evK (evOf sx), L, rfl, SqT.of upd_same, atD, fun q m => SqT.of (at_ q m), fun _ => by omega, fun L' c1 c2 => ?_⟩
      have tk : st.take (j + 1) = st.take j ++ [sx] := by rw [List.take_succ, esx]; rfl
      have tup2 : ∀ {b : Addr} {zs : List V}, (upd H5 p (.tup (cutV [V.str sx.1, V.str sx.2.1, V.int sx.2.2] none (some 2)))) b = some (.tup zs) → (upd (upd H5 p (.tup (cutV [V.str sx.1, V.str sx.2.1, V.int sx.2.2] none (some 2)))) D (SetO P w D L')) b = some (.tup zs) := fun {b zs} e => by
        rw [upd_ne fun z => by rw [z, atD] at e; cases e]
        exact e
      refine ⟨same_at (s4.trans (same_new hp)) hD, L', upd_same, fun q m => ?_, ?_, fun k => ?_⟩
      · by_cases h : evK (evOf sx) ∈ L.map Prod.snd
        · rw [c1 h] at m
          exact tup2 (at_ q m)
        · rcases List.mem_cons.mp ((c2 h).mem_iff.mp m) with e | m
          · rw [e]
            exact tup2 upd_same
          · exact tup2 (at_ q m)
      · by_cases h : evK (evOf sx) ∈ L.map Prod.snd
        · rw [c1 h]
          exact l3
        · exact ((c2 h).map Prod.snd).nodup_iff.mpr (List.nodup_cons.mpr ⟨h, l3⟩)
      · have step : k ∈ L'.map Prod.snd ↔ k = evK (evOf sx) ∨ k ∈ L.map Prod.snd := by
          by_cases h : evK (evOf sx) ∈ L.map Prod.snd
          · rw [c1 h]
            exact ⟨.inr, fun z => z.elim (fun e => by rw [e]; exact h) id⟩
          · rw [((c2 h).map Prod.snd).mem_iff, List.map_cons, List.mem_cons]
        rw [step, l4 k, tk]
        simp only [List.mem_append, List.mem_singleton]
        constructor
        · rintro (e | e | ⟨x, m, e⟩)
          · exact .inr ⟨sx, .inr rfl, e⟩
          · exact .inl e
          · exact .inr ⟨x, .inl m, e⟩
        · rintro (e | ⟨x, m | m, e⟩)
          · exact .inr (.inl e)
          · exact .inr (.inr ⟨x, m, e⟩)
          · rw [m] at e
            exact .inl e
    · have e : j = ys.length := by omega
      subst e
      refine .inl ⟨⟨ys, SqT.of hb4, Nat.le_refl _⟩, ev4.like fun k => ?_⟩
      have tk : ss.take (i + 1) = ss.take i ++ [st] := by rw [List.take_succ, est]; rfl
      rw [leny, List.take_length, tk]
      simp only [List.mem_append, List.mem_singleton]
      constructor
      · rintro (⟨s, m, z⟩ | z)
        · exact ⟨s, .inl m, z⟩
        · exact ⟨st, .inr rfl, z⟩
      · rintro ⟨s, m | m, z⟩
        · exact .inl ⟨s, m, z⟩
        · rw [m] at z
          exact .inr z
  · have e : i = xs.length := by omega
    subst e
    obtain ⟨s2, L, l1, l2, l3, l4⟩ := ev
    rw [len, List.take_length] at l4
    exact .inl ⟨⟨xs, SqT.of ha2, Nat.le_refl _⟩, q D H2 L s2 l1 l2 l3 l4 (few l3 l4 fun k h => h)⟩
def rLenQ (K : PySem.W.Frag) : List V → Hp → VK → Prop := fun xs H Q => ∃ p ys, xs = [.ref p] ∧ (SqL K H p ys ∨ SqT K H p ys) ∧ Q (.int ys.length) H
def spStates : Sp := fun vs H Q _ => ∃ (a : Addr) (ss : List (List Stp)), vs = [.ref a] ∧ TD H (.ref a) (statesD ss) ∧ KOk ss ∧ ∀ H', Same H H' → Q (.bl true) H'
section
variable {P : Program} {w : World} {K : PySem.W.Frag} {mg : Str → Option Value} {base : Heap}
abbrev nSs : List Str := ["thing", "state", "step"]
theorem scSs : FnScope nSs ["thing"] (defScope sStates) := ⟨rfl, rfl, rfl, by decide +kernel, rfl, by decide +kernel, by decide +kernel⟩
theorem ok_states {f fS : Addr} {fd fdS : FuncData} (F : Fun K "is_states" "is_states" sStates f fd) (G : Gs mg)
    (GS : FnOk P w K mg base CX0 3 fS fdS ["thing", "many"] spState) (mS : mg "_is_state" = some (.ref fS)) (kS : PySem.W.keepIn K (.ref fS) = true) (bS : Binds K fdS ["thing", "many"] []) :
    FnOk P w K mg base CX0 4 f fd ["thing"] spStates := by
  obtain ⟨t40, m40⟩ := G.c40
  obtain ⟨t24, m24⟩ := G.c24
  refine F.ok scSs (fun vs H Q E h => ?_) (fun cdv A outer s H vs Q E hr h => ?_)
  · obtain ⟨a, ss, rfl, _⟩ := h
    rfl
  · obtain ⟨a, ss, rfl, hx, so, k⟩ := h
    have hu := hr.units
    have hu2 : (A.deeper (envOfC "is_states" (defScope sStates) s.heap.objs.size f cdv)).units + 2 < cLine := by omega
    refine ⟨_, pss_cons (ps_if (PW.pt (pw_or (pt_not (pt_val (pe_callB call_isi (by rfl) G.isi boot_isinstance (pa_cons (pv 0) (pa_cons (pe_bltn (v := .ty "tuple") (by rfl) G.tuple PyProof.Rows.boot_tuple rfl) pa_nil)))))
          (pw_or1 (pt_not (pt_chain op_le op_le pe_int (pe_callB call_len_seq (by rfl) G.len PySem.boot_len (pa_cons (pv 0) pa_nil)) (pe_glob (v := .int 40) (by rfl) m40 ⟨_, rfl⟩)))))) (pss_one (ps_ret pe_bl)) pss_nil)
      (pss_cons (ps_if (pt_not (pt_val (pe_callB (cr_all rfl) (by rfl) G.all PyProof.Rows.boot_all (pa_cons (pe_lc (own := [("state", 1)]) (g := gName 1) (tt := tYes) rfl scSs.nd (pi_tup (pv 0)) (blkOk_by (N := nSs) (sc := defScope sStates) (by decide +kernel))
            (fun _ _ _ _ _ => pg_name (i := 1) scSs.nd rfl (Or.inl rfl)) (fun _ _ _ _ _ => pts_nil) (fun _ _ _ _ _ => pe_call GS hr (by rfl) mS kS bS .nil pass0 (pa_cons (pv 1) (pa_cons (pe_callB (r := rLenQ K) call_len_seq (by rfl) G.len PySem.boot_len (pa_cons (pv 0) pa_nil)) pa_nil)))) pa_nil)))) (pss_one (ps_ret pe_bl)) pss_nil)
      (pss_one (ps_ret (pe_cmpR op_le (pe_callB cr_lenS (by rfl) G.len PySem.boot_len (pa_cons (pe_sc2 (own := [("state", 1), ("step", 2)]) (us := [2]) (wa := iTup K (tVar 0)) (wb := iTup K (tVar 1)) (te := tSl (rSlT K) (tVar 2) tNoPart (tPart (tC (V.int 2)))) rfl scSs.nd hu2 (pi_tup (pv 0)) (blkOk_by (N := nSs) (sc := defScope sStates) (by decide +kernel)) (by decide)
            (fun _ _ _ _ _ => pg_name (i := 1) scSs.nd rfl (Or.inl rfl)) (fun _ _ _ _ _ => pi_tup (pv 1)) (fun _ _ _ _ _ => pg_name (i := 2) scSs.nd rfl (Or.inl rfl)) (fun _ _ _ _ _ => pe_slice (r := rSlT K) sl_tup (pv 2) po_none (po_some pe_int))) pa_nil)) (pe_glob (v := .int 24) (by rfl) m24 ⟨_, rfl⟩) (nomark _))))), ?_⟩
    obtain ⟨xs, ha, hxs⟩ := hx.tup_of
    have len : xs.length = ss.length := by
      have z := hxs.len
      rwa [List.length_map] at z
    have l1 := so.one
    have l2 := so.most
    refine ⟨_, rfl, _, _, _, _, _, rfl, .ty "tuple", .base (.tup ha), kit_ty (a := "tuple") (b := "tuple") (r := true) (by decide +kernel), _, rfl, iteF ?_⟩
    refine ⟨_, rfl, a, _, rfl, .inr (SqT.of ha), _, _, rfl, rfl, _, rfl, ?_⟩
    rw [decide_eq_true (show (1 : Int) ≤ xs.length by omega)]
    refine iteT ⟨_, _, rfl, rfl, _, rfl, ?_⟩
    rw [decide_eq_true (show (xs.length : Int) ≤ 40 by omega)]
    refine iteF ?_
    refine ⟨_, rfl, a, rfl, ⟨_, SqT.of ha⟩, fun D hD => lc_tup (K := K) (a := a) (xs := xs) (fun i H2 => Same H H2 ∧ H2 D = some (.lst ((List.replicate i true).map V.bl))) ⟨same_new hD, upd_same⟩ (fun i H2 _ ⟨s2, _⟩ => SqT.of (s2 _ _ ha)) (fun i x H2 ex ⟨s2, d2⟩ => ?_) fun H2 ⟨s2, d2⟩ => ?_⟩
    · obtain ⟨d, ed, td⟩ := hxs.get ex
      rw [List.getElem?_map] at ed
      obtain ⟨st, ey, rfl⟩ := Option.map_eq_some_iff.mp ed
      obtain ⟨b, ys, rfl, _⟩ := td.ref_of
      have lt : i < ss.length := (List.getElem?_eq_some_iff.mp ey).1
      refine ⟨rfl, _, rfl, _, rfl, a, _, rfl, .inr (SqT.of (s2 _ _ ha)), b, st, ss.length, by rw [len]; rfl, td.to (Tup.of s2), so.all st (List.mem_of_getElem? ey), fun H3 s3 => ⟨_, s3 _ _ d2, ?_, same_at (s2.trans s3) hD, ?_⟩⟩
      · rw [List.length_map, List.length_replicate]
        exact small_lt (m := 40) (by omega)
      · rw [upd_same, List.replicate_succ', List.map_append]
        rfl
    · refine ⟨D, _, rfl, SqL.of d2, _, rfl, ?_⟩
      have e : ((List.replicate xs.length true).all id) = true := by simp
      rw [e]
      refine iteF ?_
      obtain ⟨es, e1, e2⟩ := so.evs
      refine ⟨_, rfl, a, rfl, ⟨_, SqT.of (s2 _ _ ha)⟩, ev_set (K := K) (P := P) (w := w) (o := some (V.ref a)) (Q := fun x H1 => rLenS P w [x] H1 fun y H2 => rI0 (fun i j => V.bl (decide (i ≤ j))) y (.int 24) H2 Q) (s2 _ _ ha) (hxs.to (Tup.of s2)) e1 e2 fun D2 H3 L s3 h1 h2 h3 h4 h5 => ⟨D2, L, rfl, h1, _, _, rfl, rfl, ?_⟩⟩
      show Q (V.bl (decide ((L.length : Int) ≤ 24))) H3
      rw [decide_eq_true (show (L.length : Int) ≤ 24 by omega)]
      exact k _ (s2.trans s3)
end
end My

-- ===== K4F =====
set_option Elab.async false
set_option linter.all false
set_option maxRecDepth 100000
set_option maxHeartbeats 4000000
namespace My
open PySem L2 PyProof.Rows PySem.Spec Kd
def DcW (ga : TG) (tk tv : TE) (vs : List Nat) (σ : L2.St) (Q : VK) (J : It) (H1 : Hp) : Prop := ∀ D, H1 D = none → ∃ W : Nat → Nat → Hp → Prop, (∃ m, W 0 m (upd H1 D (.dT []))) ∧ ∀ i m H2, W i m H2 →
  (J.stop i H2 ∧ Q (.ref D) H2) ∨ (J.go i H2 ∧ ∃ Nx : Hp → Prop, (∀ H3, Nx H3 → ∃ m', m' < m ∧ W (i + 1) m' H3) ∧ ∀ x H3, J.yld i H2 x H3 → ga x (wipe σ vs) H3 fun σ4 H4 => wipe σ4 vs = wipe σ vs ∧ tk σ4 H4 fun y H5 => tv σ4 H5 fun z H6 =>
    ∃ (kvs : List (List Key × V)) (k : List Key) (b : Addr), y = .ref b ∧ H6 b = some (.tup (k.map kV)) ∧ H6 D = some (.dT kvs) ∧ kvs.length < sizeLine ∧ Nx (upd H6 D (.dT (putK kvs k z))))
def mvOf (x : Stp) : List Key × V := (evK (evOf x), .int x.2.2)
theorem putK_new {kvs : List (List Key × V)} {k : List Key} {v : V} (h : ∀ p ∈ kvs, p.1 ≠ k) : putK kvs k v = kvs ++ [(k, v)] := by
  unfold putK
  rw [if_neg]
  intro z
  obtain ⟨p, m, e⟩ := List.any_eq_true.mp z
  exact h p m (of_decide_eq_true e)
theorem mv_dict {K : PySem.W.Frag} {o0 o1 : Option V} {b : Addr} {ys : List V} {st : List Stp} {H : Hp} (hb : H b = some (.tup ys)) (hy : TDs H ys (st.map stepD)) (asc : (st.map evOf).Pairwise evLt) (few : st.length ≤ 24) {Q : VK}
    (q : ∀ D H', Same H H' → H' D = some (.dT (st.map mvOf)) → Q (.ref D) H') :
    DcW (gTup K 3 (gCons (gName 2) (gCons (gName 3) (gCons (gName 4) gNil)))) (tTup (tCons (tVar 2) (tCons (tVar 3) tNil))) (tVar 4) [2, 3, 4] [o0, o1, none, none, none] Q (Itt K b) H := by
  intro D hD
  have len : ys.length = st.length := by
    have z := hy.len
    rwa [List.length_map] at z
  refine ⟨fun i m H2 => m = ys.length - i ∧ i ≤ ys.length ∧ Same H H2 ∧ H2 D = some (.dT ((st.take i).map mvOf)), ⟨_, rfl, Nat.zero_le _, same_new hD, by simp [upd_same]⟩, fun i m H2 ⟨em, le, s2, d2⟩ => ?_⟩
  subst em
  have hb2 := s2 _ _ hb
  rcases Nat.lt_or_ge i ys.length with lt | ge
  · obtain ⟨y, ey⟩ : ∃ y, ys[i]? = some y := ⟨_, List.getElem?_eq_getElem lt⟩
    obtain ⟨d, ed, td⟩ := hy.get ey
    rw [List.getElem?_map] at ed
    obtain ⟨x, ex, rfl⟩ := Option.map_eq_some_iff.mp ed
    obtain ⟨c, rfl, hc⟩ := step_of td
    refine .inr ⟨⟨ys, _, SqT.of hb2, ey⟩, fun H3 => Same H H3 ∧ H3 D = some (.dT ((st.take (i + 1)).map mvOf)), fun H3 ⟨s3, d3⟩ => ⟨_, by omega, rfl, lt, s3, d3⟩, fun v H3 yl => ?_⟩
    obtain ⟨eH, yv⟩ := yl
    have e0 : ys[i]? = some v := yv _ (SqT.of hb2)
    rw [ey] at e0
    cases e0
    subst eH
    have hc3 := s2 _ _ hc
    refine ⟨c, _, rfl, SqT.of hc3, rfl, _, _, rfl, _, _, rfl, _, _, rfl, rfl, rfl, ?_⟩
    refine ⟨_, rfl, _, rfl, by show 2 ≤ sizeLine; decide, fun p hp => ⟨_, rfl, (st.take i).map mvOf, evK (evOf x), p, rfl, upd_same, ?_, ?_, ?_, ?_⟩⟩
    · rw [upd_ne (ne_of_none d2 hp)]
      exact d2
    · rw [List.length_map, List.length_take]
      exact small_lt (m := 24) (by omega)
    · exact same_at (s2.trans (same_new hp)) hD
    · have tk : st.take (i + 1) = st.take i ++ [x] := by rw [List.take_succ, ex]; rfl
      rw [upd_same, tk, List.map_append, putK_new]
      · rfl
      · intro p hp e
        obtain ⟨z, hz, rfl⟩ := List.mem_map.mp hp
        have e2 : evOf z = evOf x := evK_inj e
        have nd := asc_nodup asc
        have sub : (st.take (i + 1)).map evOf = (st.map evOf).take (i + 1) := List.map_take
        have nd2 : ((st.take (i + 1)).map evOf).Nodup := by
          rw [sub]
          exact List.Pairwise.sublist (List.take_sublist _ _) nd
        rw [tk, List.map_append] at nd2
        exact (List.nodup_append.mp nd2).2.2 (evOf z) (List.mem_map.mpr ⟨z, hz, rfl⟩) (evOf x) (by simp) e2
  · have e : i = ys.length := by omega
    subst e
    rw [len, List.take_length] at d2
    exact .inl ⟨⟨ys, SqT.of hb2, Nat.le_refl _⟩, q D H2 s2 d2⟩
/-- the moves of a kind stand at m -/
def MovesAt (H : Hp) (m : Addr) (ss : List (List Stp)) : Prop := ∃ bs : List Addr, H m = some (.lst (bs.map V.ref)) ∧ bs.length = ss.length ∧ ∀ (i : Nat) (b : Addr) (st : List Stp), bs[i]? = some b → ss[i]? = some st → H b = some (.dT (st.map mvOf))
def spMoves : Sp := fun vs H Q _ => ∃ (a : Addr) (ss : List (List Stp)), vs = [.ref a] ∧ TD H (.ref a) (statesD ss) ∧ KOk ss ∧ ∀ m H', Same H H' → H m = none → MovesAt H' m ss → Q (.ref m) H'
def lcScope : Stmt → Scope
  | .FunctionDef _ _ [.Return (some (.ListComp _ _ sc _)) _] .. => sc
  | _ => { kind := .function, names := [], isGenerator := false, isCoroutine := false }
section
variable {P : Program} {w : World} {K : PySem.W.Frag} {mg : Str → Option Value} {base : Heap}
abbrev nMv : List Str := ["states", "state", "operation", "answer", "goal"]
theorem scMv : FnScope nMv ["states"] (defScope sMoves) := ⟨rfl, rfl, rfl, by decide +kernel, rfl, by decide +kernel, by decide +kernel⟩
theorem ok_moves {f : Addr} {fd : FuncData} (F : Fun K "moves_of" "moves_of" sMoves f fd) : FnOk P w K mg base CX0 1 f fd ["states"] spMoves := by
  refine F.ok scMv (fun vs H Q E h => ?_) (fun cdv A outer s H vs Q E hr h => ?_)
  · obtain ⟨a, ss, rfl, _⟩ := h
    rfl
  · obtain ⟨a, ss, rfl, hx, so, k⟩ := h
    have hu := hu_of hr
    have hu2 : (A.deeper (envOfC "moves_of" (defScope sMoves) s.heap.objs.size f cdv)).units + 2 < cLine := by have := hr.units; omega
    refine ⟨_, pss_one (ps_ret (pe_lc (own := [("state", 1)]) (g := gName 1) (tt := tYes) (te := tDcT (iTup K (tVar 1)) (gTup K 3 (gCons (gName 2) (gCons (gName 3) (gCons (gName 4) gNil)))) (tTup (tCons (tVar 2) (tCons (tVar 3) tNil))) (tVar 4) [2, 3, 4]) rfl scMv.nd (pi_tup (pv 0)) (blkOk_by (N := nMv) (sc := defScope sMoves) (by decide +kernel))
            (fun _ _ _ _ _ => pg_name (i := 1) scMv.nd rfl (Or.inl rfl)) (fun _ _ _ _ _ => pts_nil)
            (fun _ _ _ _ _ => pe_dcT (own := [("operation", 2), ("answer", 3), ("goal", 4)]) rfl scMv.nd hu2 (pi_tup (pv 1)) (blkOk_by (N := nMv) (sc := relS (lcScope sMoves) (defScope sMoves)) (by decide +kernel))
              (fun _ _ _ _ _ => pg_tup (by rfl) (pgs_cons (pg_name (i := 2) scMv.nd rfl (Or.inl rfl)) (pgs_cons (pg_name (i := 3) scMv.nd rfl (Or.inl rfl)) (pgs_cons (pg_name (i := 4) scMv.nd rfl (Or.inl rfl)) pgs_nil))))
              (fun _ _ _ _ _ => pe_tup (pa_cons (pv 2) (pa_cons (pv 3) pa_nil))) (fun _ _ _ _ _ => pv 4)))), ?_⟩
    obtain ⟨xs, ha, hxs⟩ := hx.tup_of
    have len : xs.length = ss.length := by
      have z := hxs.len
      rwa [List.length_map] at z
    have l2 := so.most
    refine ⟨_, rfl, a, rfl, ⟨_, SqT.of ha⟩, fun D hD => lc_tup (K := K) (a := a) (xs := xs) (fun i H2 => Same H H2 ∧ ∃ bs : List Addr, H2 D = some (.lst (bs.map V.ref)) ∧ bs.length = i ∧ ∀ (j : Nat) (b : Addr) (st : List Stp), bs[j]? = some b → ss[j]? = some st → H2 b = some (.dT (st.map mvOf)))
      ⟨same_new hD, [], upd_same, rfl, fun j b st e => by simp at e⟩ (fun i H2 _ ⟨s2, _⟩ => SqT.of (s2 _ _ ha)) (fun i x H2 ex ⟨s2, bs, d2, bl, hbs⟩ => ?_) fun H2 ⟨s2, bs, d2, bl, hbs⟩ => ?_⟩
    · obtain ⟨d, ed, td⟩ := hxs.get ex
      rw [List.getElem?_map] at ed
      obtain ⟨st, ey, rfl⟩ := Option.map_eq_some_iff.mp ed
      obtain ⟨b, ys, rfl, hb, hy⟩ := td.ref_of
      have lt : i < ss.length := (List.getElem?_eq_some_iff.mp ey).1
      have sto := so.all st (List.mem_of_getElem? ey)
      refine ⟨rfl, _, rfl, b, rfl, ⟨_, SqT.of (s2 _ _ hb)⟩, mv_dict (K := K) (o0 := some (V.ref a)) (o1 := some (V.ref b)) (Q := fun y H4 => ∃ acc, H4 D = some (.lst acc) ∧ acc.length < sizeLine ∧ Same H (upd H4 D (.lst (acc ++ [y]))) ∧ ∃ bs : List Addr, (upd H4 D (.lst (acc ++ [y]))) D = some (.lst (bs.map V.ref)) ∧ bs.length = i + 1 ∧ ∀ (j : Nat) (b : Addr) (st : List Stp), bs[j]? = some b → ss[j]? = some st → (upd H4 D (.lst (acc ++ [y]))) b = some (.dT (st.map mvOf)))
        (s2 _ _ hb) (hy.to (Tup.of s2)) sto.asc sto.few fun D2 H3 s3 d3 => ⟨_, s3 _ _ d2, ?_, same_at (s2.trans s3) hD, bs ++ [D2], ?_, ?_, fun j c sj ec es => ?_⟩⟩
      · rw [List.length_map]
        exact small_lt (m := 40) (by omega)
      · rw [upd_same, List.map_append]
        rfl
      · rw [List.length_append, bl]
        rfl
      · have at_ : H3 c = some (.dT (sj.map mvOf)) := by
          rcases Nat.lt_or_ge j bs.length with l | g
          · rw [List.getElem?_append_left l] at ec
            exact s3 _ _ (hbs j c sj ec es)
          · rw [List.getElem?_append_right g] at ec
            have ej : j - bs.length = 0 := by
              have z := (List.getElem?_eq_some_iff.mp ec).1
              simp at z
              omega
            have ej2 : j = i := by omega
            rw [ej] at ec
            have e2 : D2 = c := Option.some.inj ec
            rw [ej2, ey] at es
            rw [← Option.some.inj es, ← e2]
            exact d3
        rw [upd_ne fun z => by rw [z, s3 _ _ d2] at at_; cases at_]
        exact at_
    · exact k D H2 s2 hD ⟨bs, d2, by rw [bl, len], hbs⟩
end
end My

-- ===== K4G =====
set_option Elab.async false
set_option linter.all false
set_option maxRecDepth 100000
set_option maxHeartbeats 4000000
namespace My
open PySem L2 PyProof.Rows PySem.Spec Kd StX ClX
abbrev sKind : Stmt := top 29
abbrev sInit : Stmt := inClass sKind 0
abbrev sOf : Stmt := inClass sKind 1
abbrev sRead : Stmt := inClass sKind 2
abbrev sEq : Stmt := inClass sKind 3
abbrev sKtext : Stmt := inClass sKind 8
/-! ### C(*xs), C in a local name -/
section
variable {X : Cx} {CX : CXT} {k i : Nat} {f C : Addr} {sp : Sp} {E : XK} {x : PySem.Str} {e : Expr} {te : TE} {p sp_ pos : Pos}
theorem pe_makeL (M : Mk X.K C f) (F : FnR X.prog X.w X.K X.mg X.base CX k f sp) (hr : Room (k + 1) X.A) (hN : X.N[i]? = some x) (hv : Vis X.env.scope x) (hx : Passes CX X E) (he : PE X e te) (hdb : (x == ("__debug__" : PySem.Str)) = false := by decide) (hcd : (x == ("__classdict__" : PySem.Str)) = false := by decide)
    (hst : starEach [.Starred e sp_] X.env = [(true, eval e X.env)] := by rfl) :
    PE X (.Call (.Name x p) [.Starred e sp_] [] pos) (fun σ H Q => σ[i]? = some (some (.ref C)) ∧ te σ H fun y H1 => ∃ a xs, y = V.ref a ∧ (SqT X.K H1 a xs ∨ SqL X.K H1 a xs) ∧ ∀ o dx, H1 o = none → H1 dx = none → dx ≠ o →
      sp (V.ref o :: xs) (upd (upd H1 dx (.own o)) o (.ins C dx [])) (fun v H2 => v = .non ∧ Q (.ref o) H2) E) := by
  refine ⟨fun pins s σ H Q I h => ?_⟩
  obtain ⟨hs, ht⟩ := h
  refine wpAny_Call_Name_kw (thn ((pe_var (pos := p) hN hv hdb hcd).run pins s σ H (fun v H1 => v = .ref C ∧ H1 = H) I ⟨.ref C, hs, rfl, rfl⟩) fun u s1 ⟨v, H1, I1, r1, q1⟩ => ?_)
  obtain ⟨rfl, rfl⟩ := q1
  cases r1
  refine PySem.W.callWith_S (h₀ := X.base) I.ok.mod.kin M.kp (thn (he.run pins s1 σ _ _ I1 ht) fun w s2 ⟨y, H2, I2, ry, a, xs, ey, hxs, q⟩ => ?_) hst
  subst ey
  obtain rfl : w = Value.ref a := ry
  exact star_any I2 hxs fun us s3 I3 rv => ⟨I3.kIn, run_makeR M F hr hx I3 rv q⟩
end
/-! ### the class -/
def KindAt (C : Addr) (H : Hp) (v : V) (ss : List (List Stp)) : Prop := ∃ o dx a m, v = .ref o ∧ H o = some (.ins C dx [("states", .ref a), ("moves", .ref m)]) ∧ TD H (.ref a) (statesD ss) ∧ MovesAt H m ss
theorem MovesAt.same {H H' : Hp} {m : Addr} {ss : List (List Stp)} (s : Same H H') (h : MovesAt H m ss) : MovesAt H' m ss := by
  obtain ⟨bs, h1, h2, h3⟩ := h
  exact ⟨bs, s _ _ h1, h2, fun i b st e1 e2 => s _ _ (h3 i b st e1 e2)⟩
theorem KindAt.same {C : Addr} {H H' : Hp} {v : V} {ss : List (List Stp)} (s : Same H H') (h : KindAt C H v ss) : KindAt C H' v ss := by
  obtain ⟨o, dx, a, m, e, h1, h2, h3⟩ := h
  exact ⟨o, dx, a, m, e, s _ _ h1, h2.to (Tup.of s), h3.same s⟩
/-- as it was but for one address -/
def But (o : Addr) (H H' : Hp) : Prop := ∀ b u, H b = some u → b ≠ o → H' b = some u
def spInit (C : Addr) : Sp := fun vs H Q _ => ∃ (o t dx : Addr) (ss : List (List Stp)), vs = [.ref o, .ref t] ∧ H o = some (.ins C dx []) ∧ TD H (.ref t) (statesD ss) ∧ KOk ss ∧
  ∀ H' m, But o H H' → H' o = some (.ins C dx [("states", .ref t), ("moves", .ref m)]) → MovesAt H' m ss → Q .non H'
def spInitR (C : Addr) : Sp := fun vs H Q E => ∃ ws rest, vs = ws ++ rest ∧ ws.length = ["self"].length ∧ rest.length ≤ sizeLine ∧ ∀ p, H p = Option.none → spInit C (ws ++ [V.ref p]) (upd H p (.tup rest)) Q E
def spOf (C : Addr) : Sp := fun vs H Q _ => ∃ (a : Addr) (ss : List (List Stp)), vs = [.ref C, .ref a] ∧ TD H (.ref a) (statesD ss) ∧ KOk ss ∧ ∀ v H', Same H H' → KindAt C H' v ss → Q v H'
section
variable {P : Program} {w : World} {K : PySem.W.Frag} {mg : Str → Option Value} {base : Heap}
theorem scIn : FnScope ["self", "states"] ["self", "states"] (defScope sInit) := ⟨rfl, rfl, rfl, by decide +kernel, rfl, by decide +kernel, by decide +kernel⟩
theorem ok_init {f C fS fM : Addr} {fd fdS fdM : FuncData} (F : Fun K "__init__" "Kind.__init__" sInit f fd) (cl : Cls K C) (n1 : NoAttr K C "states") (n2 : NoAttr K C "moves")
    (GS : FnOk P w K mg base CX0 4 fS fdS ["thing"] spStates) (mS : mg "is_states" = some (.ref fS)) (kS : PySem.W.keepIn K (.ref fS) = true) (bS : Binds K fdS ["thing"] [])
    (GM : FnOk P w K mg base CX0 1 fM fdM ["states"] spMoves) (mM : mg "moves_of" = some (.ref fM)) (kM : PySem.W.keepIn K (.ref fM) = true) (bM : Binds K fdM ["states"] []) :
    FnR P w K mg base CX0 5 f (spInitR C) := by
  obtain ⟨oc, od, kV, doc, pm, an, cdv, ct, osl, rfl, lk, hcd⟩ := F.ex
  refine fn_star (ps := ["self"]) (pv := "states") (sp := spInit C) lk hcd scIn cxUp_none (bind_star1 (B := fun l => bindArgs (PySem.W.fnOf "__init__" "Kind.__init__" (defArgs sInit) (defBody sInit) (defScope sInit) .none kV doc pm an cdv ct) ⟨l, []⟩) (p1 := "self") (pv := "states") (fun a => rfl) (fun a r rs => rfl)) fun A outer s H vs Q E hr h => ?_
  obtain ⟨o, t, dx, ss, rfl, ho, hx, so, k⟩ := h
  refine ⟨_, PSs.nox (pss_cons (ps_if (pt_not (pt_val (pe_call GS hr (by rfl) mS kS bS .nil pass0 (pa_cons (pv 1) pa_nil)))) (pss_one ps_never) pss_nil)
      (pss_cons (ps_fld (pv 0) (pv 1) rfl) (pss_one (ps_fld (pv 0) (pe_call GM (hr.mono (by decide)) (by rfl) mM kM bM .nil pass0 (pa_cons (pv 1) pa_nil)) rfl)))), ?_⟩
  refine ⟨_, rfl, t, ss, rfl, hx, so, fun H1 s1 => ⟨true, rfl, iteF ?_⟩⟩
  refine ⟨_, rfl, _, rfl, o, C, dx, [], rfl, s1 _ _ ho, cl, n1, by decide, ?_⟩
  have tp : Tup H1 (upd H1 o (.ins C dx [("states", .ref t)])) := Tup.at_ (s1 _ _ ho) fun xs z => nomatch z
  refine ⟨_, rfl, t, ss, rfl, (hx.to (Tup.of s1)).to tp, so, fun m H3 s3 nm mv => ?_⟩
  have ho3 : H3 o = some (.ins C dx [("states", .ref t)]) := s3 _ _ upd_same
  refine ⟨_, rfl, o, C, dx, _, rfl, ho3, cl, n2, (by show (1 : Nat) < 1000; decide), ?_⟩
  refine k _ m (fun b u e ne => ?_) upd_same ?_
  · rw [upd_ne ne]
    exact s3 _ _ (by rw [upd_ne ne]; exact s1 _ _ e)
  · obtain ⟨bs, h1, h2, h3⟩ := mv
    have ne : ∀ {b : Addr} {u : HO}, H3 b = some u → (∀ C dx fs, u ≠ .ins C dx fs) → (upd H3 o (.ins C dx (putF "moves" (V.ref m) [("states", .ref t)]))) b = some u := fun {b u} e n => by
      rw [upd_ne fun z => by rw [z, ho3] at e; exact n _ _ _ (Option.some.inj e).symm]
      exact e
    exact ⟨bs, ne h1 (fun _ _ _ z => nomatch z), h2, fun i b st e1 e2 => ne (h3 i b st e1 e2) (fun _ _ _ z => nomatch z)⟩
theorem scOf : FnScope ["cls", "states"] ["cls", "states"] (defScope sOf) := ⟨rfl, rfl, rfl, by decide +kernel, rfl, by decide +kernel, by decide +kernel⟩
theorem ok_of {f C fI : Addr} {fd : FuncData} (F : Fun K "of" "Kind.of" sOf f fd) (G : Gs mg) (M : Mk K C fI) (FI : FnR P w K mg base CX0 5 fI (spInitR C)) : FnOk P w K mg base CX0 7 f fd ["cls", "states"] (spOf C) := by
  refine F.ok scOf (fun vs H Q E h => ?_) (fun cdv A outer s H vs Q E hr h => ?_)
  · obtain ⟨a, ss, rfl, _⟩ := h
    rfl
  · obtain ⟨a, ss, rfl, hx, so, k⟩ := h
    refine ⟨_, pss_cons (ps_if (pt_not (pt_val (pe_callB call_isi (by rfl) G.isi boot_isinstance (pa_cons (pv 1) (pa_cons (pe_bltn (v := .ty "tuple") (by rfl) G.tuple PyProof.Rows.boot_tuple rfl) pa_nil))))) (pss_one ps_never) pss_nil)
      (pss_one (ps_ret (pe_makeL (i := 0) M FI hr rfl (.inl rfl) pass0 (pv 1)))), ?_⟩
    obtain ⟨xs, ha, hxs⟩ := hx.tup_of
    have l2 := so.most
    have len : xs.length = ss.length := by
      have z := hxs.len
      rwa [List.length_map] at z
    refine ⟨_, rfl, _, _, _, _, _, rfl, .ty "tuple", .base (.tup ha), kit_ty (a := "tuple") (b := "tuple") (r := true) (by decide +kernel), _, rfl, iteF ?_⟩
    refine ⟨rfl, _, rfl, a, xs, rfl, .inl (SqT.of ha), fun o dx no nd ne => ?_⟩
    refine ⟨[.ref o], xs, rfl, rfl, small_len (m := 40) (by omega), fun p hp => ?_⟩
    have hp1 : p ≠ o := fun z => by
      rw [z, upd_same] at hp
      cases hp
    have hp2 : (upd H dx (.own o)) p = none := by
      rw [upd_ne hp1] at hp
      exact hp
    have hp3 : p ≠ dx := fun z => by
      rw [z, upd_same] at hp2
      cases hp2
    have hp0 : H p = none := by
      rw [upd_ne hp3] at hp2
      exact hp2
    have no1 : (upd H dx (.own o)) o = none := by
      rw [upd_ne (Ne.symm ne)]
      exact no
    have s0 : Same H (upd (upd (upd H dx (.own o)) o (.ins C dx [])) p (.tup xs)) := ((same_new nd).trans (same_new no1)).trans (same_new hp)
    refine ⟨o, p, dx, ss, rfl, by rw [upd_ne (Ne.symm hp1)]; exact upd_same, .tup upd_same (hxs.to (Tup.of s0)), so, fun H' m but ho mv => ⟨rfl, ?_⟩⟩
    have s1 : Same H H' := fun b u e => but b u (s0 b u e) (ne_of_none e no)
    refine k _ _ s1 ⟨o, dx, p, m, rfl, ho, .tup (but p _ upd_same hp1) ?_, mv⟩
    exact hxs.to (Tup.of s1)
end
end My

-- ===== KS10 =====
set_option Elab.async false
set_option linter.all false
set_option maxRecDepth 100000
set_option maxHeartbeats 4000000
namespace Kd
open PySem L2 PyProof.Rows PySem.Spec
/-! ### enumerate of a tuple -/
theorem meets_enum1 {v : Value} {o : Obj} {H : Heap → Prop} (B : Begins v o H) :
    Meets (Builtin.«enumerate.__new__» ⟨[.type "enumerate", v], []⟩) (fun _ R s => H s.heap ∧
      R (.ok (.ret (.ref (s.heap.push o).objs.size))) { s with heap := (s.heap.push o).push { cls := .type "enumerate", data := .fields #[.none, .bool false, .ref s.heap.objs.size, rawInt 0, .none, .none] } }) :=
  .of_wp fun prog w A R s h => by
    obtain ⟨hp, g, d, tk, os⟩ := s
    obtain ⟨h1, h⟩ := h
    have hsub := sub_enumerate
    have it : ∀ {A' : Around} {E : Value → Shared → Prop} {Q : Value → Shared → Prop}, Q (.ref hp.objs.size) ⟨hp.push o, g, d, tk, os⟩ → wpAny (model prog w) A' (pyIter v) Q E ⟨hp, g, d, tk, os⟩ :=
      fun q => B.iter prog w _ _ ⟨hp, g, d, tk, os⟩ _ h1 q
    wp_walk using it
    refine wpAny_stack_any fun st => wpAny_pure ?_
    split
    · rename_i c _ _ _ _ _
      cases (c == Value.type "enumerate") <;> (wp_walk using it; exact ⟨_, rfl, h⟩)
    · wp_walk using it
      exact ⟨_, rfl, h⟩
theorem enum_tuple {prog : Program} {w : World} {A : Around} {E : Value → Shared → Prop} {s : Shared} {t : Addr} {items : Array Value} {Q : Value → Shared → Prop} (ht : s.heap.IsTuple t items)
    (h : ∀ h', IsEnum h' (s.heap.objs.size + 1) s.heap.objs.size 0 .none → h'.IsTupleIter s.heap.objs.size t 0 → (∀ b o, s.heap.get? b = some o → h'.get? b = some o) → Q (.ref (s.heap.objs.size + 1)) { s with heap := h' }) :
    wpAny (model prog w) A (call (.type "enumerate") [.ref t]) Q E s := by
  refine callType_new F.called_enumerate (by decide) (F.typeCall_enumerate_1 _) (F.newCall_enumerate_1 _) (fun obj => F.args_object_init_2 obj _) F.entry_enumerate_new (meets_enum1 (begins_tuple t items)) ⟨ht, ?_⟩
  generalize ho : ({ cls := .type "tuple_iterator", data := .fields #[.ref t, .int 0 0] } : Obj) = o
  have sz : (s.heap.push o).objs.size = s.heap.objs.size + 1 := Heap.size_push ..
  have e1 : ((s.heap.push o).push { cls := .type "enumerate", data := .fields #[.none, .bool false, .ref s.heap.objs.size, rawInt 0, .none, .none] }).get? (s.heap.push o).objs.size = some _ := Heap.get?_push_size _ rfl
  rw [sz] at e1
  show _ ∧ _
  rw [sz]
  subst ho
  exact ⟨⟨_, e1, rfl⟩, h _ e1 ⟨_, Heap.get?_push_of_some _ (Heap.get?_push_size _ rfl), rfl, rfl⟩ fun b u x => Heap.get?_push_of_some _ (Heap.get?_push_of_some _ x)⟩
/-- the tuple at a, each item beside its place in a new pair -/
def IteT (K : PySem.W.Frag) (a : Addr) : It :=
  ⟨fun i H => ∃ (xs : List V) (x : V), SqT K H a xs ∧ xs[i]? = some x, fun i H v H' => ∃ T x, v = .ref T ∧ H T = none ∧ H' = upd H T (.tup [.int (i : Nat), x]) ∧ ∀ xs, SqT K H a xs → xs[i]? = some x, fun i H => ∃ xs : List V, SqT K H a xs ∧ xs.length = i⟩
theorem turn_enumT {P : Program} {w : World} {K : PySem.W.Frag} {elts : List Expr} {kk : Nat} {tpos : Pos} (a e it : Addr) :
    Turn P w K (.Tuple elts kk tpos) (IteT K a) [e, it] e (fun i h => (∃ old, IsEnum h e it ((i : Nat) : Int) old) ∧ h.IsTupleIter it a i ∧ e ≠ it ∧ a ≠ it ∧ a ≠ e) where
  mem := by simp
  obj := fun i h st b hb => by
    obtain ⟨⟨old, he⟩, ⟨o, ho, _, hd⟩, _⟩ := st
    rcases (show b = e ∨ b = it by simpa using hb) with z | z
    · rw [z]
      exact ⟨_, he, fun v q => nomatch q⟩
    · rw [z]
      exact ⟨o, ho, fun v q => by rw [hd] at q; cases q⟩
  keep := fun i h h' st k => let ⟨⟨old, he⟩, hi, ne⟩ := st; ⟨⟨old, k e (by simp) _ he⟩, hi.at fun o q => k it (by simp) o q, ne⟩
  item := by
    intro X hP hw hK hc i pins s σ H E I hf st hg
    subst hP hw hK
    obtain ⟨⟨old, he⟩, hit, ne, nai, nae⟩ := st
    obtain ⟨xs, x, hq, hx⟩ := hg
    obtain ⟨its, rv, p, _⟩ := I.tuple hq
    obtain ⟨u, hu, ru⟩ := rv.get hx
    have pt : s.heap.IsTuple a its.toArray := p
    have lt : i < its.toArray.size := by
      rw [List.size_toArray]
      exact (List.getElem?_eq_some_iff.mp hu).1
    have el : e < s.heap.objs.size := Heap.lt_size he
    have il : it < s.heap.objs.size := by obtain ⟨_, q, _⟩ := hit; exact Heap.lt_size q
    refine wpAny_pyNext_enum_itemD (n := its.toArray.size) (Draws.tuple (A := X.A.in1) (I.ok.hd hc) it a nai its.toArray) he ⟨hit, pt⟩ lt ne (by simp [ne, Ne.symm nae]) fun y h' tk hy ho hst hT hsz hk => ?_
    have ey : y = u := by
      have z : its.toArray[i]? = some y := hy
      rw [show its.toArray[i]? = some u by simpa using hu] at z
      exact (Option.some.inj z).symm
    subst ey
    refine ⟨_, rfl, wpAny_letOwnedTupleGo_enum (s := { s with heap := h', toks := tk + 1 }) ho fun h'' he' sb => ?_⟩
    have hT2 : h''.get? s.heap.objs.size = some { cls := .type "tuple", data := .seq #[.int i tk, y] } := (sb.2 _ (Nat.ne_of_gt el)).trans hT
    have new : ObjOk X.prog X.w (upd H s.heap.objs.size (.tup [.int (i : Nat), x])) h'' s.heap.objs.size (.tup [.int (i : Nat), x]) :=
      ⟨by show 2 ≤ sizeLine; decide, [.int i tk, y], .cons ⟨_, rfl⟩ (.cons ru .nil), ⟨_, hT2, rfl, _, rfl⟩⟩
    have I1 : Inv X pins σ (upd H s.heap.objs.size (.tup [.int (i : Nat), x])) { s with heap := h'', toks := tk + 1 } :=
      I.turnedNew (ch := [e, it]) (fun b ob hb q => (sb.2 b (fun z => hb (by simp [z]))).trans (hk b ob (fun z => hb (by simp [z])) (fun z => hb (by simp [z])) q)) hf (Nat.le_refl _) new
    refine ⟨.ref s.heap.objs.size, _, I1, rfl, ⟨_, x, rfl, I.hok.fresh (Nat.le_refl _), rfl, fun ys hy => by rw [I.tuple_inj hy hq]; exact hx⟩, ⟨⟨y, ?_⟩, hst.1.at fun o q => (sb.2 it (Ne.symm ne)).trans q, ne, nai, nae⟩, fun b hb => ?_⟩
    · rw [show ((i + 1 : Nat) : Int) = (i : Int) + 1 by omega]
      exact he'
    · have bl : b < s.heap.objs.size := by
        rcases (show b = e ∨ b = it by simpa using hb) with z | z
        · rw [z]; exact el
        · rw [z]; exact il
      rw [upd_ne (Nat.ne_of_lt bl)]
      exact (hf b hb).1
  done := by
    intro X hP hw hK hc i pins s σ H E I hf st hg
    subst hP hw hK
    obtain ⟨⟨old, he⟩, hit, ne, nai, nae⟩ := st
    obtain ⟨xs, hq, hx⟩ := hg
    obtain ⟨its, rv, p, _⟩ := I.tuple hq
    obtain ⟨f0, f1, f2, f3, f4, f5⟩ := hf it (by simp)
    have hl := rv.length
    have pt : s.heap.IsTuple a its.toArray := p
    have hst : s.heap.IsTupleIter it a its.toArray.size ∧ s.heap.IsTuple a its.toArray := ⟨by rw [show its.toArray.size = i by rw [List.size_toArray]; omega]; exact hit, pt⟩
    exact wpAny_pyNext_enum_endD (n := its.toArray.size) (Draws.tuple (A := X.A.in1) (I.ok.hd hc) it a nai its.toArray) he hst fun h' eb => ⟨rfl, I.turned (t' := s.toks) (fun b o hb q => eb b o hb q) f0 f1 f3 f4 f5⟩
  self := fun A i s Q E st h => let ⟨⟨_, he⟩, _⟩ := st; wpAny_pyIter_enum he h
def iEnumT (K : PySem.W.Frag) (ta : TA) : TI := fun σ H R => ta σ H fun vs H1 => ∃ a xs, vs = [.ref a] ∧ SqT K H1 a xs ∧ R (IteT K a) H1
theorem pi_enumT {X : Cx} {e : Expr} {ta : TA} {p pos tpos : Pos} {elts : List Expr} {kk : Nat} (hg : Gl X "enumerate") (hm : X.mg "enumerate" = none) (ha : PA X [e] ta) (hs : starEach [e] X.env = [(false, eval e X.env)] := by rfl) :
    PI X (.Tuple elts kk tpos) (.Call (.Name "enumerate" p) [e] [] pos) (iEnumT X.K ta) := by
  refine ⟨fun pins s σ H R I h => ?_⟩
  refine Call_ (ld_blt I hg hm boot_enumerate (PyProof.Rows.callWith_type1 (thn (ha.run pos pins s σ H _ I h) fun us s1 ⟨vs, H1, I1, r1, q1⟩ => ?_) hs rfl))
  obtain ⟨a, xs, ex, hq, q⟩ := q1
  subst ex
  cases r1 with
  | cons r rr =>
    cases rr
    cases r
    obtain ⟨its, rv, p', _⟩ := I1.tuple hq
    have pt : s1.heap.IsTuple a its.toArray := p'
    have al : a < s1.heap.objs.size := by obtain ⟨_, z, _⟩ := pt; exact Heap.lt_size z
    refine enum_tuple pt fun h' he hit hk => wpAny_pyIter_enum he ?_
    have I2 : Inv X pins σ H1 { s1 with heap := h' } := I1.kept (t' := s1.toks) hk
    refine ⟨s1.heap.objs.size + 1, [s1.heap.objs.size + 1, s1.heap.objs.size], _, _, H1, rfl, I2, turn_enumT a (s1.heap.objs.size + 1) s1.heap.objs.size, ⟨⟨.none, he⟩, hit, Nat.succ_ne_self _, Nat.ne_of_lt al, Nat.ne_of_lt (Nat.lt_succ_of_lt al)⟩, fun b hb => ?_, q⟩
    have le : s1.heap.objs.size ≤ b := by
      rcases (show b = s1.heap.objs.size + 1 ∨ b = s1.heap.objs.size by simpa using hb) with z | z
      · rw [z]; exact Nat.le_add_right _ _
      · rw [z]; exact Nat.le_refl _
    exact I1.fpOk le (I1.hok.fresh le)
end Kd

-- ===== KS11 =====
set_option Elab.async false
set_option linter.all false
set_option maxRecDepth 100000
set_option maxHeartbeats 4000000
namespace Kd
open PySem L2 PyProof.Rows PySem.Spec PySem.W Builtin
/-! ### x != y where the class has __eq__ alone -/
section
variable {prog : Program} {w : World} {A : Around} {E : Value → Shared → Prop} {s : Shared} {K : Frag} {x C f : Addr} {ox : Obj} {od : Option Obj}
theorem bound_slot {M : Model} {id : String} {name : Str} {args : List Value} {Q : Option Value → Shared → Prop} (X : K.In s.heap) (I : InstAt s.heap x ox C od) (hs : findIn K (.ref C) name = some (some (.builtin id)))
    (hb : bindSpecial (.builtin id) (.ref x) = pure (.builtin id, [.ref x])) (h : wpAny M A (call (.builtin id) (.ref x :: args)) (fun v => Q (some v)) E s) : wpAny M A (callSpecialIfBound? (.ref x) name args) Q E s := by
  simp only [callSpecialIfBound?, bindSpecialIfBound?]
  refine wpAny_holding (wpAny_bind (wpAny_bind (wpAny_bind (I.type.here ((looks_findIn X hs).here ?_)))))
  simp only [hb]
  have fin : wpAny M A (call (.builtin id) ([.ref x] ++ args) >>= fun v => pure (some v)) Q E s := wpAny_bind (wpAny_mono h (fun v s' h' => wpAny_pure h') fun _ _ h' => h')
  refine wpAny_bind (wpAny_askSetting (wpAny_ite ?_))
  split
  · exact wpAny_bind (wpAny_pure (wpAny_pure fin))
  · exact wpAny_tryCatch (wpAny_bind (wpAny_pure (wpAny_pure fin)))
theorem obj_ne {y : Addr} {Q : Fin → Shared → Prop} (X : K.In s.heap) (I : InstAt s.heap x ox C od) (hs : findIn K (.ref C) "__eq__" = some (some (.ref f))) (hf : isFn K (.ref f) = true) (hu : A.units < cLine)
    (h : wpAny (model prog w) A (call (.ref f) [.ref x, .ref y]) (fun v s' => ∃ b, v = .bool b ∧ Q (.done (.ret (.bool (!b)))) s') E s) : wpAny (model prog w) A (Builtin.«object.__ne__» ⟨[.ref x, .ref y], []⟩) Q E s := by
  unfold Builtin.«object.__ne__»
  repeat (first
    | with_reducible refine wpAny_cRoomFor hu ?_
    | (refine wpAny_bind (m := callSpecialIfBound? (.ref x) (Str.ofString "__eq__") [.ref y]) (ifBound_K X I hs hf (wpAny_mono h (fun r s' hr => by
          obtain ⟨b, rfl, hq⟩ := hr
          repeat (first | exact hq | exact wpAny_pure hq | exact wpAny_truthy_bool hq | (refine wpAny_bind (m := truthy (.bool _)) (wpAny_truthy_bool ?_)) | wp_step)) fun _ _ e => e)))
    | wp_step)
theorem try_ne {y : Addr} {Q : Option Value → Shared → Prop} (X : K.In s.heap) (I : InstAt s.heap x ox C od) (hs : findIn K (.ref C) "__eq__" = some (some (.ref f))) (hf : isFn K (.ref f) = true)
    (hn : findIn K (.ref C) "__ne__" = some (some (.builtin "object.__ne__"))) (ho : subIn K (.ref C) (.type "object") = some true) (hu : A.units + 1 < cLine)
    (h : wpAny (model prog w) A.in1 (call (.ref f) [.ref x, .ref y]) (fun v s' => ∃ b, v = .bool b ∧ Q (some (.bool (!b))) s') E s) : wpAny (model prog w) A (tryCompare (.ref x) "__ne__" (.ref y)) Q E s := by
  simp only [tryCompare]
  refine wpAny_bind (bound_slot X I hn (PySem.F.cmp_object.ne.bind _) (wpAny_call (codeAny_call_builtin PySem.F.cmp_object.ne.plain PySem.F.cmpEntry_ne
    (check_slot PySem.F.cmpKind_ne PySem.F.cmpSplit_ne (I.type.andThen (looks_subIn X ho)) (PySem.F.cmpArgs_ne _ _) (obj_ne (A := A.in1) X I hs hf hu (wpAny_mono h (fun v s' hv => ?_) fun _ _ e => e))))))
  obtain ⟨b, rfl, hq⟩ := hv
  first | exact ⟨b, rfl, wpAny_pure hq⟩ | exact ⟨b, rfl, wpAny_pure (wpAny_pure hq)⟩ | exact ⟨b, rfl, hq⟩
theorem ne_own {m : Str → Option Value} {h₀ : Heap} {L y : Addr} {oy : Obj} {ody : Option Obj} {Q : Value → Shared → Prop} (X₀ : K.In h₀) (F : Fr h₀ L s.heap m) (I : InstAt s.heap x ox C od) (J : InstAt s.heap y oy C ody) (hs : findIn K (.ref C) "__eq__" = some (some (.ref f))) (hf : isFn K (.ref f) = true)
    (hn : findIn K (.ref C) "__ne__" = some (some (.builtin "object.__ne__"))) (ho : subIn K (.ref C) (.type "object") = some true) (hu : A.units + 1 < cLine)
    (h : wpAny (model prog w) A.in1 (call (.ref f) [.ref x, .ref y]) (fun v s' => ∃ b, v = .bool b ∧ Q (.bool (!b)) s') E s) : wpAny (model prog w) A (compareOp .NotEq (.ref x) (.ref y)) Q E s := by
  have X := X₀.keeps F.keep
  show wpAny _ _ (richCompare .NotEq (.ref x) (.ref y)) Q E s
  unfold richCompare
  simp only [oneThing_ref]
  refine wpAny_holding (wpAny_bind (wpAny_cRoomFor (Nat.lt_of_succ_lt hu) ?_))
  rw [cmpInfo_NotEq]
  dsimp only
  refine wpAny_bind (I.type.here (wpAny_bind (J.type.here ?_)))
  rw [show (Value.ref C != Value.ref C) = false from by simp]
  simp only [Bool.false_eq_true, if_false]
  refine wpAny_bind (wpAny_pure ?_)
  simp only [Bool.false_eq_true, if_false]
  refine wpAny_bind (try_ne X I hs hf hn ho hu (wpAny_mono h (fun v s' hv => ?_) fun _ _ e => e))
  obtain ⟨b, rfl, hq⟩ := hv
  first | exact ⟨b, rfl, wpAny_pure hq⟩ | exact ⟨b, rfl, wpAny_pure (wpAny_pure hq)⟩
end
/-- x != y, both of the class at C, whose __eq__ is at g -/
def rNeIns (C : Addr) (sp : Sp) (E : XK) : R2 := fun x y H Q => ∃ a b dx dy fs gs, x = .ref a ∧ y = .ref b ∧ H a = some (.ins C dx fs) ∧ H b = some (.ins C dy gs) ∧ sp [x, y] H (fun v H' => ∃ k, v = .bl k ∧ Q (.bl (!k)) H') E
section
variable {X : Cx} {CX : CXT} {n : Nat} {C g : Addr} {sp : Sp} {E : XK}
theorem op_neIns (hs : findIn X.K (.ref C) "__eq__" = some (some (.ref g))) (hf : isFn X.K (.ref g) = true) (hn : findIn X.K (.ref C) "__ne__" = some (some (.builtin "object.__ne__"))) (ho : subIn X.K (.ref C) (.type "object") = some true)
    (F : FnR X.prog X.w X.K X.mg X.base CX n g sp) (hr : Room (n + 1) X.A) (hx : Passes CX X E) : OpR X (compareOp .NotEq) (rNeIns C sp E) := by
  intro pins s σ H x y v u Q I rx ry h
  obtain ⟨a, b, dx, dy, fs, gs, rfl, rfl, ha, hb, q⟩ := h
  cases (show v = Value.ref a from rx)
  cases (show u = Value.ref b from ry)
  obtain ⟨mA, J, _⟩ := ins_get I.hok ha
  obtain ⟨mB, J', _⟩ := ins_get I.hok hb
  obtain ⟨od, J, _⟩ := J.look
  obtain ⟨od', J', _⟩ := J'.look
  obtain ⟨m, hF⟩ := I.fr
  refine ne_own I.ok.mod.kin hF J J' hs hf hn ho (by have := hr.un; omega) ?_
  refine wpAny_mono (wpAny_call (SlX.run_at (us := [.ref a, .ref b]) (ws := [.ref a, .ref b]) F hr.in1 I.env0.in1 hx I (.cons rfl (.cons rfl .nil)) q)) (fun r s' z => ?_) fun _ _ x => x
  obtain ⟨z', H', I', rz, k, ek, qz⟩ := z
  subst ek
  cases (show r = Value.bool k from rz)
  exact ⟨k, rfl, .bl (!k), H', I', rfl, qz⟩
end
end Kd

-- ===== KS12 =====
set_option Elab.async false
set_option linter.all false
set_option maxRecDepth 100000
set_option maxHeartbeats 4000000
namespace Kd
open PySem L2 PyProof.Rows PySem.Spec PySem.W PySem.Calls
/-! ### sorted(d), the keys being tuples -/
theorem walk_raw {prog : Program} {w : World} {A : Around} {it d : Addr} {od : Obj} {es : Array DictEntry} {ep : Nat} (hh : A.handled = none) (ne : d ≠ it) (hd : od.data = .dict es ep) :
    Walks prog w A it [it, d] [it] es.size (fun i v => ∃ en, es[i]? = some en ∧ v = en.key) (fun i h => h.IsKeyIter it d i es.size ep ∧ h.get? d = some od) where
  sub := fun b hb => by simp at hb; simp [hb]
  frame := fun _ _ _ st hk => ⟨st.1.at fun o e => hk it (by simp) o e, hk d (by simp) _ st.2⟩
  item := fun i s Q E hi st hQ => by
    obtain ⟨en, hx⟩ : ∃ en, es[i]? = some en := ⟨es[i], by simp [hi]⟩
    refine next_key_item st.1 st.2 hd rfl hx fun h' st' sb => hQ en.key h' s.toks ⟨en, hx, rfl⟩ ⟨st', (sb.2 d ne).trans st.2⟩ fun b o hb e => (sb.2 b fun z => hb (by simp [z])).trans e
  done := fun s Q E st hQ => next_key_end hh st.1 st.2 hd rfl (Nat.le_refl _) fun h' eb => hQ h' s.toks fun b o hb e => eb b o (fun z => hb (by simp [z])) e
  self := fun _ _ _ _ st hQ => wpAny_pyIter_keyiter st.1 hQ
theorem src_raw {prog : Program} {w : World} {d : Addr} {od : Obj} {es : Array DictEntry} {ep : Nat} (lo : (d == sysModules) = false) (ex : od.ExactDict) (hd : od.data = .dict es ep) :
    KdlSrc prog w "dict" d d es.size (fun i v => ∃ en, es[i]? = some en ∧ v = en.key) (fun h => h.get? d = some od) where
  type := fun _ hm => ⟨od, hm, ex.1⟩
  there := fun _ hm => ⟨Heap.lt_size hm, Heap.lt_size hm⟩
  keep := fun _ _ hm hk => hk d (.inl rfl) _ hm
  notList := by decide
  notTuple := by decide
  hint := fun _ _ _ _ hm hq => kdl_hint_dict ⟨od, hm, ex.1⟩ hq
  iter := fun _ _ hh hm => ⟨_, _, (fun _ _ hq => iter_keys lo hm ex hd hq), walk_raw hh (Nat.ne_of_lt (Heap.lt_size hm)) hd, ⟨⟨_, Heap.get?_push_size _ rfl, rfl, rfl⟩, Heap.get?_push_of_some _ hm⟩⟩
/-- one for each place -/
theorem pick_each {α : Type} (R : Nat → α → Prop) : ∀ n : Nat, (∀ i, i < n → ∃ x, R i x) → ∃ L : List α, L.length = n ∧ ∀ i x, L[i]? = some x → R i x
  | 0, _ => ⟨[], rfl, fun i x e => by simp at e⟩
  | n + 1, h => by
    obtain ⟨L, l, g⟩ := pick_each R n fun i hi => h i (by omega)
    obtain ⟨y, hy⟩ := h n (by omega)
    refine ⟨L ++ [y], by rw [List.length_append, l]; rfl, fun i x e => ?_⟩
    rcases Nat.lt_or_ge i L.length with lt | ge
    · rw [List.getElem?_append_left lt] at e
      exact g i x e
    · rw [List.getElem?_append_right ge] at e
      have ei : i - L.length = 0 := by
        have z := (List.getElem?_eq_some_iff.mp e).1
        simp at z
        omega
      rw [ei] at e
      have e2 : y = x := Option.some.inj e
      rw [← e2, show i = n by omega]
      exact hy
def rSortD : List V → Hp → VK → Prop := fun vs H Q => ∃ (a : Addr) (kvs : List (List Key × V)), vs = [V.ref a] ∧ H a = some (.dT kvs) ∧ kvs.length < 64 ∧ AllAlike (kvs.map fun p => tD p.1) ∧ Sortable (kvs.map fun p => tD p.1) ∧
  ∀ (L : List (Addr × List Key)) p, L.map Prod.snd = kvs.map Prod.fst → (∀ q ∈ L, H q.1 = some (.tup (q.2.map kV))) → H p = none → Q (.ref p) (upd H p (.lst ((L.mergeSort (dataLe false fun q => tD q.2)).map fun q => V.ref q.1)))
section
variable {X : Cx}
theorem cr_sortD (hc : X.calm = true) (hu : X.A.units + 64 < cLine) : CallR X (.builtin "sorted") rSortD := by
  intro pins s σ H vs us Q I r h
  obtain ⟨a, kvs, rfl, ha, less, al, so, q⟩ := h
  rw [Vals.ref1 r]
  obtain ⟨od, J⟩ := I.lock ha trivial
  obtain ⟨lo, hod, hex, es, ep, hdt, hsz, ent⟩ := J.frzT upd_same
  obtain ⟨L, ll, hL⟩ := pick_each (fun i (q : Addr × List Key) => (∃ v, kvs[i]? = some (q.2, v)) ∧ (∃ en, es[i]? = some en ∧ en.key = Value.ref q.1) ∧ H q.1 = some (.tup (q.2.map kV))) kvs.length fun i hi => by
    obtain ⟨⟨k, v⟩, hkv⟩ : ∃ p, kvs[i]? = some p := ⟨kvs[i], List.getElem?_eq_getElem hi⟩
    obtain ⟨en, b, hen, hkey, hb⟩ := ent i k v hkv
    refine ⟨(b, k), ⟨v, hkv⟩, ⟨en, hen, hkey⟩, ?_⟩
    rw [upd_ne fun z => by rw [z, upd_same] at hb; cases hb] at hb
    exact hb
  have keys : L.map Prod.snd = kvs.map Prod.fst := by
    refine List.ext_getElem? fun i => ?_
    rw [List.getElem?_map, List.getElem?_map]
    rcases Nat.lt_or_ge i L.length with lt | ge
    · obtain ⟨⟨v, e⟩, _⟩ := hL i L[i] (List.getElem?_eq_getElem lt)
      rw [List.getElem?_eq_getElem lt, e]
      rfl
    · rw [List.getElem?_eq_none ge, List.getElem?_eq_none (by omega)]
      rfl
  have tups : ∀ q ∈ L, H q.1 = some (.tup (q.2.map kV)) := fun q m => by
    obtain ⟨i, e⟩ := List.mem_iff_getElem?.mp m
    exact (hL i q e).2.2
  have en2 : (L.map fun q => tD q.2) = kvs.map fun p => tD p.1 := by
    have z := congrArg (List.map tD) keys
    rw [List.map_map, List.map_map] at z
    exact z
  refine Calls.call_function_entry kind_sorted plain_sorted entry_sorted (args_sorted1 _) ?_
  unfold Builtin.«sorted»
  refine wpAny_bind (m := checkCount "sorted" 1 1 _) (wpAny_pure ?_)
  refine wpAny_bind (kdu_collect (A := X.A.in1) (src_raw lo hex hdt) (I.ok.hd hc) hod (by rw [hsz, sizeLine_eq]; omega) fun h' tk acc hk hacc => ?_)
  have I1 : Inv X pins σ H { s with heap := h', toks := tk } := I.kept hk
  have ev : acc.toList = L.map fun q => Value.ref q.1 := by
    refine List.ext_getElem? fun i => ?_
    rw [List.getElem?_map]
    have al : acc.size = L.length := by rw [hacc.1, hsz, ll]
    rcases Nat.lt_or_ge i L.length with lt | ge
    · obtain ⟨v, hv⟩ : ∃ v, acc[i]? = some v := ⟨acc[i]'(by omega), by simp [al, lt]⟩
      obtain ⟨en, h1, rfl⟩ := hacc.2 i v hv
      obtain ⟨_, ⟨en', h2, h3⟩, _⟩ := hL i L[i] (List.getElem?_eq_getElem lt)
      rw [h1] at h2
      cases h2
      rw [Array.getElem?_toList, hv, h3, List.getElem?_eq_getElem lt]
      rfl
    · rw [List.getElem?_eq_none ge, List.getElem?_eq_none (by rw [Array.length_toList]; omega)]
      rfl
  rw [ev]
  refine wpAny_bind (wpAny_newList ?_ (by rw [List.length_map, sizeLine_eq]; omega))
  have oL : (h'.push (seqObj "list" (L.map fun q => Value.ref q.1).toArray 0)).get? h'.objs.size = some (seqObj "list" (L.map fun q => Value.ref q.1).toArray 0) := Heap.get?_push_size _ rfl
  have each : ∀ (R : Value → Addr × List Key → Prop) (M : List (Addr × List Key)), (∀ q ∈ M, R (.ref q.1) q) → EachIs R (M.map fun q => Value.ref q.1) M := by
    intro R M
    induction M with
    | nil => exact fun _ => .nil
    | cons x M ih => exact fun g => .cons (g x List.mem_cons_self) (ih fun y m => g y (List.mem_cons_of_mem _ m))
  refine wpAny_bind (wpAny_holding (list_sort_data (s := { s with heap := h'.push (seqObj "list" (L.map fun q => Value.ref q.1).toArray 0), toks := tk }) (R := fun v q => v = Value.ref q.1) (enc := fun q : Addr × List Key => tD q.2) (bs := L) oL (each _ L fun q _ => rfl)
    (each _ L fun q m => ⟨[], PyProof.Rows.Reads.keeps (fun b u e => Heap.get?_push_of_some _ e) (key_raw I1 (SqT.of (tups q m))).2, fun z => nomatch z⟩)
    (by rw [en2]; exact al) ?_ (by rw [sizeLine_eq]; omega) (fun b _ => by have z := tD_depth b.2; have y : X.A.in1.units ≤ X.A.units + 32 := (by simp only [Around.in1]; omega); omega) fun out lo2 eo => ?_))
  · rw [← en2] at so
    rcases so with g | g
    · exact .inl fun d m => g d m
    · exact .inr fun d m => g d m
  · have eout : ∀ {o : List Value} {M : List (Addr × List Key)}, EachIs (fun v q => v = Value.ref q.1) o M → o = M.map fun q => Value.ref q.1 := by
      intro o M z
      induction z with
      | nil => rfl
      | cons e _ ih => rw [e, ih]; rfl
    have eo' := eout eo
    subst eo'
    obtain ⟨c, hc2⟩ := sortedHeap_at (vs := L.map fun q => Value.ref q.1) (out := (List.toArray ((L.mergeSort (dataLe false fun q => tD q.2)).map fun q => Value.ref q.1))) oL
    have kp2 : ∀ b u, h'.get? b = some u → (sortedHeap (h'.push (seqObj "list" (L.map fun q => Value.ref q.1).toArray 0)) h'.objs.size (L.map fun q => Value.ref q.1) (List.toArray ((L.mergeSort (dataLe false fun q => tD q.2)).map fun q => Value.ref q.1))).get? b = some u := fun b u z => by
      have lt := Heap.lt_size z
      rw [sortedHeap_old (Nat.ne_of_lt lt) (by rw [size_push']; exact Nat.lt_succ_of_lt lt)]
      exact Heap.get?_push_of_some _ z
    have lz : ((L.mergeSort (dataLe false fun q => tD q.2)).map fun q => V.ref q.1).length ≤ sizeLine := by
      rw [List.length_map, List.length_mergeSort, sizeLine_eq]
      omega
    refine wpAny_pure ⟨_, rfl, ?_⟩
    exact ⟨.ref h'.objs.size, upd H h'.objs.size (.lst ((L.mergeSort (dataLe false fun q => tD q.2)).map fun q => V.ref q.1)), I1.laid (t' := tk) kp2 (Nat.le_refl _) ⟨lz, _, c, refs_vals Prod.fst _, hc2⟩, rfl, q L _ keys tups (I1.hok.fresh (Nat.le_refl _))⟩
end
end Kd

-- ===== KS13 =====
set_option Elab.async false
set_option linter.all false
set_option maxRecDepth 100000
set_option maxHeartbeats 4000000
namespace Kd
open PySem L2 PyProof.Rows PySem.Spec ClX
/-! ### C.m(k = v), m a classmethod -/
def tCMethK (C : Addr) (sp : Sp) (gV : List V → List V → List V) (E : XK) (ta : TE) (tk : TA) : TE := fun σ H Q => ta σ H fun x H1 => x = .ref C ∧ tk σ H1 fun zs H2 => sp (gV [.ref C] zs) H2 Q E
section
variable {X : Cx} {CX : CXT} {k : Nat} {C p g : Addr} {mc : Value} {fd : FuncData} {ps ks : List Str} {sp : Sp} {E : XK} {o : Expr} {kws : List Keyword} {m : Str} {pos apos : Pos} {ta : TE} {tk : TA} {pl : Sem Bool} {gg : List Value → List Value → List Value} {gV : List V → List V → List V}
theorem pe_cmethK (he : PE X o ta) (r : CRead X.K C mc) (c : CMet X.K C mc m p g) (F : FnOk X.prog X.w X.K X.mg X.base CX k g fd ps sp) (hr : Room k X.A) (hb : KBinds X.K fd ps ks gg gV) (hx : Passes CX X E) (hkw : PK X kws tk)
    (hall : (backToKw pos (keywordEach kws X.env)).all (·.1.isSome) = true := by rfl) (hks : (backToKw pos (keywordEach kws X.env)).filterMap (·.1) = ks := by rfl)
    (hpl : ((backTo pos (starEach [] X.env)).any (·.1) || (backToKw pos (keywordEach kws X.env)).any (·.1.isNone)) = false := by rfl)
    (ht : eval (.Call (.Attribute o m apos) [] kws pos) X.env = (do
      let ov ← eval o X.env
      standAt apos.atName
      let (f, first) ← holding [ov] (getMethod ov m pl)
      callWith pos f first (backTo pos (starEach [] X.env)) (backToKw pos (keywordEach kws X.env))) := by rfl) :
    PE X (.Call (.Attribute o m apos) [] kws pos) (tCMethK C sp gV E ta tk) := by
  refine ⟨fun pins s σ H Q I h => ?_⟩
  refine PySem.W.methodCall_KW (pl := pl) (thn (he.run pins s σ H _ I h) fun u s1 ⟨x, H1, I1, rx, ex, q⟩ => ?_) ht
  subst ex
  obtain rfl : u = Value.ref C := rx
  refine getmethcm_ok I1 r c fun s2 I2 => ?_
  refine PySem.W.callWith_of hpl (PySem.W.keeps_M c.fi) (evalArgs_kw2_nil hall (thn (hkw.run pos _ s2 σ H1 _ I2 q) fun ws s3 ⟨zs, H2, I3, rz, q2⟩ => ⟨⟨pin_at I3, I3.kIn⟩, ?_⟩))
  rw [hks]
  have r2 := hb.rel (.cons (show RelV (.ref C) (.ref C) from rfl) .nil : Vals [.ref C] [.ref C]) rz
  have hl : (gg [.ref C] ws).length = ps.length := by rw [← r2.length]; exact F.len _ _ _ _ q2
  have z : wpAny (model X.prog X.w) X.A (call (.ref s1.heap.objs.size) [] (ks.zip ws)) (EP X ((s1.heap.objs.size, PySem.W.methodObj (.ref g) (.ref C)) :: pins) σ Q) X.xe s3 := by
    refine wpAny_call (PySem.W.method_call (pin_at I3) (codeAny_mono (F.run X.A X.stack s3 H2 ⟨[.ref C], ks.zip ws⟩ (gg [.ref C] ws) (gV [.ref C] zs) Q E hr I3.env0 (hb.to s3 [.ref C] ws I3.kIn hl) r2 q2) fun r s' hq => ?_))
    cases r with
    | error e => exact (hx _ σ H2 s3 e s' I3 hq)
    | ok fl =>
      cases fl with
      | ret u => exact I3.after hq
      | next => exact False.elim hq
      | brk => exact False.elim hq
      | cont => exact False.elim hq
  exact thn z fun _ _ y => unpinE y
end
end Kd

-- ===== K4K =====
set_option Elab.async false
set_option linter.all false
set_option maxRecDepth 100000
set_option maxHeartbeats 4000000
namespace My
open PySem L2 PyProof.Rows PySem.Spec Kd TL StX ClX
/-! ### kinds' data compared -/
theorem lay_steps {n : Nat} : ∀ st : List Stp, (∀ x ∈ st, StpOk n x) → PyData.canLayAll0 (st.map stepD) = true
  | [], _ => by simp only [List.map_nil, PyData.canLayAll0]
  | x :: st, h => by
    have h0 := h x List.mem_cons_self
    have h1 := wrd_ok h0.w1
    have h2 := wrd_ok h0.w2
    simp only [List.map_cons, stepD, PyData.canLayAll0, PyData.canLay0, h1, h2, lay_steps st fun y m => h y (List.mem_cons_of_mem _ m), Bool.and_self]
theorem lay_states {n : Nat} : ∀ ss : List (List Stp), (∀ st ∈ ss, StOk n st) → PyData.canLayAll0 (ss.map stateD) = true
  | [], _ => by simp only [List.map_nil, PyData.canLayAll0]
  | st :: ss, h => by
    have h0 := lay_steps st (h st List.mem_cons_self).all
    simp only [List.map_cons, stateD, PyData.canLayAll0, PyData.canLay0, h0, lay_states ss fun y m => h y (List.mem_cons_of_mem _ m), Bool.and_self]
theorem deep_steps : ∀ st : List Stp, PyData.depthAll (st.map stepD) ≤ 2
  | [] => by simp only [List.map_nil, PyData.depthAll]; omega
  | x :: st => by
    have h := deep_steps st
    simp only [List.map_cons, stepD, PyData.depthAll, PyData.depth]
    omega
theorem deep_states : ∀ ss : List (List Stp), PyData.depthAll (ss.map stateD) ≤ 3
  | [] => by simp only [List.map_nil, PyData.depthAll]; omega
  | st :: ss => by
    have h1 := deep_steps st
    have h := deep_states ss
    simp only [List.map_cons, stateD, PyData.depthAll, PyData.depth]
    omega
theorem lay_kind {ss : List (List Stp)} (h : KOk ss) : PyData.canLay0 (statesD ss) = true := by
  unfold statesD
  simp only [PyData.canLay0]
  exact lay_states ss h.all
theorem deep_kind (ss : List (List Stp)) : PyData.depth (statesD ss) ≤ 4 := by
  have h := deep_states ss
  unfold statesD
  simp only [PyData.depth]
  omega
theorem shaped_kind {ss : List (List Stp)} (h : KOk ss) : SeqAt.shaped (statesD ss) = true := by
  unfold SeqAt.shaped
  rw [Bool.and_eq_true]
  have z := deep_kind ss
  exact ⟨lay_kind h, decide_eq_true (by omega)⟩
theorem eqv_map {α : Type} [DecidableEq α] (f : α → PyData) (h : ∀ x y, PyData.eqv (f x) (f y) = decide (x = y)) : ∀ l m : List α, PyData.eqvAll (l.map f) (m.map f) = decide (l = m)
  | [], [] => by simp [PyData.eqvAll]
  | [], _ :: _ => by simp [PyData.eqvAll]
  | _ :: _, [] => by simp [PyData.eqvAll]
  | x :: l, y :: m => by
    simp only [List.map_cons, PyData.eqvAll, h, eqv_map f h l m, List.cons.injEq]
    exact (Bool.decide_and _ _).symm
theorem eqv_step (x y : Stp) : PyData.eqv (stepD x) (stepD y) = decide (x = y) := by
  obtain ⟨a, b, i⟩ := x
  obtain ⟨c, d, j⟩ := y
  unfold stepD
  simp only [PyData.eqvAll, PyData.eqv, eqv_str, Prod.mk.injEq, Bool.and_true, Bool.decide_and]
  first | rfl | simp
theorem eqv_state (x y : List Stp) : PyData.eqv (stateD x) (stateD y) = decide (x = y) := by
  unfold stateD
  rw [← eqv_map stepD eqv_step]
  simp only [PyData.eqv]
theorem eqv_kind (x y : List (List Stp)) : PyData.eqv (statesD x) (statesD y) = decide (x = y) := by
  unfold statesD
  rw [← eqv_map stateD eqv_state]
  simp only [PyData.eqv]
/-- what the module's class has -/
structure KCls (K : PySem.W.Frag) (C : Addr) : Prop where
  cl : Cls K C
  n1 : NoAttr K C "states"
  n2 : NoAttr K C "moves"
  ha : PySem.W.findIn K (.ref C) "__class__" = some (some (.builtin "object.__class__"))
  hn : PySem.W.specialIn K (.builtin "object.__class__") "__get__" = some (some (.builtin "getset_descriptor.__get__"))
  htk : PySem.W.takesIn K (.builtin "object.__class__") = some true
  hm : PySem.W.mroIn K C (.type "object") = some true
  one : PySem.W.kitOne K (.ref C) (.ref C) = some true
/-! ### numbers as texts -/
def numT (i : Int) : Str := (toString i : String)
theorem num_tl (n : Nat) : tl (numT n) = numL n := tl_num n
theorem num_len {i : Int} (h0 : 0 ≤ i) (h1 : i < 100) : (numT i).length ≤ 2 := by
  obtain ⟨n, rfl⟩ := Int.eq_ofNat_of_zero_le h0
  rw [len_tl, num_tl]
  exact numL_len (by decide) (by omega)
theorem num_log {i : Int} (h0 : 0 ≤ i) (h1 : i < 100) : i.natAbs.log2 < 1920 := by
  rcases Nat.eq_zero_or_pos i.natAbs with e | e
  · rw [e]
    decide
  · have h : i.natAbs < 2 ^ 7 := by omega
    exact Nat.lt_trans ((Nat.log2_lt (by omega)).mpr h) (by decide)
end My

-- ===== K4Q =====
set_option Elab.async false
set_option linter.all false
set_option maxRecDepth 100000
set_option maxHeartbeats 4000000
namespace My
open PySem L2 PyProof.Rows PySem.Spec
/-! ### a def's promise under a condition on what is around -/
structure FnG (c : Bool) (G : Around → Prop) (P : Program) (w : World) (K : PySem.W.Frag) (mg : Str → Option Value) (base : Heap) (CX : CXT) (k : Nat) (f : Addr) (fd : FuncData) (ps : List Str) (sp : Sp) : Prop where
  len : ∀ vs H Q E, sp vs H Q E → vs.length = ps.length
  run : ∀ (A : Around) (outer : List Env) (s : Shared) (H : Hp) (args : Args) (us : List Value) (vs : List V) (Q : VK) (E : XK), (c = true → A.handled = none) → G A → L2H.RoomH k A →
    Env0 P w K mg base A outer s H → BindsTo s fd args (ps.zip us) → Vals vs us → sp vs H Q E → codeAny (model P w) A (.call (.ref f) args) (CR CX outer P w H s Q E) s
def cxG (c : Bool) (CX : CXT) (P : Program) (w : World) (K : PySem.W.Frag) (mg : Str → Option Value) (base : Heap) (N : List Str) (qual : Str) (scope : Scope) (f : Addr) (cd : Value) (A : Around) (outer : List Env) (s : Shared) (H : Hp) (E : XK) : Cx :=
  { cxOf CX P w K mg base N qual scope f cd A outer s H E with calm := c }
section
variable {c : Bool} {G : Around → Prop} {CX : CXT} {P : Program} {w : World} {K : PySem.W.Frag} {mg : Str → Option Value} {base : Heap} {N ps : List Str} {qual : Str} {scope : Scope} {f : Addr} {cd : Value} {A : Around} {outer : List Env} {s s1 : Shared} {H : Hp} {E : XK}
theorem inv_startG {us : List Value} {vs : List V} (S : FnScope N ps scope) (hd : c = true → A.handled = none) (e0 : Env0 P w K mg base A outer s H) (hl : vs.length = ps.length) (r : Vals vs us)
    (x : InCallC s s.heap.objs.size (bindL (envOfC qual scope s.heap.objs.size f cd).kindOf (ps.zip us) fun _ => none) (cellsFrom (s.heap.objs.size + 1) scope.names []) (bindC (envOfC qual scope s.heap.objs.size f cd).kindOf (ps.zip us) fun _ => none) s1) :
    Inv (cxG c CX P w K mg base N qual scope f cd A outer s H E) [] (start N vs) H s1 := by
  have J : Inv (cxOf CX P w K mg base N qual scope f cd { A with handled := none } outer s H E) [] (start N vs) H s1 := inv_start S rfl ⟨e0.frames, e0.mod, e0.bs, e0.bsz, e0.funs, e0.frf, e0.hok, e0.bare⟩ hl r x
  have o := J.ok
  exact ⟨⟨o.mod, o.kind, o.glob, o.blt, o.above, o.inj, o.has, o.cab, hd, Around.frames_deeper e0.frames, o.stk, o.exf, o.bs, o.bsz, o.noex, o.exfs, o.funs, o.frf⟩, J.os, J.bare, J.base, J.loc, J.cell, J.free, J.freeC, J.pin, J.hok, J.len⟩
theorem fn_ofG {k : Nat} {name : Str} {params : Arguments} {body : List Stmt} {dV kV doc pm cdv ct oc : Value} {an od : Option Addr} {osl : Array (Option Value)} {sp : Sp}
    (lk : K.lookup f = some ⟨oc, od, .func (PySem.W.fnOf name qual params body scope dV kV doc pm an cdv ct), osl⟩) (hcd : PySem.W.codeIn K cdv qual = true) (S : FnScope N ps scope) (len : ∀ vs H Q E, sp vs H Q E → vs.length = ps.length)
    (hbody : ∀ (A : Around) (outer : List Env) (s : Shared) (H : Hp) (vs : List V) (Q : VK) (E : XK), (c = true → A.handled = none) → G A → L2H.RoomH k (A.deeper (envOfC qual scope s.heap.objs.size f cdv)) → sp vs H Q E →
      ∃ t, PSs (cxG c CX P w K mg base N qual scope f cdv A outer s H E) body t ∧ t { nx := fun _ H' => Q .non H', rt := Q } (start N vs) H) :
    FnG c G P w K mg base CX (k + 1) f (PySem.W.fnOf name qual params body scope dV kV doc pm an cdv ct) ps sp := by
  refine ⟨len, fun A outer s H args us vs Q E hh hG hr e0 hb r hsp => ?_⟩
  have hl := len _ _ _ _ hsp
  have KX : K.In s.heap := e0.mod.kin.keeps fun b o e => (e0.bs b o e).1
  have lim : s.heap.NoLimit := e0.mod.nolimit.keeps fun b o e => (e0.bs b o e).1
  refine codeAny_call_function hr.depth (KX _ _ lk) rfl S.co S.gen rfl (PySem.W.codeRec_of KX hcd) (hb _ _ _ _ ?_)
  refine wpAny_newFunctionEnv_cells S.kind (fun ⟨n, v⟩ hy => ?_) fun env he s1 x => ?_
  · rcases S.par n (List.of_mem_zip hy).1 with q | q
    · exact .inl q
    · exact .inr ⟨q, PySem.W.cellsFrom_some _ _ _ (.inl q)⟩
  subst he
  refine ⟨lim.keeps x.toInCall.keep, codeAny_func ?_⟩
  obtain ⟨t, ht, hq⟩ := hbody A outer s H vs Q E hh hG (hr.deeper _) hsp
  refine wpAny_mono (ht.run [] s1 (start N vs) H _ (inv_startG S hh e0 hl r x) hq) (fun fl s' hs => ?_) fun e s' hs => hs
  cases fl with
  | ret u =>
    obtain ⟨v, σ', H', J, rv, q⟩ := hs
    exact ⟨v, H', J.os, J.bare, J.base, J.hok, rv, q⟩
  | next =>
    obtain ⟨σ', H', J, q⟩ := hs
    exact ⟨V.non, H', J.os, J.bare, J.base, J.hok, rfl, q⟩
  | brk =>
    obtain ⟨_, _, _, q⟩ := hs
    exact False.elim q
  | cont =>
    obtain ⟨_, _, _, q⟩ := hs
    exact False.elim q
/-- by its body, nothing is raised -/
theorem okG {x : Str} {st : Stmt} {fd : FuncData} {k : Nat} {sp : Sp} (F : Fun K x qual st f fd) (S : FnScope N ps (defScope st)) (len : ∀ vs H Q E, sp vs H Q E → vs.length = ps.length)
    (hbody : ∀ (cdv : Value) (A : Around) (outer : List Env) (s : Shared) (H : Hp) (vs : List V) (Q : VK) (E : XK), (c = true → A.handled = none) → G A → L2H.RoomH k (A.deeper (envOfC qual (defScope st) s.heap.objs.size f cdv)) → sp vs H Q E →
      ∃ t, PSs (cxG c CX P w K mg base N qual (defScope st) f cdv A outer s H E) (defBody st) t ∧ t { nx := fun _ H' => Q .non H', rt := Q } (start N vs) H) : FnG c G P w K mg base CX (k + 1) f fd ps sp := by
  obtain ⟨oc, od, kV, doc, pm, an, cdv, ct, osl, rfl, lk, hcd⟩ := F.ex
  exact fn_ofG lk hcd S len fun A outer s H vs Q E hh hG hr hsp => hbody cdv A outer s H vs Q E hh hG hr hsp
end
section
variable {c : Bool} {G : Around → Prop} {X : Cx} {CX : CXT} {k : Nat} {f : Addr} {fd : FuncData} {ps : List Str} {sp : Sp} {x : Str} {p pos : Pos} {e : Expr} {es : List Expr} {t : TA} {E : XK}
theorem pe_callG (F : FnG c G X.prog X.w X.K X.mg X.base CX k f fd ps sp) (hh : c = true → X.A.handled = none) (hG : G X.A) (hr : L2H.RoomH k X.A) (hg : Gl X x) (hm : X.mg x = some (.ref f)) (hk : PySem.W.keepIn X.K (.ref f) = true) (hb : Binds X.K fd ps []) (hx : Passes CX X E)
    (ha : PA X (e :: es) t) (hdb : (x == ("__debug__" : Str)) = false := by decide) (he : starEach (e :: es) X.env = (false, eval e X.env) :: starEach es X.env := by rfl) (hpl : (backTo pos (starEach es X.env)).any (·.1) = false := by rfl) :
    PE X (.Call (.Name x p) (e :: es) [] pos) (tCall sp [] E t) := by
  refine ⟨fun pins s σ H Q I h => ?_⟩
  refine wpAny_Call_Name_kw (ld_glob I hg hm ?_ hdb)
  refine PySem.W.callWith_K (h₀ := X.base) I.ok.mod.kin hk (thn (ha.run pos pins s σ H _ I h) fun us s1 ⟨vs, H1, I1, r, q⟩ => ⟨I1.kIn, ?_⟩) he hpl
  have r2 : Vals (vs ++ []) (us ++ []) := by rw [List.append_nil, List.append_nil]; exact r
  have hl : (us ++ []).length = ps.length := by rw [← r2.length]; exact F.len _ _ _ _ q
  refine wpAny_call (codeAny_mono (F.run X.A X.stack s1 H1 ⟨us, []⟩ (us ++ []) (vs ++ []) Q E hh hG hr I1.env0 (hb s1 us I1.kIn hl) r2 q) fun r s' hq => ?_)
  cases r with
  | error e => exact hx pins σ H1 s1 e s' I1 hq
  | ok fl =>
    cases fl with
    | ret u => exact I1.after hq
    | next => exact False.elim hq
    | brk => exact False.elim hq
    | cont => exact False.elim hq
end
theorem law_callG {P : Program} {w : World} {K : PySem.W.Frag} {mg mb : Str → Option Value} {CX : CXT} {k : Nat} {fa a : Addr} {fd : FuncData} {x : Str} {sp : Sp} {s₁ : Shared} {vs : List Value} {ns : List Int}
    (KX : K.In s₁.heap) (hns : s₁.heap.Ns mainGlobals mg) (hb : s₁.heap.Ns builtinsNs mb) (hbb : ∀ x : Str, x ≠ "__name__" → mb x = bootBuiltins x) (hlim : s₁.heap.NoLimit) (hg : s₁.gens = #[])
    (ha : s₁.heap.get? a = some { cls := .type "list", data := .seq vs.toArray }) (hi : IntsAre vs ns) (hl : ns.length ≤ sizeLine) (hr : Room k callerA)
    (F : ∀ base : Heap, K.In base → base.Ns mainGlobals mg → FnG true (fun A => A.guards = some []) P w K mg base CX k fa fd [x] sp) (hbind : ∀ (s : Shared) (u : Value), BindsTo s fd ⟨[u], []⟩ [(x, u)])
    (hsp : ∀ H : Hp, Only H → SqL K H a (ns.map V.int) → sp [.ref a] H (fun v _ => v = .bl true) fun _ _ _ => False)
    (hCX : ∀ H e s', CX [] H s₁ (fun _ _ _ => False) e s' → False) :
    codeAny (model P w) callerA (.call (.ref fa) ⟨[.ref a], []⟩) (fun r s' => r = .ok (.ret (.bool true)) ∧ OldK s₁.heap s'.heap ∧ s'.os = s₁.os ∧ AllBare s'.gens) s₁ := by
  have rv := vals_ints hi
  have lenV := hi.length
  -- from an abstract heap in which nothing but the script may be tracked
  have core : ∀ H : Hp, Only H → SqL K H a (ns.map V.int) → HOk P w H s₁.heap → (∀ b, H b ≠ none → b = a) → (H a ≠ none → K.lookup a = none) →
      codeAny (model P w) callerA (.call (.ref fa) ⟨[.ref a], []⟩) (fun r s' => r = .ok (.ret (.bool true)) ∧ OldK s₁.heap s'.heap ∧ s'.os = s₁.os ∧ AllBare s'.gens) s₁ := by
    intro H hO hS hok hA hK
    have base_of : ∀ {b : Addr} {o : Obj}, s₁.heap.get? b = some o → H b = none → (hidT s₁.heap H).get? b = some o := fun e n => hidT_get e n
    have noA : ∀ {b : Addr} {o : Obj} {es : Array DictEntry} {ep : Nat}, s₁.heap.get? b = some o → o.data = .dict es ep → H b = none := fun {b o es ep} e d => by
      cases q : H b with
      | none => rfl
      | some u =>
        have e' : b = a := hA b (by rw [q]; simp)
        subst e'
        rw [ha] at e; cases e
        have d' : Data.seq vs.toArray _ = Data.dict es ep := d
        cases d'
    have nsK : ∀ {b : Addr} {m : Str → Option Value}, s₁.heap.Ns b m → (hidT s₁.heap H).Ns b m := fun {b m} ⟨o, es, ep, e, d, r⟩ => ⟨o, es, ep, base_of e (noA e d), d, r⟩
    have hKb : K.In (hidT s₁.heap H) := fun b o e => base_of (KX b o e) (by
      cases q : H b with
      | none => rfl
      | some u =>
        have e' : b = a := hA b (by rw [q]; simp)
        subst e'
        rw [hK (by rw [q]; simp)] at e; cases e)
    have hM : Mod K mg (hidT s₁.heap H) := ⟨hKb, nsK hns, ⟨mb, nsK hb, hbb⟩, let ⟨mc, h1, h2⟩ := hlim; ⟨mc, nsK h1, h2⟩⟩
    have e0 : Env0 P w K mg (hidT s₁.heap H) callerA [] s₁ H := ⟨rfl, hM, fun b o e => of_hidT e, Nat.le_of_eq (hidT_size _ _), trivial, fun b hb => absurd (show b ∈ ([] : List Addr) from hb) (by simp), hok, .of_eq hg⟩
    refine codeAny_mono ((F _ hKb (nsK hns)).run callerA [] s₁ H ⟨[.ref a], []⟩ [.ref a] [.ref a] _ _ (fun _ => rfl) rfl (L2H.roomH_of hr) e0 (hbind s₁ (.ref a)) (.cons rfl .nil) (hsp H hO hS)) fun r s' h => ?_
    cases r with
    | error e => exact (hCX H e s' h).elim
    | ok fl =>
      cases fl with
      | next => exact False.elim h
      | brk => exact False.elim h
      | cont => exact False.elim h
      | ret u =>
        obtain ⟨v, H', os, bare, un, hok', r', q⟩ := h
        have q' : v = .bl true := q
        subst q'
        obtain rfl : u = Value.bool true := r'
        refine ⟨rfl, OldK.of_keep fun b o e => ?_, os, bare⟩
        cases q : H b with
        | none => exact un.keep b o e q (by intro z; exact absurd (show b ∈ ([] : List Addr) from z) (by simp)) (by simp)
        | some u =>
          rcases hO b with z | ⟨ob, xs, z⟩
          · rw [q] at z; cases z
          · have z2 := un.frzs b ob _ z
            obtain ⟨e1, _⟩ := hok b _ z
            obtain ⟨e2, _⟩ := hok' b _ z2
            rw [e] at e1; cases e1
            exact e2
  cases hk : K.lookup a with
  | some o =>
    -- the script is one of the module's own objects
    have e := KX a o hk
    rw [ha] at e
    cases e
    refine core (fun _ => none) (fun _ => .inl rfl) (.inr ⟨_, vs.toArray, _, hk, rfl, rfl, rfl, by rw [List.size_toArray, lenV]; exact hl, by simpa using rv⟩) (fun b u z => by have z' : (none : Option HO) = some u := z; cases z') (fun b z => absurd rfl z) fun z => absurd rfl z
  | none =>
    refine core (fun b => if b = a then some (.frz { cls := .type "list", data := .seq vs.toArray } (.lst (ns.map V.int))) else none) (fun b => ?_) (.inl (.inr ⟨{ cls := .type "list", data := .seq vs.toArray }, if_pos rfl⟩)) (fun b u z => ?_) (fun b z => ?_) fun _ => hk
    · by_cases hb : b = a
      · exact .inr ⟨_, _, if_pos hb⟩
      · exact .inl (if_neg hb)
    · by_cases hb : b = a
      · have z' := (if_pos hb).symm.trans z
        cases z'
        subst hb
        exact ⟨ha, by rw [List.length_map]; exact hl, vs, _, rv, ha⟩
      · have z' := (if_neg hb).symm.trans z
        cases z'
    · by_cases hb : b = a
      · exact hb
      · exact absurd (if_neg hb) z

theorem walk_ofG {l : PySem.W.OpenLaw} {n k : Nat} {q : Program} {loose : List Str} {XP : (Str → Option Value) → Heap → Prop} {YP : World → Heap → Prop} {d : DefRec} {K : Params → PySem.W.Frag} {sp : PySem.W.Frag → Sp} {x : Str}
    (hn : l.most = some n) (hn2 : n ≤ sizeLine) (hdf : d.params.defaults = []) (hr : Room k callerA) (hY : ∀ (w : World) (h : Heap), YP w h → (K w.params).In h)
    (F : ∀ (w : World) (mg : Str → Option Value) (fa : Addr) (h : Heap), (K w.params).In h → h.Ns mainGlobals mg → mg d.name = some (.ref fa) →
      ∃ fd : FuncData, (∀ (s : Shared) (u : Value), BindsTo s fd ⟨[u], []⟩ [(x, u)]) ∧ ∀ base : Heap, (K w.params).In base → base.Ns mainGlobals mg → FnG true (fun A => A.guards = some []) l.prog w (K w.params) mg base CX0 k fa fd [x] (sp (K w.params)))
    (hsp : ∀ (K : PySem.W.Frag) (H : Hp) (a : Addr) (ns : List Int), ns.length ≤ n → (∀ z ∈ ns, Builtin.Int.intBits z ≤ 1048576) → Only H → SqL K H a (ns.map V.int) → sp K [.ref a] H (fun v _ => v = .bl true) fun _ _ _ => False) :
    PySem.W.WalkO q loose XP YP l.row.toRowW d [] (fun f vs => PySem.call f vs) := by
  refine Att.attach_callB hn hdf fun w s₀ s₁ mg mb fa o pm cd doc a vs ns G Y ho hd hcd hmg hobj hints hlen hbits hg => ?_
  have KX := hY w _ Y
  obtain ⟨fd, hb, hF⟩ := F w mg fa _ KX G.T.g hmg
  exact law_callG KX G.T.g G.T.b G.T.builtins G.T.nolimit hg hobj hints (Nat.le_trans hlen hn2) hr hF hb (fun H hO hS => hsp _ H a ns hlen hbits hO hS) fun _ _ _ z => z
/-! ### displays, told that the new object is none of the model's own -/
def tLstL (t : TA) : TE := fun σ H Q => t σ H fun xs H1 => xs.length ≤ sizeLine ∧ ∀ q, H1 q = none → sysModules < q → Q (.ref q) (upd H1 q (.lst xs))
theorem pe_lstL {X : Cx} {es : List Expr} {t : TA} {pos : Pos} (h : PA X es t) : PE X (.List es pos) (tLstL t) := by
  refine ⟨fun pins s σ H Q I hq => ?_⟩
  refine wpAny_List_spliced (thn (h.run pos pins s σ H _ I hq) fun us s1 hh => ?_)
  obtain ⟨xs, H1, I1, r, z, q⟩ := hh
  have big := I1.big
  exact ⟨by rw [← r.length]; exact z, .ref s1.heap.objs.size, _, I1.laid (t' := s1.toks) (o := .lst xs) (fun b u e => Heap.get?_push_of_some _ e) (Nat.le_refl _) ⟨z, us, 0, r, Heap.get?_push_size _ rfl⟩, rfl, q _ (I1.hok.fresh (Nat.le_refl _)) big⟩

open Kd TL
theorem num_low {i : Int} (h : 0 ≤ i) {c : Nat} (m : c ∈ tl (numT i)) : c < 256 := by
  obtain ⟨n, rfl⟩ := Int.eq_ofNat_of_zero_le h
  rw [num_tl] at m
  have := numL_digits n c m
  omega
theorem wrd_low {z : Str} (h : Wrd z) {c : Nat} (m : c ∈ tl z) : c < 256 := by
  have low : ∀ c ∈ LETS.cps.toList, c < 256 := by decide +kernel
  exact low c (h.2.2 c m)
theorem repr_len {z : Str} {k : Nat} (hl : z.length ≤ k) (hc : ∀ c ∈ tl z, c < 256) : (reprText z).length ≤ 10 * k + 2 := by
  have := PySem.StrLaws.reprText_len z fun c m => Nat.lt_trans (hc c m) (by decide)
  omega
/-- data that is shown within k signs -/
structure Sh (k : Nat) (d : PyData) : Prop where
  sh : d.showable = true
  sz : d.shown.length ≤ k
theorem sh_all {k : Nat} : ∀ {ds : List PyData}, (∀ d ∈ ds, Sh k d) → PyData.showableAll ds = true ∧ ((PyData.shownAll ds).map (·.length)).sum ≤ ds.length * k ∧ (PyData.shownAll ds).length = ds.length
  | [], _ => ⟨by simp only [PyData.showableAll], by simp [PyData.shownAll], by simp [PyData.shownAll]⟩
  | d :: r, h => by
    have g := h d List.mem_cons_self
    obtain ⟨h1, h3, h4⟩ := sh_all (ds := r) fun x hx => h x (List.mem_cons_of_mem _ hx)
    have := g.sz
    refine ⟨by simp only [PyData.showableAll, g.sh, h1, Bool.and_true], ?_, by simp only [PyData.shownAll, List.length_cons, h4]⟩
    simp only [PyData.shownAll, List.map_cons, List.sum_cons, List.length_cons]
    rw [Nat.succ_mul]
    omega
theorem sh_tuple {k m : Nat} {ds : List PyData} (h : ∀ d ∈ ds, Sh k d) (hl : ds.length ≤ m) : Sh (m * k + 2 * m + 3) (.tuple ds) := by
  obtain ⟨h1, h3, h4⟩ := sh_all h
  refine ⟨by simp only [PyData.showable, h1], ?_⟩
  have h5 := tupleText_len_le (PyData.shownAll ds)
  simp only [PyData.shown]
  rw [h4] at h5
  have h6 : ds.length * k ≤ m * k := Nat.mul_le_mul_right _ hl
  omega
theorem sh_mono {k m : Nat} {d : PyData} (h : Sh k d) (l : k ≤ m) : Sh m d := ⟨h.sh, Nat.le_trans h.sz l⟩
theorem sh_step {n : Nat} {x : Stp} (h : StpOk n x) (hn : n ≤ 40) : Sh 375 (stepD x) := by
  refine sh_tuple (k := 122) (m := 3) (fun d hd => ?_) (Nat.le_refl _)
  rcases List.mem_cons.mp hd with rfl | hd
  · exact ⟨by simp only [PyData.showable], repr_len h.w1.2.1 fun c m => wrd_low h.w1 m⟩
  rcases List.mem_cons.mp hd with rfl | hd
  · exact ⟨by simp only [PyData.showable], repr_len h.w2.2.1 fun c m => wrd_low h.w2 m⟩
  · rw [List.mem_singleton.mp hd]
    have lo := h.lo
    have hi := h.hi
    have z := num_len lo (by omega)
    have z2 := num_log lo (by omega)
    refine ⟨by simp [PyData.showable, z2], ?_⟩
    simp only [PyData.shown]
    exact Nat.le_trans z (by decide)
theorem sh_state {n : Nat} {st : List Stp} (h : StOk n st) (hn : n ≤ 40) : Sh 9051 (stateD st) :=
  sh_tuple (k := 375) (m := 24) (fun d hd => by
    obtain ⟨x, m, rfl⟩ := List.mem_map.mp hd
    exact sh_step (h.all x m) hn) (by rw [List.length_map]; exact h.few)
theorem sh_kind {ss : List (List Stp)} (h : KOk ss) : Sh 362123 (statesD ss) :=
  sh_tuple (k := 9051) (m := 40) (fun d hd => by
    obtain ⟨x, m, rfl⟩ := List.mem_map.mp hd
    exact sh_state (h.all x m) h.most) (by rw [List.length_map]; exact h.most)
end My

-- ===== K4L =====
set_option Elab.async false
set_option linter.all false
set_option maxRecDepth 100000
set_option maxHeartbeats 4000000
namespace My
open PySem L2 PyProof.Rows PySem.Spec Kd TL
abbrev sPick : Stmt := top 33
abbrev sDrawn : Stmt := top 34
abbrev sClos : Stmt := top 35
abbrev sTold : Stmt := top 36
abbrev sLaw : Stmt := top 37
theorem FeedAt.same {H H' : Hp} {p c : Addr} {ks : List Int} {w n : Int} (s : Same H H') (F : FeedAt H p c ks w n) : FeedAt H' p c ks w n := ⟨s _ _ F.ob, s _ _ F.cs, F.bits, F.len, F.w0, F.w1, F.n0⟩
open PySem.W in
theorem sorted_asc (L : List (Addr × List Key)) (key : ∀ q ∈ L, ∃ e, q.2 = evK e) (nd : (L.map Prod.snd).Nodup) :
    ∃ es : List (Str × Str), (L.mergeSort (PySem.W.dataLe false fun q : Addr × List Key => tD q.2)).map Prod.snd = es.map evK ∧ es.Pairwise evLt ∧ ∀ e ∈ es, evK e ∈ L.map Prod.snd := by
  have tot := sortLe_total (listOrd itemOrd) false fun q : Addr × List Key => keyToks (tD q.2)
  have srt : (L.mergeSort (PySem.W.dataLe false fun q : Addr × List Key => tD q.2)).Pairwise fun q r => PySem.W.dataLe false (fun q : Addr × List Key => tD q.2) q r = true := List.pairwise_mergeSort tot.trans (fun a b => by rw [Bool.or_eq_true]; exact tot.total a b) L
  have pm : (L.mergeSort (PySem.W.dataLe false fun q : Addr × List Key => tD q.2)).Perm L := List.mergeSort_perm _ _
  generalize L.mergeSort (PySem.W.dataLe false fun q : Addr × List Key => tD q.2) = M at srt pm
  have keyM : ∀ q ∈ M, ∃ x, q.2 = evK x := fun q hq => key q (pm.mem_iff.mp hq)
  have ndM : (M.map Prod.snd).Nodup := (pm.map Prod.snd).nodup_iff.mpr nd
  have back : ∃ xs : List (Str × Str), M.map Prod.snd = xs.map evK := by
    clear srt pm ndM
    induction M with
    | nil => exact ⟨[], rfl⟩
    | cons q M ih =>
      obtain ⟨x, e⟩ := keyM q List.mem_cons_self
      obtain ⟨xs, e2⟩ := ih fun r hr => keyM r (List.mem_cons_of_mem _ hr)
      exact ⟨x :: xs, by rw [List.map_cons, List.map_cons, e, e2]⟩
  obtain ⟨xs, ex⟩ := back
  have sx : xs.Pairwise fun x y => ¬ evLt y x := by
    have z : (M.map Prod.snd).Pairwise fun k l => ∀ x y, k = evK x → l = evK y → ¬ evLt y x := List.pairwise_map.mpr (List.Pairwise.imp (fun {q r} h x y e1 e2 => (le_evK e1 e2).mp h) srt)
    rw [ex] at z
    exact List.Pairwise.imp (fun {x y} h => h x y rfl rfl) (List.pairwise_map.mp z)
  rw [ex] at ndM
  have nx : xs.Pairwise fun x y => x ≠ y := List.Pairwise.imp (fun {x y} h e => h (by rw [e])) (List.pairwise_map.mp ndM)
  refine ⟨xs, ex, List.Pairwise.imp₂ (fun x y h1 h2 => Classical.byContradiction fun z => h2 (evLt_tri x y z h1)) sx nx, fun e he => ?_⟩
  rw [← (pm.map Prod.snd).mem_iff, ex]
  exact List.mem_map.mpr ⟨e, he, rfl⟩
theorem putK_keys {kvs : List (List Key × V)} {k : List Key} {v : V} : (k ∈ kvs.map Prod.fst → (putK kvs k v).map Prod.fst = kvs.map Prod.fst) ∧ (k ∉ kvs.map Prod.fst → (putK kvs k v).map Prod.fst = kvs.map Prod.fst ++ [k]) := by
  refine ⟨fun h => ?_, fun h => ?_⟩
  · unfold putK
    rw [if_pos]
    · rw [List.map_map]
      refine List.map_congr_left fun p _ => ?_
      show (if p.1 = k then (p.1, v) else p).1 = p.1
      split <;> rfl
    · obtain ⟨p, m, e⟩ := List.mem_map.mp h
      exact List.any_eq_true.mpr ⟨p, m, decide_eq_true e⟩
  · rw [putK_new fun p m e => h (List.mem_map.mpr ⟨p, m, e⟩), List.map_append]
    rfl
/-- what the menu holds -/
structure Menu (kvs : List (List Key × V)) : Prop where
  nd : (kvs.map Prod.fst).Nodup
  ev : ∀ p ∈ kvs, ∃ e : Str × Str, p.1 = evK e ∧ Wrd e.1 ∧ Wrd e.2
theorem Menu.put {kvs : List (List Key × V)} {e : Str × Str} {v : V} (m : Menu kvs) (h1 : Wrd e.1) (h2 : Wrd e.2) : Menu (putK kvs (evK e) v) ∧ (putK kvs (evK e) v).length ≤ kvs.length + 1 := by
  have keys := putK_keys (kvs := kvs) (k := evK e) (v := v)
  have len : ∀ l : List (List Key × V), l.length = (l.map Prod.fst).length := fun l => List.length_map .. |>.symm
  by_cases h : evK e ∈ kvs.map Prod.fst
  · have k1 := keys.1 h
    refine ⟨⟨by rw [k1]; exact m.nd, fun p hp => ?_⟩, by rw [len, k1, ← len]; omega⟩
    have z : p.1 ∈ kvs.map Prod.fst := by rw [← k1]; exact List.mem_map.mpr ⟨p, hp, rfl⟩
    obtain ⟨q, mq, eq⟩ := List.mem_map.mp z
    rw [← eq]
    exact m.ev q mq
  · have k1 := keys.2 h
    refine ⟨⟨by rw [k1]; exact List.nodup_append.mpr ⟨m.nd, by simp, fun a ha b hb => by rw [List.mem_singleton.mp hb]; exact fun z => h (by rw [← z]; exact ha)⟩, fun p hp => ?_⟩, by rw [len, k1, List.length_append, ← len]; exact Nat.le_refl _⟩
    have z : p.1 ∈ kvs.map Prod.fst ++ [evK e] := by rw [← k1]; exact List.mem_map.mpr ⟨p, hp, rfl⟩
    rcases List.mem_append.mp z with z | z
    · obtain ⟨q, mq, eq⟩ := List.mem_map.mp z
      rw [← eq]
      exact m.ev q mq
    · rw [List.mem_singleton.mp z]
      exact ⟨e, rfl, h1, h2⟩
theorem Save.tup {H H' : Hp} {p c : Addr} {ks : List Int} {w n : Int} (F : FeedAt H p c ks w n) (s : Save p c H H') : Tup H H' := fun a xs e =>
  s a _ e (fun z => by rw [z, F.ob] at e; cases e) (fun z => by rw [z, F.cs] at e; cases e)
theorem Save.wr {H H2 : Hp} {p c D : Addr} {o : HO} (s : Save p c H H2) (n : H D = none) : Save p c H (upd H2 D o) := fun b u e h1 h2 => by
  rw [upd_ne (ne_of_none e n)]
  exact s b u e h1 h2
theorem FeedAt.wr {H : Hp} {p c D : Addr} {o : HO} {ks : List Int} {w n : Int} (F : FeedAt H p c ks w n) (h1 : D ≠ p) (h2 : D ≠ c) : FeedAt (upd H D o) p c ks w n :=
  ⟨by rw [upd_ne (Ne.symm h1)]; exact F.ob, by rw [upd_ne (Ne.symm h2)]; exact F.cs, F.bits, F.len, F.w0, F.w1, F.n0⟩
theorem cutTo (xs : List V) (n : Nat) : cutV xs none (some (n : Int)) = xs.take n := by
  unfold cutV HT.sIx
  simp [List.take_eq_take_min, show ¬ ((n : Int) < 0) from by omega]
theorem at_nat {α : Type} {xs : List α} {i : Int} (h0 : 0 ≤ i) (h1 : i < xs.length) : ∃ x, x ∈ xs ∧ atI xs i = some x := by
  have lt : i.toNat < xs.length := by omega
  have z := atI_nat (List.getElem?_eq_getElem lt)
  rw [Int.toNat_of_nonneg h0] at z
  exact ⟨xs[i.toNat], List.getElem_mem lt, z⟩
/-- one of a list's items -/
def spPick : Sp := fun vs H Q _ => ∃ (p c a : Addr) (ks : List Int) (xs : List V) (w n : Int), vs = [.ref p, .ref a] ∧ FeedAt H p c ks w n ∧ n < 999999 ∧ H a = some (.lst xs) ∧ a ≠ p ∧ a ≠ c ∧ 1 ≤ xs.length ∧ xs.length ≤ 100 ∧
  ∀ (v : V) (ks' : List Int) (H' : Hp), v ∈ xs → FeedAt H' p c ks' w (n + 1) → Save p c H H' → Q v H'
section
variable {P : Program} {w : World} {K : PySem.W.Frag} {mg : Str → Option Value} {base : Heap}
theorem scPi : FnScope ["_law_feed_here", "_law_some"] ["_law_feed_here", "_law_some"] (defScope sPick) := ⟨rfl, rfl, rfl, by decide +kernel, rfl, by decide +kernel, by decide +kernel⟩
theorem ok_pick {f fD : Addr} {fd fdD : FuncData} (F : Fun K "_law_pick" "_law_pick" sPick f fd) (mlen : mg "len" = none)
    (GD : FnOk P w K mg base CX0 1 fD fdD ["_law_feed_here", "_law_many"] spDigit) (mD : mg "_law_digit" = some (.ref fD)) (kD : PySem.W.keepIn K (.ref fD) = true) (bD : Binds K fdD ["_law_feed_here", "_law_many"] []) :
    FnOk P w K mg base CX0 2 f fd ["_law_feed_here", "_law_some"] spPick := by
  refine F.ok scPi (fun vs H Q E h => ?_) (fun cdv A outer s H vs Q E hr h => ?_)
  · obtain ⟨p, c, a, ks, xs, y, n, rfl, _⟩ := h
    rfl
  · obtain ⟨p, c, a, ks, xs, y, n, rfl, FA, hn, ha, np, nc, l0, l1, k⟩ := h
    refine ⟨_, pss_one (ps_ret (pe_ix ix_list (pv 1) (pe_call GD hr (by rfl) mD kD bD .nil pass0 (pa_cons (pv 0) (pa_cons (pe_callB (r := rLenQ K) call_len_seq (by rfl) mlen PySem.boot_len (pa_cons (pv 1) pa_nil)) pa_nil))) (fun _ _ => rfl))), ?_⟩
    refine ⟨_, rfl, _, rfl, _, rfl, a, _, rfl, .inl (SqL.of ha), p, c, ks, y, n, _, rfl, FA, by omega, by omega, by omega, fun i ks' H' i0 i1 FA' sv => ?_⟩
    obtain ⟨x, hx, e⟩ := at_nat (xs := xs) i0 i1
    exact ⟨a, _, i, _, rfl, rfl, SqL.of (sv a _ ha np nc), e, k x ks' H' hx FA' sv⟩
end
end My

-- ===== KS14 =====
set_option Elab.async false
set_option linter.all false
set_option maxRecDepth 100000
set_option maxHeartbeats 4000000
namespace Kd
open PySem L2 PyProof.Rows PySem.Spec ClX
/-! ### o.m(k = v, ..), m a def of o's class -/
def tMethK (C : Addr) (m : Str) (sp : Sp) (gV : List V → List V → List V) (E : XK) (ta : TE) (tk : TA) : TE := fun σ H Q => ta σ H fun x H1 => ∃ a dx fs, x = .ref a ∧ H1 a = some (.ins C dx fs) ∧ fs.lookup m = none ∧ tk σ H1 fun zs H2 => sp (gV [.ref a] zs) H2 Q E
section
variable {X : Cx} {CX : CXT} {k : Nat} {C g : Addr} {fd : FuncData} {ps ks : List Str} {sp : Sp} {E : XK} {o : Expr} {kws : List Keyword} {m : Str} {pos apos : Pos} {ta : TE} {tk : TA} {pl : Sem Bool} {gg : List Value → List Value → List Value} {gV : List V → List V → List V}
theorem pe_methK (he : PE X o ta) (c : Cls X.K C) (hm : Meth X.K C m g) (F : FnOk X.prog X.w X.K X.mg X.base CX k g fd ps sp) (hr : Room k X.A) (hb : KBinds X.K fd ps ks gg gV) (hx : Passes CX X E) (hkw : PK X kws tk)
    (hall : (backToKw pos (keywordEach kws X.env)).all (·.1.isSome) = true := by rfl) (hks : (backToKw pos (keywordEach kws X.env)).filterMap (·.1) = ks := by rfl)
    (hpl : ((backTo pos (starEach [] X.env)).any (·.1) || (backToKw pos (keywordEach kws X.env)).any (·.1.isNone)) = false := by rfl)
    (ht : eval (.Call (.Attribute o m apos) [] kws pos) X.env = (do
      let ov ← eval o X.env
      standAt apos.atName
      let (f, first) ← holding [ov] (getMethod ov m pl)
      callWith pos f first (backTo pos (starEach [] X.env)) (backToKw pos (keywordEach kws X.env))) := by rfl) :
    PE X (.Call (.Attribute o m apos) [] kws pos) (tMethK C m sp gV E ta tk) := by
  refine ⟨fun pins s σ H Q I h => ?_⟩
  refine PySem.W.methodCall_KW (pl := pl) (thn (he.run pins s σ H _ I h) fun u s1 ⟨x, H1, I1, rx, a, dx, fs, ex, ea, l, q⟩ => ?_) ht
  subst ex
  obtain rfl : u = Value.ref a := rx
  refine getmeth_ok I1 ea c hm l ?_
  refine PySem.W.callWith_KW0 (first := [.ref a]) (h₀ := X.base) I.ok.mod.kin hm.kp hall (thn (hkw.run pos pins s1 σ H1 _ I1 q) fun ws s2 ⟨zs, H2, I2, rz, q2⟩ => ⟨I2.kIn, ?_⟩) hpl
  rw [hks]
  exact run_fnk (us := [.ref a]) (vs := [.ref a]) F hr hb hx I2 (.cons rfl .nil) rz q2
end
end Kd

-- ===== KS15 =====
set_option Elab.async false
set_option linter.all false
set_option maxRecDepth 100000
set_option maxHeartbeats 4000000
namespace Kd
open PySem L2 PyProof.Rows PySem.Spec
/-! ### dict(xs) of pairs whose keys are tuples -/
/-- pairs one behind the other into a dict -/
def pour (kvs : List (List Key × V)) (ps : List (Addr × List Key × V)) : List (List Key × V) := ps.foldl (fun acc q => putK acc q.2.1 q.2.2) kvs
theorem pour_le : ∀ (ps : List (Addr × List Key × V)) (kvs : List (List Key × V)), (pour kvs ps).length ≤ kvs.length + ps.length
  | [], kvs => Nat.le_refl _
  | q :: ps, kvs => by
    have h := pour_le ps (putK kvs q.2.1 q.2.2)
    have h2 := length_putK kvs q.2.1 q.2.2
    show (pour (putK kvs q.2.1 q.2.2) ps).length ≤ _
    rw [List.length_cons]
    omega
/-- the pair at b -/
def PairAt (H : Hp) (q : Addr × List Key × V) : Prop := ∃ kb, H q.1 = some (.tup [.ref kb, q.2.2]) ∧ H kb = some (.tup (q.2.1.map kV))
section
variable {X : Cx} {pins : List (Addr × Obj)} {σ : L2.St} {H : Hp} {A : Around}
theorem pour_loop {R : Result → Shared → Prop} {S I l : Addr} {all : List (Addr × List Key × V)} {res : Value} (hh : A.handled = none) (hu : A.units + 40 < cLine) (hl : H l = some (.lst (all.map fun q => V.ref q.1))) (hS : H S = none) (fI : FpOk X pins H I) (nSI : S ≠ I) (ok : ∀ q ∈ all, PairAt H q) :
    ∀ (rest : List (Addr × List Key × V)) (i : Nat) (acc : List (List Key × V)) (ix : Int) (t : Tok) (s : Shared), all.drop i = rest → acc.length + rest.length ≤ 1000 → Inv X pins σ (upd H S (.dT acc)) s → s.heap.IsListIter I l i →
      (∀ s', Inv X pins σ (upd H S (.dT (pour acc rest))) s' → R (.ok (.ret res)) s') → codeAny (model X.prog X.w) A (.builtin "dict.update.loop" ⟨[.ref S, .ref I, .int ix t, res], []⟩) R s := by
  intro rest
  induction rest with
  | nil =>
    intro i acc ix t s ed hln J hit hR
    have nlS : l ≠ S := fun z => by rw [z, hS] at hl; cases hl
    have hl2 : (upd H S (.dT acc)) l = some (.lst (all.map fun q => V.ref q.1)) := by rw [upd_ne nlS]; exact hl
    obtain ⟨its, rv, pl, hz⟩ := J.list (SqL.of hl2)
    refine codeAny_builtin ud_entry ?_
    rw [Around.under_plainId ud_plain _]
    show wpAny _ A.in1 (pyNext (.ref I) >>= _) _ _ s
    have le : all.length ≤ i := List.drop_eq_nil_iff.mp ed
    have lz := rv.length
    rw [List.length_map] at lz
    refine wpAny_bind (wpAny_pyNext_list_end (A := A.in1) hh hit pl.isList (by simp; omega) fun h' he => ?_)
    show wpAny _ A.in1 (Builtin.Dict.addKeywords S [] >>= _) _ _ _
    refine wpAny_bind (wpAny_pure (wpAny_pure ?_))
    have f2 : FpOk X pins (upd H S (.dT acc)) I := ⟨by rw [upd_ne (Ne.symm nSI)]; exact fI.1, fI.2.1, fI.2.2.1, fI.2.2.2.1, fI.2.2.2.2.1, fI.2.2.2.2.2⟩
    obtain ⟨f0, f1, _, f3, f4, f5⟩ := f2
    exact hR _ (J.turned (t' := s.toks) (fun b o hb e => he b o hb e) f0 f1 f3 f4 f5)
  | cons q rest ih =>
    intro i acc ix t s ed hln J hit hR
    rw [List.length_cons] at hln
    have ei : all[i]? = some q := by
      have z : (all.drop i)[0]? = some q := by rw [ed]; rfl
      rwa [List.getElem?_drop, Nat.add_zero] at z
    have ed2 : all.drop (i + 1) = rest := by rw [← List.tail_drop, ed]; rfl
    have nlS : l ≠ S := fun z => by rw [z, hS] at hl; cases hl
    have hl2 : (upd H S (.dT acc)) l = some (.lst (all.map fun q => V.ref q.1)) := by rw [upd_ne nlS]; exact hl
    obtain ⟨its, rv, pl, hz⟩ := J.list (SqL.of hl2)
    have eits := refs_raw (fun q : Addr × List Key × V => q.1) rv
    subst eits
    obtain ⟨kb, e1, e2⟩ := ok q (List.mem_of_getElem? ei)
    have n1 : q.1 ≠ S := ne_of_none e1 hS
    have n2 : kb ≠ S := ne_of_none e2 hS
    have e1' : (upd H S (.dT acc)) q.1 = some (.tup [.ref kb, q.2.2]) := by rw [upd_ne n1]; exact e1
    have e2' : (upd H S (.dT acc)) kb = some (.tup (q.2.1.map kV)) := by rw [upd_ne n2]; exact e2
    have f2 : FpOk X pins (upd H S (.dT acc)) I := ⟨by rw [upd_ne (Ne.symm nSI)]; exact fI.1, fI.2.1, fI.2.2.1, fI.2.2.2.1, fI.2.2.2.2.1, fI.2.2.2.2.2⟩
    obtain ⟨f0, f1, _, f3, f4, f5⟩ := f2
    refine codeAny_builtin ud_entry ?_
    rw [Around.under_plainId ud_plain _]
    show wpAny _ A.in1 (pyNext (.ref I) >>= _) _ _ s
    refine wpAny_bind (wpAny_pyNext_list_item (x := .ref q.1) hit pl.isList (by simp [ei]) fun h1 hit1 hs1 => ?_)
    have J1 : Inv X pins σ (upd H S (.dT acc)) { s with heap := h1 } := J.turned (t' := s.toks) (fun b o hb e => (hs1.2 b hb).trans e) f0 f1 f3 f4 f5
    obtain ⟨its2, rv2, ⟨o, ho, hc, n, hd⟩, _⟩ := J1.tuple (SqT.of e1')
    obtain ⟨u, y, ex, ru, ry⟩ := vals2 rv2
    subst ex
    cases (show u = Value.ref kb from ru)
    show wpAny _ A.in1 (holding [Value.ref q.1] _ >>= _) _ _ _
    refine wpAny_bind (wpAny_holding ?_)
    refine wpAny_bind (wpAny_tryCatch ?_)
    unfold Builtin.Dict.pairItems
    refine wpAny_bind (wpAny_typeOf (T := "tuple") ⟨o, ho, hc⟩ ?_)
    rw [if_pos (by first | decide | rfl | simp)]
    refine wpAny_bind (wpAny_seqItems ho hd (wpAny_pure ?_))
    show wpAny _ A.in1 (holding [Value.ref kb, y] (dictSet S (.ref kb) y)) _ _ _
    obtain ⟨z, nsys, xs, rel, dd⟩ := dt_of J1.hok (upd_same (H := H) (a := S) (o := .dT acc))
    have xz : xs.length ≤ sizeLine := by rw [← Paired.length rel]; exact z
    have big := sizeLine_eq
    have pz : (putK acc q.2.1 q.2.2).length ≤ sizeLine := by have := length_putK acc q.2.1 q.2.2; omega
    refine wpAny_holding (wpAny_dictSet_heap (hsz := xz) (show A.in1.units < cLine by simp only [Around.in1]; omega) (key_of J1.hok e2') dd fun h2 dd2 sb => ?_)
    obtain ⟨o2, es, ep, g1, g2, g3, g4, _, g5⟩ := dd2
    have J2 : ∀ t2, Inv X pins σ (upd (upd H S (.dT acc)) S (.dT (putK acc q.2.1 q.2.2))) { s with heap := h2, toks := t2 } := fun t2 => by
      refine d_write (s := { s with heap := h1 }) (t' := t2) J1 (by rw [upd_same]; exact True.intro) sb ⟨o2, g1⟩ ⟨pz, nsys, _, (rel.put q.2.1 e2' ry).keeps fun c ys e => ?_, o2, es, ep, g1, g2, g3, g4, g5⟩
      rw [upd_ne (ne_of e upd_same (fun z => nomatch z))]
      exact e
    rw [L2.upd_upd] at J2
    refine wpAny_pure ⟨plainId_quiet ud_plain _, ih (i + 1) (putK acc q.2.1 q.2.2) (ix + 1) 0 _ ed2 (by have := length_putK acc q.2.1 q.2.2; omega) (J2 _) (hit1.at fun o e => (sb.2 I (Ne.symm nSI)).trans e) hR⟩
/-- dict(xs), xs a list of pairs -/
theorem call_dictT (hc : X.calm = true) (hu : X.A.units + 200 < cLine) : CallR X (.type "dict") (fun xs H Q => ∃ (a : Addr) (all : List (Addr × List Key × V)), xs = [.ref a] ∧ H a = some (.lst (all.map fun q => V.ref q.1)) ∧ (∀ q ∈ all, PairAt H q) ∧ all.length ≤ 1000 ∧
    ∀ p, H p = none → Q (.ref p) (upd H p (.dT (pour [] all)))) := by
  intro pins s σ H xs us Q I r h
  obtain ⟨a, all, rfl, ha, ok, few, q⟩ := h
  rw [Vals.ref1 r]
  have hh : X.A.handled = none := I.ok.hd hc
  have hS : H s.heap.objs.size = none := I.hok.fresh (Nat.le_refl _)
  refine callType_codes (Q₁ := fun obj s₁ => obj = .ref s.heap.objs.size ∧ s₁ = { s with heap := s.heap.push { cls := .type "dict", data := .dict #[] } }) PySem.F.kt_called_dict (PySem.F.kt_typeCall_dict_1 _) PySem.F.entry_dict_init (kt_code_dict_new _ ⟨rfl, rfl⟩) ?_
  rintro obj s₁ ⟨rfl, rfl⟩
  have I1 : Inv X pins σ (upd H s.heap.objs.size (.dT [])) { s with heap := s.heap.push { cls := .type "dict", data := .dict #[] } } := I.laid (t' := s.toks) (fun _ _ z => Heap.get?_push_of_some _ z) (Nat.le_refl _) (dt_empty s.heap I.big)
  have oS : (s.heap.push { cls := .type "dict", data := .dict #[] }).get? s.heap.objs.size = some { cls := .type "dict", data := .dict #[] } := Heap.get?_push_size _ rfl
  have tS : Shared.TypeIs { s with heap := s.heap.push { cls := .type "dict", data := .dict #[] } } (.ref s.heap.objs.size) "dict" := ⟨_, oS, rfl⟩
  have nS : a ≠ s.heap.objs.size := ne_of_none ha hS
  obtain ⟨its, rv, ⟨ol, n, hol, hcl, hdn, hdat⟩, hz⟩ := I1.list (SqL.of (show (upd H s.heap.objs.size (.dT [])) a = some (.lst (all.map fun q => V.ref q.1)) by rw [upd_ne nS]; exact ha))
  refine ⟨tS, PySem.F.args_dict_init_2 _ _, ?_⟩
  unfold Builtin.«dict.__init__»
  refine wpAny_bind ?_
  unfold Builtin.Dict.selfAndRest
  refine wpAny_bind (wpAny_notOrdered_dict tS ?_)
  show wpAny _ _ (pure (s.heap.objs.size, [Value.ref a])) _ _ _
  refine wpAny_pure ?_
  show wpAny _ _ (Builtin.Dict.updateFrom "dict.__init__" s.heap.objs.size (.ref a) [] .none) _ _ _
  unfold Builtin.Dict.updateFrom
  refine wpAny_bind (wpAny_typeOf (T := "list") ⟨ol, hol, hcl⟩ ?_)
  rw [if_pos (by first | decide | rfl | simp)]
  refine wpAny_bind (miss_list hol hcl hdat hdn hh fun h1 tk1 hk1 => ?_)
  rw [if_pos (show (none : Option Value).isNone = true from rfl)]
  refine wpAny_bind (wpAny_rule ?_)
  have I2 : Inv X pins σ (upd H s.heap.objs.size (.dT [])) { s with heap := h1, toks := tk1 } := I1.kept hk1
  have l1 : h1.IsList a its.toArray := ⟨ol, hk1 _ _ hol, hcl, n, hdat⟩
  have lS : s.heap.objs.size < h1.objs.size := Heap.lt_size (hk1 _ _ oS)
  refine wpAny_bind (wpAny_pyIter_list l1 ?_)
  have I3 : Inv X pins σ (upd H s.heap.objs.size (.dT [])) { s with heap := h1.push { cls := .type "list_iterator", data := .fields #[.ref a, .int 0 0] }, toks := tk1 } := I2.kept (t' := tk1) fun b o e => Heap.get?_push_of_some _ e
  have fI : FpOk X pins H h1.objs.size := I2.fpOk (Nat.le_refl _) (I.hok.fresh (Nat.le_of_lt lS))
  have key := pour_loop (X := X) (A := X.A.in1) (R := wants (fun r s₂ => r = .none ∧ EP X pins σ Q (.ref s.heap.objs.size) s₂) X.xe) (res := Value.none) hh (by simp only [Around.in1]; omega) ha hS fI (Nat.ne_of_lt lS) ok all 0 [] 0 0
    { s with heap := h1.push { cls := .type "list_iterator", data := .fields #[.ref a, .int 0 0] }, toks := tk1 } rfl (by rw [List.length_nil]; omega) I3 ⟨_, Heap.get?_push_size _ rfl, rfl, rfl⟩ (fun s' J => ⟨rfl, .ref _, _, J, rfl, q _ hS⟩)
  first
    | exact wpAny_pure ⟨plainId_quiet ud_plain _, key⟩
    | exact wpAny_bind (wpAny_pure (wpAny_pure ⟨plainId_quiet ud_plain _, key⟩))
end
end Kd

-- ===== KS16 =====
set_option Elab.async false
set_option linter.all false
set_option maxRecDepth 100000
set_option maxHeartbeats 4000000
namespace Kd
open PySem L2 PyProof.Rows PySem.Spec PySem.W
/-! ### for v in d.values(), the keys being tuples -/
section
variable {X : Cx} {pins : List (Addr × Obj)} {σ : L2.St} {H : Hp} {s : Shared} {d : Addr} {o : Obj}
theorem frz_vals {kvs : List (List Key × V)} (I : Inv X pins σ H s) (h : H d = some (.frz o (.dT kvs))) :
    s.heap.get? d = some o ∧ o.ExactDict ∧ ∃ (es : Array DictEntry) (ep : Nat), o.data = .dict es ep ∧ es.size = kvs.length ∧ ∀ (i : Nat) (k : List Key) (v : V), kvs[i]? = some (k, v) → ∃ en : DictEntry, es[i]? = some en ∧ RelV v en.val := by
  obtain ⟨hd, z, hs, xs, pr, o', es, ep, ho, hx, hdt, he, _⟩ := I.hok d _ h
  rw [hd] at ho
  cases ho
  refine ⟨hd, hx, es, ep, hdt, ?_, fun i k v e => ?_⟩
  · have l1 : es.size = xs.length := size_of_entries he
    have l2 : kvs.length = xs.length := Paired.length pr
    omega
  · obtain ⟨b, hb, _, _, e3⟩ := paired_get pr e
    have q := entry_at he i
    rw [hb] at q
    exact ⟨_, q, e3⟩
end
/-- the values, in their order -/
def ItdT (d : Addr) (o : Obj) (kvs : List (List Key × V)) : It :=
  ⟨fun i H => H d = some (.frz o (.dT kvs)) ∧ i < kvs.length, fun i H x H' => H' = H ∧ ∃ k, kvs[i]? = some (k, x), fun i H => H d = some (.frz o (.dT kvs)) ∧ kvs.length = i⟩
theorem turn_valsT {P : Program} {w : World} {K : Frag} {tg : Expr} {d : Addr} {o : Obj} {es : Array DictEntry} {ep : Nat} {kvs : List (List Key × V)} (it : Addr) (ni : d ≠ it) (hod : o.data = .dict es ep) (hz : es.size = kvs.length) :
    Turn P w K tg (ItdT d o kvs) [it] it (fun i h => h.IsValIter it d i es.size ep) where
  mem := by simp
  obj := fun i h st b hb => by
    have e : b = it := by simpa using hb
    subst e
    obtain ⟨oi, e, _, dd⟩ := st
    exact ⟨oi, e, fun v z => by rw [dd] at z; cases z⟩
  keep := fun i h h' st k => st.at fun oi e => k it (by simp) oi e
  item := by
    intro X hP hw hK hc i pins s σ H E I hf st hg
    subst hP hw hK
    obtain ⟨hd, hi⟩ := hg
    obtain ⟨f0, f1, f2, f3, f4, f5⟩ := hf it (by simp)
    obtain ⟨hgd, hx, es', ep', hdt, hsz, ent⟩ := frz_vals I hd
    obtain ⟨rfl, rfl⟩ := dict_ep hod hdt
    obtain ⟨⟨k, v⟩, hkv⟩ : ∃ p, kvs[i]? = some p := ⟨kvs[i], List.getElem?_eq_getElem hi⟩
    obtain ⟨en, hen, rv⟩ := ent i k v hkv
    have W := Walks.rawValues (prog := X.prog) (w := X.w) (I.ok.hd hc) it d ni es' ep'
    refine W.item i s _ _ (by omega) ⟨st, o, hgd, hx, hdt⟩ fun u h' tk hu st' kk => ?_
    obtain ⟨lt, rfl⟩ := hu
    have eu : en = es'[i] := by
      rw [Array.getElem?_eq_getElem lt] at hen
      exact (Option.some.inj hen).symm
    subst eu
    have I1 : Inv X pins σ H { s with heap := h', toks := tk } := I.turned (fun b o hb e => kk b o (by simpa using hb) e) f0 f1 f3 f4 f5
    obtain ⟨oi, e, c, dd⟩ := id st'.1
    exact ⟨_, rfl, go_of (s := { s with heap := h', toks := tk }) e c dd (by decide) ⟨v, H, I1, rv, ⟨rfl, k, hkv⟩, st'.1, fun b hb => (hf b hb).1⟩⟩
  done := by
    intro X hP hw hK hc i pins s σ H E I hf st hg
    subst hP hw hK
    obtain ⟨hd, hi⟩ := hg
    obtain ⟨f0, f1, f2, f3, f4, f5⟩ := hf it (by simp)
    obtain ⟨hgd, hx, es', ep', hdt, hsz, ent⟩ := frz_vals I hd
    obtain ⟨rfl, rfl⟩ := dict_ep hod hdt
    have W := Walks.rawValues (prog := X.prog) (w := X.w) (I.ok.hd hc) it d ni es' ep'
    have e : i = es'.size := by omega
    subst e
    exact W.done s _ _ ⟨st, o, hgd, hx, hdt⟩ fun h' tk eb => ⟨rfl, I.turned (fun b o hb q => eb b o (by simpa using hb) q) f0 f1 f3 f4 f5⟩
  self := fun A i s Q E st h => wpAny_pyIter_valiter st h
/-- the dict is locked (tLock, or by the caller) -/
def iValsT (td : TE) : TI := fun σ H R => td σ H fun x H1 => ∃ d o kvs, x = .ref d ∧ H1 d = some (.frz o (.dT kvs)) ∧ R (ItdT d o kvs) H1
theorem walk_valsT {d : Addr} {o : Obj} {kvs : List (List Key × V)} : Walk (ItdT d o kvs) kvs.length (fun H => H d = some (.frz o (.dT kvs))) (fun i H x H' => H' = H ∧ ∃ k, kvs[i]? = some (k, x)) :=
  ⟨fun _ _ hi q => ⟨q, hi⟩, fun _ q => ⟨q, rfl⟩, fun _ _ _ _ _ _ y => y⟩
section
variable {X : Cx} {tg e : Expr} {td : TE} {apos cpos : Pos}
theorem pi_valuesT (he : PE X e td) (hbase : attributeBase e "values" X.env (eval e X.env) = eval e X.env := by rfl) (hline : (apos.endLine == cpos.line) = true := by rfl) : PI X tg (.Call (.Attribute e "values" apos) [] [] cpos) (iValsT td) := by
  refine ⟨fun pins s σ H R I h => ?_⟩
  refine wpAny_Call_method (T := "dict") (id := "dict.values") hbase rfl hline F.plainAttrs_dict F.slot_dict_values F.type_dict_values (thn (he.run pins s σ H _ I h) fun u s1 ⟨x, H1, I1, rx, d, o, kvs, ex, hd, q⟩ => ?_)
  subst ex
  obtain rfl : u = Value.ref d := rx
  have lo := (I1.frzT hd).1
  obtain ⟨hgd, hx, es, ep, hdt, hsz, ent⟩ := frz_vals I1 hd
  have raw : s1.heap.DictRaw d es ep := ⟨o, hgd, hx, hdt⟩
  have ty : s1.TypeIs (.ref d) "dict" := ⟨o, hgd, hx.1⟩
  refine ⟨ty, (fun b z => by cases z; exact ⟨o, hgd, hx.2.1⟩), ?_⟩
  have I2 : Inv X pins σ H1 { s1 with heap := s1.heap.push { cls := .type "dict_values", data := .fields #[.ref d] } } := I1.kept (t' := s1.toks) fun b ob z => Heap.get?_push_of_some _ z
  have lt : d < s1.heap.objs.size := Heap.lt_size hgd
  have fin : wpAny (model X.prog X.w) X.A (pyIter (.ref s1.heap.objs.size)) (PIE X pins σ tg R) X.xe { s1 with heap := s1.heap.push { cls := .type "dict_values", data := .fields #[.ref d] } } := by
    refine wpAny_pyIter_values_raw (d := d) ⟨_, Heap.get?_push_size _ rfl, rfl, rfl⟩ (raw.push _) (pi_one (tk := s1.toks) I2 _ (turn_valsT _ (Nat.ne_of_lt (by show d < (s1.heap.push _).objs.size; rw [Heap.size_push]; exact Nat.lt_succ_of_lt lt)) hdt hsz) ⟨_, Heap.get?_push_size _ rfl, rfl, rfl⟩ q)
  show wpAny _ _ (callWith cpos (.builtin "dict.values") [.ref d] [] []) _ X.xe s1
  exact method_meetsIn F.slot_dict_values F.entry_dict_values rfl (PySem.evalArgs_none ⟨rfl, ty, F.args_dict_values_1 _, _, meets_dict_values_raw d lo, ⟨es, ep, raw⟩, fin⟩)
end
end Kd

-- ===== KS17 =====
set_option Elab.async false
set_option linter.all false
set_option maxRecDepth 100000
set_option maxHeartbeats 4000000
namespace Kd
open PySem L2 PyProof.Rows PySem.Spec
/-! ### dicts whose keys are nested tuples, their values whole numbers -/
mutual
/-- v is the key k -/
inductive NkV (H : Hp) : V → NestedKey → Prop
  | num (i : Int) : NkV H (.int i) (.num i)
  | text (x : Str) : NkV H (.str x) (.text x)
  | tup {a : Addr} {vs : List V} {ks : List NestedKey} : H a = some (.tup vs) → NkVs H vs ks → NkV H (.ref a) (.tup ks)
inductive NkVs (H : Hp) : List V → List NestedKey → Prop
  | nil : NkVs H [] []
  | cons {v : V} {vs : List V} {k : NestedKey} {ks : List NestedKey} : NkV H v k → NkVs H vs ks → NkVs H (v :: vs) (k :: ks)
end
mutual
theorem NkV.to {H H' : Hp} (s : ∀ a xs, H a = some (.tup xs) → H' a = some (.tup xs)) : ∀ {v : V} {k : NestedKey}, NkV H v k → NkV H' v k
  | _, _, .num i => .num i
  | _, _, .text x => .text x
  | _, _, .tup h1 h2 => .tup (s _ _ h1) (NkVs.to s h2)
theorem NkVs.to {H H' : Hp} (s : ∀ a xs, H a = some (.tup xs) → H' a = some (.tup xs)) : ∀ {vs : List V} {ks : List NestedKey}, NkVs H vs ks → NkVs H' vs ks
  | _, _, .nil => .nil
  | _, _, .cons h1 h2 => .cons (NkV.to s h1) (NkVs.to s h2)
end
section
variable {X : Cx} {pins : List (Addr × Obj)} {σ : L2.St} {H : Hp} {s : Shared}
mutual
theorem nk_is (I : Inv X pins σ H s) : ∀ (k : NestedKey) {v : V} {u : Value}, NkV H v k → RelV v u → NestedIs s.heap k u
  | .none, _, _, h, _ => by cases h
  | .num i, _, _, h, r => by
    cases h
    obtain ⟨t, rfl⟩ := r
    exact .int i t
  | .text x, _, _, h, r => by
    cases h
    obtain ⟨t, rfl⟩ := r
    exact .text x t
  | .tup ks, _, _, h, r => by
    cases h with
    | tup h1 h2 =>
      cases r
      obtain ⟨_, its, rv, o, ho, hc, n, hd⟩ := (show ObjOk X.prog X.w H s.heap _ (.tup _) from I.hok _ _ h1)
      exact .tup ho hc hd (by simpa using nks_are I ks h2 rv)
theorem nks_are (I : Inv X pins σ H s) : ∀ (ks : List NestedKey) {vs : List V} {us : List Value}, NkVs H vs ks → Vals vs us → NestedAll s.heap ks us
  | [], _, _, h, r => by
    cases h
    cases r
    exact .nil
  | k :: ks, _, _, h, r => by
    cases h with
    | cons h1 h2 =>
      cases r with
      | cons r1 r2 => exact .cons (nk_is I k h1 r1) (nks_are I ks h2 r2)
end
end
/-- a key, where its tuple stands, its number -/
abbrev NRow := NestedKey × Addr × Int
def NRows (L : List NRow) (xs : List (NestedKey × Addr × Value)) : Prop := Paired (fun (p : NRow) x => p.1 = x.1 ∧ p.2.1 = x.2.1 ∧ ∃ t, x.2.2 = Value.int p.2.2 t) L xs
theorem paired_snoc {α β : Type} {R : α → β → Prop} {l : List α} {m : List β} {a : α} {b : β} (r : Paired R l m) (h : R a b) : Paired R (l ++ [a]) (m ++ [b]) := by
  induction r with
  | nil => exact .cons h .nil
  | cons x _ ih => exact .cons x ih
def NHeld (P : Program) (w : World) (a : Addr) (L : List NRow) (h : Heap) : Prop := ∃ (xs : List (NestedKey × Addr × Value)) (o : Obj) (es : Array DictEntry) (ep : Nat), h.get? a = some o ∧ o.ExactDict ∧ o.data = .dict es ep ∧ es.toList = xs.map (entryOfKey (nestedKind P w)) ∧ (xs.map (·.1)).Nodup ∧ NRows L xs ∧ (a == sysModules) = false ∧ L.length ≤ 1000
def NDict (P : Program) (w : World) (a : Addr) (L : List NRow) : HO := .ext (NHeld P w a L)
theorem ndict_ok {P : Program} {w : World} {H : Hp} {h : Heap} {a : Addr} {L : List NRow} (x : NHeld P w a L h) : ObjOk P w H h a (NDict P w a L) := by
  refine ⟨x, ?_, fun h1 h2 y k => ?_⟩
  · obtain ⟨_, o, _, _, ho, _⟩ := x
    exact ⟨o, ho⟩
  · obtain ⟨xs, o, es, ep, ho, r⟩ := y
    exact ⟨xs, o, es, ep, k o ho, r⟩
/-- the keys' tuples stand -/
def NKeys (H : Hp) (L : List NRow) : Prop := ∀ p ∈ L, NkV H (.ref p.2.1) p.1 ∧ p.1.depth ≤ 8
def valN (L : List NRow) (k : NestedKey) : Option Int := (L.find? fun p => decide (p.1 = k)).map (·.2.2)
theorem rows_at {L : List NRow} {xs : List (NestedKey × Addr × Value)} (r : NRows L xs) (k : NestedKey) : (∀ i, valN L k = some i → ∃ b t, atKey xs k = some (b, .int i t)) ∧ (valN L k = none → atKey xs k = none) := by
  unfold NRows at r
  induction r with
  | nil => exact ⟨fun i e => (nomatch (show (none : Option Int) = some i from e)), fun _ => rfl⟩
  | @cons p x ps xs h t ih =>
    obtain ⟨h1, h2, tk, h3⟩ := h
    unfold valN atKey at ih ⊢
    rw [List.find?_cons, List.find?_cons, ← h1]
    by_cases e : p.1 = k
    · rw [decide_eq_true e]
      refine ⟨fun i q => ?_, fun q => by cases q⟩
      have q2 : p.2.2 = i := Option.some.inj q
      exact ⟨x.2.1, tk, by rw [← q2, ← h3]; rfl⟩
    · rw [decide_eq_false e]
      exact ih
section
variable {X : Cx} {pins : List (Addr × Obj)} {σ : L2.St} {H : Hp} {s : Shared}
theorem ndict_rd {a : Addr} {L : List NRow} (I : Inv X pins σ H s) (ha : H a = some (NDict X.prog X.w a L)) (ks : NKeys H L) : ∃ xs, s.heap.DictOfH (nestedKind X.prog X.w) a xs ∧ NRows L xs ∧ (a == sysModules) = false ∧ L.length ≤ 1000 := by
  obtain ⟨xs, o, es, ep, ho, hx, hd, he, hn, r, lo, few⟩ := (show NHeld X.prog X.w a L s.heap from (I.hok a _ ha).1)
  refine ⟨xs, ⟨o, es, ep, ho, hx, hd, he, fun x hx => ?_, hn⟩, r, lo, few⟩
  have all : ∀ {L : List NRow} {xs : List (NestedKey × Addr × Value)}, NRows L xs → NKeys H L → ∀ x ∈ xs, NestedIs s.heap x.1 (.ref x.2.1) ∧ x.1.depth ≤ 8 := by
    intro L xs r
    unfold NRows at r
    induction r with
    | nil => exact fun _ x m => nomatch m
    | @cons p y ps ys h t ih =>
      intro k x m
      rcases List.mem_cons.mp m with rfl | m
      · obtain ⟨h1, h2, _⟩ := h
        rw [← h1, ← h2]
        have q := k p List.mem_cons_self
        exact ⟨nk_is I _ q.1 rfl, q.2⟩
      · exact ih (fun q mq => k q (List.mem_cons_of_mem _ mq)) x m
  exact all r ks x hx
end
/-- {}, to be such a dict -/
def tDNewN (P : Program) (w : World) : TE := fun _ H Q => ∀ p, H p = none → Q (.ref p) (upd H p (NDict P w p []))
/-- row not in d -/
def rNotN (P : Program) (w : World) : R2 := fun x y H Q => ∃ b a k L, x = .ref b ∧ y = .ref a ∧ NkV H (.ref b) k ∧ k.depth ≤ 8 ∧ H a = some (NDict P w a L) ∧ NKeys H L ∧ Q (.bl (!(valN L k).isSome)) H
/-- d[row] -/
def tGetN (P : Program) (w : World) (td ty : TE) : TE := fun σ H Q => td σ H fun x H1 => ty σ H1 fun y H2 => ∃ a b k L i, x = .ref a ∧ y = .ref b ∧ NkV H2 (.ref b) k ∧ k.depth ≤ 8 ∧ H2 a = some (NDict P w a L) ∧ NKeys H2 L ∧ valN L k = some i ∧ Q (.int i) H2
/-- d[row] = i, the row being new there -/
def sPutN (P : Program) (w : World) (td ty tv : TE) : TS := fun D σ H => tv σ H fun v H1 => td σ H1 fun x H2 => ty σ H2 fun y H3 => ∃ a b k L i, v = .int i ∧ x = .ref a ∧ y = .ref b ∧ NkV H3 (.ref b) k ∧ k.depth ≤ 8 ∧ H3 a = some (NDict P w a L) ∧ NKeys H3 L ∧ valN L k = none ∧ L.length < 1000 ∧
  D.nx σ (upd H3 a (NDict P w a (L ++ [(k, b, i)])))
/-- len(d) -/
def rLenN (P : Program) (w : World) : List V → Hp → VK → Prop := fun xs H Q => ∃ a L, xs = [.ref a] ∧ H a = some (NDict P w a L) ∧ NKeys H L ∧ Q (.int L.length) H
section
variable {X : Cx} {o i e value : Expr} {pos pos' : Pos} {td ty tv : TE}
theorem pe_dnewN : PE X (.Dict [] [] pos) (tDNewN X.prog X.w) := ⟨fun pins s σ H Q I h =>
  wpAny_Dict_empty ⟨.ref s.heap.objs.size, _, I.laid (a := s.heap.objs.size) (t' := s.toks) (fun _ _ q => Heap.get?_push_of_some _ q) (Nat.le_refl _)
    (ndict_ok ⟨[], _, #[], 0, Heap.get?_push_size _ rfl, ⟨rfl, rfl, rfl⟩, rfl, rfl, List.nodup_nil, .nil, beq_eq_false_iff_ne.mpr (Ne.symm (Nat.ne_of_lt I.big)), Nat.zero_le _⟩), rfl, h _ (I.hok.fresh (Nat.le_refl _))⟩⟩
theorem op_notN (hu : X.A.units + 64 < cLine) : OpR X (compareOp .NotIn) (rNotN X.prog X.w) := by
  intro pins s σ H x y v u Q I rx ry h
  obtain ⟨b, a, k, L, rfl, rfl, hk, hd, ha, ks, q⟩ := h
  cases (show v = Value.ref b from rx)
  cases (show u = Value.ref a from ry)
  obtain ⟨xs, D, r, lo, few⟩ := ndict_rd I ha ks
  have room : (nestedKind X.prog X.w).room X.A.in1 := (show X.A.in1.units + 8 < cLine by simp only [Around.in1]; omega)
  refine wpAny_notIn_heap room ⟨nk_is I k hk rfl, hd⟩ lo D ⟨.bl (!(valN L k).isSome), H, I.tok _, ?_, q⟩
  have z := rows_at r k
  cases e : valN L k with
  | none => rw [z.2 e]; rfl
  | some i =>
    obtain ⟨c, t, q⟩ := z.1 i e
    rw [q]
    rfl
theorem pe_getN (hu : X.A.units + 64 < cLine) (ho : PE X o td) (hi : PE X i ty) (hs : NoSl i) : PE X (.Subscript o i pos) (tGetN X.prog X.w td ty) := by
  refine ⟨fun pins s σ H Q I h => ?_⟩
  refine subD_of PySem.F.slot_dict_getitem.lookup hs (thn (ho.run pins s σ H _ I h) fun u s1 ⟨x, H1, I1, rx, q1⟩ => thn (hi.run pins s1 σ H1 _ I1 q1) fun iv s2 ⟨y, H2, I2, ry, a, b, k, L, j, ex, ey, hk, hd, ha, ks, hv, q2⟩ => ?_)
  subst ex ey
  obtain rfl : u = Value.ref a := rx
  obtain rfl : iv = Value.ref b := ry
  obtain ⟨xs, D, r, lo, few⟩ := ndict_rd I2 ha ks
  obtain ⟨c, t, q⟩ := (rows_at r k).1 j hv
  have room : (nestedKind X.prog X.w).room X.A.in1 := (show X.A.in1.units + 8 < cLine by simp only [Around.in1]; omega)
  exact ⟨D.typeIs, wpAny_getItem_heap room ⟨nk_is I2 k hk rfl, hd⟩ D q ⟨.int j, H2, I2.tok _, ⟨t, rfl⟩, q2⟩⟩
theorem ps_putN (hu : X.A.units + 64 < cLine) (ho : PE X o td) (hi : PE X i ty) (hv : PE X value tv) (hs : swapsWith value (some (.Subscript o i pos')) pos.line X.env = pure false) :
    PS X (.Assign [.Subscript o i pos'] value pos) (sPutN X.prog X.w td ty tv) := by
  refine ⟨fun pins s σ H D I h => ?_⟩
  refine wpAny_Assign_Subscript (thn (hv.run pins s σ H _ I h) fun r s1 ⟨v, H1, I1, rv, q1⟩ => thn (ho.run pins s1 σ H1 _ I1 q1) fun u s2 ⟨x, H2, I2, rx, q2⟩ => thn (hi.run pins s2 σ H2 _ I2 q2) fun iv s3 ⟨y, H3, I3, ry, a, b, k, L, j, ev, ex, ey, hk, hd, ha, ks, hn, few, q3⟩ => ?_) hs
  subst ex ey ev
  obtain rfl : u = Value.ref a := rx
  obtain rfl : iv = Value.ref b := ry
  obtain ⟨t, rfl⟩ := (show ∃ t, r = Value.int j t from rv)
  obtain ⟨xs, Dd, rr, lo, _⟩ := ndict_rd I3 ha ks
  have lx : L.length = xs.length := Paired.length rr
  have big := sizeLine_eq
  have room : (nestedKind X.prog X.w).room X.A.in1 := (show X.A.in1.units + 8 < cLine by simp only [Around.in1]; omega)
  refine wpAny_setItem_heap (hsz := by omega) room ⟨nk_is I3 k hk rfl, hd⟩ Dd fun h' D2 sb => ?_
  rw [storedH_new ((rows_at rr k).2 hn)] at D2
  obtain ⟨o2, es, ep, g1, g2, g3, g4, _, g5⟩ := D2
  refine ⟨σ, _, d_write I3 (by rw [ha]; exact True.intro) sb ⟨o2, g1⟩ (ndict_ok ⟨xs ++ [(k, b, .int j t)], o2, es, ep, g1, g2, g3, g4, g5, ?_, lo, by rw [List.length_append]; exact few⟩), q3⟩
  exact paired_snoc rr ⟨rfl, rfl, t, rfl⟩
theorem call_lenN : CallR X (.builtin "len") (rLenN X.prog X.w) := by
  intro pins s σ H vs us Q I r h
  obtain ⟨a, L, rfl, ha, ks, q⟩ := h
  rw [Vals.ref1 r]
  obtain ⟨xs, D, rr, lo, few⟩ := ndict_rd I ha ks
  have lx : L.length = xs.length := Paired.length rr
  refine call_len_dictH lo D (by omega) ?_
  rw [← lx]
  exact ⟨.int ((L.length : Nat) : Int), H, I.tok _, ⟨_, rfl⟩, q⟩
end
end Kd

-- ===== K4H =====
set_option Elab.async false
set_option linter.all false
set_option maxRecDepth 100000
set_option maxHeartbeats 4000000
namespace My
open PySem L2 PyProof.Rows PySem.Spec Kd TL
abbrev sClasses : Stmt := top 9
abbrev sMarked : Stmt := top 10
abbrev sNumbered : Stmt := top 11
abbrev sLeast : Stmt := top 12
/-! ### states told by marks, numbered -/
mutual
/-- data as a key -/
def nkD : PyData → NestedKey
  | .int i => .num i
  | .str x => .text x
  | .tuple ds => .tup (nkDs ds)
  | _ => .none
def nkDs : List PyData → List NestedKey
  | [] => []
  | d :: ds => nkD d :: nkDs ds
end
mutual
theorem td_nk {H : Hp} : ∀ {v : V} {d : PyData}, TD H v d → NkV H v (nkD d)
  | _, _, .int i => by rw [nkD]; exact .num i
  | _, _, .str x => by rw [nkD]; exact .text x
  | _, _, .tup h1 h2 => by rw [nkD]; exact .tup h1 (tds_nk h2)
theorem tds_nk {H : Hp} : ∀ {vs : List V} {ds : List PyData}, TDs H vs ds → NkVs H vs (nkDs ds)
  | _, _, .nil => by rw [nkDs]; exact .nil
  | _, _, .cons h1 h2 => by rw [nkDs]; exact .cons (td_nk h1) (tds_nk h2)
end
/-- a state's key -/
def keyS (st : List Stp) : NestedKey := nkD (stateD st)
theorem key_step (x : Stp) : nkD (stepD x) = .tup [.text x.1, .text x.2.1, .num x.2.2] := by
  unfold stepD
  simp only [nkD, nkDs]
theorem keyS_eq (st : List Stp) : keyS st = .tup (st.map fun x => nkD (stepD x)) := by
  unfold keyS stateD
  rw [nkD]
  congr 1
  induction st with
  | nil => simp only [List.map_nil, nkDs]
  | cons x st ih => simp only [List.map_cons, nkDs, ih]
theorem keyS_depth (st : List Stp) : (keyS st).depth ≤ 8 := by
  have all : ∀ st : List Stp, NestedKey.depthAll (st.map fun x => nkD (stepD x)) ≤ 1 := by
    intro st
    induction st with
    | nil => simp only [List.map_nil, NestedKey.depthAll]; omega
    | cons x st ih =>
      rw [List.map_cons, NestedKey.depthAll, key_step]
      simp only [NestedKey.depthAll, NestedKey.depth]
      omega
  rw [keyS_eq, NestedKey.depth]
  have := all st
  omega
theorem keyS_inj {st su : List Stp} (h : keyS st = keyS su) : st = su := by
  rw [keyS_eq, keyS_eq] at h
  have h2 := NestedKey.tup.inj h
  induction st generalizing su with
  | nil =>
    cases su with
    | nil => rfl
    | cons y su => cases h2
  | cons x st ih =>
    cases su with
    | nil => cases h2
    | cons y su =>
      injection h2 with e1 e2
      have e1 : nkD (stepD x) = nkD (stepD y) := e1
      rw [key_step, key_step] at e1
      injection e1 with e1
      injection e1 with a1 e1
      injection e1 with a2 e1
      injection e1 with a3 _
      obtain ⟨a, b, i⟩ := x
      obtain ⟨c, d, j⟩ := y
      have z1 := NestedKey.text.inj a1
      have z2 := NestedKey.text.inj a2
      have z3 := NestedKey.num.inj a3
      simp only at z1 z2 z3
      rw [z1, z2, z3, ih (by rw [e2]) e2]
/-- a step told by the mark of where it leads -/
def markS (ms : List Int) (x : Stp) : Stp := (x.1, x.2.1, ms.getD x.2.2.toNat 0)
def spMarked : Sp := fun vs H Q _ => ∃ (a b : Addr) (st : List Stp) (ms : List Int), vs = [.ref a, .ref b] ∧ TD H (.ref a) (stateD st) ∧ StOk ms.length st ∧ H b = some (.lst (ms.map V.int)) ∧ ∀ c H', Same H H' → TD H' (.ref c) (stateD (st.map (markS ms))) → Q (.ref c) H'
/-- each key once, numbered as they come -/
structure Num (L : List NRow) (ks : List NestedKey) : Prop where
  nd : (L.map (·.1)).Nodup
  idx : ∀ (i : Nat) (p : NRow), L[i]? = some p → p.2.2 = (i : Int)
  all : ∀ k ∈ ks, k ∈ L.map (·.1)
  only : ∀ k ∈ L.map (·.1), k ∈ ks
theorem valN_mem {L : List NRow} {k : NestedKey} : (∃ i, valN L k = some i) ↔ k ∈ L.map (·.1) := by
  unfold valN
  constructor
  · rintro ⟨i, e⟩
    obtain ⟨p, hp, _⟩ := Option.map_eq_some_iff.mp e
    have h1 := List.mem_of_find?_eq_some hp
    have h2 := List.find?_some hp
    exact List.mem_map.mpr ⟨p, h1, of_decide_eq_true h2⟩
  · intro m
    obtain ⟨p, hp, e⟩ := List.mem_map.mp m
    have ex : ((L.find? fun p => decide (p.1 = k))).isSome := List.find?_isSome.mpr ⟨p, hp, decide_eq_true e⟩
    obtain ⟨q, hq⟩ := Option.isSome_iff_exists.mp ex
    exact ⟨q.2.2, by rw [hq]; rfl⟩
theorem valN_none {L : List NRow} {k : NestedKey} : valN L k = none ↔ k ∉ L.map (·.1) := by
  rw [← valN_mem]
  cases valN L k with
  | none => simp
  | some i => simp
theorem Num.put {L : List NRow} {ks : List NestedKey} {k : NestedKey} {b : Addr} (N : Num L ks) (n : k ∉ L.map (·.1)) : Num (L ++ [(k, b, (L.length : Int))]) (ks ++ [k]) := by
  refine ⟨?_, fun i p e => ?_, fun j m => ?_, fun j m => ?_⟩
  · rw [List.map_append]
    exact List.nodup_append.mpr ⟨N.nd, by simp, fun x hx y hy z => n (by rw [show k = y from (List.mem_singleton.mp hy).symm, ← z]; exact hx)⟩
  · rcases Nat.lt_or_ge i L.length with lt | ge
    · rw [List.getElem?_append_left lt] at e
      exact N.idx i p e
    · rw [List.getElem?_append_right ge] at e
      have z := (List.getElem?_eq_some_iff.mp e).1
      simp at z
      have ei : i - L.length = 0 := by omega
      rw [ei] at e
      rw [← Option.some.inj e]
      show (L.length : Int) = i
      omega
  · rw [List.map_append]
    rcases List.mem_append.mp m with m | m
    · exact List.mem_append_left _ (N.all j m)
    · exact List.mem_append_right _ (by rw [List.mem_singleton.mp m]; simp)
  · rw [List.map_append] at m
    rcases List.mem_append.mp m with m | m
    · exact List.mem_append_left _ (N.only j m)
    · exact List.mem_append_right _ (by simpa using m)
theorem Num.skip {L : List NRow} {ks : List NestedKey} {k : NestedKey} (N : Num L ks) (n : k ∈ L.map (·.1)) : Num L (ks ++ [k]) :=
  ⟨N.nd, N.idx, fun j m => by
    rcases List.mem_append.mp m with m | m
    · exact N.all j m
    · rw [List.mem_singleton.mp m]
      exact n, fun j m => List.mem_append_left _ (N.only j m)⟩
theorem Num.len {L : List NRow} {ks : List NestedKey} (N : Num L ks) : L.length ≤ ks.length := by
  have z := nodup_most (L.map (·.1)) ks N.nd N.only
  rwa [List.length_map] at z
def spNumbered (P : Program) (w : World) : Sp := fun vs H Q _ => ∃ (r : Addr) (as : List V) (rs : List (List Stp)), vs = [.ref r] ∧ H r = some (.lst as) ∧ TDs H as (rs.map stateD) ∧ rs.length ≤ 40 ∧
  ∀ (d : Addr) (L : List NRow) (H' : Hp), Same H H' → H d = none → H' d = some (NDict P w d L) → NKeys H' L → Num L (rs.map keyS) → Q (.ref d) H'
section
variable {P : Program} {w : World} {K : PySem.W.Frag} {mg : Str → Option Value} {base : Heap}
abbrev nMk : List Str := ["state", "marks", "operation", "answer", "goal"]
theorem scMk : FnScope nMk ["state", "marks"] (defScope sMarked) := ⟨rfl, rfl, rfl, by decide +kernel, rfl, by decide +kernel, by decide +kernel⟩
theorem ok_marked {f : Addr} {fd : FuncData} (F : Fun K "_marked" "_marked" sMarked f fd) (mtup : mg "tuple" = none) : FnOk P w K mg base CX0 1 f fd ["state", "marks"] spMarked := by
  refine F.ok scMk (fun vs H Q E h => ?_) (fun cdv A outer s H vs Q E hr h => ?_)
  · obtain ⟨a, b, st, ms, rfl, _⟩ := h
    rfl
  · obtain ⟨a, b, st, ms, rfl, hx, so, hb, k⟩ := h
    refine ⟨_, pss_one (ps_ret (pe_callTy call_tuple_of (by rfl) mtup (by decide +kernel) (pa_cons (pe_lc (own := [("operation", 2), ("answer", 3), ("goal", 4)]) (g := gTup K 3 (gCons (gName 2) (gCons (gName 3) (gCons (gName 4) gNil)))) (tt := tYes) rfl scMk.nd (pi_tup (pv 0)) (blkOk_by (N := nMk) (sc := defScope sMarked) (by decide +kernel))
        (fun _ _ _ _ _ => pg_tup (by rfl) (pgs_cons (pg_name (i := 2) scMk.nd rfl (Or.inl rfl)) (pgs_cons (pg_name (i := 3) scMk.nd rfl (Or.inl rfl)) (pgs_cons (pg_name (i := 4) scMk.nd rfl (Or.inl rfl)) pgs_nil)))) (fun _ _ _ _ _ => pts_nil)
        (fun _ _ _ _ _ => pe_tup (pa_cons (pv 2) (pa_cons (pv 3) (pa_cons (pe_ix (r := rIxL K) ix_list (pv 1) (pv 4) (fun _ _ => rfl)) pa_nil))))) pa_nil))), ?_⟩
    obtain ⟨xs, ha, hxs⟩ := hx.tup_of
    have len : xs.length = st.length := by
      have z := hxs.len
      rwa [List.length_map] at z
    have few := so.few
    refine ⟨_, rfl, a, rfl, ⟨_, SqT.of ha⟩, fun D hD => lc_tup (K := K) (a := a) (xs := xs) (fun j H2 => Same H H2 ∧ ∃ vs, H2 D = some (.lst vs) ∧ TDs H2 vs (((st.take j).map (markS ms)).map stepD)) ⟨same_new hD, [], upd_same, by simpa using TDs.nil⟩ (fun j H2 _ ⟨s2, _⟩ => SqT.of (s2 _ _ ha)) (fun j x H2 ex ⟨s2, vs, d2, tv⟩ => ?_) fun H2 ⟨s2, vs, d2, tv⟩ => ?_⟩
    · obtain ⟨d, ed, td⟩ := hxs.get ex
      rw [List.getElem?_map] at ed
      obtain ⟨y, ey, rfl⟩ := Option.map_eq_some_iff.mp ed
      obtain ⟨c, rfl, hc⟩ := step_of td
      have yo := so.all y (List.mem_of_getElem? ey)
      have lt : j < st.length := (List.getElem?_eq_some_iff.mp ey).1
      have vl := tv.len
      rw [List.length_map, List.length_map, List.length_take] at vl
      obtain ⟨g, eg⟩ := Int.eq_ofNat_of_zero_le yo.lo
      have gl : g < ms.length := by
        have := yo.hi
        omega
      have at_ : atI (ms.map V.int) y.2.2 = some (.int (ms.getD y.2.2.toNat 0)) := by
        rw [eg]
        refine atI_nat ?_
        rw [List.getElem?_map, List.getElem?_eq_getElem gl, Option.map_some]
        simp [gl]
      refine ⟨c, _, rfl, SqT.of (s2 _ _ hc), rfl, _, _, rfl, _, _, rfl, _, _, rfl, rfl, rfl, ?_⟩
      refine ⟨_, rfl, _, rfl, _, rfl, _, rfl, b, _, _, _, rfl, rfl, SqL.of (s2 _ _ hb), at_, by show 3 ≤ sizeLine; decide, fun q hq => ?_⟩
      have d3 := same_new (o := .tup [V.str y.1, .str y.2.1, .int (ms.getD y.2.2.toNat 0)]) hq _ _ d2
      have tp : Tup (upd H2 q (.tup [V.str y.1, .str y.2.1, .int (ms.getD y.2.2.toNat 0)])) (upd (upd H2 q (.tup [V.str y.1, .str y.2.1, .int (ms.getD y.2.2.toNat 0)])) D (.lst (vs ++ [.ref q]))) := Tup.at_ d3 fun xs z => nomatch z
      refine ⟨vs, d3, small_lt (m := 24) (by omega), same_at (s2.trans (same_new hq)) hD, vs ++ [.ref q], upd_same, ?_⟩
      rw [List.take_succ, ey, Option.toList_some, List.map_append, List.map_append]
      exact TDs.snoc (.tup (tp _ _ upd_same) (.cons (.str _) (.cons (.str _) (.cons (.int _) .nil)))) ((tv.to (Tup.new hq)).to tp)
    · rw [len, List.take_length] at tv
      exact ⟨D, vs, rfl, .inl ⟨SqL.of d2, fun q hq => k q _ (s2.trans (same_new hq)) (.tup upd_same (tv.to (Tup.new hq)))⟩⟩
theorem NKeys.to {H H' : Hp} {L : List NRow} (t : Tup H H') (k : NKeys H L) : NKeys H' L := fun p m => ⟨(k p m).1.to t, (k p m).2⟩
theorem TDs.at_ {H : Hp} {vs : List V} {rs : List (List Stp)} (h : TDs H vs (rs.map stateD)) {i : Nat} {v : V} (e : vs[i]? = some v) : ∃ st b, rs[i]? = some st ∧ v = .ref b ∧ TD H (.ref b) (stateD st) := by
  obtain ⟨d, ed, td⟩ := h.get e
  rw [List.getElem?_map] at ed
  obtain ⟨st, es, rfl⟩ := Option.map_eq_some_iff.mp ed
  obtain ⟨b, ys, rfl, _⟩ := td.ref_of
  exact ⟨st, b, es, rfl, td⟩
abbrev nNu : List Str := ["rows", "numbers", "row"]
theorem scNm : FnScope nNu ["rows"] (defScope sNumbered) := ⟨rfl, rfl, rfl, by decide +kernel, rfl, by decide +kernel, by decide +kernel⟩
theorem ok_numbered {f : Addr} {fd : FuncData} (F : Fun K "_numbered" "_numbered" sNumbered f fd) (mlen : mg "len" = none) : FnOk P w K mg base CX0 1 f fd ["rows"] (spNumbered P w) := by
  refine F.ok scNm (fun vs H Q E h => ?_) (fun cdv A outer s H vs Q E hr h => ?_)
  · obtain ⟨r, as, rs, rfl, _⟩ := h
    rfl
  · obtain ⟨r, as, rs, rfl, hR, tds, few, k⟩ := h
    have hu := hr.units
    refine ⟨_, pss_cons (ps_set (i := 1) scNm.nd rfl (Or.inl rfl) pe_dnewN)
      (pss_cons (ps_for PassesOwn.never rfl (pi_list (pv 0)) (pg_name (i := 2) scNm.nd rfl (Or.inl rfl))
        (pss_one (ps_if (pt_cmpR (op_notN hu) (pv 2) (pv 1) (by rfl)) (pss_one (ps_putN hu (pv 1) (pv 2) (pe_callB call_lenN (by rfl) mlen PySem.boot_len (pa_cons (pv 1) pa_nil)) (by rfl))) pss_nil)))
      (pss_one (ps_ret (pv 1)))), ?_⟩
    have len : as.length = rs.length := by
      have z := tds.len
      rwa [List.length_map] at z
    refine fun d hd => ?_
    refine ⟨_, rfl, r, rfl, ⟨_, SqL.of (same_new hd _ _ hR)⟩, for_list (K := K) (a := r) (xs := as) (fun i σ H2 => ∃ o2 L, σ = [some (.ref r), some (.ref d), o2] ∧ Same H H2 ∧ H2 d = some (NDict P w d L) ∧ NKeys H2 L ∧ Num L ((rs.take i).map keyS))
      ⟨none, [], rfl, same_new hd, upd_same, (fun p m => nomatch m), ⟨List.nodup_nil, fun i p e => by simp at e, fun k m => by simp at m, fun k m => by simp at m⟩⟩ (fun i σ H2 _ ⟨_, _, _, s2, _⟩ => SqL.of (s2 _ _ hR)) ?_ ?_⟩
    · rintro i x σ H2 ex ⟨o2, L, rfl, s2, d2, ks, N⟩
      obtain ⟨st, b, es, rfl, td⟩ := tds.at_ ex
      have lt : i < rs.length := (List.getElem?_eq_some_iff.mp es).1
      have nk : NkV H2 (.ref b) (keyS st) := td_nk (td.to (Tup.of s2))
      have tk : (rs.take (i + 1)).map keyS = (rs.take i).map keyS ++ [keyS st] := by rw [List.take_succ, es, Option.toList_some, List.map_append]; rfl
      have ll := N.len
      rw [List.length_map, List.length_take] at ll
      refine ⟨_, rfl, _, rfl, b, d, keyS st, L, rfl, rfl, nk, keyS_depth st, d2, ks, _, rfl, ?_⟩
      cases e : valN L (keyS st) with
      | some j =>
        refine iteF ⟨_, L, rfl, s2, d2, ks, ?_⟩
        rw [tk]
        exact N.skip (valN_mem.mp ⟨j, e⟩)
      | none =>
        refine iteT ?_
        refine ⟨_, rfl, d, L, rfl, d2, ks, _, rfl, _, rfl, d, b, keyS st, L, (L.length : Int), rfl, rfl, rfl, nk, keyS_depth st, d2, ks, e, by omega, ?_⟩
        have tp : Tup H2 (upd H2 d (NDict P w d (L ++ [(keyS st, b, (L.length : Int))]))) := Tup.at_ d2 fun xs z => nomatch z
        refine ⟨_, _, rfl, same_at s2 hd, upd_same, fun p m => ?_, ?_⟩
        · rcases List.mem_append.mp m with m | m
          · exact NKeys.to tp ks p m
          · rw [List.mem_singleton.mp m]
            exact ⟨nk.to tp, keyS_depth st⟩
        · rw [tk]
          exact N.put (valN_none.mp e)
    · rintro σ H2 ⟨o2, L, rfl, s2, d2, ks, N⟩
      rw [len, List.take_length] at N
      exact ⟨_, rfl, k d L H2 s2 hd d2 ks N⟩
end
end My

-- ===== K4I =====
set_option Elab.async false
set_option linter.all false
set_option maxRecDepth 100000
set_option maxHeartbeats 4000000
namespace My
open PySem L2 PyProof.Rows PySem.Spec Kd TL
/-! ### classes of states -/
theorem Num.val {L : List NRow} {ks : List NestedKey} (N : Num L ks) {k : NestedKey} {v : Int} (e : valN L k = some v) : ∃ i : Nat, i < L.length ∧ v = (i : Int) ∧ (L.map (·.1))[i]? = some k := by
  unfold valN at e
  obtain ⟨p, hp, rfl⟩ := Option.map_eq_some_iff.mp e
  have m := List.mem_of_find?_eq_some hp
  have q0 := List.find?_some hp
  have q : p.1 = k := of_decide_eq_true q0
  obtain ⟨i, hi⟩ := List.mem_iff_getElem?.mp m
  refine ⟨i, (List.getElem?_eq_some_iff.mp hi).1, N.idx i p hi, ?_⟩
  rw [List.getElem?_map, hi, ← q]
  rfl
theorem Num.inj {L : List NRow} {ks : List NestedKey} (N : Num L ks) {k k' : NestedKey} {v : Int} (e : valN L k = some v) (e' : valN L k' = some v) : k = k' := by
  obtain ⟨i, _, h1, h2⟩ := N.val e
  obtain ⟨j, _, h3, h4⟩ := N.val e'
  have z : i = j := by omega
  rw [z, h4] at h2
  exact (Option.some.inj h2).symm
theorem nodup_at {α : Type} {l : List α} (nd : l.Nodup) {i j : Nat} {x : α} (h1 : l[i]? = some x) (h2 : l[j]? = some x) : i = j := by
  rcases Nat.lt_trichotomy i j with lt | e | gt
  · have z := List.pairwise_iff_getElem.mp nd i j (List.getElem?_eq_some_iff.mp h1).1 (List.getElem?_eq_some_iff.mp h2).1 lt
    exact absurd ((List.getElem?_eq_some_iff.mp h1).2.trans (List.getElem?_eq_some_iff.mp h2).2.symm) z
  · exact e
  · have z := List.pairwise_iff_getElem.mp nd j i (List.getElem?_eq_some_iff.mp h2).1 (List.getElem?_eq_some_iff.mp h1).1 gt
    exact absurd ((List.getElem?_eq_some_iff.mp h2).2.trans (List.getElem?_eq_some_iff.mp h1).2.symm) z
theorem Num.at_ {L : List NRow} {ks : List NestedKey} (N : Num L ks) {i : Nat} (h : i < L.length) : ∃ k ∈ ks, valN L k = some (i : Int) := by
  have hi : (L.map (·.1))[i]? = some (L[i].1) := by rw [List.getElem?_map, List.getElem?_eq_getElem h]; rfl
  have mk : L[i].1 ∈ L.map (·.1) := List.mem_of_getElem? hi
  obtain ⟨v, e⟩ := valN_mem.mpr mk
  obtain ⟨j, hj, rfl, h2⟩ := N.val e
  have z : j = i := by
    have l1 : i < (L.map (·.1)).length := by rw [List.length_map]; exact h
    have l2 : j < (L.map (·.1)).length := by rw [List.length_map]; exact hj
    exact nodup_at N.nd h2 hi
  rw [z] at e
  exact ⟨_, N.only _ mk, e⟩
/-- marks of the states: many of them, all below, and no two of one row -/
structure Marks (ss : List (List Stp)) (ms : List Int) (many : Nat) : Prop where
  len : ms.length = ss.length
  lt : ∀ i : Nat, i < ss.length → 0 ≤ ms.getD i 0 ∧ ms.getD i 0 < many
  sur : ∀ m : Nat, m < many → ∃ i : Nat, i < ss.length ∧ ms.getD i 0 = (m : Int)
  ref : ∀ (i j : Nat) (st su : List Stp), ss[i]? = some st → ss[j]? = some su → st.map (markS ms) = su.map (markS ms) → ms.getD i 0 = ms.getD j 0
def rowsOf (ss : List (List Stp)) (ms : List Int) : List (List Stp) := ss.map fun st => st.map (markS ms)
def nextOf (L : List NRow) (ss : List (List Stp)) (ms : List Int) : List Int := (rowsOf ss ms).map fun r => (valN L (keyS r)).getD 0
theorem marks0 {ss : List (List Stp)} (h : 1 ≤ ss.length) : Marks ss (List.replicate ss.length 0) 1 := by
  have z : ∀ i : Nat, (List.replicate ss.length (0 : Int)).getD i 0 = 0 := fun i => by
    rw [List.getD_eq_getElem?_getD, List.getElem?_replicate]
    split <;> rfl
  exact ⟨List.length_replicate, fun i _ => by rw [z]; omega, fun m hm => ⟨0, by omega, by rw [z]; omega⟩, fun i j _ _ _ _ _ => by rw [z, z]⟩
theorem marks_most {ss : List (List Stp)} {ms : List Int} {many : Nat} {L : List NRow} (M : Marks ss ms many) (N : Num L ((rowsOf ss ms).map keyS)) : many ≤ L.length := by
  have ch : ∀ m : Nat, m < many → ∃ k : NestedKey, ∃ i st, ss[i]? = some st ∧ ms.getD i 0 = (m : Int) ∧ k = keyS (st.map (markS ms)) := fun m hm => by
    obtain ⟨i, hi, e⟩ := M.sur m hm
    exact ⟨_, i, ss[i], List.getElem?_eq_getElem hi, e, rfl⟩
  obtain ⟨l, ll, hl⟩ := pick_each (fun m k => ∃ i st, ss[i]? = some st ∧ ms.getD i 0 = (m : Int) ∧ k = keyS (st.map (markS ms))) many ch
  have nd : l.Nodup := by
    refine List.pairwise_iff_getElem.mpr fun a b ha hb ab e => ?_
    obtain ⟨i, st, h1, h2, h3⟩ := hl a _ (List.getElem?_eq_getElem ha)
    obtain ⟨j, su, g1, g2, g3⟩ := hl b _ (List.getElem?_eq_getElem hb)
    rw [e, g3] at h3
    have z := M.ref j i su st g1 h1 (keyS_inj h3)
    omega
  have z := nodup_most l (L.map (·.1)) nd fun k hk => by
    obtain ⟨a, ha⟩ := List.mem_iff_getElem?.mp hk
    obtain ⟨i, st, h1, _, h3⟩ := hl a k ha
    refine N.all k (List.mem_map.mpr ⟨st.map (markS ms), List.mem_map.mpr ⟨st, List.mem_of_getElem? h1, rfl⟩, h3.symm⟩)
  rwa [ll, List.length_map] at z
theorem next_at {L : List NRow} {ss : List (List Stp)} {ms : List Int} (N : Num L ((rowsOf ss ms).map keyS)) {i : Nat} {st : List Stp} (e : ss[i]? = some st) : valN L (keyS (st.map (markS ms))) = some ((nextOf L ss ms).getD i 0) := by
  have mem : keyS (st.map (markS ms)) ∈ L.map (·.1) := N.all _ (List.mem_map.mpr ⟨st.map (markS ms), List.mem_map.mpr ⟨st, List.mem_of_getElem? e, rfl⟩, rfl⟩)
  obtain ⟨v, hv⟩ := valN_mem.mpr mem
  unfold nextOf rowsOf
  rw [List.getD_eq_getElem?_getD, List.getElem?_map, List.getElem?_map, e, hv]
  simp [hv]
theorem marks_next {ss : List (List Stp)} {ms : List Int} {many : Nat} {L : List NRow} (M : Marks ss ms many) (N : Num L ((rowsOf ss ms).map keyS)) (ok : ∀ st ∈ ss, ∀ x ∈ st, 0 ≤ x.2.2 ∧ x.2.2 < (ss.length : Int)) : Marks ss (nextOf L ss ms) L.length := by
  refine ⟨by unfold nextOf rowsOf; rw [List.length_map, List.length_map], fun i hi => ?_, fun m hm => ?_, fun i j st su e1 e2 h => ?_⟩
  · obtain ⟨j, hj, e, _⟩ := N.val (next_at N (List.getElem?_eq_getElem hi))
    rw [e]
    omega
  · obtain ⟨k, hk, e⟩ := N.at_ hm
    obtain ⟨r, hr, rfl⟩ := List.mem_map.mp hk
    obtain ⟨st, hst, rfl⟩ := List.mem_map.mp hr
    obtain ⟨i, hi⟩ := List.mem_iff_getElem?.mp hst
    have z := next_at N hi
    rw [e] at z
    exact ⟨i, (List.getElem?_eq_some_iff.mp hi).1, (Option.some.inj z).symm⟩
  · have same : st.map (markS ms) = su.map (markS ms) := by
      have o1 := ok st (List.mem_of_getElem? e1)
      have o2 := ok su (List.mem_of_getElem? e2)
      clear e1 e2
      induction st generalizing su with
      | nil =>
        cases su with
        | nil => rfl
        | cons y su => cases h
      | cons x st ih =>
        cases su with
        | nil => cases h
        | cons y su =>
          injection h with h1 h2
          have r := ih su h2 (fun z hz => o1 z (List.mem_cons_of_mem _ hz)) (fun z hz => o2 z (List.mem_cons_of_mem _ hz))
          rw [List.map_cons, List.map_cons, r]
          unfold markS at h1 ⊢
          injection h1 with a1 h1
          injection h1 with a2 a3
          obtain ⟨gx, ex⟩ := Int.eq_ofNat_of_zero_le (o1 x List.mem_cons_self).1
          obtain ⟨gy, ey⟩ := Int.eq_ofNat_of_zero_le (o2 y List.mem_cons_self).1
          have lx : gx < ss.length := by have := (o1 x List.mem_cons_self).2; omega
          have ly : gy < ss.length := by have := (o2 y List.mem_cons_self).2; omega
          rw [ex, ey] at a3 ⊢
          have a3 : (nextOf L ss ms).getD gx 0 = (nextOf L ss ms).getD gy 0 := a3
          have k1 := next_at N (List.getElem?_eq_getElem lx)
          have k2 := next_at N (List.getElem?_eq_getElem ly)
          rw [a3] at k1
          have m := M.ref gx gy _ _ (List.getElem?_eq_getElem lx) (List.getElem?_eq_getElem ly) (keyS_inj (N.inj k1 k2))
          show (x.1, x.2.1, ms.getD gx 0) :: _ = (y.1, y.2.1, ms.getD gy 0) :: _
          rw [a1, a2, m]
    have k1 := next_at N e1
    have k2 := next_at N e2
    rw [same, k2] at k1
    exact (Option.some.inj k1).symm
end My

-- ===== K4J =====
set_option Elab.async false
set_option linter.all false
set_option maxRecDepth 100000
set_option maxHeartbeats 4000000
namespace My
open PySem L2 PyProof.Rows PySem.Spec Kd TL
def spClasses : Sp := fun vs H Q _ => ∃ (a : Addr) (ss : List (List Stp)), vs = [.ref a] ∧ TD H (.ref a) (statesD ss) ∧ KOk ss ∧ ∀ (b : Addr) (ms : List Int) (many : Nat) (H' : Hp), Same H H' → H b = none → H' b = some (.lst (ms.map V.int)) → Marks ss ms many → Q (.ref b) H'
theorem none_of {H H2 : Hp} {b : Addr} (s : Same H H2) (h : H2 b = none) : H b = none := by
  cases e : H b with
  | none => rfl
  | some o => rw [s b o e] at h; exact h
theorem rep_ints (n : Nat) : (List.replicate ((n : Int)).toNat [V.int 0]).flatten = (List.replicate n (0 : Int)).map V.int := by
  rw [Int.toNat_natCast]
  induction n with
  | zero => rfl
  | succ n ih => rw [List.replicate_succ, List.flatten_cons, ih, List.replicate_succ]; rfl
/-- what the marks still lack to forty-one -/
def lackM : L2.St → Hp → Nat := fun σ _ => match σ with
  | _ :: _ :: some (.int m) :: _ => 41 - m.toNat
  | _ => 0
section
variable {P : Program} {w : World} {K : PySem.W.Frag} {mg : Str → Option Value} {base : Heap}
abbrev nCl : List Str := ["states", "marks", "many", "rows", "numbers", "state", "row"]
theorem scCl : FnScope nCl ["states"] (defScope sClasses) := ⟨rfl, rfl, rfl, by decide +kernel, rfl, by decide +kernel, by decide +kernel⟩
theorem ok_classes {f fM fN : Addr} {fd fdM fdN : FuncData} (F : Fun K "classes" "classes" sClasses f fd) (mlen : mg "len" = none)
    (GM : FnOk P w K mg base CX0 1 fM fdM ["state", "marks"] spMarked) (mM : mg "_marked" = some (.ref fM)) (kM : PySem.W.keepIn K (.ref fM) = true) (bM : Binds K fdM ["state", "marks"] [])
    (GN : FnOk P w K mg base CX0 1 fN fdN ["rows"] (spNumbered P w)) (mN : mg "_numbered" = some (.ref fN)) (kN : PySem.W.keepIn K (.ref fN) = true) (bN : Binds K fdN ["rows"] []) :
    FnOk P w K mg base CX0 2 f fd ["states"] spClasses := by
  refine F.ok scCl (fun vs H Q E h => ?_) (fun cdv A outer s H vs Q E hr h => ?_)
  · obtain ⟨a, ss, rfl, _⟩ := h
    rfl
  · obtain ⟨a, ss, rfl, hx, so, k⟩ := h
    have hu := hr.units
    refine ⟨_, pss_cons (ps_set (i := 1) scCl.nd rfl (Or.inr rfl) (pe_op (r := rRep) op_rep (pe_lst (pa_cons pe_int pa_nil)) (pe_callB (r := rLenQ K) call_len_seq (by rfl) mlen PySem.boot_len (pa_cons (pv 0) pa_nil))))
      (pss_cons (ps_set (i := 2) scCl.nd rfl (Or.inl rfl) pe_int)
      (pss_one (ps_while PassesOwn.never (pt_val pe_bl)
        (pss_cons (ps_setLc (i := 3) (own := [("state", 5)]) (g := gName 5) (tt := tYes) rfl scCl.nd rfl rfl (sw_true rfl rfl rfl (by decide +kernel)) (pi_tup (pv 0)) (blkOk_by (N := nCl) (sc := defScope sClasses) (by decide +kernel))
            (fun _ _ _ _ _ => pg_name (i := 5) scCl.nd rfl (Or.inl rfl)) (fun _ _ _ _ _ => pts_nil) (fun _ _ _ _ _ => pe_call GM hr (by rfl) mM kM bM .nil pass0 (pa_cons (pv 5) (pa_cons (pv 1) pa_nil))))
        (pss_cons (ps_set (i := 4) scCl.nd rfl (Or.inr rfl) (pe_call GN hr (by rfl) mN kN bN .nil pass0 (pa_cons (pv 3) pa_nil)))
        (pss_cons (ps_if (pt_cmpR op_eq (pe_callB call_lenN (by rfl) mlen PySem.boot_len (pa_cons (pv 4) pa_nil)) (pv 2) (nomark _)) (pss_one (ps_ret (pv 1))) pss_nil)
        (pss_cons (ps_set (i := 2) scCl.nd rfl (Or.inl rfl) (pe_callB call_lenN (by rfl) mlen PySem.boot_len (pa_cons (pv 4) pa_nil)))
        (pss_one (ps_set (i := 1) scCl.nd rfl (Or.inr rfl) (pe_lc (own := [("row", 6)]) (g := gName 6) (tt := tYes) (te := tGetN P w (tVar 4) (tVar 6)) rfl scCl.nd (pi_list (pv 3)) (blkOk_by (N := nCl) (sc := defScope sClasses) (by decide +kernel))
            (fun _ _ _ _ _ => pg_name (i := 6) scCl.nd rfl (Or.inl rfl)) (fun _ _ _ _ _ => pts_nil) (fun _ _ _ _ _ => pe_getN hu (pv 4) (pv 6) (fun _ _ => rfl)))))))))))), ?_⟩
    obtain ⟨xs, ha, hxs⟩ := hx.tup_of
    have len : xs.length = ss.length := by
      have z := hxs.len
      rwa [List.length_map] at z
    have sl : sizeLine ≥ 1000 := by decide
    have most := so.most
    refine ⟨by show 1 ≤ sizeLine; decide, fun p0 hp0 => ?_⟩
    have s0 : Same H (upd H p0 (.lst [.int 0])) := same_new hp0
    refine ⟨_, rfl, a, xs, rfl, .inr (SqT.of (s0 _ _ ha)), p0, xs.length, [.int 0], rfl, rfl, upd_same, by omega, by rw [len]; omega, ?_, fun bm hbm => ?_⟩
    · show ([V.int 0].length) * ((xs.length : Int)).toNat ≤ sizeLine
      rw [Int.toNat_natCast, len, List.length_singleton]
      omega
    rw [len, rep_ints]
    refine while_by (fun σ H2 => ∃ bm ms many o3 o4 o5 o6, σ = [some (.ref a), some (.ref bm), some (.int ((many : Nat) : Int)), o3, o4, o5, o6] ∧ Same H H2 ∧ H bm = none ∧ H2 bm = some (.lst (ms.map V.int)) ∧ Marks ss ms many) lackM ?_ ?_ ?_
    · exact ⟨bm, _, 1, none, none, none, none, rfl, s0.trans (same_new hbm), none_of s0 hbm, upd_same, marks0 so.one⟩
    · rintro σ H2 ⟨bm, ms, many, o3, o4, o5, o6, rfl, s2, hb, d2, M⟩
      refine ⟨true, rfl, iteT ?_⟩
      refine ⟨_, rfl, a, rfl, ⟨_, SqT.of (s2 _ _ ha)⟩, fun D hD => lc_tup (K := K) (a := a) (xs := xs) (fun j H3 => Same H2 H3 ∧ ∃ vs, H3 D = some (.lst vs) ∧ TDs H3 vs (((rowsOf ss ms).take j).map stateD)) ⟨same_new hD, [], upd_same, by simpa using TDs.nil⟩ (fun j H3 _ ⟨s3, _⟩ => SqT.of (s3 _ _ (s2 _ _ ha))) (fun j x H3 ex ⟨s3, vs, d3, tv⟩ => ?_) fun H3 ⟨s3, vs, d3, tv⟩ => ?_⟩
      · obtain ⟨d, ed, td⟩ := hxs.get ex
        rw [List.getElem?_map] at ed
        obtain ⟨st, es, rfl⟩ := Option.map_eq_some_iff.mp ed
        obtain ⟨c, ys, rfl, _⟩ := td.ref_of
        have lt : j < ss.length := (List.getElem?_eq_some_iff.mp es).1
        have vl := tv.len
        rw [List.length_map, List.length_take] at vl
        refine ⟨rfl, _, rfl, _, rfl, c, bm, st, ms, rfl, td.to (Tup.of (s2.trans s3)), by rw [M.len]; exact so.all st (List.mem_of_getElem? es), s3 _ _ d2, fun q H4 s4 tq => ?_⟩
        have d4 := s4 _ _ d3
        refine ⟨vs, d4, by omega, same_at (s3.trans s4) hD, vs ++ [.ref q], upd_same, ?_⟩
        have tp : Tup H4 (upd H4 D (.lst (vs ++ [.ref q]))) := Tup.at_ d4 fun xs z => nomatch z
        have er : (rowsOf ss ms)[j]? = some (st.map (markS ms)) := by
          unfold rowsOf
          rw [List.getElem?_map, es]
          rfl
        rw [List.take_succ, er, Option.toList_some, List.map_append]
        exact TDs.snoc (tq.to tp) ((tv.to (Tup.of s4)).to tp)
      · have rl : (rowsOf ss ms).length = ss.length := by unfold rowsOf; rw [List.length_map]
        rw [len, ← rl, List.take_length] at tv
        have vl := tv.len
        rw [List.length_map, rl] at vl
        refine ⟨_, rfl, D, vs, rowsOf ss ms, rfl, d3, tv, by omega, fun d L H4 s4 hd d4 ks N => ?_⟩
        have Nl := N.len
        rw [List.length_map, rl] at Nl
        have mo := marks_most M N
        have sa : Same H H4 := s2.trans (s3.trans s4)
        refine ⟨_, rfl, d, L, rfl, d4, ks, _, rfl, rfl, _, rfl, ?_⟩
        by_cases e : (V.int (L.length : Int)) = V.int (many : Int)
        · rw [decide_eq_true e]
          refine iteT ?_
          exact ⟨_, rfl, k bm ms many H4 sa hb (s4 _ _ (s3 _ _ d2)) M⟩
        · rw [decide_eq_false e]
          refine iteF ?_
          have ne : L.length ≠ many := fun z => e (by rw [z])
          refine ⟨_, rfl, d, L, rfl, d4, ks, ?_⟩
          refine ⟨_, rfl, D, rfl, ⟨_, SqL.of (s4 _ _ d3)⟩, fun C hC => lc_list (K := K) (a := D) (xs := vs) (fun j H5 => Same H4 H5 ∧ H5 C = some (.lst (((nextOf L ss ms).take j).map V.int))) ⟨same_new hC, by simpa using upd_same⟩ (fun j H5 _ ⟨s5, _⟩ => SqL.of (s5 _ _ (s4 _ _ d3))) (fun j x H5 ex ⟨s5, d5⟩ => ?_) fun H5 ⟨s5, d5⟩ => ?_⟩
          · obtain ⟨rw_, b, er, rfl, td⟩ := tv.at_ ex
            have es : ∃ st, ss[j]? = some st ∧ rw_ = st.map (markS ms) := by
              unfold rowsOf at er
              rw [List.getElem?_map] at er
              obtain ⟨st, es, z⟩ := Option.map_eq_some_iff.mp er
              exact ⟨st, es, z.symm⟩
            obtain ⟨st, es, rfl⟩ := es
            have lt : j < ss.length := (List.getElem?_eq_some_iff.mp es).1
            have nl : (nextOf L ss ms).length = ss.length := by unfold nextOf; rw [List.length_map, rl]
            have en : (nextOf L ss ms)[j]? = some ((nextOf L ss ms).getD j 0) := by
              rw [List.getD_eq_getElem?_getD, List.getElem?_eq_getElem (by omega)]
              rfl
            have tp := Tup.of (s4.trans s5)
            refine ⟨rfl, _, rfl, _, rfl, d, b, _, L, _, rfl, rfl, td_nk (td.to tp), keyS_depth _, s5 _ _ d4, NKeys.to (Tup.of s5) ks, next_at N es, _, d5, by rw [List.length_map, List.length_take]; omega, same_at s5 hC, ?_⟩
            rw [List.take_succ, en, Option.toList_some, List.map_append]
            exact upd_same
          · have nl : (nextOf L ss ms).length = vs.length := by unfold nextOf; rw [List.length_map, rl, vl]
            rw [← nl, List.take_length] at d5
            refine ⟨⟨C, _, L.length, _, _, _, _, rfl, sa.trans s5, none_of sa hC, d5, marks_next M N (fun st m x mx => ?_)⟩, ?_⟩
            · have z := (so.all st m).all x mx
              exact ⟨z.lo, z.hi⟩
            · show 41 - ((L.length : Int)).toNat < 41 - ((many : Int)).toNat
              rw [Int.toNat_natCast, Int.toNat_natCast]
              omega
    · intro σ H2 Q1 Q2 hq ⟨c, e, h⟩
      exact ⟨c, e, hq _ _ h⟩
end
end My

-- ===== KS18 =====
set_option Elab.async false
set_option linter.all false
set_option maxRecDepth 100000
set_option maxHeartbeats 3200000
namespace Kd
open PySem PySem.Spec PyProof.Rows L2
/-! ### set(xs), xs a list or a tuple of whole numbers -/
section
variable {P : Program} {w : World} {A : Around} {E : Value → Shared → Prop} {s : Shared}
def IntsMade (w : World) (s : Shared) (ns : List Int) (s2 : Shared) : Prop :=
  ∃ h' tk c, s2 = { s with heap := h', toks := tk } ∧ L2.SetR w h' s.heap.objs.size (fun j => decide (j ∈ ns)) c ∧ c ≤ ns.length ∧ ∀ b o, s.heap.get? b = some o → h'.get? b = some o
theorem call_set_ints {l : Addr} {its : Array Value} (ns : List Int) {Q : Value → Shared → Prop} (calm : A.handled = none) (il : s.heap.IsList l its) (ev : IntsAre its.toList ns)
    (less : ns.length + 1 < scanBound) (q : ∀ s2, IntsMade w s ns s2 → Q (.ref s.heap.objs.size) s2) : wpAny (model P w) A (call (.type "set") [.ref l]) Q E s := by
  have isz : its.size = ns.length := by rw [← Array.length_toList]; exact IntsAre.length ev
  obtain ⟨c, tl, mro⟩ := F.called_set.mro
  have made := F.called_set.made
  have sub := F.called_set.sub
  refine wpAny_call (codeAny_of_tree ?_)
  show wpAny _ _ (callAny (.type "set") _) _ _ _
  refine wpAny_pure ⟨Code.quiet_builtin _ (by decide +kernel), codeAny_builtin F.entry_type_call ?_⟩
  rw [Around.under_plain (weight_type_call_type "set" [.ref l] []) rfl]
  have z1 := F.called_set.notType
  have z2 := F.called_set.canCreate
  have z3 := F.typeCall_set_1 (.ref l)
  repeat (any_goals (first | assumption | wp_step))
  refine codeAny_mono (code_set_led1 (.ref l) (E := E) (Q₁ := fun v s1 => v = .ref s.heap.objs.size ∧ s1 = { s with heap := s.heap.push (newO w) }) ⟨rfl, rfl⟩) fun r s1 hr => ?_
  rcases r with e | fl
  · exact hr
  cases fl with
  | ret obj =>
    obtain ⟨rfl, rfl⟩ := hr
    have at0 : (s.heap.push (newO w)).get? s.heap.objs.size = some (newO w) := Heap.get?_push_size _ rfl
    have T0 : Shared.TypeIs { s with heap := s.heap.push (newO w) } (.ref s.heap.objs.size) "set" := ⟨_, at0, rfl⟩
    have li := F.called_set.init.lookup
    have bi := F.called_set.init.bind (.ref s.heap.objs.size)
    repeat (any_goals (first | assumption | wp_step))
    refine codeAny_mono (codeAny_call_builtin (R := wants (fun r s2 => r = .none ∧ IntsMade w s ns s2) E) F.called_set.init.plain F.entry_set_init (check_set_init_1 T0 ?_)) fun r s2 hr => ?_
    · obtain ⟨⟨oc, od, ob, os⟩, ol, oc', on, ob'⟩ := il
      simp only at oc' ob'
      subst oc'
      subst ob'
      have ol2 := Heap.get?_push_of_some (newO w) ol
      have y1 := F.sub_list_set
      have y2 := F.sub_list_frozenset
      have y3 : (Value.type "list" == Value.type "dict") = false := by decide
      have il2 : (s.heap.push (newO w)).IsList l its := ⟨_, ol2, rfl, on, rfl⟩
      unfold Builtin.«set.__init__» noKeywords Builtin.Frozenset.updateFrom
      generalize hPI : pyIter = PI
      wp_walk
      subst hPI
      refine wpAny_pyIter_list il2 (wpAny_bind (wpAny_runValue ?_))
      have lS : l < s.heap.objs.size := Heap.lt_size ol
      have calm3 : A.in1.in1.in1.handled = none := by simp [calm]
      have szp : (s.heap.push (newO w)).objs.size = s.heap.objs.size + 1 := Heap.size_push ..
      have lI : l ≠ (s.heap.push (newO w)).objs.size := by
        rw [szp]
        exact Nat.ne_of_lt (Nat.lt_succ_of_lt lS)
      refine L2.set_update_ints ((Walks.list calm3 _ l lI its).toS) s.heap.objs.size (fun m => ?_) ns isz less (fun i v e => ?_) (its.size - 0) 0 _ rfl (Nat.zero_le _)
        ⟨⟨_, Heap.get?_push_size _ rfl, rfl, rfl⟩, il2.push _⟩ ⟨0, Nat.le_refl 0, L2.setR_new_at (Heap.get?_push_of_some _ at0)⟩ fun s' c' mv le Z => ?_
      · rcases List.mem_cons.mp m with e | m
        · rw [szp] at e
          exact absurd e (Nat.ne_of_lt (Nat.lt_succ_self _))
        · have e := List.mem_singleton.mp m
          rw [← e] at lS
          exact absurd lS (Nat.lt_irrefl _)
      · have lt : i < ns.length := by rw [← isz]; exact (Array.getElem?_eq_some_iff.mp e).1
        obtain ⟨t, e2⟩ := IntsAre.int_at ev i v (by rw [Array.getElem?_toList]; exact e)
        exact ⟨ns[i], t, List.getElem?_eq_getElem lt, by rw [e2, List.getD_eq_getElem?_getD, List.getElem?_eq_getElem lt]; rfl⟩
      · obtain ⟨h', g', d', tk, os'⟩ := s'
        obtain rfl : g' = s.gens := mv.gens
        obtain rfl : d' = s.drawn := mv.drawn
        obtain rfl : os' = s.os := mv.os
        show wpAny _ _ _ _ _ _
        refine wpAny_pure ?_
        show wpAny _ _ (ret Value.none) _ _ _
        rw [isz] at le
        refine wpAny_pure ⟨rfl, h', tk, c', rfl, Z, le, fun b o e => ?_⟩
        have lb : b < s.heap.objs.size := Heap.lt_size e
        refine mv.heap b o (fun m => ?_) (Heap.get?_push_of_some _ (Heap.get?_push_of_some _ e))
        rcases List.mem_cons.mp m with z | m
        · exact absurd z (Nat.ne_of_lt lb)
        · have z := List.mem_singleton.mp m
          have y : b = s.heap.objs.size + 1 := z.trans szp
          rw [y] at lb
          exact absurd lb (Nat.not_lt.mpr (Nat.le_succ _))
    · rcases r with e | fl
      · exact hr
      cases fl with
      | ret r =>
        obtain ⟨rfl, mk⟩ := hr
        repeat (any_goals (first | assumption | wp_step))
        exact q _ mk
      | _ => exact hr.elim
  | _ => exact hr.elim
end
section

variable {X : Cx}
/-- set(xs), xs whole numbers -/
def rSetZ (K : PySem.W.Frag) (w : World) : List V → Hp → VK → Prop := fun vs H Q => ∃ (l : Addr) (ns : List Int), vs = [V.ref l] ∧ (SqL K H l (ns.map V.int) ∨ SqT K H l (ns.map V.int)) ∧ ns.length < 64 ∧
  ∀ a c, H a = none → c ≤ ns.length → Q (.ref a) (upd H a (L2.SetO w a (fun j => decide (j ∈ ns)) c))
theorem cr_setZ (hc : X.calm = true) : CallR X (.type "set") (rSetZ X.K X.w) := by
  intro pins s σ H vs us Q I r h
  obtain ⟨l, ns, rfl, hl, hf, q⟩ := h
  rw [Vals.ref1 r]
  have small : ns.length + 1 < scanBound := by unfold scanBound; omega
  have fin : ∀ s2, IntsMade X.w s ns s2 → EP X pins σ Q (.ref s.heap.objs.size) s2 := fun s2 mk => by
    obtain ⟨h', tk, c, rfl, Z, le, kp⟩ := mk
    exact ⟨.ref s.heap.objs.size, _, I.laid (t' := tk) kp (Nat.le_refl _) (setO_new Z), rfl, q _ c (I.hok.fresh (Nat.le_refl _)) le⟩
  rcases hl with hl | hl
  · obtain ⟨its, rv, il, _⟩ := I.list hl
    exact call_set_ints ns (I.ok.hd hc) il.isList (by simpa using ints_of_vals rv) small fin
  · obtain ⟨its, rv, il, _⟩ := I.tuple hl
    refine call_set_tupI ns (I.ok.hd hc) (show s.heap.IsTuple l its.toArray from il) (by simpa using ints_of_vals rv) small fun h' tk c Z le kp => fin _ ⟨h', tk, c, rfl, Z, le, kp⟩
end
end Kd

-- ===== K4R =====
set_option Elab.async false
set_option linter.all false
set_option maxRecDepth 100000
set_option maxHeartbeats 4000000
namespace My
open PySem L2 PyProof.Rows PySem.Spec Kd TL
/-! ### states that are reached -/
/-- where sequences lead from some states -/
inductive Rch (ss : List (List Stp)) (S : List Int) : Int → Prop
  | base {i : Int} : i ∈ S → Rch ss S i
  | step {i : Nat} {st : List Stp} {x : Stp} : Rch ss S (i : Int) → ss[i]? = some st → x ∈ st → Rch ss S x.2.2
def seenD (fs : List Int) : List (L2.Key × V) := fs.map fun i => (Sum.inl i, V.bl true)
theorem seen_in {fs : List Int} {i : Int} : (valV (seenD fs) (Sum.inl i)).isSome = decide (i ∈ fs) := by
  unfold valV seenD
  rw [Option.isSome_map]
  refine Bool.eq_iff_iff.mpr ?_
  rw [List.find?_isSome, decide_eq_true_eq]
  constructor
  · rintro ⟨p, m, e⟩
    obtain ⟨j, hj, rfl⟩ := List.mem_map.mp m
    have e2 : (Sum.inl j : L2.Key) = Sum.inl i := of_decide_eq_true e
    rwa [← Sum.inl.inj e2]
  · exact fun m => ⟨_, List.mem_map.mpr ⟨i, m, rfl⟩, decide_eq_true rfl⟩
theorem seen_put {fs : List Int} {i : Int} (n : i ∉ fs) : putK (seenD fs) (Sum.inl i) (V.bl true) = seenD (fs ++ [i]) := by
  have e : valV (seenD fs) (Sum.inl i) = none := by
    have z := seen_in (fs := fs) (i := i)
    rw [decide_eq_false n] at z
    cases e : valV (seenD fs) (Sum.inl i) with
    | none => rfl
    | some v => rw [e] at z; cases z
  rw [L2.putK_new _ e]
  unfold seenD
  rw [List.map_append]
  rfl
theorem ints_most {fs : List Int} {n : Nat} (nd : fs.Nodup) (h : ∀ i ∈ fs, 0 ≤ i ∧ i < (n : Int)) : fs.length ≤ n := by
  have z := nodup_most fs ((List.range n).map fun (k : Nat) => (k : Int)) nd fun i m => by
    have q := h i m
    exact List.mem_map.mpr ⟨i.toNat, List.mem_range.mpr (by omega), by omega⟩
  rwa [List.length_map, List.length_range] at z
/-- what has been found, all behind the first of it being found, too -/
structure Fnd (ss : List (List Stp)) (S fs : List Int) (at_ : Nat) : Prop where
  nd : fs.Nodup
  inn : ∀ i ∈ fs, 0 ≤ i ∧ i < (ss.length : Int)
  sub : ∀ i ∈ S, i ∈ fs
  rch : ∀ i ∈ fs, Rch ss S i
  le : at_ ≤ fs.length
  shut : ∀ (j i : Nat) (st : List Stp) (x : Stp), j < at_ → fs[j]? = some (i : Int) → ss[i]? = some st → x ∈ st → x.2.2 ∈ fs
theorem Fnd.most {ss : List (List Stp)} {S fs : List Int} {a : Nat} (F : Fnd ss S fs a) : fs.length ≤ ss.length := ints_most F.nd F.inn
theorem Fnd.all {ss : List (List Stp)} {S fs : List Int} (F : Fnd ss S fs fs.length) : ∀ i, i ∈ fs ↔ Rch ss S i := by
  refine fun i => ⟨F.rch i, fun r => ?_⟩
  induction r with
  | base m => exact F.sub _ m
  | step _ e m ih =>
    obtain ⟨j, hj⟩ := List.mem_iff_getElem?.mp ih
    exact F.shut j _ _ _ (List.getElem?_eq_some_iff.mp hj).1 hj e m
/-- while the steps of one state are looked through -/
structure Mid (ss : List (List Stp)) (S fs : List Int) (at_ : Nat) (done : List Stp) : Prop where
  nd : fs.Nodup
  inn : ∀ i ∈ fs, 0 ≤ i ∧ i < (ss.length : Int)
  sub : ∀ i ∈ S, i ∈ fs
  rch : ∀ i ∈ fs, Rch ss S i
  lt : at_ < fs.length
  shut : ∀ (j i : Nat) (st : List Stp) (x : Stp), j < at_ → fs[j]? = some (i : Int) → ss[i]? = some st → x ∈ st → x.2.2 ∈ fs
  here : ∀ x ∈ done, x.2.2 ∈ fs
theorem Fnd.mid {ss : List (List Stp)} {S fs : List Int} {a : Nat} (F : Fnd ss S fs a) (lt : a < fs.length) : Mid ss S fs a [] := ⟨F.nd, F.inn, F.sub, F.rch, lt, F.shut, fun x m => nomatch m⟩
theorem Mid.skip {ss : List (List Stp)} {S fs : List Int} {a : Nat} {d : List Stp} {x : Stp} (M : Mid ss S fs a d) (m : x.2.2 ∈ fs) : Mid ss S fs a (d ++ [x]) :=
  ⟨M.nd, M.inn, M.sub, M.rch, M.lt, M.shut, fun y hy => by
    rcases List.mem_append.mp hy with z | z
    · exact M.here y z
    · rw [List.mem_singleton.mp z]
      exact m⟩
theorem Mid.put {ss : List (List Stp)} {S fs : List Int} {a i : Nat} {d st : List Stp} {x : Stp} (M : Mid ss S fs a d) (n : x.2.2 ∉ fs) (ei : fs[a]? = some (i : Int)) (es : ss[i]? = some st) (mx : x ∈ st) (ok : StpOk ss.length x) : Mid ss S (fs ++ [x.2.2]) a (d ++ [x]) := by
  refine ⟨?_, fun k m => ?_, fun k m => List.mem_append_left _ (M.sub k m), fun k m => ?_, by rw [List.length_append]; exact Nat.lt_add_right _ M.lt, fun j k su y lt ej ek my => ?_, fun y hy => ?_⟩
  · exact List.nodup_append.mpr ⟨M.nd, List.nodup_cons.mpr ⟨List.not_mem_nil, List.nodup_nil⟩, fun p hp q hq e => n (by rw [← List.mem_singleton.mp hq, ← e]; exact hp)⟩
  · rcases List.mem_append.mp m with z | z
    · exact M.inn k z
    · rw [List.mem_singleton.mp z]
      exact ⟨ok.lo, ok.hi⟩
  · rcases List.mem_append.mp m with z | z
    · exact M.rch k z
    · rw [List.mem_singleton.mp z]
      exact .step (M.rch _ (List.mem_of_getElem? ei)) es mx
  · have l2 := M.lt
    rw [List.getElem?_append_left (by omega)] at ej
    exact List.mem_append_left _ (M.shut j k su y lt ej ek my)
  · rcases List.mem_append.mp hy with z | z
    · exact List.mem_append_left _ (M.here y z)
    · rw [List.mem_singleton.mp z]
      exact List.mem_append_right _ List.mem_cons_self
theorem Mid.fnd {ss : List (List Stp)} {S fs : List Int} {a i : Nat} {st : List Stp} (M : Mid ss S fs a st) (ei : fs[a]? = some (i : Int)) (es : ss[i]? = some st) : Fnd ss S fs (a + 1) := by
  refine ⟨M.nd, M.inn, M.sub, M.rch, M.lt, fun j k su x lt ej ek mx => ?_⟩
  rcases Nat.lt_or_ge j a with l | g
  · exact M.shut j k su x l ej ek mx
  · have e : j = a := by omega
    rw [e, ei] at ej
    have e2 : i = k := by
      have z : (i : Int) = (k : Int) := Option.some.inj ej
      omega
    rw [← e2, es] at ek
    rw [← Option.some.inj ek] at mx
    exact M.here x mx
theorem asc_of {l : List Int} (h : l.Pairwise (· ≤ ·)) (nd : l.Nodup) : l.Pairwise (· < ·) := by
  refine (h.and nd).imp fun {a b} ⟨h1, h2⟩ => ?_
  have n2 : a ≠ b := h2
  omega
theorem asc_same : ∀ {l m : List Int}, l.Pairwise (· < ·) → m.Pairwise (· < ·) → (∀ i, i ∈ l ↔ i ∈ m) → l = m
  | [], [], _, _, _ => rfl
  | [], b :: m, _, _, h => nomatch (h b).mpr List.mem_cons_self
  | a :: l, [], _, _, h => nomatch (h a).mp List.mem_cons_self
  | a :: l, b :: m, hl, hm, h => by
    have l1 := List.pairwise_cons.mp hl
    have m1 := List.pairwise_cons.mp hm
    have e : a = b := by
      rcases List.mem_cons.mp ((h a).mp List.mem_cons_self) with z | z
      · exact z
      · rcases List.mem_cons.mp ((h b).mpr List.mem_cons_self) with y | y
        · exact y.symm
        · have p := m1.1 a z
          have q := l1.1 b y
          omega
    subst e
    rw [asc_same l1.2 m1.2 fun i => ?_]
    have hi := h i
    rw [List.mem_cons, List.mem_cons] at hi
    constructor
    · intro mi
      rcases hi.mp (.inr mi) with z | z
      · have p := l1.1 i mi
        omega
      · exact z
    · intro mi
      rcases hi.mpr (.inr mi) with z | z
      · have p := m1.1 i mi
        omega
      · exact z
end My

-- ===== K4S =====
set_option Elab.async false
set_option linter.all false
set_option maxRecDepth 100000
set_option maxHeartbeats 4000000
namespace My
open PySem L2 PyProof.Rows PySem.Spec Kd TL
/-! ### the least machine, as mathematics -/
def mkk (ms : List Int) (g : Int) : Int := ms.getD g.toNat 0
def idx (ms hs : List Int) (g : Int) : Int := ((hs.map (mkk ms)).idxOf (mkk ms g) : Nat)
def stS (ms hs : List Int) (x : Stp) : Stp := (x.1, x.2.1, idx ms hs x.2.2)
def rowS (ms hs : List Int) (st : List Stp) : List Stp := st.map (stS ms hs)
theorem idx_app {ms hs : List Int} {g h : Int} (m : mkk ms g ∈ hs.map (mkk ms)) : idx ms (hs ++ [h]) g = idx ms hs g := by
  unfold idx
  rw [List.map_append, List.idxOf_append, if_pos m]
theorem idx_new {ms hs : List Int} {g : Int} (m : mkk ms g ∉ hs.map (mkk ms)) : idx ms (hs ++ [g]) g = (hs.length : Int) := by
  unfold idx
  rw [List.map_append, List.idxOf_append, if_neg m]
  simp
theorem row_app {ms hs : List Int} {h : Int} {st : List Stp} (m : ∀ x ∈ st, mkk ms x.2.2 ∈ hs.map (mkk ms)) : rowS ms (hs ++ [h]) st = rowS ms hs st :=
  List.map_congr_left fun x mx => by unfold stS; rw [idx_app (m x mx)]
structure Hds (ss : List (List Stp)) (ms hs : List Int) (R : List (List Stp)) (dn : List Stp) : Prop where
  nd : (hs.map (mkk ms)).Nodup
  inn : ∀ h ∈ hs, 0 ≤ h ∧ h < (ss.length : Int)
  rch : ∀ h ∈ hs, Rch ss [0] h
  one : 1 ≤ hs.length
  zero : hs[0]? = some 0
  row : ∀ (j h : Nat) (st : List Stp), j < R.length → hs[j]? = some (h : Int) → ss[h]? = some st → R[j]? = some (rowS ms hs st) ∧ ∀ x ∈ st, mkk ms x.2.2 ∈ hs.map (mkk ms)
  dn_ : ∀ x ∈ dn, mkk ms x.2.2 ∈ hs.map (mkk ms)
  up : ∀ k : Nat, 1 ≤ k → k < hs.length → ∃ (j : Nat) (x : Stp), j < k ∧ x.2.2 = (k : Int) ∧ ((∃ rw_, R[j]? = some rw_ ∧ x ∈ rw_) ∨ (j = R.length ∧ x ∈ rowS ms hs dn))
theorem hds0 {ss : List (List Stp)} {ms : List Int} (h : 1 ≤ ss.length) : Hds ss ms [0] [] [] :=
  ⟨by simp, fun i m => by rw [List.mem_singleton.mp m]; omega, fun i m => .base m, Nat.le_refl _, rfl, fun j h st lt => absurd lt (Nat.not_lt_zero _), fun x m => (nomatch m), fun k h1 h2 => by simp at h2; omega⟩
theorem Hds.nodup {ss : List (List Stp)} {ms hs : List Int} {R : List (List Stp)} {dn : List Stp} (h : Hds ss ms hs R dn) : hs.Nodup := List.Pairwise.of_map (mkk ms) (fun x y n e => n (by rw [e])) h.nd
theorem Hds.most {ss : List (List Stp)} {ms hs : List Int} {R : List (List Stp)} {dn : List Stp} (h : Hds ss ms hs R dn) : hs.length ≤ ss.length := ints_most h.nodup h.inn
/-- a step whose goal's mark has a number -/
theorem Hds.skip {ss : List (List Stp)} {ms hs : List Int} {R : List (List Stp)} {dn : List Stp} {x : Stp} (h : Hds ss ms hs R dn) (m : mkk ms x.2.2 ∈ hs.map (mkk ms)) : Hds ss ms hs R (dn ++ [x]) := by
  refine ⟨h.nd, h.inn, h.rch, h.one, h.zero, h.row, fun y my => ?_, fun k h1 h2 => ?_⟩
  · rcases List.mem_append.mp my with q | q
    · exact h.dn_ y q
    · rw [List.mem_singleton.mp q]
      exact m
  · obtain ⟨j, y, a, b, c⟩ := h.up k h1 h2
    refine ⟨j, y, a, b, c.imp id fun ⟨d, e⟩ => ⟨d, ?_⟩⟩
    unfold rowS at e ⊢
    rw [List.map_append]
    exact List.mem_append_left _ e
/-- a step whose goal's mark has none yet -/
theorem Hds.put {ss : List (List Stp)} {ms hs : List Int} {R : List (List Stp)} {dn st : List Stp} {x : Stp} {h0 : Nat} (h : Hds ss ms hs R dn) (lt : R.length < hs.length) (eh : hs[R.length]? = some (h0 : Int)) (es : ss[h0]? = some st) (mx : x ∈ st) (ok : StpOk ss.length x) (m : mkk ms x.2.2 ∉ hs.map (mkk ms)) :
    Hds ss ms (hs ++ [x.2.2]) R (dn ++ [x]) := by
  have sub : ∀ q, q ∈ hs.map (mkk ms) → q ∈ (hs ++ [x.2.2]).map (mkk ms) := fun q mq => by rw [List.map_append]; exact List.mem_append_left _ mq
  have own : mkk ms x.2.2 ∈ (hs ++ [x.2.2]).map (mkk ms) := by rw [List.map_append]; exact List.mem_append_right _ List.mem_cons_self
  refine ⟨?_, fun i mi => ?_, fun i mi => ?_, by rw [List.length_append]; exact Nat.le_add_right_of_le h.one, by rw [List.getElem?_append_left h.one]; exact h.zero, fun j h1 su lj ej ek => ?_, fun y my => ?_, fun k k1 k2 => ?_⟩
  · rw [List.map_append]
    exact List.nodup_append.mpr ⟨h.nd, by simp, fun a ha b hb e => m (by rw [List.map_cons, List.map_nil] at hb; rw [← List.mem_singleton.mp hb, ← e]; exact ha)⟩
  · rcases List.mem_append.mp mi with q | q
    · exact h.inn i q
    · rw [List.mem_singleton.mp q]
      exact ⟨ok.lo, ok.hi⟩
  · rcases List.mem_append.mp mi with q | q
    · exact h.rch i q
    · rw [List.mem_singleton.mp q]
      exact .step (h.rch _ (List.mem_of_getElem? eh)) es mx
  · rw [List.getElem?_append_left (by omega)] at ej
    obtain ⟨a, b⟩ := h.row j h1 su lj ej ek
    exact ⟨by rw [row_app b]; exact a, fun y my => sub _ (b y my)⟩
  · rcases List.mem_append.mp my with q | q
    · exact sub _ (h.dn_ y q)
    · rw [List.mem_singleton.mp q]
      exact own
  · rw [List.length_append, List.length_singleton] at k2
    rcases Nat.lt_or_ge k hs.length with l | g
    · obtain ⟨j, y, a, b, c⟩ := h.up k k1 l
      refine ⟨j, y, a, b, c.imp id fun ⟨d, e⟩ => ⟨d, ?_⟩⟩
      rw [← row_app (h := x.2.2) h.dn_] at e
      unfold rowS at e ⊢
      rw [List.map_append]
      exact List.mem_append_left _ e
    · have ek : k = hs.length := by omega
      refine ⟨R.length, stS ms (hs ++ [x.2.2]) x, by omega, ?_, .inr ⟨rfl, ?_⟩⟩
      · show idx ms (hs ++ [x.2.2]) x.2.2 = _
        rw [idx_new m, ek]
      · unfold rowS
        rw [List.map_append]
        exact List.mem_append_right _ List.mem_cons_self
/-- a row is done -/
theorem Hds.next {ss : List (List Stp)} {ms hs : List Int} {R : List (List Stp)} {st : List Stp} {h0 : Nat} (h : Hds ss ms hs R st) (eh : hs[R.length]? = some (h0 : Int)) (es : ss[h0]? = some st) : Hds ss ms hs (R ++ [rowS ms hs st]) [] := by
  refine ⟨h.nd, h.inn, h.rch, h.one, h.zero, fun j h1 su lj ej ek => ?_, fun x m => (nomatch m), fun k k1 k2 => ?_⟩
  · rw [List.length_append, List.length_singleton] at lj
    rcases Nat.lt_or_ge j R.length with l | g
    · obtain ⟨a, b⟩ := h.row j h1 su l ej ek
      exact ⟨by rw [List.getElem?_append_left l]; exact a, b⟩
    · have e : j = R.length := by omega
      rw [e, eh] at ej
      have e2 : h0 = h1 := by
        have z : (h0 : Int) = (h1 : Int) := Option.some.inj ej
        omega
      rw [← e2, es] at ek
      rw [← Option.some.inj ek, e, List.getElem?_append_right (Nat.le_refl _), Nat.sub_self]
      exact ⟨rfl, h.dn_⟩
  · obtain ⟨j, y, a, b, c⟩ := h.up k k1 k2
    refine ⟨j, y, a, b, .inl ?_⟩
    rcases c with ⟨rw_, c1, c2⟩ | ⟨c1, c2⟩
    · have l := (List.getElem?_eq_some_iff.mp c1).1
      exact ⟨rw_, by rw [List.getElem?_append_left l]; exact c1, c2⟩
    · exact ⟨_, by rw [c1, List.getElem?_append_right (Nat.le_refl _), Nat.sub_self]; rfl, c2⟩
theorem Hds.kok {ss : List (List Stp)} {ms hs : List Int} {R : List (List Stp)} (h : Hds ss ms hs R []) (so : KOk ss) (l : R.length = hs.length) : KOk R := by
  have mo := h.most
  have at_ : ∀ rw_ ∈ R, ∃ st ∈ ss, rw_ = rowS ms hs st ∧ ∀ x ∈ st, mkk ms x.2.2 ∈ hs.map (mkk ms) := fun rw_ m => by
    obtain ⟨j, ej⟩ := List.mem_iff_getElem?.mp m
    have lj := (List.getElem?_eq_some_iff.mp ej).1
    obtain ⟨i0, i1⟩ := h.inn _ (List.getElem_mem (h := show j < hs.length by omega))
    obtain ⟨n, en⟩ := Int.eq_ofNat_of_zero_le i0
    have ln : n < ss.length := by omega
    obtain ⟨a, b⟩ := h.row j n ss[n] lj (by rw [List.getElem?_eq_getElem (by omega), en]) (List.getElem?_eq_getElem ln)
    rw [ej] at a
    exact ⟨_, List.getElem_mem ln, Option.some.inj a, b⟩
  obtain ⟨es, e1, e2⟩ := so.evs
  refine ⟨by rw [l]; exact h.one, by have := so.most; omega, fun rw_ m => ?_, es, e1, fun rw_ m y my => ?_⟩
  · obtain ⟨st, ms_, rfl, b⟩ := at_ rw_ m
    have sto := so.all st ms_
    refine ⟨fun y my => ?_, ?_, ?_⟩
    · obtain ⟨x, mx, rfl⟩ := List.mem_map.mp my
      have xo := sto.all x mx
      refine ⟨xo.w1, xo.w2, by show 0 ≤ idx ms hs x.2.2; unfold idx; omega, ?_⟩
      show idx ms hs x.2.2 < _
      unfold idx
      have z := List.idxOf_lt_length_of_mem (b x mx)
      rw [List.length_map] at z
      omega
    · have e : (rowS ms hs st).map evOf = st.map evOf := by
        unfold rowS
        rw [List.map_map]
        rfl
      rw [e]
      exact sto.asc
    · unfold rowS
      rw [List.length_map]
      exact sto.few
  · obtain ⟨st, ms_, rfl, b⟩ := at_ rw_ m
    obtain ⟨x, mx, rfl⟩ := List.mem_map.mp my
    exact e2 st ms_ x mx
theorem Hds.all {ss : List (List Stp)} {ms hs : List Int} {R : List (List Stp)} (h : Hds ss ms hs R []) (l : R.length = hs.length) : ∀ k : Nat, k < R.length → Rch R [0] (k : Int) := by
  intro k
  induction k using Nat.strongRecOn with
  | _ k ih =>
    intro lt
    rcases Nat.eq_zero_or_pos k with e | p
    · subst e
      exact .base List.mem_cons_self
    · obtain ⟨j, x, lj, ex, c⟩ := h.up k p (by omega)
      rcases c with ⟨rw_, c1, c2⟩ | ⟨c1, c2⟩
      · rw [← ex]
        exact .step (ih j lj (by omega)) c1 c2
      · exact absurd c2 (by unfold rowS; simp)
/-- the numbers of marks -/
def numF : Nat → List Int → List (L2.Key × V)
  | _, [] => []
  | k, q :: qs => (Sum.inl q, .int (k : Int)) :: numF (k + 1) qs
theorem num_app : ∀ (qs : List Int) (k : Nat) (q : Int), numF k (qs ++ [q]) = numF k qs ++ [(Sum.inl q, .int ((k + qs.length : Nat) : Int))]
  | [], k, q => rfl
  | p :: qs, k, q => by
    show (_, _) :: numF (k + 1) (qs ++ [q]) = _
    rw [num_app qs (k + 1) q, List.length_cons, show k + 1 + qs.length = k + (qs.length + 1) by omega]
    rfl
theorem num_at : ∀ (qs : List Int) (k : Nat) (q : Int), q ∈ qs → valV (numF k qs) (Sum.inl q) = some (.int ((k + qs.idxOf q : Nat) : Int))
  | p :: qs, k, q, m => by
    have u : valV (numF k (p :: qs)) (Sum.inl q) = if p = q then some (.int (k : Int)) else valV (numF (k + 1) qs) (Sum.inl q) := by
      unfold valV
      show ((List.find? _ ((Sum.inl p, V.int (k : Int)) :: numF (k + 1) qs)).map _) = _
      rw [List.find?_cons]
      by_cases e : p = q
      · rw [if_pos e]
        simp [e]
      · rw [if_neg e]
        simp [e]
    rw [u]
    by_cases e : p = q
    · rw [if_pos e, e]
      simp
    · rw [if_neg e]
      have m2 : q ∈ qs := by
        rcases List.mem_cons.mp m with z | z
        · exact absurd z.symm e
        · exact z
      have z : (p :: qs).idxOf q = qs.idxOf q + 1 := by
        rw [List.idxOf_cons, beq_eq_false_iff_ne.mpr e]
        rfl
      rw [num_at qs (k + 1) q m2, z, show k + 1 + qs.idxOf q = k + (qs.idxOf q + 1) by omega]
theorem num_none : ∀ (qs : List Int) (k : Nat) (q : Int), q ∉ qs → valV (numF k qs) (Sum.inl q) = none
  | [], k, q, m => rfl
  | p :: qs, k, q, m => by
    have e : p ≠ q := fun z => m (by rw [z]; exact List.mem_cons_self)
    have ih := num_none qs (k + 1) q fun z => m (List.mem_cons_of_mem _ z)
    unfold valV at ih ⊢
    show ((List.find? _ ((Sum.inl p, V.int (k : Int)) :: numF (k + 1) qs)).map _) = _
    rw [List.find?_cons]
    simp [e]
    simpa using ih
end My

-- ===== KN1 =====
set_option Elab.async false
set_option linter.all false
set_option maxRecDepth 100000
set_option maxHeartbeats 4000000
namespace Kd
open PySem L2 PyProof.Rows PySem.Spec PySem.W
theorem paired_snocV {α β : Type} {R : α → β → Prop} {l : List α} {m : List β} {a : α} {b : β} (r : Paired R l m) (h : R a b) : Paired R (l ++ [a]) (m ++ [b]) := by
  induction r with
  | nil => exact .cons h .nil
  | cons x _ ih => exact .cons x ih
/-! ### dicts whose keys are nested tuples (of numbers, truth values, texts), their values anything -/
mutual
/-- v is the key k -/
inductive NqV (H : Hp) : V → NestedKey → Prop
  | num (i : Int) : NqV H (.int i) (.num i)
  | bool (b : Bool) : NqV H (.bl b) (.num (if b = true then 1 else 0))
  | text (x : Str) : NqV H (.str x) (.text x)
  | tup {a : Addr} {vs : List V} {ks : List NestedKey} : H a = some (.tup vs) → NqVs H vs ks → NqV H (.ref a) (.tup ks)
inductive NqVs (H : Hp) : List V → List NestedKey → Prop
  | nil : NqVs H [] []
  | cons {v : V} {vs : List V} {k : NestedKey} {ks : List NestedKey} : NqV H v k → NqVs H vs ks → NqVs H (v :: vs) (k :: ks)
end
mutual
theorem NqV.to {H H' : Hp} (s : ∀ a xs, H a = some (.tup xs) → H' a = some (.tup xs)) : ∀ {v : V} {k : NestedKey}, NqV H v k → NqV H' v k
  | _, _, .num i => .num i
  | _, _, .bool b => .bool b
  | _, _, .text x => .text x
  | _, _, .tup h1 h2 => .tup (s _ _ h1) (NqVs.to s h2)
theorem NqVs.to {H H' : Hp} (s : ∀ a xs, H a = some (.tup xs) → H' a = some (.tup xs)) : ∀ {vs : List V} {ks : List NestedKey}, NqVs H vs ks → NqVs H' vs ks
  | _, _, .nil => .nil
  | _, _, .cons h1 h2 => .cons (NqV.to s h1) (NqVs.to s h2)
end
section
variable {X : Cx} {pins : List (Addr × Obj)} {σ : L2.St} {H : Hp} {s : Shared}
mutual
theorem nq_is (I : Inv X pins σ H s) : ∀ (k : NestedKey) {v : V} {u : Value}, NqV H v k → RelV v u → NestedIs s.heap k u
  | .none, _, _, h, _ => by cases h
  | .num i, _, _, h, r => by
    cases h with
    | num i =>
      obtain ⟨t, rfl⟩ := r
      exact .int i t
    | bool b =>
      have e : _ = Value.bool b := r
      subst e
      exact .bool rfl
  | .text x, _, _, h, r => by
    cases h
    obtain ⟨t, rfl⟩ := r
    exact .text x t
  | .tup ks, _, _, h, r => by
    cases h with
    | tup h1 h2 =>
      cases r
      obtain ⟨_, its, rv, o, ho, hc, n, hd⟩ := (show ObjOk X.prog X.w H s.heap _ (.tup _) from I.hok _ _ h1)
      exact .tup ho hc hd (by simpa using nqs_are I ks h2 rv)
theorem nqs_are (I : Inv X pins σ H s) : ∀ (ks : List NestedKey) {vs : List V} {us : List Value}, NqVs H vs ks → Vals vs us → NestedAll s.heap ks us
  | [], _, _, h, r => by
    cases h
    cases r
    exact .nil
  | k :: ks, _, _, h, r => by
    cases h with
    | cons h1 h2 =>
      cases r with
      | cons r1 r2 => exact .cons (nq_is I k h1 r1) (nqs_are I ks h2 r2)
end
end
/-- a key, where its tuple stands, its value -/
abbrev VRow := NestedKey × Addr × V
def VRows (L : List VRow) (xs : List (NestedKey × Addr × Value)) : Prop := Paired (fun (p : VRow) x => p.1 = x.1 ∧ p.2.1 = x.2.1 ∧ RelV p.2.2 x.2.2) L xs
def VHeld (P : Program) (w : World) (a : Addr) (L : List VRow) (h : Heap) : Prop := ∃ (xs : List (NestedKey × Addr × Value)) (o : Obj) (es : Array DictEntry) (ep : Nat), h.get? a = some o ∧ o.ExactDict ∧ o.data = .dict es ep ∧ es.toList = xs.map (entryOfKey (nestedKind P w)) ∧ (xs.map (·.1)).Nodup ∧ VRows L xs ∧ (a == sysModules) = false ∧ L.length ≤ 1000
def VDict (P : Program) (w : World) (a : Addr) (L : List VRow) : HO := .ext (VHeld P w a L)
theorem vdict_ok {P : Program} {w : World} {H : Hp} {h : Heap} {a : Addr} {L : List VRow} (x : VHeld P w a L h) : ObjOk P w H h a (VDict P w a L) := by
  refine ⟨x, ?_, fun h1 h2 y k => ?_⟩
  · obtain ⟨_, o, _, _, ho, _⟩ := x
    exact ⟨o, ho⟩
  · obtain ⟨xs, o, es, ep, ho, r⟩ := y
    exact ⟨xs, o, es, ep, k o ho, r⟩
/-- the keys' tuples stand -/
def VKeys (H : Hp) (L : List VRow) : Prop := ∀ p ∈ L, NqV H (.ref p.2.1) p.1 ∧ p.1.depth ≤ 8
theorem VKeys.to {H H' : Hp} {L : List VRow} (s : ∀ a xs, H a = some (.tup xs) → H' a = some (.tup xs)) (k : VKeys H L) : VKeys H' L := fun p m => ⟨(k p m).1.to s, (k p m).2⟩
theorem VKeys.snoc {H : Hp} {L : List VRow} {k : NestedKey} {b : Addr} {v : V} (h : VKeys H L) (hk : NqV H (.ref b) k) (hd : k.depth ≤ 8) : VKeys H (L ++ [(k, b, v)]) := fun p m => by
  rcases List.mem_append.mp m with m | m
  · exact h p m
  · rw [List.mem_singleton.mp m]
    exact ⟨hk, hd⟩
def valW (L : List VRow) (k : NestedKey) : Option V := (L.find? fun p => decide (p.1 = k)).map (·.2.2)
theorem valW_none {L : List VRow} {k : NestedKey} : valW L k = none ↔ k ∉ L.map (·.1) := by
  unfold valW
  rw [Option.map_eq_none_iff, List.find?_eq_none]
  constructor
  · intro h m
    obtain ⟨p, hp, e⟩ := List.mem_map.mp m
    exact h p hp (decide_eq_true e)
  · intro h p hp e
    exact h (List.mem_map.mpr ⟨p, hp, of_decide_eq_true e⟩)
theorem valW_some {L : List VRow} {k : NestedKey} {v : V} (h : valW L k = some v) : ∃ b, (k, b, v) ∈ L := by
  unfold valW at h
  obtain ⟨p, hp, e⟩ := Option.map_eq_some_iff.mp h
  have h1 := List.mem_of_find?_eq_some hp
  have h2 : p.1 = k := of_decide_eq_true (by simpa using List.find?_some hp)
  exact ⟨p.2.1, by rw [← h2, ← e]; exact h1⟩
theorem valW_mem {L : List VRow} (nd : (L.map (·.1)).Nodup) {k : NestedKey} {b : Addr} {v : V} (h : (k, b, v) ∈ L) : valW L k = some v := by
  induction L with
  | nil => cases h
  | cons p L ih =>
    rw [List.map_cons, List.nodup_cons] at nd
    unfold valW
    rw [List.find?_cons]
    by_cases e : p.1 = k
    · rw [decide_eq_true e]
      rcases List.mem_cons.mp h with rfl | m
      · rfl
      · exact absurd (List.mem_map.mpr ⟨_, m, rfl⟩) (by rw [e] at nd; exact nd.1)
    · rw [decide_eq_false e]
      rcases List.mem_cons.mp h with rfl | m
      · exact absurd rfl e
      · exact ih nd.2 m
theorem valW_is {L : List VRow} {k : NestedKey} : (valW L k).isSome = decide (k ∈ L.map (·.1)) := by
  cases e : valW L k with
  | none => exact (decide_eq_false (valW_none.mp e)).symm
  | some v =>
    obtain ⟨b, m⟩ := valW_some e
    exact (decide_eq_true (List.mem_map.mpr ⟨_, m, rfl⟩)).symm
theorem rows_atV {L : List VRow} {xs : List (NestedKey × Addr × Value)} (r : VRows L xs) (k : NestedKey) : (∀ v, valW L k = some v → ∃ b u, atKey xs k = some (b, u) ∧ RelV v u) ∧ (valW L k = none → atKey xs k = none) := by
  unfold VRows at r
  induction r with
  | nil => exact ⟨fun i e => (nomatch (show (none : Option V) = some i from e)), fun _ => rfl⟩
  | @cons p x ps xs h t ih =>
    obtain ⟨h1, h2, h3⟩ := h
    unfold valW atKey at ih ⊢
    rw [List.find?_cons, List.find?_cons, ← h1]
    by_cases e : p.1 = k
    · rw [decide_eq_true e]
      refine ⟨fun i q => ?_, fun q => by cases q⟩
      have q2 : p.2.2 = i := Option.some.inj q
      exact ⟨x.2.1, x.2.2, rfl, by rw [← q2]; exact h3⟩
    · rw [decide_eq_false e]
      exact ih
section
variable {X : Cx} {pins : List (Addr × Obj)} {σ : L2.St} {H : Hp} {s : Shared}
theorem vheld_rd {a : Addr} {L : List VRow} (I : Inv X pins σ H s) (h : VHeld X.prog X.w a L s.heap) (ks : VKeys H L) : ∃ xs, s.heap.DictOfH (nestedKind X.prog X.w) a xs ∧ VRows L xs ∧ (a == sysModules) = false ∧ L.length ≤ 1000 := by
  obtain ⟨xs, o, es, ep, ho, hx, hd, he, hn, r, lo, few⟩ := h
  refine ⟨xs, ⟨o, es, ep, ho, hx, hd, he, fun x hx => ?_, hn⟩, r, lo, few⟩
  have all : ∀ {L : List VRow} {xs : List (NestedKey × Addr × Value)}, VRows L xs → VKeys H L → ∀ x ∈ xs, NestedIs s.heap x.1 (.ref x.2.1) ∧ x.1.depth ≤ 8 := by
    intro L xs r
    unfold VRows at r
    induction r with
    | nil => exact fun _ x m => nomatch m
    | @cons p y ps ys h t ih =>
      intro k x m
      rcases List.mem_cons.mp m with rfl | m
      · obtain ⟨h1, h2, _⟩ := h
        rw [← h1, ← h2]
        have q := k p List.mem_cons_self
        exact ⟨nq_is I _ q.1 rfl, q.2⟩
      · exact ih (fun q mq => k q (List.mem_cons_of_mem _ mq)) x m
  exact all r ks x hx
theorem vdict_rd {a : Addr} {L : List VRow} (I : Inv X pins σ H s) (ha : H a = some (VDict X.prog X.w a L)) (ks : VKeys H L) : ∃ xs, s.heap.DictOfH (nestedKind X.prog X.w) a xs ∧ VRows L xs ∧ (a == sysModules) = false ∧ L.length ≤ 1000 :=
  vheld_rd I (show VHeld X.prog X.w a L s.heap from (I.hok a _ ha).1) ks
theorem vheld_new {P : Program} {w : World} (h : Heap) (big : sysModules < h.objs.size) : VHeld P w h.objs.size [] (h.push { cls := .type "dict", data := .dict #[] }) :=
  ⟨[], _, #[], 0, Heap.get?_push_size _ rfl, ⟨rfl, rfl, rfl⟩, rfl, rfl, List.nodup_nil, .nil, beq_eq_false_iff_ne.mpr (Ne.symm (Nat.ne_of_lt big)), Nat.zero_le _⟩
theorem vheld_put {a b : Addr} {L : List VRow} {k : NestedKey} {v : V} {u : Value} {xs : List (NestedKey × Addr × Value)} {h' : Heap} {P : Program} {w : World} (rr : VRows L xs) (rv : RelV v u) (lo : (a == sysModules) = false) (hn : valW L k = none) (few : L.length < 1000)
    (D2 : h'.DictOfH (nestedKind P w) a (storedH xs k b u)) : VHeld P w a (L ++ [(k, b, v)]) h' := by
  rw [storedH_new ((rows_atV rr k).2 hn)] at D2
  obtain ⟨o2, es, ep, g1, g2, g3, g4, _, g5⟩ := D2
  refine ⟨xs ++ [(k, b, u)], o2, es, ep, g1, g2, g3, g4, g5, ?_, lo, by rw [List.length_append]; exact few⟩
  exact paired_snocV rr ⟨rfl, rfl, rv⟩
end
/-- {}, to be such a dict -/
def tDNewV (P : Program) (w : World) : TE := fun _ H Q => ∀ p, H p = none → Q (.ref p) (upd H p (VDict P w p []))
/-- k in d -/
def rInV (P : Program) (w : World) : R2 := fun x y H Q => ∃ b a k L, x = .ref b ∧ y = .ref a ∧ NqV H (.ref b) k ∧ k.depth ≤ 8 ∧ H a = some (VDict P w a L) ∧ VKeys H L ∧ Q (.bl (valW L k).isSome) H
/-- d[k] -/
def tGetV (P : Program) (w : World) (td ty : TE) : TE := fun σ H Q => td σ H fun x H1 => ty σ H1 fun y H2 => ∃ a b k L v, x = .ref a ∧ y = .ref b ∧ NqV H2 (.ref b) k ∧ k.depth ≤ 8 ∧ H2 a = some (VDict P w a L) ∧ VKeys H2 L ∧ valW L k = some v ∧ Q v H2
/-- d[k] = v, the key being new there -/
def sPutV (P : Program) (w : World) (td ty tv : TE) : TS := fun D σ H => tv σ H fun v H1 => td σ H1 fun x H2 => ty σ H2 fun y H3 => ∃ a b k L, x = .ref a ∧ y = .ref b ∧ NqV H3 (.ref b) k ∧ k.depth ≤ 8 ∧ H3 a = some (VDict P w a L) ∧ VKeys H3 L ∧ valW L k = none ∧ L.length < 1000 ∧
  D.nx σ (upd H3 a (VDict P w a (L ++ [(k, b, v)])))
/-- d.setdefault(k, x) -/
def tSetdV (P : Program) (w : World) (td ty tx : TE) : TE := fun σ H Q => td σ H fun x H1 => ∃ a L0, x = .ref a ∧ H1 a = some (VDict P w a L0) ∧ ty σ H1 fun y H2 => tx σ H2 fun z H3 => ∃ b k L, y = .ref b ∧ NqV H3 (.ref b) k ∧ k.depth ≤ 8 ∧ H3 a = some (VDict P w a L) ∧ VKeys H3 L ∧ L.length < 1000 ∧
  (∀ v, valW L k = some v → Q v H3) ∧ (valW L k = none → Q z (upd H3 a (VDict P w a (L ++ [(k, b, z)]))))
section
variable {X : Cx} {o i e f value : Expr} {pos pos' apos cpos : Pos} {td ty tv tx : TE}
theorem pe_dnewV : PE X (.Dict [] [] pos) (tDNewV X.prog X.w) := ⟨fun pins s σ H Q I h =>
  wpAny_Dict_empty ⟨.ref s.heap.objs.size, _, I.laid (a := s.heap.objs.size) (t' := s.toks) (fun _ _ q => Heap.get?_push_of_some _ q) (Nat.le_refl _)
    (vdict_ok (vheld_new s.heap I.big)), rfl, h _ (I.hok.fresh (Nat.le_refl _))⟩⟩
theorem roomV {X : Cx} (hu : X.A.units + 64 < cLine) : (nestedKind X.prog X.w).room X.A.in1 := (show X.A.in1.units + 8 < cLine by simp only [Around.in1]; omega)
theorem op_inV (hu : X.A.units + 64 < cLine) : OpR X (compareOp .In) (rInV X.prog X.w) := by
  intro pins s σ H x y v u Q I rx ry h
  obtain ⟨b, a, k, L, rfl, rfl, hk, hd, ha, ks, q⟩ := h
  cases (show v = Value.ref b from rx)
  cases (show u = Value.ref a from ry)
  obtain ⟨xs, D, r, lo, few⟩ := vdict_rd I ha ks
  refine wpAny_in_heap (roomV hu) ⟨nq_is I k hk rfl, hd⟩ lo D ⟨.bl (valW L k).isSome, H, I.tok _, ?_, q⟩
  have z := rows_atV r k
  cases e : valW L k with
  | none => rw [z.2 e]; rfl
  | some i =>
    obtain ⟨c, t, q, _⟩ := z.1 i e
    rw [q]
    rfl
theorem pe_getV (hu : X.A.units + 64 < cLine) (ho : PE X o td) (hi : PE X i ty) (hs : NoSl i) : PE X (.Subscript o i pos) (tGetV X.prog X.w td ty) := by
  refine ⟨fun pins s σ H Q I h => ?_⟩
  refine subD_of PySem.F.slot_dict_getitem.lookup hs (thn (ho.run pins s σ H _ I h) fun u s1 ⟨x, H1, I1, rx, q1⟩ => thn (hi.run pins s1 σ H1 _ I1 q1) fun iv s2 ⟨y, H2, I2, ry, a, b, k, L, j, ex, ey, hk, hd, ha, ks, hv, q2⟩ => ?_)
  subst ex ey
  obtain rfl : u = Value.ref a := rx
  obtain rfl : iv = Value.ref b := ry
  obtain ⟨xs, D, r, lo, few⟩ := vdict_rd I2 ha ks
  obtain ⟨c, t, q, rv⟩ := (rows_atV r k).1 j hv
  exact ⟨D.typeIs, wpAny_getItem_heap (roomV hu) ⟨nq_is I2 k hk rfl, hd⟩ D q ⟨j, H2, I2.tok _, rv, q2⟩⟩
theorem ps_putV (hu : X.A.units + 64 < cLine) (ho : PE X o td) (hi : PE X i ty) (hv : PE X value tv) (hs : swapsWith value (some (.Subscript o i pos')) pos.line X.env = pure false) :
    PS X (.Assign [.Subscript o i pos'] value pos) (sPutV X.prog X.w td ty tv) := by
  refine ⟨fun pins s σ H D I h => ?_⟩
  refine wpAny_Assign_Subscript (thn (hv.run pins s σ H _ I h) fun r s1 ⟨v, H1, I1, rv, q1⟩ => thn (ho.run pins s1 σ H1 _ I1 q1) fun u s2 ⟨x, H2, I2, rx, q2⟩ => thn (hi.run pins s2 σ H2 _ I2 q2) fun iv s3 ⟨y, H3, I3, ry, a, b, k, L, ex, ey, hk, hd, ha, ks, hn, few, q3⟩ => ?_) hs
  subst ex ey
  obtain rfl : u = Value.ref a := rx
  obtain rfl : iv = Value.ref b := ry
  obtain ⟨xs, Dd, rr, lo, _⟩ := vdict_rd I3 ha ks
  have lx : L.length = xs.length := Paired.length rr
  have big := sizeLine_eq
  refine wpAny_setItem_heap (hsz := by omega) (roomV hu) ⟨nq_is I3 k hk rfl, hd⟩ Dd fun h' D2 sb => ?_
  have VH := vheld_put rr rv lo hn few D2
  obtain ⟨_, o2, _, _, g1, _⟩ := id VH
  exact ⟨σ, _, d_write I3 (by rw [ha]; exact True.intro) sb ⟨o2, g1⟩ (vdict_ok VH), q3⟩
theorem pe_setdV (hu : X.A.units + 64 < cLine) (ho : PE X o td) (he : PE X e ty) (hf : PE X f tx) (m : M2 X o "setdefault" apos e f cpos) : PE X (.Call (.Attribute o "setdefault" apos) [e, f] [] cpos) (tSetdV X.prog X.w td ty tx) := by
  refine ⟨fun pins s σ H Q I h => ?_⟩
  refine wpAny_Call_method m.base m.few m.line PySem.F.plainAttrs_dict PySem.F.slot_dict_setdefault PySem.F.type_dict_setdefault (thn (ho.run pins s σ H _ I h) fun u s1 ⟨x, H1, I1, rx, a, L0, ex, d, q1⟩ => ?_)
  subst ex
  obtain rfl : u = Value.ref a := rx
  obtain ⟨_, o1, _, _, ho1, hx1, _⟩ := (show VHeld X.prog X.w a L0 s1.heap from (I1.hok a _ d).1)
  refine ⟨⟨o1, ho1, hx1.1⟩, (fun b z => by cases z; exact ⟨o1, ho1, hx1.2.1⟩), ?_⟩
  rw [m.trees]
  refine Calls.callWith_builtin rfl (Calls.evalArgs_plain (Calls.spliced_cons (thn (he.run pins s1 σ H1 _ I1 q1) fun iv s2 ⟨y, H2, I2, ry, q2⟩ =>
    Calls.spliced_cons (thn (hf.run pins s2 σ H2 _ I2 q2) fun fv s3 ⟨z, H3, I3, rz, b, k, L, ey, hk, hd, ha, ks, few, q3, q4⟩ => Calls.spliced_nil ?_))))
  subst ey
  obtain rfl : iv = Value.ref b := ry
  obtain ⟨xs, Dd, rr, lo, _⟩ := vdict_rd I3 ha ks
  have lx : L.length = xs.length := Paired.length rr
  have big := sizeLine_eq
  refine call_setdefault_heap (hsz := by omega) (roomV hu) ⟨nq_is I3 k hk rfl, hd⟩ lo Dd (fun p hp => ?_) fun hn h' D2 sb => ?_
  · cases ev : valW L k with
    | none => rw [(rows_atV rr k).2 ev] at hp; cases hp
    | some v =>
      obtain ⟨c, t, q, rv⟩ := (rows_atV rr k).1 v ev
      rw [q] at hp
      cases hp
      exact ⟨v, H3, I3.tok _, rv, q3 v ev⟩
  · have ev : valW L k = none := by
      cases ev : valW L k with
      | none => rfl
      | some v =>
        obtain ⟨c, t, q, rv⟩ := (rows_atV rr k).1 v ev
        rw [q] at hn
        cases hn
    have VH := vheld_put rr rz lo ev few D2
    obtain ⟨_, o2, _, _, g1, _⟩ := id VH
    exact ⟨z, _, d_write I3 (by rw [ha]; exact True.intro) sb ⟨o2, g1⟩ (vdict_ok VH), rz, q4 ev⟩
end
/-! ### its values, walked -/
section
variable {X : Cx} {pins : List (Addr × Obj)} {σ : L2.St} {H : Hp} {s : Shared} {d : Addr} {o : Obj}
theorem frz_valsV {P : Program} {w : World} {kvs : List VRow} (I : Inv X pins σ H s) (h : H d = some (.frz o (VDict P w d kvs))) :
    s.heap.get? d = some o ∧ o.ExactDict ∧ (d == sysModules) = false ∧ ∃ (es : Array DictEntry) (ep : Nat), o.data = .dict es ep ∧ es.size = kvs.length ∧ ∀ (i : Nat) (p : VRow), kvs[i]? = some p → ∃ en : DictEntry, es[i]? = some en ∧ RelV p.2.2 en.val := by
  obtain ⟨hd, hv, _⟩ := I.hok d _ h
  obtain ⟨xs, o', es, ep, ho, hx, hdt, he, _, pr, lo, _⟩ := (show VHeld P w d kvs s.heap from hv)
  rw [hd] at ho
  cases ho
  refine ⟨hd, hx, lo, es, ep, hdt, ?_, fun i p e => ?_⟩
  · have l1 : es.size = xs.length := size_of_entries he
    have l2 : kvs.length = xs.length := Paired.length pr
    omega
  · obtain ⟨b, hb, _, _, e3⟩ := paired_get pr e
    have q := entry_at he i
    rw [hb] at q
    exact ⟨_, q, e3⟩
end
/-- the values, in their order -/
def ItdV (P : Program) (w : World) (d : Addr) (o : Obj) (kvs : List VRow) : It :=
  ⟨fun i H => H d = some (.frz o (VDict P w d kvs)) ∧ i < kvs.length, fun i H x H' => H' = H ∧ ∃ p, kvs[i]? = some p ∧ x = p.2.2, fun i H => H d = some (.frz o (VDict P w d kvs)) ∧ kvs.length = i⟩
theorem turn_valsV {P : Program} {w : World} {K : Frag} {tg : Expr} {d : Addr} {o : Obj} {es : Array DictEntry} {ep : Nat} {kvs : List VRow} (it : Addr) (ni : d ≠ it) (hod : o.data = .dict es ep) (hz : es.size = kvs.length) :
    Turn P w K tg (ItdV P w d o kvs) [it] it (fun i h => h.IsValIter it d i es.size ep) where
  mem := by simp
  obj := fun i h st b hb => by
    have e : b = it := by simpa using hb
    subst e
    obtain ⟨oi, e, _, dd⟩ := st
    exact ⟨oi, e, fun v z => by rw [dd] at z; cases z⟩
  keep := fun i h h' st k => st.at fun oi e => k it (by simp) oi e
  item := by
    intro X hP hw hK hc i pins s σ H E I hf st hg
    subst hP hw hK
    obtain ⟨hd, hi⟩ := hg
    obtain ⟨f0, f1, f2, f3, f4, f5⟩ := hf it (by simp)
    obtain ⟨hgd, hx, lo, es', ep', hdt, hsz, ent⟩ := frz_valsV I hd
    obtain ⟨rfl, rfl⟩ := dict_ep hod hdt
    obtain ⟨p, hkv⟩ : ∃ p, kvs[i]? = some p := ⟨kvs[i], List.getElem?_eq_getElem hi⟩
    obtain ⟨en, hen, rv⟩ := ent i p hkv
    have W := Walks.rawValues (prog := X.prog) (w := X.w) (I.ok.hd hc) it d ni es' ep'
    refine W.item i s _ _ (by omega) ⟨st, o, hgd, hx, hdt⟩ fun u h' tk hu st' kk => ?_
    obtain ⟨lt, rfl⟩ := hu
    have eu : en = es'[i] := by
      rw [Array.getElem?_eq_getElem lt] at hen
      exact (Option.some.inj hen).symm
    subst eu
    have I1 : Inv X pins σ H { s with heap := h', toks := tk } := I.turned (fun b o hb e => kk b o (by simpa using hb) e) f0 f1 f3 f4 f5
    obtain ⟨oi, e, c, dd⟩ := id st'.1
    exact ⟨_, rfl, go_of (s := { s with heap := h', toks := tk }) e c dd (by decide) ⟨p.2.2, H, I1, rv, ⟨rfl, p, hkv, rfl⟩, st'.1, fun b hb => (hf b hb).1⟩⟩
  done := by
    intro X hP hw hK hc i pins s σ H E I hf st hg
    subst hP hw hK
    obtain ⟨hd, hi⟩ := hg
    obtain ⟨f0, f1, f2, f3, f4, f5⟩ := hf it (by simp)
    obtain ⟨hgd, hx, lo, es', ep', hdt, hsz, ent⟩ := frz_valsV I hd
    obtain ⟨rfl, rfl⟩ := dict_ep hod hdt
    have W := Walks.rawValues (prog := X.prog) (w := X.w) (I.ok.hd hc) it d ni es' ep'
    have e : i = es'.size := by omega
    subst e
    exact W.done s _ _ ⟨st, o, hgd, hx, hdt⟩ fun h' tk eb => ⟨rfl, I.turned (fun b o hb q => eb b o (by simpa using hb) q) f0 f1 f3 f4 f5⟩
  self := fun A i s Q E st h => wpAny_pyIter_valiter st h
/-- the dict is locked (tLock, or by the caller) -/
def iValsV (P : Program) (w : World) (td : TE) : TI := fun σ H R => td σ H fun x H1 => ∃ d o kvs, x = .ref d ∧ H1 d = some (.frz o (VDict P w d kvs)) ∧ R (ItdV P w d o kvs) H1
theorem walk_valsV {P : Program} {w : World} {d : Addr} {o : Obj} {kvs : List VRow} : Walk (ItdV P w d o kvs) kvs.length (fun H => H d = some (.frz o (VDict P w d kvs))) (fun i H x H' => H' = H ∧ ∃ p, kvs[i]? = some p ∧ x = p.2.2) :=
  ⟨fun _ _ hi q => ⟨q, hi⟩, fun _ q => ⟨q, rfl⟩, fun _ _ _ _ _ _ y => y⟩
section
variable {X : Cx} {tg e : Expr} {td : TE} {apos cpos : Pos}
theorem pi_valuesV (he : PE X e td) (hbase : attributeBase e "values" X.env (eval e X.env) = eval e X.env := by rfl) (hline : (apos.endLine == cpos.line) = true := by rfl) : PI X tg (.Call (.Attribute e "values" apos) [] [] cpos) (iValsV X.prog X.w td) := by
  refine ⟨fun pins s σ H R I h => ?_⟩
  refine wpAny_Call_method (T := "dict") (id := "dict.values") hbase rfl hline F.plainAttrs_dict F.slot_dict_values F.type_dict_values (thn (he.run pins s σ H _ I h) fun u s1 ⟨x, H1, I1, rx, d, o, kvs, ex, hd, q⟩ => ?_)
  subst ex
  obtain rfl : u = Value.ref d := rx
  obtain ⟨hgd, hx, lo, es, ep, hdt, hsz, ent⟩ := frz_valsV I1 hd
  have raw : s1.heap.DictRaw d es ep := ⟨o, hgd, hx, hdt⟩
  have ty : s1.TypeIs (.ref d) "dict" := ⟨o, hgd, hx.1⟩
  refine ⟨ty, (fun b z => by cases z; exact ⟨o, hgd, hx.2.1⟩), ?_⟩
  have I2 : Inv X pins σ H1 { s1 with heap := s1.heap.push { cls := .type "dict_values", data := .fields #[.ref d] } } := I1.kept (t' := s1.toks) fun b ob z => Heap.get?_push_of_some _ z
  have lt : d < s1.heap.objs.size := Heap.lt_size hgd
  have fin : wpAny (model X.prog X.w) X.A (pyIter (.ref s1.heap.objs.size)) (PIE X pins σ tg R) X.xe { s1 with heap := s1.heap.push { cls := .type "dict_values", data := .fields #[.ref d] } } := by
    refine wpAny_pyIter_values_raw (d := d) ⟨_, Heap.get?_push_size _ rfl, rfl, rfl⟩ (raw.push _) (pi_one (tk := s1.toks) I2 _ (turn_valsV _ (Nat.ne_of_lt (by show d < (s1.heap.push _).objs.size; rw [Heap.size_push]; exact Nat.lt_succ_of_lt lt)) hdt hsz) ⟨_, Heap.get?_push_size _ rfl, rfl, rfl⟩ q)
  show wpAny _ _ (callWith cpos (.builtin "dict.values") [.ref d] [] []) _ X.xe s1
  exact method_meetsIn F.slot_dict_values F.entry_dict_values rfl (PySem.evalArgs_none ⟨rfl, ty, F.args_dict_values_1 _, _, meets_dict_values_raw d lo, ⟨es, ep, raw⟩, fin⟩)
end
end Kd

-- ===== KN2 =====
set_option Elab.async false
set_option linter.all false
set_option maxRecDepth 100000
set_option maxHeartbeats 4000000
namespace Kd
open PySem L2 PyProof.Rows PySem.Spec PySem.W
section
variable {X : Cx} {CX : CXT} {k : Nat} {f : Addr} {fd : FuncData} {ps ks : List Str} {sp : Sp} {x : Str} {p pos : Pos} {tk : TA} {E : XK} {kws : List Keyword} {g : List Value → List Value → List Value} {gV : List V → List V → List V}
/-- f(k = v, ..), nothing by position -/
theorem pe_callK0 (F : FnOk X.prog X.w X.K X.mg X.base CX k f fd ps sp) (hr : Room k X.A) (hg : Gl X x) (hm : X.mg x = some (.ref f)) (hk : PySem.W.keepIn X.K (.ref f) = true) (hb : KBinds X.K fd ps ks g gV) (hx : Passes CX X E)
    (hkw : PK X kws tk) (hall : (backToKw pos (keywordEach kws X.env)).all (·.1.isSome) = true := by rfl) (hks : (backToKw pos (keywordEach kws X.env)).filterMap (·.1) = ks := by rfl)
    (hdb : (x == ("__debug__" : Str)) = false := by decide)
    (hpl : ((backTo pos (starEach [] X.env)).any (·.1) || (backToKw pos (keywordEach kws X.env)).any (·.1.isNone)) = false := by rfl) :
    PE X (.Call (.Name x p) [] kws pos) (tCallK sp gV E tNil tk) := by
  refine ⟨fun pins s σ H Q I h => ?_⟩
  refine wpAny_Call_Name_kw (ld_glob I hg hm ?_ hdb)
  refine PySem.W.callWith_KW0 (h₀ := X.base) I.ok.mod.kin hk hall (thn (hkw.run pos pins s σ H _ I h) fun ws s2 ⟨zs, H2, I2, rz, q2⟩ => ⟨I2.kIn, ?_⟩) hpl
  rw [hks]
  exact run_fnk F hr hb hx I2 (us := []) (vs := []) .nil rz q2
end
section
variable {X : Cx}
/-- x in t, t a tuple of data -/
def rInDT (K : PySem.W.Frag) : R2 := fun x y H Q => ∃ d ds, Dp K H x d ∧ Dp K H y (.tuple ds) ∧ SeqAt.shaped d = true ∧ SeqAt.shaped (.tuple ds) = true ∧ Q (.bl (ds.any fun z => PyData.eqv z d)) H
theorem op_inDT (hu : X.A.units + 65 < cLine) : OpR X (compareOp .In) (rInDT X.K) := by
  intro pins s σ H x y v u Q I rx ry h
  obtain ⟨d, ds, hd, he, sd, se, q⟩ := h
  obtain ⟨as, r1⟩ := Dp.reads I d x v hd rx
  obtain ⟨bs, r2⟩ := Dp.reads I (.tuple ds) y u he ry
  exact SeqAt.in_tuple_reads r2 r1 (SeqAt.canLay_of_shaped se) (SeqAt.canLay_of_shaped sd) (room_in_shaped sd hu) ⟨.bl _, H, I, rfl, q⟩
/-- a list times an int; the new list is none of the model's own -/
def rRepL : R2 := fun x y H Q => ∃ l k xs, x = .ref l ∧ y = .int k ∧ H l = some (.lst xs) ∧ -(2 ^ 63) ≤ k ∧ k < 2 ^ 63 ∧ xs.length * k.toNat ≤ sizeLine ∧
  ∀ p, H p = none → sysModules < p → Q (.ref p) (upd H p (.lst (List.replicate k.toNat xs).flatten))
theorem op_repL : OpR X (binaryOp .Mult) rRepL := by
  intro pins s σ H x y v u Q I rx ry h
  obtain ⟨l, k, xs, rfl, rfl, hH, h1, h2, hz, q⟩ := h
  cases rx
  obtain ⟨t, rfl⟩ := ry
  obtain ⟨z, its, n, r, hl, e⟩ := I.lstM hH
  have hlen : its.toArray.size * k.toNat ≤ sizeLine := by rw [List.size_toArray, ← hl]; exact hz
  have hcap : ¬ its.toArray.size * k.toNat > (2 ^ 63 - 1) / 8 := by
    have : (sizeLine : Nat) ≤ (2 ^ 63 - 1) / 8 := by decide
    omega
  have hfit : ¬ (!Builtin.List.listFitsIndex k) = true := by
    rw [fitsIndex_both h1 h2]
    exact Bool.false_ne_true
  have hlong : ¬ Builtin.List.listTooLong (its.toArray.size * k.toNat) = true := by
    rw [notLongL hlen]
    exact Bool.false_ne_true
  have hnew : List.foldl (fun x1 x2 => x1 ++ x2) #[] (List.replicate (if its.toArray.isEmpty = true then 0 else k.toNat) its.toArray) = (List.replicate k.toNat its).flatten.toArray := by
    have f0 : ∀ m : Nat, List.foldl (fun x1 x2 => x1 ++ x2) #[] (List.replicate m its.toArray) = (List.replicate m its).flatten.toArray := fun m => by
      have := foldl_rep its m []
      rw [List.nil_append] at this
      exact this
    rw [f0]
    cases its with
    | nil => simp
    | cons a r' => rw [if_neg (by simp)]
  refine wpAny_binaryOp_repeat_ref (T := "list") (U := "int") (by decide) ⟨_, e, rfl⟩ (fun s' => typeIs_int s' k t) noFill_list_mul F.fills_int_mul F.slot_int_rmul repeat_list F.slot_int_index.lookup
    (call_meets F.slot_int_rmul (typeIs_int s k t) F.entry_int_rmul (F.args_int_rmul_2 _ _) (int___rmul___int_list k t l its.toArray n)
      ⟨e, rfl, ⟨_, e, rfl⟩, call_meets F.slot_list_mul ⟨_, e, rfl⟩ F.entry_list_mul (F.args_list_mul_2 _ _) (AutoListH.list___mul___list_int_3 l its.toArray n k t hfit hcap hlong) ⟨e, ?_⟩⟩)
  rw [hnew]
  exact ⟨.ref _, _, I.lnew (t' := s.toks) (r.rep k.toNat) (by rw [PyProof.Rows.lm_len_rep_flat, Nat.mul_comm]; exact hz), rfl, q _ I.fresh I.big⟩
end
/-- what is read off stands -/
theorem reads_in {h : Heap} {v : Value} {d : PyData} {as : List Addr} (r : Reads h v d as) : ∀ a ∈ as, ∃ o, h.get? a = some o :=
  Reads.rec (motive_1 := fun _ _ as _ => ∀ a ∈ as, ∃ o, h.get? a = some o) (motive_2 := fun _ _ as _ => ∀ a ∈ as, ∃ o, h.get? a = some o)
    (fun a m => nomatch m) (fun _ a m => nomatch m) (fun _ _ a m => nomatch m) (fun _ _ a m => nomatch m)
    (fun ho _ _ _ ih a m => by
      rcases List.mem_cons.mp m with e | m
      · exact ⟨_, by rw [e]; exact ho⟩
      · exact ih a m)
    (fun _ _ _ _ ih a m => ih a m)
    (fun ho _ _ _ _ ih1 ih2 a m => by
      rcases List.mem_append.mp m with m | m
      · rcases List.mem_cons.mp m with e | m
        · exact ⟨_, by rw [e]; exact ho⟩
        · exact ih1 a m
      · exact ih2 a m)
    (fun a m => nomatch m)
    (fun _ _ ih1 ih2 a m => by
      rcases List.mem_append.mp m with m | m
      · exact ih1 a m
      · exact ih2 a m) r
/-! ### sorted(xs), xs a list or a tuple of data -/
/-- items told with the data that they are -/
def DpRows {β : Type} (enc : β → PyData) (K : PySem.W.Frag) (H : Hp) (L : List (Addr × β)) : Prop := ∀ q ∈ L, Dp K H (.ref q.1) (enc q.2)
def rSortX {β : Type} (enc : β → PyData) (K : PySem.W.Frag) : List V → Hp → VK → Prop := fun vs H Q => ∃ (a : Addr) (L : List (Addr × β)), vs = [V.ref a] ∧ (SqL K H a (L.map fun q => V.ref q.1) ∨ SqT K H a (L.map fun q => V.ref q.1)) ∧ DpRows enc K H L ∧ AllAlike (L.map fun q => enc q.2) ∧ Sortable (L.map fun q => enc q.2) ∧ (∀ q ∈ L, (enc q.2).depth ≤ 60) ∧ L.length ≤ 100000 ∧
  ∀ p, H p = none → Q (.ref p) (upd H p (.lst ((L.mergeSort (dataLe false fun q => enc q.2)).map fun q => V.ref q.1)))
section
variable {X : Cx} {β : Type} {enc : β → PyData}
theorem refs_of : ∀ {L : List (Addr × β)} {us : List Value}, Vals (L.map fun q => V.ref q.1) us → us = L.map fun q => Value.ref q.1
  | [], _, .nil => rfl
  | q :: ks, _, .cons r t => by
    cases r
    rw [refs_of t]
    rfl
theorem refs_are : ∀ (L : List (Addr × β)), Vals (L.map fun q => V.ref q.1) (L.map fun q => Value.ref q.1)
  | [] => .nil
  | q :: ks => .cons rfl (refs_are ks)
theorem cr_sortX (hu : X.A.units + 80 < cLine) : CallR X (.builtin "sorted") (rSortX enc X.K) := by
  intro pins s σ H vs us Q I r h
  obtain ⟨a, L, rfl, hl, hk, al, so, dp, sz, q⟩ := h
  rw [Vals.ref1 r]
  have big := sizeLine_eq
  have each : ∀ (R : Value → Addr × β → Prop) (M : List (Addr × β)), (∀ q ∈ M, R (.ref q.1) q) → EachIs R (M.map fun q => Value.ref q.1) M := by
    intro R M
    induction M with
    | nil => exact fun _ => .nil
    | cons x M ih => exact fun g => .cons (g x List.mem_cons_self) (ih fun y m => g y (List.mem_cons_of_mem _ m))
  have eout : ∀ {o : List Value} {M : List (Addr × β)}, EachIs (fun v q => v = Value.ref q.1) o M → o = M.map fun q => Value.ref q.1 := by
    intro o M z
    induction z with
    | nil => rfl
    | cons e _ ih => rw [e, ih]; rfl
  have rd : ∀ q ∈ L, ∃ as, Reads s.heap (.ref q.1) (enc q.2) as := fun q m => Dp.reads I (enc q.2) (.ref q.1) (.ref q.1) (hk q m) rfl
  have lz : ((L.mergeSort (dataLe false fun q => enc q.2)).map fun q => V.ref q.1).length ≤ sizeLine := by
    rw [List.length_map, List.length_mergeSort]
    omega
  rcases hl with hl | hl
  · obtain ⟨its, rv, il, _⟩ := I.list hl
    have ei := refs_of rv
    subst ei
    refine sorted_data (R := fun v q => v = Value.ref q.1) (enc := fun q : Addr × β => enc q.2) (bs := L) il.isList (each _ L fun q _ => rfl) (each _ L rd) al so (by omega) (fun b m => by have z := dp b m; omega) fun out lo eo => ?_
    have eo' := eout eo
    subst eo'
    obtain ⟨ep, he⟩ := PyProof.Rows.sortedAll_at s.heap (L.map fun q => Value.ref q.1) (((L.mergeSort (dataLe false fun q => enc q.2)).map fun q => Value.ref q.1).toArray)
    exact ⟨.ref _, upd H (s.heap.objs.size + 1) (.lst ((L.mergeSort (dataLe false fun q => enc q.2)).map fun q => V.ref q.1)), I.laid (t' := s.toks) (fun _ _ => PyProof.Rows.sortedAll_old) (Nat.le_succ _) ⟨lz, _, ep, refs_are _, he⟩, rfl, q _ (I.hok.fresh (Nat.le_succ _))⟩
  · obtain ⟨its, rv, ⟨o, ho, hc, n, hd⟩, _⟩ := I.tuple hl
    have ei := refs_of rv
    subst ei
    refine Calls.call_function_entry kind_sorted plain_sorted entry_sorted (args_sorted1 _) ?_
    unfold Builtin.«sorted»
    refine wpAny_bind (m := checkCount "sorted" 1 1 _) (wpAny_pure ?_)
    refine wpAny_bind (wpAny_collect_seq (A := X.A.in1) a (.inr rfl) ho hc hd (hsz := by rw [List.size_toArray, List.length_map]; omega) fun h' hk' => ?_)
    have I1 : Inv X pins σ H { s with heap := h' } := I.kept (t' := s.toks) hk'
    rw [show (L.map fun q => Value.ref q.1).toArray.toList = L.map fun q => Value.ref q.1 by simp]
    refine wpAny_bind (wpAny_newList ?_ (by rw [List.length_map]; omega))
    have oL : (h'.push (seqObj "list" (L.map fun q => Value.ref q.1).toArray 0)).get? h'.objs.size = some (seqObj "list" (L.map fun q => Value.ref q.1).toArray 0) := Heap.get?_push_size _ rfl
    have al' : ∀ q ∈ L, ∃ as, Reads (h'.push (seqObj "list" (L.map fun q => Value.ref q.1).toArray 0)) (.ref q.1) (enc q.2) as ∧ h'.objs.size ∉ as := fun q m => by
      obtain ⟨as, r1⟩ := Dp.reads I1 (enc q.2) (.ref q.1) (.ref q.1) (hk q m) rfl
      refine ⟨as, PyProof.Rows.Reads.keeps (fun b u e => Heap.get?_push_of_some _ e) r1, fun z => ?_⟩
      obtain ⟨o2, e2⟩ := reads_in r1 _ z
      exact absurd (Heap.lt_size e2) (Nat.lt_irrefl _)
    refine wpAny_bind (wpAny_holding (list_sort_data (s := { s with heap := h'.push (seqObj "list" (L.map fun q => Value.ref q.1).toArray 0) }) (R := fun v q => v = Value.ref q.1) (enc := fun q : Addr × β => enc q.2) (bs := L) oL (each _ L fun q _ => rfl)
      (each _ L al') al so (by omega) (fun b m => by have z := dp b m; have y : X.A.in1.units ≤ X.A.units + 1 := (by simp only [Around.in1]; omega); omega) fun out lo eo => ?_))
    have eo' := eout eo
    subst eo'
    obtain ⟨c, hc2⟩ := sortedHeap_at (vs := L.map fun q => Value.ref q.1) (out := (List.toArray ((L.mergeSort (dataLe false fun q => enc q.2)).map fun q => Value.ref q.1))) oL
    have kp2 : ∀ b u, h'.get? b = some u → (sortedHeap (h'.push (seqObj "list" (L.map fun q => Value.ref q.1).toArray 0)) h'.objs.size (L.map fun q => Value.ref q.1) (List.toArray ((L.mergeSort (dataLe false fun q => enc q.2)).map fun q => Value.ref q.1))).get? b = some u := fun b u z => by
      have lt := Heap.lt_size z
      rw [sortedHeap_old (Nat.ne_of_lt lt) (by rw [size_push']; exact Nat.lt_succ_of_lt lt)]
      exact Heap.get?_push_of_some _ z
    refine wpAny_pure ⟨_, rfl, ?_⟩
    exact ⟨.ref h'.objs.size, upd H h'.objs.size (.lst ((L.mergeSort (dataLe false fun q => enc q.2)).map fun q => V.ref q.1)), I1.laid (t' := s.toks) kp2 (Nat.le_refl _) ⟨lz, _, c, refs_are _, hc2⟩, rfl, q _ (I1.hok.fresh (Nat.le_refl _))⟩
/-- what is sorted, without the places -/
theorem sort_snd (L : List (Addr × β)) : (L.mergeSort (dataLe false fun q => enc q.2)).map Prod.snd = (L.map Prod.snd).mergeSort (dataLe false enc) := List.map_mergeSort fun _ _ _ _ => rfl
end
/-! ### {k: v for ..}, the keys nested tuples, each new -/
/-- in each block of a comprehension -/
abbrev BlksV (X : Cx) (scope : Scope) (p : Cx → Prop) : Prop := ∀ (s : Shared) (H : Hp) (C : Addr) (cl : List (PySem.Str × Addr)) (fp : List Addr), p (X.blk s H scope (compEnvC scope cl C X.env) fp)
section
variable {X : Cx} {pins : List (Addr × Obj)} {σ : L2.St} {H : Hp} {s : Shared}
theorem put_okV {E : Value → Shared → Prop} {D b : Addr} {L : List VRow} {k : NestedKey} {v : V} {r : Value} {Q : Unit → Shared → Prop} (hu : X.A.units + 64 < cLine) (I : Inv X pins σ H s) (hD : H D = some (VDict X.prog X.w D L)) (ks : VKeys H L) (hb : NqV H (.ref b) k) (hd : k.depth ≤ 8) (hn : valW L k = none) (few : L.length < 1000) (rv : RelV v r)
    (h : ∀ s', Inv X pins σ (upd H D (VDict X.prog X.w D (L ++ [(k, b, v)]))) s' → Q () s') : wpAny (model X.prog X.w) X.A (dictSet D (.ref b) r) Q E s := by
  obtain ⟨xs, Dd, rr, lo, _⟩ := vdict_rd I hD ks
  have lx : L.length = xs.length := Paired.length rr
  have big := sizeLine_eq
  refine wpAny_dictSet_heap (knd := nestedKind X.prog X.w) (hsz := by omega) (show X.A.units + 8 < cLine by omega) ⟨nq_is I k hb rfl, hd⟩ Dd fun h' D2 sb => h _ ?_
  have VH := vheld_put rr rv lo hn few D2
  obtain ⟨_, o2, _, _, g1, _⟩ := id VH
  exact d_write I (by rw [hD]; exact True.intro) sb ⟨o2, g1⟩ (vdict_ok VH)
end
section
variable {X : Cx}
/-- {key: val for ta in ia}, the key a nested tuple: D the new dict -/
def tDcV (P : Program) (w : World) (wa : TI) (ga : TG) (tk tv : TE) (vs : List Nat) : TE := fun σ H Q => wa σ H fun J H1 => ∀ D, H1 D = none → ∃ W : Nat → Nat → Hp → Prop, (∃ m, W 0 m (upd H1 D (VDict P w D []))) ∧ ∀ i m H2, W i m H2 →
  (J.stop i H2 ∧ Q (.ref D) H2) ∨ (J.go i H2 ∧ ∃ Nx : Hp → Prop, (∀ H3, Nx H3 → ∃ m', m' < m ∧ W (i + 1) m' H3) ∧ ∀ x H3, J.yld i H2 x H3 → ga x (wipe σ vs) H3 fun σ4 H4 => wipe σ4 vs = wipe σ vs ∧ tk σ4 H4 fun y H5 => tv σ4 H5 fun z H6 =>
    ∃ (L : List VRow) (k : NestedKey) (b : Addr), y = .ref b ∧ NqV H6 (.ref b) k ∧ k.depth ≤ 8 ∧ H6 D = some (VDict P w D L) ∧ VKeys H6 L ∧ valW L k = none ∧ L.length < 1000 ∧ Nx (upd H6 D (VDict P w D (L ++ [(k, b, z)]))))
theorem pe_dcV {kx vx ta ia : Expr} {scope : Scope} {own : List (PySem.Str × Nat)} {pos : Pos} {wa : TI} {ga : TG} {tk tv : TE} (hc : X.calm = true) (hN : X.N.Nodup) (hu : X.A.units + 64 < cLine) (hia : PI X ta ia wa) (ok : BlkOk X.N X.env.scope scope own)
    (hga : BlksV X scope fun Y => PG Y ta ga) (hk : BlksV X scope fun Y => PE Y kx tk) (hv : BlksV X scope fun Y => PE Y vx tv) (pa : ∀ x, foldedSetIterable ia X.env x = pure x := by intro _; rfl) :
    PE X (.DictComp kx vx [⟨ta, ia, [], 0⟩] scope pos) (tDcV X.prog X.w wa ga tk tv (own.map (·.2))) := by
  refine ⟨fun pins s σ H Q I h => ?_⟩
  rw [arm_eval_DictComp]
  have caught : ∀ y ∈ scope.names, y.2 = .free → ∃ c, X.env.cells.lookup y.1 = some c := fun y m e => (ok.free y m e).elim (fun k => I.ok.has _ (.inl k)) (fun k => I.ok.has _ (.inr k))
  refine wpAny_comprehension_free (use := none) rfl pa (closure_ok caught) ok.kind (fun y m e => by rw [ok.uniq y m, e]) (thn (hia.run pins s σ H _ I h) fun xv s1 hx => thn hx fun itv s2 h2 => ?_)
  obtain ⟨it, fp, tn, J, H2, rfl, I2, T, st2, f2, q⟩ := h2
  refine wpAny_newObj_type (newEnv_comp ?_)
  generalize eD : s2.heap.objs.size = D
  have D0 : H2 D = none := I2.hok.fresh (Nat.le_of_eq eD)
  obtain ⟨W, ⟨m0, w0⟩, turn⟩ := q D D0
  generalize e3 : ({ s2 with heap := s2.heap.push { cls := .type "dict", data := .dict #[] } } : Shared) = s3
  have hp3 : s3.heap = s2.heap.push { cls := .type "dict", data := .dict #[] } := by rw [← e3]
  have I3 : Inv X pins σ (upd H2 D (VDict X.prog X.w D [])) s3 := by
    rw [← e3]
    refine I2.laid (t' := s2.toks) (fun b o e => Heap.get?_push_of_some _ e) (Nat.le_of_eq eD) ?_
    rw [← eD]
    exact vdict_ok (vheld_new s2.heap I2.big)
  have low : ∀ b ∈ fp, b < s2.heap.objs.size := fun b m => by
    obtain ⟨o, e, _⟩ := T.obj _ _ st2 b m
    exact Heap.lt_size e
  have f3 : ∀ b ∈ fp, FpOk X pins (upd H2 D (VDict X.prog X.w D [])) b ∧ b < s3.heap.objs.size := fun b m => by
    refine ⟨⟨?_, (f2 b m).2⟩, by rw [hp3, Heap.size_push]; exact Nat.lt_succ_of_lt (low b m)⟩
    rw [upd_ne (by rw [← eD]; exact Nat.ne_of_lt (low b m))]
    exact (f2 b m).1
  have st3 : tn 0 s3.heap := T.keep _ _ _ st2 fun b _ o e => by rw [hp3]; exact Heap.get?_push_of_some _ e
  have I4 := block_start I3 ok hN f3
  have ga4 := hga s3 (upd H2 D (VDict X.prog X.w D [])) s3.heap.objs.size (cellsFrom (s3.heap.objs.size + 1) scope.names (cloFrom X.env.cells scope.names [])) fp
  have k4 := hk s3 (upd H2 D (VDict X.prog X.w D [])) s3.heap.objs.size (cellsFrom (s3.heap.objs.size + 1) scope.names (cloFrom X.env.cells scope.names [])) fp
  have v4 := hv s3 (upd H2 D (VDict X.prog X.w D [])) s3.heap.objs.size (cellsFrom (s3.heap.objs.size + 1) scope.names (cloFrom X.env.cells scope.names [])) fp
  show codeAny _ _ (.compStart (.DictComp kx vx [⟨ta, ia, [], 0⟩] scope pos) 0 (.ref it) (.ref D) (compEnvC scope (cellsFrom (s3.heap.objs.size + 1) scope.names (cloFrom X.env.cells scope.names [])) s3.heap.objs.size X.env)) (compPost (model X.prog X.w) X.A X.xe none _ (.ref D) s3.heap.objs.size) { s3 with heap := pushCells (s3.heap.push { cls := .type "dict", data := .dict #[] }) scope.names }
  have fp0 : ∀ b ∈ fp, (upd H2 D (VDict X.prog X.w D [])) b = none := fun b m => (f3 b m).1.1
  generalize ece : compEnvC scope (cellsFrom (s3.heap.objs.size + 1) scope.names (cloFrom X.env.cells scope.names [])) s3.heap.objs.size X.env = ce at I4 ga4 k4 v4 ⊢
  have loc : ce.locals = s3.heap.objs.size := by subst ece; rfl
  generalize upd H2 D (VDict X.prog X.w D []) = H3 at I3 I4 ga4 k4 v4 w0 fp0 f3
  generalize e4 : ({ s3 with heap := pushCells (s3.heap.push { cls := .type "dict", data := .dict #[] }) scope.names } : Shared) = s4 at I4 ⊢
  have st4 : tn 0 s4.heap := T.keep _ _ _ st3 fun b _ o e => by rw [← e4]; exact pushCells_keeps _ _ _ _ (Heap.get?_push_of_some _ e)
  have still : ∀ {τ : L2.St} {G : Hp} {u : Shared}, Inv (X.blk s3 H3 scope ce fp) [] τ G u → (∀ b ∈ fp, G b = none) → ∀ b ∈ fp, FpOk (X.blk s3 H3 scope ce fp) [] G b := fun {τ G u} Iu no b m =>
    ⟨no b m, (Iu.ok.exf b m).1, Iu.ok.exfs b m, .inl m, fun x c e => (Iu.ok.exf b m).2 x c e, fun p z => absurd (show p ∈ ([] : List (Addr × Obj)) ++ [] from z) (by simp)⟩
  refine codeAny_compStart_dict ?loop (T.self X.A 0 _ _ _ st4 ?loop)
  refine compLoop_anyD (fun n u => ∃ i G, Inv (X.blk s3 H3 scope ce fp) [] (wipe σ (own.map (·.2))) G u ∧ tn i u.heap ∧ (∀ b ∈ fp, G b = none) ∧ W i n G) (fun n s5 hI => ?_) m0 ⟨0, H3, I4, st4, fp0, w0⟩
  obtain ⟨i, H5, I5, st5, no5, w5⟩ := hI
  rcases turn i n H5 w5 with ⟨stop, fin⟩ | ⟨go, Nx, hNx, step⟩
  · refine thnF (T.done (X.blk s3 H3 scope ce fp) rfl rfl rfl hc i [] s5 _ H5 (fun _ _ => False) I5 (still I5 no5) st5 stop) fun r s6 ⟨hr, I6⟩ => ?_
    subst hr
    have I7 : Inv X pins σ H5 s6 := I3.call' (ch := fp) I6.os I6.base I6.hok I6.bare fun b m => ⟨(f3 b m).1.2.2.2.1, (f3 b m).1.2.1, (f3 b m).1.2.2.2.2.1, (f3 b m).1.2.2.2.2.2⟩
    have none5 : H5 s3.heap.objs.size = none := by
      have z : H5 ce.locals = none := I6.free
      rwa [loc] at z
    obtain ⟨m, hn, _⟩ := I6.loc
    have hn : s6.heap.Ns ce.locals m := hn
    rw [loc] at hn
    obtain ⟨g0, g1, g2, g3, g4, g5⟩ := I3.fpOk (Nat.le_refl _) none5
    exact ⟨m, hn, fun h'' sb => ⟨.ref D, H5, I7.turned (t' := s6.toks) (fun b o ne e => (sb.2 b ne).trans e) g0 g1 g3 g4 g5, rfl, fin⟩⟩
  · refine thnF (T.item (X.blk s3 H3 scope ce fp) rfl rfl rfl hc i [] s5 _ H5 (fun _ _ => False) I5 (still I5 no5) st5 go) fun r s6 ⟨u, hr, h6⟩ => ?_
    subst hr
    refine thnF h6 fun _ s7 ⟨x, H7, I7, r7, y7, st7, no7⟩ => ?_
    have I7p := I7.pinned (still I7 no7) (T.obj _ _ st7)
    refine thnF (ga4.run _ s7 _ H7 x u _ I7p r7 (step x H7 y7)) fun _ s8 ⟨σ8, H8, I8, wp8, q8⟩ => ?_
    refine thnF ((pts_nil (X := X.blk s3 H3 scope ce fp)).run _ s8 σ8 H8 (fun b G => b = true ∧ tk σ8 G _) I8 ⟨rfl, q8⟩) fun b s9 ⟨H9, I9, eb, q9⟩ => ?_
    subst eb
    simp only [if_true]
    refine thnF (k4.run _ s9 σ8 H9 _ I9 q9) fun z1 s10 ⟨yk, H10, I10, r10, q10⟩ => ?_
    refine thnF (v4.run _ s10 σ8 H10 _ I10 q10) fun z2 s11 ⟨yv, H11, I11, r11, L, k, b, ek, hb, hdp, hD, hks, hnew, room, nx⟩ => ?_
    subst ek
    cases r10
    refine put_okV (X := X.blk s3 H3 scope ce fp) hu I11 hD hks hb hdp hnew room r11 fun s12 I12 => ?_
    obtain ⟨m', lt, w'⟩ := hNx _ nx
    have pinned : ∀ c ∈ fp, ∀ o, s7.heap.get? c = some o → s12.heap.get? c = some o ∧ (upd H11 D (VDict X.prog X.w D (L ++ [(k, b, yv)]))) c = none := fun c m o e =>
      have z := I12.pin (c, o) (List.mem_append_right _ (List.mem_append_right _ (mem_pinsAt m e)))
      ⟨z.1, z.2.1⟩
    refine ⟨m', lt, i + 1, _, (I12.unpinned (pins := [])).weak (by rw [← wp8, wipe_length]) (fun j v e => by rw [← wp8] at e; exact (wipe_some e).1), T.keep _ _ _ st7 fun b m o e => (pinned b m o e).1, fun b m => ?_, w'⟩
    obtain ⟨o, e, _⟩ := T.obj _ _ st7 b m
    exact (pinned b m o e).2
theorem pe_dcVP {P : Program} {w : World} {kx vx ta ia : Expr} {scope : Scope} {own : List (PySem.Str × Nat)} {pos : Pos} {wa : TI} {ga : TG} {tk tv : TE} (hc : X.calm = true) (hN : X.N.Nodup) (hu : X.A.units + 64 < cLine) (hia : PI X ta ia wa) (ok : BlkOk X.N X.env.scope scope own)
    (hga : BlksV X scope fun Y => PG Y ta ga) (hk : BlksV X scope fun Y => PE Y kx tk) (hv : BlksV X scope fun Y => PE Y vx tv) (hP : X.prog = P := by rfl) (hw : X.w = w := by rfl) (pa : ∀ x, foldedSetIterable ia X.env x = pure x := by intro _; rfl) :
    PE X (.DictComp kx vx [⟨ta, ia, [], 0⟩] scope pos) (tDcV P w wa ga tk tv (own.map (·.2))) := by
  subst hP hw
  exact pe_dcV hc hN hu hia ok hga hk hv pa
end
/-! ### the same, the program and the world by their own letters -/
section
variable {X : Cx} {P : Program} {w : World} {o i e f value tg : Expr} {pos pos' apos cpos : Pos} {td ty tv tx : TE}
theorem pe_dnewVP (hP : X.prog = P := by rfl) (hw : X.w = w := by rfl) : PE X (.Dict [] [] pos) (tDNewV P w) := by
  subst hP hw
  exact pe_dnewV
theorem op_inVP (hu : X.A.units + 64 < cLine) (hP : X.prog = P := by rfl) (hw : X.w = w := by rfl) : OpR X (compareOp .In) (rInV P w) := by
  subst hP hw
  exact op_inV hu
theorem pe_getVP (hu : X.A.units + 64 < cLine) (ho : PE X o td) (hi : PE X i ty) (hs : NoSl i) (hP : X.prog = P := by rfl) (hw : X.w = w := by rfl) : PE X (.Subscript o i pos) (tGetV P w td ty) := by
  subst hP hw
  exact pe_getV hu ho hi hs
theorem ps_putVP (hu : X.A.units + 64 < cLine) (ho : PE X o td) (hi : PE X i ty) (hv : PE X value tv) (hs : swapsWith value (some (.Subscript o i pos')) pos.line X.env = pure false) (hP : X.prog = P := by rfl) (hw : X.w = w := by rfl) :
    PS X (.Assign [.Subscript o i pos'] value pos) (sPutV P w td ty tv) := by
  subst hP hw
  exact ps_putV hu ho hi hv hs
theorem pe_setdVP (hu : X.A.units + 64 < cLine) (ho : PE X o td) (he : PE X e ty) (hf : PE X f tx) (m : M2 X o "setdefault" apos e f cpos) (hP : X.prog = P := by rfl) (hw : X.w = w := by rfl) : PE X (.Call (.Attribute o "setdefault" apos) [e, f] [] cpos) (tSetdV P w td ty tx) := by
  subst hP hw
  exact pe_setdV hu ho he hf m
theorem pi_valuesVP (he : PE X e td) (hP : X.prog = P := by rfl) (hw : X.w = w := by rfl) (hbase : attributeBase e "values" X.env (eval e X.env) = eval e X.env := by rfl) (hline : (apos.endLine == cpos.line) = true := by rfl) : PI X tg (.Call (.Attribute e "values" apos) [] [] cpos) (iValsV P w td) := by
  subst hP hw
  exact pi_valuesV he hbase hline
end
end Kd

-- ===== KN5 =====
set_option Elab.async false
set_option linter.all false
set_option maxRecDepth 100000
set_option maxHeartbeats 4000000
namespace Kd
open PySem L2 PyProof.Rows PySem.Spec PySem.W
section
variable {X : Cx}
/-! ### name = {key: val for ..} -/
theorem ps_setDc {i : Nat} {y : Str} {py : Pos} {kx vx tg iter : Expr} {ifs : List Expr} {scope : Scope} {own : List (Str × Nat)} {pos spos : Pos} {wi : TI} {g : TG} {tt : TT} {tk tv : TE} (hc : X.calm = true) (hN : X.N.Nodup) (hy : X.N[i]? = some y) (hyl : X.env.scope.names.lookup y = some .local)
    (hsw : swapsWith (.DictComp kx vx [⟨tg, iter, ifs, 0⟩] scope pos) (some (.Name y py)) spos.line X.env = pure true) (hi : PI X tg iter wi) (ok : BlkOk X.N X.env.scope scope own)
    (hg : ∀ (s : Shared) (H : Hp) (C : Addr) (cl : List (Str × Addr)) (fp : List Addr), PG (X.blk s H scope (compEnvC scope cl C X.env) fp) tg g) (ht : ∀ (s : Shared) (H : Hp) (C : Addr) (cl : List (Str × Addr)) (fp : List Addr), PTs (X.blk s H scope (compEnvC scope cl C X.env) fp) ifs tt)
    (hk : ∀ (s : Shared) (H : Hp) (C : Addr) (cl : List (Str × Addr)) (fp : List Addr), PE (X.blk s H scope (compEnvC scope cl C X.env) fp) kx tk)
    (he : ∀ (s : Shared) (H : Hp) (C : Addr) (cl : List (Str × Addr)) (fp : List Addr), PE (X.blk s H scope (compEnvC scope cl C X.env) fp) vx tv) (hs : ∀ x, foldedSetIterable iter X.env x = pure x := by intro _; rfl) :
    PS X (.Assign [.Name y py] (.DictComp kx vx [⟨tg, iter, ifs, 0⟩] scope pos) spos) (tAsg (tDc wi g tt tk tv (own.map (·.2))) (gName i)) := by
  refine ⟨fun pins s σ H D I h => ?_⟩
  rw [exec_Assign_Name_used _ _ _ _ hsw]
  refine wpAny_bind (wpAny_standAt (wpAny_bind ?_))
  show wpAny _ X.A (do let _ ← comprehension (.DictComp kx vx [⟨tg, iter, ifs, 0⟩] scope pos) scope X.env (firstIterPos [⟨tg, iter, ifs, 0⟩] pos) newDict false (eval iter X.env) (some (assign (.Name y py) X.env))) _ _ s
  have h : tDc wi g tt tk tv (own.map (·.2)) σ H (fun x H1 => gName i x σ H1 D.nx) := h
  refine wpAny_bind (thn (dc_core (use := some (assign (.Name y py) X.env)) (Qf := fun _ s' => SP X pins D .next s') hc hN I hi ok hg ht hk he hs h fun L C s' m H' I' q hn f => ?_) fun _ s' hq => wpAny_pure (wpAny_pure hq))
  show wpAny _ _ (assign (.Name y py) X.env (.ref L)) _ _ _
  refine wpAny_assign_Name (store_ok2 (v := V.ref L) I' hN hy (.inl hyl) rfl (fun s2 I2 ⟨a, sb, ha⟩ => ?_) (.inr hyl))
  obtain ⟨f0, f1, f2, f3, f4, f5⟩ := f
  have haC : C ≠ a := by
    rcases ha with z | z
    · rw [z]; exact f1
    · exact fun e => f4 y a z e.symm
  refine ⟨m, hn.sameBut sb haC, fun h3 sb3 => ?_⟩
  exact ⟨_, H', I2.turned (t' := s2.toks) (fun b o hb e => (sb3.2 b hb).trans e) f0 f1 f3 f4 f5, q⟩
theorem sw_trueD {kx vx : Expr} {gs : List Comprehension} {scope : Scope} {pos py : Pos} {y : Str} {l : Nat} {env : Env} (hk : env.scope.kind = .function) (hy : env.scope.names.lookup y = some .local) (hl : (py.line == pos.line) = true)
    (ha : (scope.names.any fun (n, k) => n == y && (k == .local || k == .cell)) = false) : swapsWith (.DictComp kx vx gs scope pos) (some (.Name y py)) l env = pure true := by
  have ky : env.kindOf y = some .local := hy
  have hb : env.blockKind = .function := by unfold Env.blockKind; rw [hk]; rfl
  unfold swapsWith
  simp only [hb, ky, ha, Expr.pos, hl]
  rfl
end
end Kd

-- ===== K4N =====
set_option Elab.async false
set_option linter.all false
set_option maxRecDepth 100000
set_option maxHeartbeats 4000000
namespace My
open PySem L2 PyProof.Rows PySem.Spec Kd TL
abbrev sReach : Stmt := top 7
def spReach : Sp := fun vs H Q _ => ∃ (m t : Addr) (ss : List (List Stp)) (ns : List Int), vs = [.ref m, .ref t] ∧ MovesAt H m ss ∧ KOk ss ∧ H t = some (.tup (ns.map V.int)) ∧ ns.length < 64 ∧ (∀ i ∈ ns, 0 ≤ i ∧ i < (ss.length : Int)) ∧
  ∀ (c : Addr) (fs : List Int) (H' : Hp), Same H H' → H' c = some (.tup (fs.map V.int)) → fs.Pairwise (· < ·) → (∀ i, i ∈ fs ↔ Rch ss ns i) → Q (.ref c) H'
section
variable {P : Program} {w : World} {K : PySem.W.Frag} {mg : Str → Option Value} {base : Heap}
abbrev nRe : List Str := ["moves", "starts", "found", "state", "seen", "at", "goal"]
theorem scRe : FnScope nRe ["moves", "starts"] (defScope sReach) := ⟨rfl, rfl, rfl, by decide +kernel, rfl, by decide +kernel, by decide +kernel⟩
theorem ok_reach {f : Addr} {fd : FuncData} (F : Fun K "reached_from" "reached_from" sReach f fd) (G : Gs mg) : FnOk P w K mg base CX0 1 f fd ["moves", "starts"] spReach := by
  refine F.ok scRe (fun vs H Q E h => ?_) (fun cdv A outer s H vs Q E hr h => ?_)
  · obtain ⟨m, t, ss, ns, rfl, _⟩ := h
    rfl
  · obtain ⟨m, t, ss, ns, rfl, hm, so, ht, few, inn, k⟩ := h
    have hu := hr.units
    have hu1 : (A.deeper (envOfC "reached_from" (defScope sReach) s.heap.objs.size f cdv)).units + 1 < cLine := by omega
    refine ⟨_, pss_cons (ps_set (i := 2) scRe.nd rfl (Or.inl rfl) (pe_callB (r := rSortedSet w) (cr_sortedSet rfl) (by rfl) G.sorted PyProof.Rows.boot_sorted (pa_cons (pe_callTy (r := rSetZ K w) (cr_setZ rfl) (by rfl) G.set PyProof.Rows.boot_set (pa_cons (pv 1) pa_nil)) pa_nil)))
      (pss_cons (ps_setDc (i := 4) (own := [("state", 3)]) (g := gName 3) (tt := tYes) (tk := tVar 3) (tv := tC (.bl true)) rfl scRe.nd rfl rfl (sw_trueD rfl rfl rfl (by decide +kernel)) (pi_list (pv 2)) (blkOk_by (N := nRe) (sc := defScope sReach) (by decide +kernel))
          (fun _ _ _ _ _ => pg_name (i := 3) scRe.nd rfl (Or.inl rfl)) (fun _ _ _ _ _ => pts_nil) (fun _ _ _ _ _ => pv 3) (fun _ _ _ _ _ => pe_bl))
      (pss_cons (ps_set (i := 5) scRe.nd rfl (Or.inl rfl) pe_int)
      (pss_cons (ps_while PassesOwn.never (pt_cmp (pc_lt (pv 5) (pe_callB (r := rLenQ K) call_len_seq (by rfl) G.len PySem.boot_len (pa_cons (pv 2) pa_nil))))
        (pss_cons (ps_set (i := 3) scRe.nd rfl (Or.inl rfl) (pe_ix (r := rIxL K) ix_list (pv 2) (pv 5) (fun _ _ => rfl)))
        (pss_cons (ps_lock (ps_for PassesOwn.never rfl (pi_valuesT (pe_ix (r := rIxL K) ix_list (pv 0) (pv 3) (fun _ _ => rfl))) (pg_name (i := 6) scRe.nd rfl (Or.inl rfl))
          (pss_one (ps_if (pt_cmp (pc_dnotin hu1 (pv 6) (pv 4))) (pss_cons (ps_dput hu1 (pv 4) (pv 6) pe_bl (by rfl)) (pss_one (ps_expr (pe_bm PySem.F.plainAttrs_list PySem.F.slot_list_append PySem.F.type_list_append mt_append (pv 2) (pa_cons (pv 6) pa_nil))))) pss_nil))))
        (pss_one (ps_aug (i := 5) scRe.nd rfl (Or.inl rfl) pe_int ip_add)))))
      (pss_one (ps_ret (pe_callTy call_tuple_of (by rfl) G.tuple (by decide +kernel) (pa_cons (pe_callB cr_sortedI (by rfl) G.sorted PyProof.Rows.boot_sorted (pa_cons (pv 2) pa_nil)) pa_nil))))))), ?_⟩
    refine ⟨_, rfl, t, ns, rfl, .inr (SqT.of ht), few, fun a c ha hc => ⟨a, _, c, rfl, upd_same, by omega, fun gs fo asc mem len hfo => ?_⟩⟩
    have s1 := (same_new (o := L2.SetO w a (fun j => decide (j ∈ ns)) c) ha).trans (same_new (o := .lst (gs.map V.int)) hfo)
    have f1 : (upd (upd H a (L2.SetO w a (fun j => decide (j ∈ ns)) c)) fo (.lst (gs.map V.int))) fo = some (.lst (gs.map V.int)) := upd_same
    have ffo : H fo = none := none_of (same_new (o := L2.SetO w a (fun j => decide (j ∈ ns)) c) ha) hfo
    generalize upd (upd H a (L2.SetO w a (fun j => decide (j ∈ ns)) c)) fo (.lst (gs.map V.int)) = H1 at s1 f1 ⊢
    have gnd : gs.Nodup := asc.imp fun h => by omega
    have F0 : Fnd ss ns gs 0 := ⟨gnd, fun i mi => inn i (of_decide_eq_true ((mem i).mp mi)), fun i mi => (mem i).mpr (decide_eq_true mi), fun i mi => .base (of_decide_eq_true ((mem i).mp mi)), Nat.zero_le _, fun j i st x lt => absurd lt (Nat.not_lt_zero _)⟩
    have g64 : gs.length ≤ 64 := by have := F0.most; have := so.most; omega
    -- seen
    refine ⟨_, rfl, fo, rfl, ⟨_, SqL.of f1⟩, fun se hse => ⟨fun i m H2 => m = gs.length - i ∧ i ≤ gs.length ∧ Same H1 H2 ∧ H2 se = some (.dK (seenD (gs.take i))), ⟨_, rfl, Nat.zero_le _, same_new hse, by simpa [seenD] using upd_same⟩, fun i m H2 ⟨em, le, s2, d2⟩ => ?_⟩⟩
    subst em
    have f2 := s2 _ _ f1
    rcases Nat.lt_or_ge i gs.length with lt | ge
    · have ex : (gs.map V.int)[i]? = some (V.int gs[i]) := by rw [List.getElem?_map, List.getElem?_eq_getElem lt]; rfl
      refine .inr ⟨⟨_, _, SqL.of f2, ex⟩, fun H3 => Same H1 H3 ∧ H3 se = some (.dK (seenD (gs.take (i + 1)))), fun H3 ⟨s3, d3⟩ => ⟨_, by omega, rfl, lt, s3, d3⟩, fun v H3 yl => ?_⟩
      obtain ⟨eH, yv⟩ := yl
      subst eH
      have e0 := yv _ (SqL.of f2)
      rw [ex] at e0
      cases e0
      have nin : gs[i] ∉ gs.take i := fun mi => by
        obtain ⟨j, hj, e3⟩ := List.mem_take_iff_getElem.mp mi
        have := (List.getElem_inj gnd).mp e3
        omega
      refine ⟨rfl, _, rfl, seenD (gs.take i), Sum.inl gs[i], rfl, d2, ?_, same_at s2 hse, ?_⟩
      · unfold seenD
        rw [List.length_map, List.length_take]
        exact small_lt (m := 64) (by omega)
      · rw [upd_same, seen_put nin, List.take_succ, List.getElem?_eq_getElem lt]
        rfl
    · have e : i = gs.length := by omega
      subst e
      rw [List.take_length] at d2
      refine .inl ⟨⟨_, SqL.of f2, by rw [List.length_map]; exact Nat.le_refl _⟩, ?_⟩
      have s02 := s1.trans s2
      have fse : H se = none := none_of s1 hse
      have d2' : H2 se = some (.dK (seenD gs)) := d2
      -- the loop
      refine ⟨fun μ σ Hw => ∃ (at_ : Nat) (fs : List Int) (o3 o6 : Option V), μ = ss.length - at_ ∧ σ = [some (.ref m), some (.ref t), some (.ref fo), o3, some (.ref se), some (.int (at_ : Int)), o6] ∧ Same H Hw ∧ Hw fo = some (.lst (fs.map V.int)) ∧ Hw se = some (.dK (seenD fs)) ∧ Fnd ss ns fs at_,
        ⟨_, 0, gs, none, none, rfl, rfl, s02, f2, d2', F0⟩, fun μ σ Hw ⟨at_, fs, o3, o6, eμ, eσ, sw, fw, dw, F⟩ => ?_⟩
      subst eμ
      subst eσ
      have fm := F.most
      have smost := so.most
      refine ⟨_, rfl, _, rfl, fo, _, rfl, .inl (SqL.of fw), _, _, rfl, rfl, _, rfl, ?_⟩
      rw [List.length_map]
      dsimp only
      by_cases lt : at_ < fs.length
      · rw [decide_eq_true (show (at_ : Int) < (fs.length : Int) by omega)]
        refine iteT ⟨fun σ' H' => ∃ (fs' : List Int) (o3 o6 : Option V), σ' = [some (.ref m), some (.ref t), some (.ref fo), o3, some (.ref se), some (.int ((at_ + 1 : Nat) : Int)), o6] ∧ Same H H' ∧ H' fo = some (.lst (fs'.map V.int)) ∧ H' se = some (.dK (seenD fs')) ∧ Fnd ss ns fs' (at_ + 1), fun σ' H' ⟨fs', p3, p6, e, r1, r2, r3, r4⟩ => ⟨_, by omega, at_ + 1, fs', p3, p6, rfl, e, r1, r2, r3, r4⟩, ?_⟩
        obtain ⟨n0, n1⟩ := F.inn _ (List.getElem_mem lt)
        obtain ⟨n, en⟩ := Int.eq_ofNat_of_zero_le n0
        have ei : fs[at_]? = some (n : Int) := by rw [List.getElem?_eq_getElem lt, en]
        have ln : n < ss.length := by omega
        have eat : atI (fs.map V.int) (at_ : Int) = some (.int (n : Int)) := atI_nat (by rw [List.getElem?_map, ei]; rfl)
        refine ⟨_, rfl, _, rfl, fo, _, _, _, rfl, rfl, SqL.of fw, eat, ?_⟩
        obtain ⟨bs, hm1, hm2, hm3⟩ := hm.same sw
        obtain ⟨st, es⟩ : ∃ st, ss[n]? = some st := ⟨ss[n], List.getElem?_eq_getElem ln⟩
        obtain ⟨d, ed⟩ : ∃ d, bs[n]? = some d := ⟨bs[n]'(by omega), List.getElem?_eq_getElem _⟩
        have hd := hm3 n d st ed es
        have sto := so.all st (List.mem_of_getElem? es)
        refine ⟨d, _, hd, trivial, fun od => ?_⟩
        have md : m ≠ d := fun z => by rw [z, hd] at hm1; cases hm1
        have fd_ : fo ≠ d := fun z => by rw [z, hd] at fw; cases fw
        have sd : se ≠ d := fun z => by rw [z, hd] at dw; cases dw
        have fs_ : fo ≠ se := fun z => by rw [z, dw] at fw; cases fw
        have eatd : atI (bs.map V.ref) (n : Int) = some (.ref d) := atI_nat (by rw [List.getElem?_map, ed]; rfl)
        refine ⟨_, rfl, _, rfl, m, _, _, _, rfl, rfl, SqL.of (by rw [upd_ne md]; exact hm1), eatd, d, od, _, rfl, upd_same, for_it walk_valsT (fun j σ H4 => ∃ (fs' : List Int) (o6 : Option V), σ = [some (.ref m), some (.ref t), some (.ref fo), some (.int (n : Int)), some (.ref se), some (.int (at_ : Int)), o6] ∧ H4 d = some (.frz od (.dT (st.map mvOf))) ∧ (∀ x o, H x = some o → x ≠ d → H4 x = some o) ∧ H4 fo = some (.lst (fs'.map V.int)) ∧ H4 se = some (.dK (seenD fs')) ∧ Mid ss ns fs' at_ (st.take j) ∧ fs'[at_]? = some (n : Int)) ?_ (fun j σ H4 _ ⟨_, _, _, h, _⟩ => h) ?_ ?_⟩
        · refine ⟨fs, o6, rfl, upd_same, fun x o e ne => ?_, by rw [upd_ne fd_]; exact fw, by rw [upd_ne sd]; exact dw, F.mid lt, ei⟩
          rw [upd_ne ne]
          exact sw _ _ e
        · rintro j v σ H4 H5 lj ⟨fs', p6, rfl, h4, b4, f4, d4, M, ei'⟩ ⟨rfl, kk, ekv⟩
          rw [List.getElem?_map] at ekv
          obtain ⟨x, ex, e2⟩ := Option.map_eq_some_iff.mp ekv
          have ev : v = V.int x.2.2 := (congrArg Prod.snd e2).symm
          subst ev
          have mx := List.mem_of_getElem? ex
          have xo := sto.all x mx
          have tk : st.take (j + 1) = st.take j ++ [x] := by rw [List.take_succ, ex]; rfl
          have fm' : fs'.length ≤ ss.length := ints_most M.nd M.inn
          refine ⟨_, rfl, _, rfl, se, _, rfl, .inl ⟨seenD fs', Sum.inl x.2.2, .inl d4, rfl, rfl⟩, _, rfl, ?_⟩
          rw [seen_in]
          by_cases mem2 : x.2.2 ∈ fs'
          · rw [decide_eq_true mem2]
            refine iteF ⟨fs', _, rfl, h4, b4, f4, d4, ?_, ei'⟩
            rw [tk]
            exact M.skip mem2
          · rw [decide_eq_false mem2]
            refine iteT ?_
            refine ⟨_, rfl, _, rfl, se, _, rfl, .inl ⟨seenD fs', Sum.inl x.2.2, d4, rfl, ?_, rfl⟩, ?_⟩
            · unfold seenD
              rw [List.length_map]
              exact small_lt (m := 40) (by omega)
            have f6 : (upd H5 se (.dK (putK (seenD fs') (Sum.inl x.2.2) (.bl true)))) fo = some (.lst (fs'.map V.int)) := by
              rw [upd_ne fs_]
              exact f4
            refine ⟨_, rfl, .inl ⟨rfl, _, SqL.of f6⟩, _, rfl, fo, _, _, rfl, rfl, f6, small_lt (m := 40) (by rw [List.length_map]; omega), ?_⟩
            refine ⟨fs' ++ [x.2.2], _, rfl, ?_, fun y o e ne => ?_, ?_, ?_, ?_, ?_⟩
            · rw [upd_ne (Ne.symm fd_), upd_ne (Ne.symm sd)]
              exact h4
            · have n1 : y ≠ fo := fun z => by rw [z, ffo] at e; cases e
              have n2 : y ≠ se := fun z => by rw [z, fse] at e; cases e
              rw [upd_ne n1, upd_ne n2]
              exact b4 y o e ne
            · rw [upd_same, List.map_append]
              rfl
            · rw [upd_ne (Ne.symm fs_), upd_same, seen_put mem2]
            · rw [tk]
              exact M.put mem2 ei' es mx xo
            · have l2 := M.lt
              rw [List.getElem?_append_left l2]
              exact ei'
        · rintro σ H4 ⟨fs', p6, rfl, h4, b4, f4, d4, M, ei'⟩
          rw [List.length_map, List.take_length] at M
          refine ⟨h4, _, rfl, _, _, rfl, rfl, fs', some (.int (n : Int)), p6, rfl, fun y o e => ?_, ?_, ?_, M.fnd ei' es⟩
          · by_cases yd : y = d
            · have z := sw _ _ e
              rw [yd, hd] at z
              rw [yd, upd_same]
              exact z
            · rw [upd_ne yd]
              exact b4 y o e yd
          · rw [upd_ne fd_]
            exact f4
          · rw [upd_ne sd]
            exact d4
      · rw [decide_eq_false (show ¬ ((at_ : Int) < (fs.length : Int)) by omega)]
        have ea : at_ = fs.length := by have := F.le; omega
        subst ea
        refine iteF ⟨_, rfl, fo, fs, rfl, SqL.of fw, fun gs' p perm asc2 hp => ⟨p, _, rfl, .inl ⟨SqL.of upd_same, fun q hq => ?_⟩⟩⟩
        refine k q gs' _ (sw.trans ((same_new hp).trans (same_new hq))) upd_same (asc_of asc2 (perm.nodup_iff.mpr F.nd)) fun i => ?_
        rw [perm.mem_iff]
        exact F.all i
end
end My

-- ===== K4T =====
set_option Elab.async false
set_option linter.all false
set_option maxRecDepth 100000
set_option maxHeartbeats 4000000
namespace My
open PySem L2 PyProof.Rows PySem.Spec Kd TL
abbrev sLeastS : Stmt := top 12
theorem PS.wk {X : Cx} {st : Stmt} {t u : TS} (h : PS X st t) (k : ∀ D σ H, u D σ H → t D σ H) : PS X st u := ⟨fun pins s σ H D I q => h.run pins s σ H D I (k D σ H q)⟩
theorem num_size : ∀ (qs : List Int) (k : Nat), (numF k qs).length = qs.length
  | [], k => rfl
  | q :: qs, k => by
    show (numF (k + 1) qs).length + 1 = _
    rw [num_size qs (k + 1)]
    rfl
/-- a mark gets its number -/
def uNum : TS := fun D σ H => ∃ (nd hd : Addr) (hs qs : List Int) (g q : Int), σ[2]? = some (some (.ref nd)) ∧ σ[3]? = some (some (.ref hd)) ∧ σ[9]? = some (some (.int g)) ∧ σ[10]? = some (some (.int q)) ∧ H nd = some (.dK (numF 0 qs)) ∧ H hd = some (.lst (hs.map V.int)) ∧ qs.length = hs.length ∧ hs.length ≤ 40 ∧ nd ≠ hd ∧
  ∀ (H' : Hp) (hs' qs' : List Int), (q ∈ qs ∧ H' = H ∧ hs' = hs ∧ qs' = qs) ∨ (q ∉ qs ∧ H' = upd (upd H nd (.dK (numF 0 (qs ++ [q])))) hd (.lst ((hs ++ [g]).map V.int)) ∧ hs' = hs ++ [g] ∧ qs' = qs ++ [q]) → D.nx σ H'
def spLeast : Sp := fun vs H Q _ => ∃ (a : Addr) (ss : List (List Stp)), vs = [.ref a] ∧ TD H (.ref a) (statesD ss) ∧ KOk ss ∧ ∀ (R : Addr) (ls : List (List Stp)) (hs : List Int) (H' : Hp), Same H H' → TD H' (.ref R) (statesD ls) → KOk ls → (∀ k : Nat, k < ls.length → Rch ls [0] (k : Int)) → hs.Nodup → hs.length = ls.length → (∀ i ∈ hs, Rch ss [0] i) → Q (.ref R) H'
section
variable {P : Program} {w : World} {K : PySem.W.Frag} {mg : Str → Option Value} {base : Heap}
abbrev nLe : List Str := ["states", "marks", "numbers", "heads", "rows", "row", "head", "operation", "answer", "goal", "mark"]
theorem scLe : FnScope nLe ["states"] (defScope sLeastS) := ⟨rfl, rfl, rfl, by decide +kernel, rfl, by decide +kernel, by decide +kernel⟩
theorem ok_least {f fC : Addr} {fd fdC : FuncData} (F : Fun K "least_states" "least_states" sLeastS f fd) (mlen : mg "len" = none) (mtup : mg "tuple" = none)
    (GC : FnOk P w K mg base CX0 2 fC fdC ["states"] spClasses) (mC : mg "classes" = some (.ref fC)) (kC : PySem.W.keepIn K (.ref fC) = true) (bC : Binds K fdC ["states"] []) :
    FnOk P w K mg base CX0 3 f fd ["states"] spLeast := by
  refine F.ok scLe (fun vs H Q E h => ?_) (fun cdv A outer s H vs Q E hr h => ?_)
  · obtain ⟨a, ss, rfl, _⟩ := h
    rfl
  · obtain ⟨a, ss, rfl, hx, so, k⟩ := h
    have hu1 : (A.deeper (envOfC "least_states" (defScope sLeastS) s.heap.objs.size f cdv)).units + 1 < cLine := by have := hr.units; omega
    refine ⟨_, (pss_cons (ps_set (i := 1) scLe.nd rfl (Or.inl rfl) (pe_call GC hr (by rfl) mC kC bC .nil pass0 (pa_cons (pv 0) pa_nil))) (pss_cons (ps_set (i := 2) scLe.nd rfl (Or.inl rfl) (pe_disp (pps_cons (pe_ix ix_list (pv 1) pe_int (fun _ _ => rfl)) pe_int pps_nil) rfl rfl (by simp) (by decide))) (pss_cons (ps_set (i := 3) scLe.nd rfl (Or.inl rfl) (pe_lst (pa_cons pe_int pa_nil))) (pss_cons (ps_set (i := 4) scLe.nd rfl (Or.inl rfl) (pe_lst pa_nil)) (pss_cons (ps_while PassesOwn.never (pt_cmp (pc_lt (pe_callB (r := rLenQ K) call_len_seq (by rfl) mlen PySem.boot_len (pa_cons (pv 4) pa_nil)) (pe_callB (r := rLenQ K) call_len_seq (by rfl) mlen PySem.boot_len (pa_cons (pv 3) pa_nil)))) (pss_cons (ps_set (i := 5) scLe.nd rfl (Or.inl rfl) (pe_lst pa_nil)) (pss_cons (ps_set (i := 6) scLe.nd rfl (Or.inl rfl) (pe_ix (r := rIxL K) ix_list (pv 3) (pe_callB (r := rLenQ K) call_len_seq (by rfl) mlen PySem.boot_len (pa_cons (pv 4) pa_nil)) (fun _ _ => rfl))) (pss_cons (ps_for PassesOwn.never rfl (pi_tup (pe_ix (r := rIxT K) ix_tup (pv 0) (pv 6) (fun _ _ => rfl))) (pg_tup (by rfl) (pgs_cons (pg_name (i := 7) scLe.nd rfl (Or.inl rfl)) (pgs_cons (pg_name (i := 8) scLe.nd rfl (Or.inl rfl)) (pgs_cons (pg_name (i := 9) scLe.nd rfl (Or.inl rfl)) pgs_nil)))) (pss_cons (ps_set (i := 10) scLe.nd rfl (Or.inl rfl) (pe_ix (r := rIxL K) ix_list (pv 1) (pv 9) (fun _ _ => rfl))) (pss_cons (PS.wk (u := uNum) (ps_if (pt_cmp (pc_dnotin hu1 (pv 10) (pv 2))) (pss_cons (ps_dput hu1 (pv 2) (pv 10) (pe_callB (r := rLenQ K) call_len_seq (by rfl) mlen PySem.boot_len (pa_cons (pv 3) pa_nil)) (by rfl)) (pss_one (ps_expr (pe_bm PySem.F.plainAttrs_list PySem.F.slot_list_append PySem.F.type_list_append mt_append (pv 3) (pa_cons (pv 9) pa_nil))))) pss_nil) (fun D σ H ⟨nd, hd, hs, qs, g, q, e2, e3, e9, e10, hn, hh, lq, l40, ne, k⟩ => by
              refine ⟨_, e10, _, e2, nd, _, rfl, .inl ⟨numF 0 qs, Sum.inl q, .inl hn, rfl, rfl⟩, _, rfl, ?_⟩
              by_cases m : q ∈ qs
              · rw [num_at qs 0 q m]
                exact iteF (k H hs qs (.inl ⟨m, rfl, rfl, rfl⟩))
              · rw [num_none qs 0 q m]
                refine iteT ⟨_, e3, hd, _, rfl, .inl (SqL.of hh), _, e2, _, e10, nd, _, rfl, .inl ⟨numF 0 qs, Sum.inl q, hn, rfl, ?_, rfl⟩, ?_⟩
                · rw [num_size]
                  exact small_lt (m := 40) (by omega)
                have hh2 : (upd H nd (.dK (putK (numF 0 qs) (Sum.inl q) (.int ((hs.map V.int).length : Int))))) hd = some (.lst (hs.map V.int)) := by
                  rw [upd_ne (Ne.symm ne)]
                  exact hh
                refine ⟨_, e3, .inl ⟨rfl, _, SqL.of hh2⟩, _, e9, hd, _, _, rfl, rfl, hh2, small_lt (m := 40) (by rw [List.length_map]; omega), ?_⟩
                have z := k _ (hs ++ [g]) (qs ++ [q]) (.inr ⟨m, rfl, rfl, rfl⟩)
                rw [L2.putK_new _ (num_none qs 0 q m), List.length_map]
                rw [num_app, lq, Nat.zero_add, List.map_append] at z
                exact z)) (pss_one (ps_expr (pe_bm PySem.F.plainAttrs_list PySem.F.slot_list_append PySem.F.type_list_append mt_append (pv 5) (pa_cons (pe_tup (pa_cons (pv 7) (pa_cons (pv 8) (pa_cons (pe_dget hu1 (pv 2) (pv 10) (fun _ _ => rfl)) pa_nil)))) pa_nil))))))) (pss_one (ps_expr (pe_bm PySem.F.plainAttrs_list PySem.F.slot_list_append PySem.F.type_list_append mt_append (pv 4) (pa_cons (pe_callTy call_tuple_of (by rfl) mtup (by decide +kernel) (pa_cons (pv 5) pa_nil)) pa_nil)))))))) (pss_one (ps_ret (pe_callTy call_tuple_of (by rfl) mtup (by decide +kernel) (pa_cons (pv 4) pa_nil))))))))), ?_⟩
    obtain ⟨xs, ha, hxs⟩ := hx.tup_of
    have lxs : xs.length = ss.length := by
      have z := hxs.len
      rwa [List.length_map] at z
    have most := so.most
    have one := so.one
    refine ⟨_, rfl, a, ss, rfl, hx, so, fun b ms many H1 s1 fb hb M => ?_⟩
    have lms := M.len
    have at_ms : ∀ g : Int, 0 ≤ g → g < (ss.length : Int) → atI (ms.map V.int) g = some (.int (mkk ms g)) := fun g g0 g1 => by
      have lt : g.toNat < ms.length := by omega
      have q := atI_nat (xs := ms.map V.int) (j := g.toNat) (v := .int (mkk ms g)) (by
        rw [List.getElem?_map, List.getElem?_eq_getElem lt]
        unfold mkk
        rw [List.getD_eq_getElem?_getD, List.getElem?_eq_getElem lt]
        rfl)
      rwa [Int.toNat_of_nonneg g0] at q
    -- numbers
    refine fun nd hnd => ?_
    have hb1 := same_new (o := .dK []) hnd _ _ hb
    refine ⟨_, rfl, b, _, 0, _, rfl, rfl, SqL.of hb1, at_ms 0 (by decide) (by omega), upd_same, [(Sum.inl (mkk ms 0), .int 0)], rfl, by simp, ?_⟩
    have s2 : Same H1 (upd (upd H1 nd (.dK [])) nd (.dK (mergeK [] [(Sum.inl (mkk ms 0), .int 0)]))) := fun x o e => by
      rw [upd_ne (ne_of_none e hnd), upd_ne (ne_of_none e hnd)]
      exact e
    have dn1 : (upd (upd H1 nd (.dK [])) nd (.dK (mergeK [] [(Sum.inl (mkk ms 0), .int 0)]))) nd = some (.dK (numF 0 [mkk ms 0])) := upd_same
    generalize upd (upd H1 nd (.dK [])) nd (.dK (mergeK [] [(Sum.inl (mkk ms 0), .int 0)])) = H2 at s2 dn1 ⊢
    have fnd : H nd = none := none_of s1 hnd
    -- heads, rows
    refine ⟨by show 1 ≤ sizeLine; decide, fun hd hhd => ⟨by show 0 ≤ sizeLine; decide, fun rw hrw => ?_⟩⟩
    have s3 := (same_new (o := .lst [V.int 0]) hhd).trans (same_new (o := .lst []) hrw)
    have fhd : H hd = none := none_of (s1.trans s2) hhd
    have frw : H rw = none := none_of ((s1.trans s2).trans (same_new (o := .lst [V.int 0]) hhd)) hrw
    have ah : (upd (upd H2 hd (.lst [V.int 0])) rw (.lst [])) hd = some (.lst ([(0 : Int)].map V.int)) := same_new hrw _ _ upd_same
    have ar : (upd (upd H2 hd (.lst [V.int 0])) rw (.lst [])) rw = some (.lst []) := upd_same
    have an := s3 _ _ dn1
    have ab := s3 _ _ (s2 _ _ hb)
    have rh : rw ≠ hd := fun z => by rw [z, upd_same] at hrw; cases hrw
    have nh : nd ≠ hd := ne_of_none dn1 hhd
    have s0 := (s1.trans s2).trans s3
    have br : b ≠ rw := fun z => absurd (same_new (o := .lst [V.int 0]) hhd _ _ (s2 _ _ hb)) (by rw [z, hrw]; exact fun q => nomatch q)
    generalize upd (upd H2 hd (.lst [V.int 0])) rw (.lst []) = H3 at s3 s0 ah ar an ab ⊢
    have nr : nd ≠ rw := fun z => by rw [z, ar] at an; cases an
    have bh : b ≠ hd := fun z => by rw [z] at fb; exact absurd (s2 _ _ hb) (by rw [z, hhd]; exact fun q => nomatch q)
    -- the loop
    refine ⟨fun μ σ Hw => ∃ (hs : List Int) (R : List (List Stp)) (rv : List V) (o5 o6 o7 o8 o9 o10 : Option V), μ = ss.length - R.length ∧ σ = [some (.ref a), some (.ref b), some (.ref nd), some (.ref hd), some (.ref rw), o5, o6, o7, o8, o9, o10] ∧ Same H Hw ∧ Hw b = some (.lst (ms.map V.int)) ∧ Hw nd = some (.dK (numF 0 (hs.map (mkk ms)))) ∧ Hw hd = some (.lst (hs.map V.int)) ∧ Hw rw = some (.lst rv) ∧ TDs Hw rv (R.map stateD) ∧ Hds ss ms hs R [] ∧ R.length ≤ hs.length,
      ⟨_, [0], [], [], none, none, none, none, none, none, rfl, rfl, s0, ab, an, ah, ar, .nil, hds0 one, Nat.zero_le _⟩, fun μ σ Hw ⟨hs, R, rv, o5, o6, o7, o8, o9, o10, eμ, eσ, sw, bw, nw, hw, rw_, tw, F, le⟩ => ?_⟩
    subst eμ
    subst eσ
    have fm := F.most
    have lrv : rv.length = R.length := by
      have z := tw.len
      rwa [List.length_map] at z
    refine ⟨_, rfl, rw, _, rfl, .inl (SqL.of rw_), _, rfl, hd, _, rfl, .inl (SqL.of hw), _, _, rfl, rfl, _, rfl, ?_⟩
    rw [List.length_map]
    dsimp only
    by_cases lt : R.length < hs.length
    · rw [decide_eq_true (show (rv.length : Int) < (hs.length : Int) by omega)]
      refine iteT ⟨fun σ' H' => ∃ (hs' : List Int) (R' : List (List Stp)) (rv' : List V) (o5 o6 o7 o8 o9 o10 : Option V), R'.length = R.length + 1 ∧ σ' = [some (.ref a), some (.ref b), some (.ref nd), some (.ref hd), some (.ref rw), o5, o6, o7, o8, o9, o10] ∧ Same H H' ∧ H' b = some (.lst (ms.map V.int)) ∧ H' nd = some (.dK (numF 0 (hs'.map (mkk ms)))) ∧ H' hd = some (.lst (hs'.map V.int)) ∧ H' rw = some (.lst rv') ∧ TDs H' rv' (R'.map stateD) ∧ Hds ss ms hs' R' [] ∧ R'.length ≤ hs'.length,
        fun σ' H' ⟨hs', R', rv', p5, p6, p7, p8, p9, p10, el, q⟩ => ⟨ss.length - R'.length, by omega, hs', R', rv', p5, p6, p7, p8, p9, p10, rfl, q⟩, ?_⟩
      obtain ⟨n0, n1⟩ := F.inn _ (List.getElem_mem lt)
      obtain ⟨n, en⟩ := Int.eq_ofNat_of_zero_le n0
      have ei : hs[R.length]? = some (n : Int) := by rw [List.getElem?_eq_getElem lt, en]
      have ln : n < ss.length := by omega
      -- row, head
      refine ⟨by show 0 ≤ sizeLine; decide, fun ro hro => ?_⟩
      have sr := same_new (o := .lst []) hro
      have fro : H ro = none := none_of sw hro
      have ror : ro ≠ rw := Ne.symm (ne_of_none rw_ hro)
      have roh : ro ≠ hd := Ne.symm (ne_of_none hw hro)
      have ron : ro ≠ nd := Ne.symm (ne_of_none nw hro)
      have rob : ro ≠ b := Ne.symm (ne_of_none bw hro)
      have sw5 := sw.trans sr
      have bw5 := sr _ _ bw
      have nw5 := sr _ _ nw
      have hw5 := sr _ _ hw
      have rw5 := sr _ _ rw_
      have tw5 := tw.to (Tup.of sr)
      have ro5 : (upd Hw ro (.lst [])) ro = some (.lst []) := upd_same
      generalize upd Hw ro (.lst []) = H5 at sw5 bw5 nw5 hw5 rw5 tw5 ro5 ⊢
      have eat : atI (hs.map V.int) (rv.length : Int) = some (.int (n : Int)) := by
        rw [lrv]
        exact atI_nat (by rw [List.getElem?_map, ei]; rfl)
      refine ⟨_, rfl, _, rfl, rw, _, rfl, .inl (SqL.of rw5), hd, _, _, _, rfl, rfl, SqL.of hw5, eat, ?_⟩
      obtain ⟨st, es⟩ : ∃ st, ss[n]? = some st := ⟨ss[n], List.getElem?_eq_getElem ln⟩
      have sto := so.all st (List.mem_of_getElem? es)
      obtain ⟨v, ev⟩ : ∃ v, xs[n]? = some v := ⟨xs[n]'(by omega), List.getElem?_eq_getElem _⟩
      obtain ⟨d, ed, td⟩ := hxs.get ev
      rw [List.getElem?_map, es] at ed
      cases Option.some.inj ed
      obtain ⟨c, ys, rfl, hc, hys⟩ := td.ref_of
      have lys : ys.length = st.length := by
        have z := hys.len
        rwa [List.length_map] at z
      have eatx : atI xs (n : Int) = some (.ref c) := atI_nat ev
      have few := sto.few
      refine ⟨_, rfl, _, rfl, a, _, _, _, rfl, rfl, SqT.of (sw5 _ _ ha), eatx, c, rfl, ⟨_, SqT.of (sw5 _ _ hc)⟩, for_tup (K := K) (a := c) (xs := ys) (fun j σ H6 => ∃ (hs' : List Int) (wv : List V) (o7 o8 o9 o10 : Option V), σ = [some (.ref a), some (.ref b), some (.ref nd), some (.ref hd), some (.ref rw), some (.ref ro), some (.int (n : Int)), o7, o8, o9, o10] ∧ Same H H6 ∧ H6 b = some (.lst (ms.map V.int)) ∧ H6 nd = some (.dK (numF 0 (hs'.map (mkk ms)))) ∧ H6 hd = some (.lst (hs'.map V.int)) ∧ H6 rw = some (.lst rv) ∧ TDs H6 rv (R.map stateD) ∧ H6 ro = some (.lst wv) ∧ TDs H6 wv ((rowS ms hs' (st.take j)).map stepD) ∧ Hds ss ms hs' R (st.take j) ∧ hs'[R.length]? = some (n : Int))
        ⟨hs, [], o7, o8, o9, o10, rfl, sw5, bw5, nw5, hw5, rw5, tw5, ro5, by simpa [rowS] using TDs.nil, by simpa using F, ei⟩ (fun j σ H6 _ ⟨_, _, _, _, _, _, _, s6, _⟩ => SqT.of (s6 _ _ hc)) ?_ ?_⟩
      · rintro j x σ H6 ex ⟨hs', wv, p7, p8, p9, p10, rfl, s6, b6, n6, h6, r6, t6, w6, u6, F6, e6⟩
        obtain ⟨d2, ed2, td2⟩ := hys.get ex
        rw [List.getElem?_map] at ed2
        obtain ⟨y, ey, rfl⟩ := Option.map_eq_some_iff.mp ed2
        obtain ⟨c2, rfl, hc2⟩ := step_of td2
        have my := List.mem_of_getElem? ey
        have yo := sto.all y my
        have lj : j < st.length := (List.getElem?_eq_some_iff.mp ey).1
        have tk : st.take (j + 1) = st.take j ++ [y] := by rw [List.take_succ, ey]; rfl
        have hc6 := s6 _ _ hc2
        have fm6 := F6.most
        have luw : wv.length = j := by
          have z := u6.len
          unfold rowS at z
          rw [List.length_map, List.length_map, List.length_take] at z
          omega
        refine ⟨c2, _, rfl, SqT.of hc6, rfl, _, _, rfl, _, _, rfl, _, _, rfl, rfl, ?_⟩
        refine ⟨_, rfl, _, rfl, b, _, _, _, rfl, rfl, SqL.of b6, at_ms y.2.2 yo.lo yo.hi, ?_⟩
        refine ⟨nd, hd, hs', hs'.map (mkk ms), y.2.2, mkk ms y.2.2, rfl, rfl, rfl, rfl, n6, h6, by rw [List.length_map], by omega, nh, fun H7 hs7 qs7 cs => ?_⟩
        have all : ∃ F7 : Hds ss ms hs7 R (st.take j ++ [y]), Same H H7 ∧ H7 b = some (.lst (ms.map V.int)) ∧ H7 nd = some (.dK (numF 0 (hs7.map (mkk ms)))) ∧ H7 hd = some (.lst (hs7.map V.int)) ∧ H7 rw = some (.lst rv) ∧ TDs H7 rv (R.map stateD) ∧ H7 ro = some (.lst wv) ∧ TDs H7 wv ((rowS ms hs7 (st.take j)).map stepD) ∧ hs7[R.length]? = some (n : Int) := by
          rcases cs with ⟨m1, rfl, rfl, rfl⟩ | ⟨m1, rfl, rfl, rfl⟩
          · exact ⟨F6.skip m1, s6, b6, n6, h6, r6, t6, w6, u6, e6⟩
          · have l2 : R.length < hs'.length := (List.getElem?_eq_some_iff.mp e6).1
            have tp : Tup H6 (upd (upd H6 nd (.dK (numF 0 (hs'.map (mkk ms) ++ [mkk ms y.2.2])))) hd (.lst ((hs' ++ [y.2.2]).map V.int))) := (Tup.at_ n6 fun xs z => nomatch z).trans (Tup.at_ (o' := .lst (hs'.map V.int)) (by rw [upd_ne (Ne.symm nh)]; exact h6) fun xs z => nomatch z)
            refine ⟨F6.put l2 e6 es my yo m1, fun z o e => ?_, ?_, ?_, upd_same, ?_, t6.to tp, ?_, ?_, by rw [List.getElem?_append_left l2]; exact e6⟩
            · have z1 : z ≠ hd := fun q => by rw [q, fhd] at e; cases e
              have z2 : z ≠ nd := fun q => by rw [q, fnd] at e; cases e
              rw [upd_ne z1, upd_ne z2]
              exact s6 _ _ e
            · have z2 : b ≠ nd := fun q => by rw [q, n6] at b6; cases b6
              rw [upd_ne bh, upd_ne z2]
              exact b6
            · rw [upd_ne nh, upd_same, List.map_append]
              rfl
            · rw [upd_ne rh, upd_ne (Ne.symm nr)]
              exact r6
            · rw [upd_ne roh, upd_ne ron]
              exact w6
            · rw [row_app F6.dn_]
              exact u6.to tp
        obtain ⟨F7, s7, b7, n7, h7, r7, t7, w7, u7, e7⟩ := all
        clear cs
        have mem7 : mkk ms y.2.2 ∈ hs7.map (mkk ms) := F7.dn_ y (List.mem_append_right _ List.mem_cons_self)
        have get : DGet H7 nd (.int (mkk ms y.2.2)) (some (.int (idx ms hs7 y.2.2))) := .inl ⟨numF 0 (hs7.map (mkk ms)), Sum.inl (mkk ms y.2.2), .inl n7, rfl, by rw [num_at _ 0 _ mem7, Nat.zero_add]; rfl⟩
        refine ⟨_, rfl, .inl ⟨rfl, _, SqL.of w7⟩, _, rfl, _, rfl, _, rfl, _, rfl, nd, _, rfl, get, by show 3 ≤ sizeLine; decide, fun tt htt => ?_⟩
        have s8 := same_new (o := .tup [V.str y.1, .str y.2.1, .int (idx ms hs7 y.2.2)]) htt
        have w8 := s8 _ _ w7
        refine ⟨ro, wv, _, rfl, rfl, w8, small_lt (m := 24) (by omega), ?_⟩
        have tp8 : Tup (upd H7 tt (.tup [V.str y.1, .str y.2.1, .int (idx ms hs7 y.2.2)])) (upd (upd H7 tt (.tup [V.str y.1, .str y.2.1, .int (idx ms hs7 y.2.2)])) ro (.lst (wv ++ [.ref tt]))) := Tup.at_ w8 fun xs z => nomatch z
        refine ⟨hs7, wv ++ [.ref tt], _, _, _, _, rfl, fun z o e => ?_, ?_, ?_, ?_, ?_, (t7.to (Tup.of s8)).to tp8, upd_same, ?_, by rw [tk]; exact F7, e7⟩
        · rw [upd_ne (fun q => by rw [q, fro] at e; cases e)]
          exact s8 _ _ (s7 _ _ e)
        · rw [upd_ne (Ne.symm rob)]
          exact s8 _ _ b7
        · rw [upd_ne (Ne.symm ron)]
          exact s8 _ _ n7
        · rw [upd_ne (Ne.symm roh)]
          exact s8 _ _ h7
        · rw [upd_ne (Ne.symm ror)]
          exact s8 _ _ r7
        · rw [tk]
          unfold rowS at u7 ⊢
          rw [List.map_append, List.map_append]
          exact TDs.snoc (.tup (tp8 _ _ upd_same) (.cons (.str _) (.cons (.str _) (.cons (.int _) .nil)))) ((u7.to (Tup.of s8)).to tp8)
      · rintro σ H6 ⟨hs', wv, p7, p8, p9, p10, rfl, s6, b6, n6, h6, r6, t6, w6, u6, F6, e6⟩
        rw [lys, List.take_length] at F6 u6
        refine ⟨_, rfl, .inl ⟨rfl, _, SqL.of r6⟩, _, rfl, ro, wv, rfl, .inl ⟨SqL.of w6, fun q hq => ?_⟩⟩
        have s8 := same_new (o := .tup wv) hq
        have r8 := s8 _ _ r6
        refine ⟨rw, rv, _, rfl, rfl, r8, small_lt (m := 40) (by omega), ?_⟩
        have tp8 : Tup (upd H6 q (.tup wv)) (upd (upd H6 q (.tup wv)) rw (.lst (rv ++ [.ref q]))) := Tup.at_ r8 fun xs z => nomatch z
        have l2 : R.length < hs'.length := (List.getElem?_eq_some_iff.mp e6).1
        refine ⟨hs', R ++ [rowS ms hs' st], rv ++ [.ref q], _, _, _, _, _, _, by rw [List.length_append]; rfl, rfl, fun z o e => ?_, ?_, ?_, ?_, upd_same, ?_, F6.next e6 es, by rw [List.length_append]; exact l2⟩
        · rw [upd_ne (fun y => by rw [y, frw] at e; cases e)]
          exact s8 _ _ (s6 _ _ e)
        · rw [upd_ne br]
          exact s8 _ _ b6
        · rw [upd_ne nr]
          exact s8 _ _ n6
        · rw [upd_ne (Ne.symm rh)]
          exact s8 _ _ h6
        · rw [List.map_append]
          exact TDs.snoc (.tup (tp8 _ _ upd_same) ((u6.to (Tup.of s8)).to tp8)) ((t6.to (Tup.of s8)).to tp8)
    · rw [decide_eq_false (show ¬ ((rv.length : Int) < (hs.length : Int)) by omega)]
      have el : R.length = hs.length := by omega
      refine iteF ⟨_, rfl, rw, rv, rfl, .inl ⟨SqL.of rw_, fun q hq => ?_⟩⟩
      exact k q R hs _ (sw.trans (same_new hq)) (.tup upd_same (tw.to (Tup.new hq))) (F.kok so el) (F.all el) F.nodup el.symm F.rch
end
end My

-- ===== K4U =====
set_option Elab.async false
set_option linter.all false
set_option maxRecDepth 100000
set_option maxHeartbeats 4000000
namespace Kd
open PySem L2 PyProof.Rows PySem.Spec PySem.W StX
/-! ### o.m(..), m a method with a star -/
section
variable {X : Cx} {CX : CXT} {k : Nat} {C f : Addr} {sp : Sp} {E : XK} {o e : Expr} {es : List Expr} {m : Str} {pos apos : Pos} {ta : TE} {t : TA} {pl : Sem Bool}
/-- C(*xs), C in a global name -/
theorem pe_makeS {X : Cx} {CX : CXT} {k : Nat} {f C : Addr} {sp : Sp} {E : XK} {x : PySem.Str} {e : Expr} {te : TE} {p sp_ pos : Pos} (M : Mk X.K C f) (F : FnR X.prog X.w X.K X.mg X.base CX k f sp) (hr : Room (k + 1) X.A) (hg : Gl X x) (hm : X.mg x = some (.ref C)) (hx : Passes CX X E) (he : PE X e te) (hdb : (x == ("__debug__" : PySem.Str)) = false := by decide)
    (hst : starEach [.Starred e sp_] X.env = [(true, eval e X.env)] := by rfl) :
    PE X (.Call (.Name x p) [.Starred e sp_] [] pos) (fun σ H Q => te σ H fun y H1 => ∃ a xs, y = V.ref a ∧ (SqT X.K H1 a xs ∨ SqL X.K H1 a xs) ∧ ∀ o dx, H1 o = none → H1 dx = none → dx ≠ o →
      sp (V.ref o :: xs) (upd (upd H1 dx (.own o)) o (.ins C dx [])) (fun v H2 => v = .non ∧ Q (.ref o) H2) E) := by
  refine ⟨fun pins s σ H Q I ht => ?_⟩
  refine wpAny_Call_Name_kw (ld_glob I hg hm ?_ hdb)
  refine PySem.W.callWith_S (h₀ := X.base) I.ok.mod.kin M.kp (thn (he.run pins s σ _ _ I ht) fun w s2 ⟨y, H2, I2, ry, a, xs, ey, hxs, q⟩ => ?_) hst
  subst ey
  obtain rfl : w = Value.ref a := ry
  exact star_any I2 hxs fun us s3 I3 rv => ⟨I3.kIn, run_makeR M F hr hx I3 rv q⟩
end
end Kd
namespace My
open PySem L2 PyProof.Rows PySem.Spec Kd TL StX ClX
abbrev sKlen : Stmt := inClass sKind 4
abbrev sKleast : Stmt := inClass sKind 7
abbrev sKreached : Stmt := inClass sKind 11
def spRchd (C : Addr) : Sp := fun vs H Q _ => ∃ (v : V) (p : Addr) (ss : List (List Stp)) (ns : List Int), vs = [v, .ref p] ∧ KindAt C H v ss ∧ KOk ss ∧ H p = some (.tup (ns.map V.int)) ∧ ns.length < 64 ∧ (∀ i ∈ ns, 0 ≤ i ∧ i < (ss.length : Int)) ∧
  ∀ (c : Addr) (fs : List Int) (H' : Hp), Same H H' → H' c = some (.tup (fs.map V.int)) → fs.Pairwise (· < ·) → (∀ i, i ∈ fs ↔ Rch ss ns i) → Q (.ref c) H'
def spRchdR (C : Addr) : Sp := fun vs H Q E => ∃ ws rest, vs = ws ++ rest ∧ ws.length = ["self"].length ∧ rest.length ≤ sizeLine ∧ ∀ p, H p = Option.none → spRchd C (ws ++ [V.ref p]) (upd H p (.tup rest)) Q E
def spKleast (C : Addr) : Sp := fun vs H Q _ => ∃ (v : V) (ss : List (List Stp)), vs = [v] ∧ KindAt C H v ss ∧ KOk ss ∧ ∀ (u : V) (ls : List (List Stp)) (hs : List Int) (H' : Hp), Same H H' → KindAt C H' u ls → KOk ls → (∀ k : Nat, k < ls.length → Rch ls [0] (k : Int)) → hs.Nodup → hs.length = ls.length → (∀ i ∈ hs, Rch ss [0] i) → Q u H'
def spKlen (C : Addr) : Sp := fun vs H Q _ => ∃ (v : V) (ss : List (List Stp)), vs = [v] ∧ KindAt C H v ss ∧ KOk ss ∧ ∀ H', Same H H' → Q (.int (ss.length : Int)) H'
section
variable {P : Program} {w : World} {K : PySem.W.Frag} {mg : Str → Option Value} {base : Heap} {C : Addr}
theorem scRd : FnScope ["self", "states"] ["self", "states"] (defScope sKreached) := ⟨rfl, rfl, rfl, by decide +kernel, rfl, by decide +kernel, by decide +kernel⟩
theorem ok_reached {f fR : Addr} {fd fdR : FuncData} (F : Fun K "reached" "Kind.reached" sKreached f fd) (cl : Cls K C) (n2 : NoAttr K C "moves")
    (GR : FnOk P w K mg base CX0 1 fR fdR ["moves", "starts"] spReach) (mR : mg "reached_from" = some (.ref fR)) (kR : PySem.W.keepIn K (.ref fR) = true) (bR : Binds K fdR ["moves", "starts"] []) :
    FnR P w K mg base CX0 2 f (spRchdR C) := by
  obtain ⟨oc, od, kV, doc, pm, an, cdv, ct, osl, rfl, lk, hcd⟩ := F.ex
  refine fn_star (ps := ["self"]) (pv := "states") (sp := spRchd C) lk hcd scRd cxUp_none (bind_star1 (B := fun l => bindArgs (PySem.W.fnOf "reached" "Kind.reached" (defArgs sKreached) (defBody sKreached) (defScope sKreached) .none kV doc pm an cdv ct) ⟨l, []⟩) (p1 := "self") (pv := "states") (fun a => rfl) (fun a r rs => rfl)) fun A outer s H vs Q E hr h => ?_
  obtain ⟨v, p, ss, ns, rfl, hk, so, hp, few, inn, k⟩ := h
  refine ⟨_, PSs.nox (pss_one (ps_ret (pe_call GR hr (by rfl) mR kR bR .nil pass0 (pa_cons (pe_fld (pv 0) rfl) (pa_cons (pv 1) pa_nil))))), ?_⟩
  obtain ⟨o, dx, a, m, rfl, ho, ht, hm⟩ := hk
  exact ⟨_, rfl, o, C, dx, _, _, rfl, ho, cl, n2, rfl, _, rfl, m, p, ss, ns, rfl, hm, so, hp, few, inn, k⟩
theorem scKl : FnScope ["self", "states"] ["self"] (defScope sKleast) := ⟨rfl, rfl, rfl, by decide +kernel, rfl, by decide +kernel, by decide +kernel⟩
theorem scKn : FnScope ["self"] ["self"] (defScope sKlen) := ⟨rfl, rfl, rfl, by decide +kernel, rfl, by decide +kernel, by decide +kernel⟩
theorem ok_kleast {f fI fL : Addr} {fd fdL : FuncData} (F : Fun K "least" "Kind.least" sKleast f fd) (cl : Cls K C) (n1 : NoAttr K C "states") (M : Mk K C fI) (FI : FnR P w K mg base CX0 5 fI (spInitR C)) (mC : mg "Kind" = some (.ref C))
    (GL : FnOk P w K mg base CX0 3 fL fdL ["states"] spLeast) (mL : mg "least_states" = some (.ref fL)) (kL : PySem.W.keepIn K (.ref fL) = true) (bL : Binds K fdL ["states"] []) : FnOk P w K mg base CX0 7 f fd ["self"] (spKleast C) := by
  refine F.ok scKl (fun vs H Q E h => ?_) (fun cdv A outer s H vs Q E hr h => ?_)
  · obtain ⟨v, ss, rfl, _⟩ := h
    rfl
  · obtain ⟨v, ss, rfl, hk, so, k⟩ := h
    have hr3 := hr.mono (show 3 ≤ 6 by omega)
    refine ⟨_, pss_cons (ps_set (i := 1) scKl.nd rfl (Or.inl rfl) (pe_call GL hr3 (by rfl) mL kL bL .nil pass0 (pa_cons (pe_fld (pv 0) rfl) pa_nil)))
      (pss_one (ps_ret (pe_makeS M FI hr (by rfl) mC pass0 (pv 1)))), ?_⟩
    obtain ⟨o, dx, a, m, rfl, ho, ht, hm⟩ := hk
    refine ⟨_, rfl, o, C, dx, _, _, rfl, ho, cl, n1, rfl, a, ss, rfl, ht, so, fun R ls hs H1 s1 tR kl all nd lh rch => ?_⟩
    obtain ⟨xs, ha, hxs⟩ := tR.tup_of
    have l2 := kl.most
    have len : xs.length = ls.length := by
      have z := hxs.len
      rwa [List.length_map] at z
    refine ⟨_, rfl, R, xs, rfl, .inl (SqT.of ha), fun o dx no nd ne => ?_⟩
    refine ⟨[.ref o], xs, rfl, rfl, small_len (m := 40) (by omega), fun p hp => ?_⟩
    have hp1 : p ≠ o := fun z => by
      rw [z, upd_same] at hp
      cases hp
    have hp2 : (upd H1 dx (.own o)) p = none := by
      rw [upd_ne hp1] at hp
      exact hp
    have hp3 : p ≠ dx := fun z => by
      rw [z, upd_same] at hp2
      cases hp2
    have hp0 : H1 p = none := by
      rw [upd_ne hp3] at hp2
      exact hp2
    have no1 : (upd H1 dx (.own o)) o = none := by
      rw [upd_ne (Ne.symm ne)]
      exact no
    have s0 : Same H1 (upd (upd (upd H1 dx (.own o)) o (.ins C dx [])) p (.tup xs)) := ((same_new nd).trans (same_new no1)).trans (same_new hp)
    refine ⟨o, p, dx, ls, rfl, by rw [upd_ne (Ne.symm hp1)]; exact upd_same, .tup upd_same (hxs.to (Tup.of s0)), kl, fun H' m but ho mv => ⟨rfl, ?_⟩⟩
    have s2 : Same H1 H' := fun b u e => but b u (s0 b u e) (ne_of_none e no)
    refine k _ ls hs _ (s1.trans s2) ⟨o, dx, p, m, rfl, ho, .tup (but p _ upd_same hp1) ?_, mv⟩ kl all ‹_› lh rch
    exact hxs.to (Tup.of s2)
theorem ok_klen {f : Addr} {fd : FuncData} (F : Fun K "__len__" "Kind.__len__" sKlen f fd) (cl : Cls K C) (n1 : NoAttr K C "states") (mlen : mg "len" = none) : FnOk P w K mg base CX0 1 f fd ["self"] (spKlen C) := by
  refine F.ok scKn (fun vs H Q E h => ?_) (fun cdv A outer s H vs Q E hr h => ?_)
  · obtain ⟨v, ss, rfl, _⟩ := h
    rfl
  · obtain ⟨v, ss, rfl, hk, so, k⟩ := h
    refine ⟨_, pss_one (ps_ret (pe_callB (r := rLenQ K) call_len_seq (by rfl) mlen PySem.boot_len (pa_cons (pe_fld (pv 0) rfl) pa_nil))), ?_⟩
    obtain ⟨o, dx, a, m, rfl, ho, ht, hm⟩ := hk
    obtain ⟨xs, ha, hxs⟩ := ht.tup_of
    have lxs : xs.length = ss.length := by
      have z := hxs.len
      rwa [List.length_map] at z
    refine ⟨_, rfl, o, C, dx, _, _, rfl, ho, cl, n1, rfl, a, xs, rfl, .inr (SqT.of ha), ?_⟩
    rw [lxs]
    exact k H (Same.refl H)
end
end My

-- ===== K4V =====
set_option Elab.async false
set_option linter.all false
set_option maxRecDepth 100000
set_option maxHeartbeats 4000000
namespace My
open PySem L2 PyProof.Rows PySem.Spec Kd TL
/-! ### the law's own closure, as mathematics -/
structure Clo (ss : List (List Stp)) (S ns : List Int) (at_ : Nat) (dn : List Stp) (mid : Bool) : Prop where
  nd : ns.Nodup
  inn : ∀ i ∈ S ++ ns, 0 ≤ i ∧ i < (ss.length : Int)
  rch : ∀ i ∈ S ++ ns, Rch ss S i
  shut : ∀ (j i : Nat) (st : List Stp) (x : Stp), j < at_ → (S ++ ns)[j]? = some (i : Int) → ss[i]? = some st → x ∈ st → x.2.2 ∈ S ++ ns
  here : ∀ x ∈ dn, x.2.2 ∈ S ++ ns
theorem Clo.most {ss : List (List Stp)} {S ns : List Int} {a : Nat} {dn : List Stp} {b : Bool} (h : Clo ss S ns a dn b) : ns.length ≤ ss.length := ints_most h.nd fun i m => h.inn i (List.mem_append_right _ m)
theorem Clo.skip {ss : List (List Stp)} {S ns : List Int} {a : Nat} {dn : List Stp} {b : Bool} {x : Stp} (h : Clo ss S ns a dn b) (m : x.2.2 ∈ S ++ ns) : Clo ss S ns a (dn ++ [x]) b :=
  ⟨h.nd, h.inn, h.rch, h.shut, fun y my => by
    rcases List.mem_append.mp my with z | z
    · exact h.here y z
    · rw [List.mem_singleton.mp z]
      exact m⟩
theorem Clo.put {ss : List (List Stp)} {S ns : List Int} {a i : Nat} {dn st : List Stp} {b : Bool} {x : Stp} (h : Clo ss S ns a dn b) (m : x.2.2 ∉ S ++ ns) (lt : a < (S ++ ns).length) (ei : (S ++ ns)[a]? = some (i : Int)) (es : ss[i]? = some st) (mx : x ∈ st) (ok : StpOk ss.length x) : Clo ss S (ns ++ [x.2.2]) a (dn ++ [x]) b := by
  have e : S ++ (ns ++ [x.2.2]) = (S ++ ns) ++ [x.2.2] := (List.append_assoc ..).symm
  refine ⟨List.nodup_append.mpr ⟨h.nd, by simp, fun p hp q hq z => m (List.mem_append_right _ (by rw [← List.mem_singleton.mp hq, ← z]; exact hp))⟩, fun k mk_ => ?_, fun k mk_ => ?_, fun j k su y lj ej ek my => ?_, fun y my => ?_⟩
  · rw [e] at mk_
    rcases List.mem_append.mp mk_ with z | z
    · exact h.inn k z
    · rw [List.mem_singleton.mp z]
      exact ⟨ok.lo, ok.hi⟩
  · rw [e] at mk_
    rcases List.mem_append.mp mk_ with z | z
    · exact h.rch k z
    · rw [List.mem_singleton.mp z]
      exact .step (h.rch _ (List.mem_of_getElem? ei)) es mx
  · rw [e] at ej ⊢
    rw [List.getElem?_append_left (by omega)] at ej
    exact List.mem_append_left _ (h.shut j k su y lj ej ek my)
  · rw [e]
    rcases List.mem_append.mp my with z | z
    · exact List.mem_append_left _ (h.here y z)
    · rw [List.mem_singleton.mp z]
      exact List.mem_append_right _ List.mem_cons_self
theorem Clo.next {ss : List (List Stp)} {S ns : List Int} {a i : Nat} {st : List Stp} {b : Bool} (h : Clo ss S ns a st b) (ei : (S ++ ns)[a]? = some (i : Int)) (es : ss[i]? = some st) : Clo ss S ns (a + 1) [] b := by
  refine ⟨h.nd, h.inn, h.rch, fun j k su x lt ej ek mx => ?_, fun x m => nomatch m⟩
  rcases Nat.lt_or_ge j a with l | g
  · exact h.shut j k su x l ej ek mx
  · have e : j = a := by omega
    rw [e, ei] at ej
    have e2 : i = k := by
      have z : (i : Int) = (k : Int) := Option.some.inj ej
      omega
    rw [← e2, es] at ek
    rw [← Option.some.inj ek] at mx
    exact h.here x mx
theorem Clo.all {ss : List (List Stp)} {S ns : List Int} {b : Bool} (h : Clo ss S ns (S ++ ns).length [] b) : ∀ i, i ∈ S ++ ns ↔ Rch ss S i := by
  refine fun i => ⟨h.rch i, fun r => ?_⟩
  induction r with
  | base m => exact List.mem_append_left _ m
  | step _ e m ih =>
    obtain ⟨j, hj⟩ := List.mem_iff_getElem?.mp ih
    exact h.shut j _ _ _ (List.getElem?_eq_some_iff.mp hj).1 hj e m
theorem inV_int (g : Int) : ∀ xs : List Int, inV (.int g) (xs.map V.int) = decide (g ∈ xs)
  | [] => rfl
  | x :: xs => by
    have ih := inV_int g xs
    unfold inV at ih ⊢
    rw [List.map_cons, List.any_cons, ih]
    have e : eqV (V.int x) (V.int g) = decide (x = g) := by
      show (x == g) = _
      by_cases h : x = g
      · rw [h, decide_eq_true rfl, beq_self_eq_true]
      · rw [decide_eq_false h]
        exact beq_eq_false_iff_ne.mpr h
    rw [e]
    by_cases h : x = g
    · rw [decide_eq_true h, Bool.true_or]
      exact (decide_eq_true (by rw [h]; exact List.mem_cons_self)).symm
    · rw [decide_eq_false h, Bool.false_or]
      refine decide_eq_decide.mpr ⟨List.mem_cons_of_mem _, fun m => ?_⟩
      rcases List.mem_cons.mp m with z | z
      · exact absurd z.symm h
      · exact z
theorem flat_ints : ∀ xs : List Int, (xs.map V.int).all flatV = true
  | [] => rfl
  | x :: xs => by
    rw [List.map_cons, List.all_cons, flat_ints xs]
    rfl
def spClos : Sp := fun vs H Q _ => ∃ (a l : Addr) (ss : List (List Stp)) (S : List Int), vs = [.ref a, .ref l] ∧ TD H (.ref a) (statesD ss) ∧ KOk ss ∧ H l = some (.lst (S.map V.int)) ∧ S.length ≤ 3 ∧ (∀ i ∈ S, 0 ≤ i ∧ i < (ss.length : Int)) ∧
  ∀ (c : Addr) (fs : List Int) (H' : Hp), Same H H' → H' c = some (.tup (fs.map V.int)) → fs.Pairwise (· < ·) → (∀ i, i ∈ fs ↔ Rch ss S i) → Q (.ref c) H'
section
variable {P : Program} {w : World} {K : PySem.W.Frag} {mg : Str → Option Value} {base : Heap}
abbrev nCs : List Str := ["_law_states", "_law_some", "_law_found", "_law_at", "_law_step"]
theorem scCs : FnScope nCs ["_law_states", "_law_some"] (defScope sClos) := ⟨rfl, rfl, rfl, by decide +kernel, rfl, by decide +kernel, by decide +kernel⟩
theorem ok_clos {f : Addr} {fd : FuncData} (F : Fun K "_law_closure" "_law_closure" sClos f fd) (G : Gs mg) : FnOk P w K mg base CX0 1 f fd ["_law_states", "_law_some"] spClos := by
  refine F.ok scCs (fun vs H Q E h => ?_) (fun cdv A outer s H vs Q E hr h => ?_)
  · obtain ⟨a, l, ss, S, rfl, _⟩ := h
    rfl
  · obtain ⟨a, l, ss, S, rfl, hx, so, hl, l3, inn, k⟩ := h
    have hu := hr.units
    refine ⟨_, (pss_cons (ps_par (i := 2) (j := 3) rfl scCs.nd rfl rfl (by decide) rfl rfl (pa_cons (pe_callTy call_list_of (by rfl) G.list (by decide +kernel) (pa_cons (pv 1) pa_nil)) (pa_cons pe_int pa_nil)) (by rfl)) (pss_cons (ps_while PassesOwn.never (pt_cmp (pc_lt (pv 3) (pe_callB (r := rLenQ K) call_len_seq (by rfl) G.len PySem.boot_len (pa_cons (pv 2) pa_nil)))) (pss_cons (ps_for PassesOwn.never rfl (pi_tup (pe_ix (r := rIxT K) ix_tup (pv 0) (pe_ix (r := rIxL K) ix_list (pv 2) (pv 3) (fun _ _ => rfl)) (fun _ _ => rfl))) (pg_name (i := 4) scCs.nd rfl (Or.inl rfl)) (pss_one (ps_if (pt_cmpR (r := rIn K true) op_notIn_seq (pe_ix ix_tup (pv 4) pe_int (fun _ _ => rfl)) (pv 2) (by rfl)) (pss_one (ps_expr (pe_bm PySem.F.plainAttrs_list PySem.F.slot_list_append PySem.F.type_list_append mt_append (pv 2) (pa_cons (pe_ix ix_tup (pv 4) pe_int (fun _ _ => rfl)) pa_nil)))) pss_nil))) (pss_one (ps_set (i := 3) scCs.nd rfl (Or.inl rfl) (pe_op op_add (pv 3) pe_int))))) (pss_one (ps_ret (pe_callTy call_tuple_of (by rfl) G.tuple (by decide +kernel) (pa_cons (pe_callB (r := rSortedSet w) (cr_sortedSet rfl) (by rfl) G.sorted PyProof.Rows.boot_sorted (pa_cons (pe_callTy (r := rSetZ K w) (cr_setZ rfl) (by rfl) G.set PyProof.Rows.boot_set (pa_cons (pv 2) pa_nil)) pa_nil)) pa_nil)))))), ?_⟩
    obtain ⟨xs, ha, hxs⟩ := hx.tup_of
    have lxs : xs.length = ss.length := by
      have z := hxs.len
      rwa [List.length_map] at z
    have most := so.most
    refine ⟨_, rfl, l, _, rfl, .inl (SqL.of hl), fun fo hfo => ⟨_, _, rfl, ?_⟩⟩
    refine ⟨fun μ σ Hw => ∃ (at_ : Nat) (ns : List Int) (o4 : Option V), μ = S.length + ss.length + 1 - at_ ∧ σ = [some (.ref a), some (.ref l), some (.ref fo), some (.int (at_ : Int)), o4] ∧ Same H Hw ∧ Hw fo = some (.lst ((S ++ ns).map V.int)) ∧ Clo ss S ns at_ [] true ∧ at_ ≤ (S ++ ns).length,
      ⟨_, 0, [], none, rfl, rfl, same_new hfo, by rw [List.append_nil]; exact upd_same, ⟨List.nodup_nil, fun i m => inn i (by simpa using m), fun i m => .base (by simpa using m), fun j i st x lt => absurd lt (Nat.not_lt_zero _), fun x m => nomatch m⟩, Nat.zero_le _⟩, fun μ σ Hw ⟨at_, ns, o4, eμ, eσ, sw, fw, C, le⟩ => ?_⟩
    subst eμ
    subst eσ
    have cm := C.most
    have ll : (S ++ ns).length = S.length + ns.length := List.length_append
    refine ⟨_, rfl, _, rfl, fo, _, rfl, .inl (SqL.of fw), _, _, rfl, rfl, _, rfl, ?_⟩
    rw [List.length_map]
    dsimp only
    by_cases lt : at_ < (S ++ ns).length
    · rw [decide_eq_true (show (at_ : Int) < ((S ++ ns).length : Int) by omega)]
      refine iteT ⟨fun σ' H' => ∃ (ns' : List Int) (o4 : Option V), σ' = [some (.ref a), some (.ref l), some (.ref fo), some (.int ((at_ + 1 : Nat) : Int)), o4] ∧ Same H H' ∧ H' fo = some (.lst ((S ++ ns').map V.int)) ∧ Clo ss S ns' (at_ + 1) [] true ∧ at_ + 1 ≤ (S ++ ns').length, fun σ' H' ⟨ns', p4, e, q⟩ => ⟨S.length + ss.length + 1 - (at_ + 1), by omega, at_ + 1, ns', p4, rfl, e, q⟩, ?_⟩
      obtain ⟨n0, n1⟩ := C.inn _ (List.getElem_mem lt)
      obtain ⟨n, en⟩ := Int.eq_ofNat_of_zero_le n0
      have ei : (S ++ ns)[at_]? = some (n : Int) := by rw [List.getElem?_eq_getElem lt, en]
      have ln : n < ss.length := by omega
      have eat : atI ((S ++ ns).map V.int) (at_ : Int) = some (.int (n : Int)) := atI_nat (by rw [List.getElem?_map, ei]; rfl)
      obtain ⟨st, es⟩ : ∃ st, ss[n]? = some st := ⟨ss[n], List.getElem?_eq_getElem ln⟩
      have sto := so.all st (List.mem_of_getElem? es)
      obtain ⟨v, ev⟩ : ∃ v, xs[n]? = some v := ⟨xs[n]'(by omega), List.getElem?_eq_getElem _⟩
      obtain ⟨d, ed, td⟩ := hxs.get ev
      rw [List.getElem?_map, es] at ed
      cases Option.some.inj ed
      obtain ⟨c, ys, rfl, hc, hys⟩ := td.ref_of
      have lys : ys.length = st.length := by
        have z := hys.len
        rwa [List.length_map] at z
      have eatx : atI xs (n : Int) = some (.ref c) := atI_nat ev
      refine ⟨_, rfl, _, rfl, _, rfl, fo, _, _, _, rfl, rfl, SqL.of fw, eat, a, _, _, _, rfl, rfl, SqT.of (sw _ _ ha), eatx, c, rfl, ⟨_, SqT.of (sw _ _ hc)⟩, for_tup (K := K) (a := c) (xs := ys) (fun j σ H6 => ∃ (ns' : List Int) (o4 : Option V), σ = [some (.ref a), some (.ref l), some (.ref fo), some (.int (at_ : Int)), o4] ∧ Same H H6 ∧ H6 fo = some (.lst ((S ++ ns').map V.int)) ∧ Clo ss S ns' at_ (st.take j) true ∧ (S ++ ns')[at_]? = some (n : Int))
        ⟨ns, o4, rfl, sw, fw, by simpa using C, ei⟩ (fun j σ H6 _ ⟨_, _, _, s6, _⟩ => SqT.of (s6 _ _ hc)) ?_ ?_⟩
      · rintro j x σ H6 ex ⟨ns', p4, rfl, s6, f6, C6, e6⟩
        obtain ⟨d2, ed2, td2⟩ := hys.get ex
        rw [List.getElem?_map] at ed2
        obtain ⟨y, ey, rfl⟩ := Option.map_eq_some_iff.mp ed2
        obtain ⟨c2, rfl, hc2⟩ := step_of td2
        have my := List.mem_of_getElem? ey
        have yo := sto.all y my
        have tk : st.take (j + 1) = st.take j ++ [y] := by rw [List.take_succ, ey]; rfl
        have hc6 := s6 _ _ hc2
        have cm6 := C6.most
        have ll6 : (S ++ ns').length = S.length + ns'.length := List.length_append
        refine ⟨_, rfl, c2, _, 2, _, rfl, rfl, SqT.of hc6, rfl, _, rfl, fo, _, rfl, .inl (SqL.of f6), rfl, flat_ints _, _, rfl, ?_⟩
        rw [inV_int]
        by_cases m : y.2.2 ∈ S ++ ns'
        · rw [decide_eq_true m]
          refine iteF ⟨ns', _, rfl, s6, f6, ?_, e6⟩
          rw [tk]
          exact C6.skip m
        · rw [decide_eq_false m]
          refine iteT ⟨_, rfl, .inl ⟨rfl, _, SqL.of f6⟩, _, rfl, c2, _, 2, _, rfl, rfl, SqT.of hc6, rfl, fo, _, _, rfl, rfl, f6, small_lt (m := 43) (by rw [List.length_map]; omega), ?_⟩
          have l2 : at_ < (S ++ ns').length := (List.getElem?_eq_some_iff.mp e6).1
          refine ⟨ns' ++ [y.2.2], _, rfl, fun z o e => ?_, ?_, by rw [tk]; exact C6.put m l2 e6 es my yo, ?_⟩
          · rw [upd_ne (fun q => by rw [q, hfo] at e; cases e)]
            exact s6 _ _ e
          · rw [upd_same, ← List.append_assoc, List.map_append (l₂ := [y.2.2])]
            rfl
          · rw [← List.append_assoc, List.getElem?_append_left l2]
            exact e6
      · rintro σ H6 ⟨ns', p4, rfl, s6, f6, C6, e6⟩
        rw [lys, List.take_length] at C6
        have l2 : at_ < (S ++ ns').length := (List.getElem?_eq_some_iff.mp e6).1
        exact ⟨_, rfl, _, _, rfl, rfl, ns', p4, rfl, s6, f6, C6.next e6 es, l2⟩
    · rw [decide_eq_false (show ¬ ((at_ : Int) < ((S ++ ns).length : Int)) by omega)]
      have ea : at_ = (S ++ ns).length := by omega
      subst ea
      refine iteF ⟨_, rfl, fo, S ++ ns, rfl, .inl (SqL.of fw), by omega, fun t c ht hc => ⟨t, _, c, rfl, upd_same, by omega, fun gs p asc mem len hp => ⟨p, _, rfl, .inl ⟨SqL.of upd_same, fun q hq => ?_⟩⟩⟩⟩
      refine k q gs _ (sw.trans ((same_new ht).trans ((same_new hp).trans (same_new hq)))) upd_same asc fun i => ?_
      rw [mem i, decide_eq_true_eq]
      exact C.all i
end
end My

-- ===== KN6 =====
set_option Elab.async false
set_option linter.all false
set_option maxRecDepth 100000
set_option maxHeartbeats 4000000
namespace Kd
open PySem L2 PyProof.Rows PySem.Spec PySem.W Builtin
/-! ### len(x), x of a class with a __len__ of its own -/
def rLenIns (C : Addr) (sp : Sp) (E : XK) : List V → Hp → VK → Prop := fun xs H Q => ∃ a dx fs, xs = [.ref a] ∧ H a = some (.ins C dx fs) ∧ sp [.ref a] H (fun v H' => ∃ k : Int, v = .int k ∧ (0 ≤ k ∧ k < 2 ^ 63) ∧ Q (.int k) H') E
section
variable {X : Cx} {CX : CXT} {n : Nat} {C g : Addr} {sp : Sp} {E : XK}
theorem cr_lenIns (hs : findIn X.K (.ref C) "__len__" = some (some (.ref g))) (hf : isFn X.K (.ref g) = true) (F : FnR X.prog X.w X.K X.mg X.base CX n g sp) (hr : Room (n + 1) X.A) (hx : Passes CX X E) : CallR X (.builtin "len") (rLenIns C sp E) := by
  intro pins s σ H xs us Q I r h
  obtain ⟨a, dx, fs, rfl, ha, q⟩ := h
  rw [Vals.ref1 r]
  obtain ⟨mA, J, _⟩ := ins_get I.hok ha
  obtain ⟨od, J, _⟩ := J.look
  obtain ⟨m, hF⟩ := I.fr
  refine len_K hF I.ok.mod.kin J hs hf ?_
  refine wpAny_mono (wpAny_call (SlX.run_at (us := [.ref a]) (ws := [.ref a]) F hr.in1 I.env0.in1 hx I (.cons rfl .nil) q)) (fun r s' z => ?_) fun _ _ x => x
  obtain ⟨z', H', I', rz, k, ek, kb, qz⟩ := z
  subst ek
  obtain ⟨t, rfl⟩ := rz
  exact ⟨kb, .int k, H', I'.tok _, ⟨_, rfl⟩, qz⟩
end
end Kd

-- ===== K4W =====
set_option Elab.async false
set_option linter.all false
set_option maxRecDepth 100000
set_option maxHeartbeats 4000000
namespace My
open PySem L2 PyProof.Rows PySem.Spec Kd TL StX
def spTold (C : Addr) : Sp := fun vs H Q _ => ∃ (v : V) (l : Addr) (ss : List (List Stp)) (S : List Int), vs = [v, .ref l] ∧ KindAt C H v ss ∧ KOk ss ∧ H l = some (.lst (S.map V.int)) ∧ 1 ≤ S.length ∧ S.length ≤ 3 ∧ (∀ i ∈ S, 0 ≤ i ∧ i < (ss.length : Int)) ∧
  ∀ (c : Addr) (fs : List Int) (H' : Hp), Same H H' → H' c = some (.tup (fs.map V.int)) → fs.Pairwise (· < ·) → (∀ i, i ∈ fs ↔ Rch ss S i) → Q (.ref c) H'
theorem rchd_sp {C o : Addr} {H : Hp} {ss : List (List Stp)} {S : List Int} {Q : VK} {E : XK} (hk : KindAt C H (.ref o) ss) (so : KOk ss) (few : S.length < 64) (inn : ∀ i ∈ S, 0 ≤ i ∧ i < (ss.length : Int))
    (k : ∀ (c : Addr) (fs : List Int) (H' : Hp), Same H H' → H' c = some (.tup (fs.map V.int)) → fs.Pairwise (· < ·) → (∀ i, i ∈ fs ↔ Rch ss S i) → Q (.ref c) H') : spRchdR C (.ref o :: S.map V.int) H Q E :=
  ⟨[.ref o], S.map V.int, rfl, rfl, small_len (m := 64) (by rw [List.length_map]; omega), fun p hp => ⟨.ref o, p, ss, S, rfl, hk.same (same_new hp), so, upd_same, few, inn, fun c fs H' s' => k c fs H' ((same_new hp).trans s')⟩⟩
section
variable {P : Program} {w : World} {K : PySem.W.Frag} {mg : Str → Option Value} {base : Heap} {C : Addr}
theorem scTd : FnScope ["_law_made", "_law_some"] ["_law_made", "_law_some"] (defScope sTold) := ⟨rfl, rfl, rfl, by decide +kernel, rfl, by decide +kernel, by decide +kernel⟩
theorem ok_told {f g : Addr} {fd : FuncData} (F : Fun K "_law_told" "_law_told" sTold f fd) (G : Gs mg) (cl : Cls K C) (hm : Meth K C "reached" g) (GR : FnR P w K mg base CX0 2 g (spRchdR C)) : FnOk P w K mg base CX0 3 f fd ["_law_made", "_law_some"] (spTold C) := by
  refine F.ok scTd (fun vs H Q E h => ?_) (fun cdv A outer s H vs Q E hr h => ?_)
  · obtain ⟨v, l, ss, S, rfl, _⟩ := h
    rfl
  · obtain ⟨v, l, ss, S, rfl, hk, so, hl, l1, l3, inn, k⟩ := h
    refine ⟨_, (pss_cons (ps_if (pt_cmpR op_eq (pe_callB (r := rLenQ K) call_len_seq (by rfl) G.len PySem.boot_len (pa_cons (pv 1) pa_nil)) pe_int (nomark _)) (pss_one (ps_ret (L2.pe_methR (pl := _) (pv 0) cl hm GR hr pass0 (pa_cons (pe_ix (r := rIxL K) ix_list (pv 1) pe_int (fun _ _ => rfl)) pa_nil)))) pss_nil) (pss_one (ps_ret (pe_ifExp (pt_cmpR op_eq (pe_callB (r := rLenQ K) call_len_seq (by rfl) G.len PySem.boot_len (pa_cons (pv 1) pa_nil)) pe_int (nomark _)) (L2.pe_methR (pl := _) (pv 0) cl hm GR hr pass0 (pa_cons (pe_ix (r := rIxL K) ix_list (pv 1) pe_int (fun _ _ => rfl)) (pa_cons (pe_ix (r := rIxL K) ix_list (pv 1) pe_int (fun _ _ => rfl)) pa_nil))) (L2.pe_methR (pl := _) (pv 0) cl hm GR hr pass0 (pa_cons (pe_ix (r := rIxL K) ix_list (pv 1) pe_int (fun _ _ => rfl)) (pa_cons (pe_ix (r := rIxL K) ix_list (pv 1) pe_int (fun _ _ => rfl)) (pa_cons (pe_ix (r := rIxL K) ix_list (pv 1) pe_int (fun _ _ => rfl)) pa_nil)))))))), ?_⟩
    obtain ⟨o, dx, a, m, rfl, ho, ht, hmv⟩ := id hk
    have ix : ∀ (i : Nat) (x : Int), S[i]? = some x → atI (S.map V.int) (i : Int) = some (.int x) := fun i x e => atI_nat (by rw [List.getElem?_map, e]; rfl)
    have lk : ([("states", V.ref a), ("moves", V.ref m)] : List (Str × V)).lookup ("reached" : Str) = none := rfl
    refine ⟨_, rfl, l, _, rfl, .inl (SqL.of hl), rfl, _, rfl, ?_⟩
    match S, l1, l3, inn, hl, k, ix with
    | [x], _, _, inn, hl, k, ix =>
      exact iteT ⟨_, rfl, o, dx, _, rfl, ho, lk, _, rfl, l, _, 0, _, rfl, rfl, SqL.of hl, ix 0 x rfl, rchd_sp (S := [x]) hk so (by show 1 < 64; decide) inn k⟩
    | [x, y], _, _, inn, hl, k, ix =>
      refine iteF ⟨_, rfl, l, _, rfl, .inl (SqL.of hl), rfl, _, rfl, iteT ?_⟩
      exact ⟨_, rfl, o, dx, _, rfl, ho, lk, _, rfl, l, _, 0, _, rfl, rfl, SqL.of hl, ix 0 x rfl, _, rfl, l, _, 1, _, rfl, rfl, SqL.of hl, ix 1 y rfl, rchd_sp (S := [x, y]) hk so (by show 2 < 64; decide) inn k⟩
    | [x, y, z], _, _, inn, hl, k, ix =>
      refine iteF ⟨_, rfl, l, _, rfl, .inl (SqL.of hl), rfl, _, rfl, iteF ?_⟩
      exact ⟨_, rfl, o, dx, _, rfl, ho, lk, _, rfl, l, _, 0, _, rfl, rfl, SqL.of hl, ix 0 x rfl, _, rfl, l, _, 1, _, rfl, rfl, SqL.of hl, ix 1 y rfl, _, rfl, l, _, 2, _, rfl, rfl, SqL.of hl, ix 2 z rfl, rchd_sp (S := [x, y, z]) hk so (by show 3 < 64; decide) inn k⟩
end
end My

-- ===== K4X0 =====
set_option Elab.async false
set_option linter.all false
set_option maxRecDepth 100000
set_option maxHeartbeats 4000000
namespace My
open PySem L2 PyProof.Rows PySem.Spec Kd TL PySem.W
/-! ### steps sorted, no two of one word -/
def trK (x : Stp) : List Key := [Sum.inr x.1, Sum.inr x.2.1, Sum.inl x.2.2]
theorem trK_inj {x y : Stp} (h : trK x = trK y) : x = y := by
  unfold trK at h
  injection h with h1 h
  injection h with h2 h
  injection h with h3 _
  exact Prod.ext (Sum.inr.inj h1) (Prod.ext (Sum.inr.inj h2) (Sum.inl.inj h3))
theorem lt_trK {x y : Stp} (h : x.1.cps.toList < y.1.cps.toList) : dataLt (tD (trK x)) (tD (trK y)) = true := by
  unfold tD trK
  simp only [List.map_cons, List.map_nil, kD]
  have ne : x.1 ≠ y.1 := fun e => by rw [e] at h; exact List.lt_irrefl _ h
  rw [dataLt_tuple, dataLt_all_no rfl (by rw [eqv_str]; exact decide_eq_false ne), dataLt_str]
  exact decide_eq_true h
theorem sorted_tr (L : List (Addr × List Key)) (key : ∀ q ∈ L, ∃ x : Stp, q.2 = trK x) (nd : (L.map fun q => q.2.head?).Nodup) :
    ∃ xs : List Stp, (L.mergeSort (dataLe false fun q : Addr × List Key => tD q.2)).map Prod.snd = xs.map trK ∧ (xs.map evOf).Pairwise evLt ∧ ∀ x ∈ xs, trK x ∈ L.map Prod.snd := by
  have tot := sortLe_total (listOrd itemOrd) false fun q : Addr × List Key => keyToks (tD q.2)
  have srt : (L.mergeSort (dataLe false fun q : Addr × List Key => tD q.2)).Pairwise fun q r => dataLe false (fun q : Addr × List Key => tD q.2) q r = true := List.pairwise_mergeSort tot.trans (fun a b => by rw [Bool.or_eq_true]; exact tot.total a b) L
  have pm : (L.mergeSort (dataLe false fun q : Addr × List Key => tD q.2)).Perm L := List.mergeSort_perm _ _
  generalize L.mergeSort (dataLe false fun q : Addr × List Key => tD q.2) = M at srt pm
  have keyM : ∀ q ∈ M, ∃ x : Stp, q.2 = trK x := fun q hq => key q (pm.mem_iff.mp hq)
  have ndM : (M.map fun q => q.2.head?).Nodup := (pm.map _).nodup_iff.mpr nd
  have both : M.Pairwise fun q r => ∀ x y : Stp, q.2 = trK x → r.2 = trK y → evLt (evOf x) (evOf y) := by
    refine List.Pairwise.imp₂ (fun q r h1 h2 x y e1 e2 => ?_) srt (List.pairwise_map.mp ndM)
    have ne : x.1 ≠ y.1 := fun e => h2 (by rw [e1, e2]; show some _ = some _; rw [e])
    have nl : ¬ y.1.cps.toList < x.1.cps.toList := fun lt => by
      rw [dataLe_eq] at h1
      have h1' : (!dataLt (tD r.2) (tD q.2)) = true := h1
      rw [e1, e2, lt_trK lt] at h1'
      cases h1'
    refine .inl (Classical.byContradiction fun z => ne (cps_inj (List.le_antisymm (List.not_lt.mp nl) (List.not_lt.mp z))))
  have back : ∀ M : List (Addr × List Key), (∀ q ∈ M, ∃ x : Stp, q.2 = trK x) → ∃ xs : List Stp, M.map Prod.snd = xs.map trK := by
    intro M
    induction M with
    | nil => exact fun _ => ⟨[], rfl⟩
    | cons q M ih =>
      intro h
      obtain ⟨x, e⟩ := h q List.mem_cons_self
      obtain ⟨xs, e2⟩ := ih fun r hr => h r (List.mem_cons_of_mem _ hr)
      exact ⟨x :: xs, by rw [List.map_cons, List.map_cons, e, e2]⟩
  obtain ⟨xs, ex⟩ := back M keyM
  refine ⟨xs, ex, ?_, fun x mx => ?_⟩
  · have z : (M.map Prod.snd).Pairwise fun k l => ∀ x y : Stp, k = trK x → l = trK y → evLt (evOf x) (evOf y) := List.pairwise_map.mpr both
    rw [ex] at z
    exact List.pairwise_map.mpr (List.Pairwise.imp (fun {x y} h => h x y rfl rfl) (List.pairwise_map.mp z))
  · rw [← (pm.map Prod.snd).mem_iff, ex]
    exact List.mem_map.mpr ⟨x, mx, rfl⟩
end My

-- ===== K4X =====
set_option Elab.async false
set_option linter.all false
set_option maxRecDepth 100000
set_option maxHeartbeats 4000000
namespace My
open PySem L2 PyProof.Rows PySem.Spec Kd TL
theorem PT.wk {X : Cx} {e : Expr} {t u : TT} (h : PT X e t) (k : ∀ σ H Q, u σ H Q → t σ H Q) : PT X e u := ⟨fun pins s σ H Q I q => h.run pins s σ H Q I (k σ H Q q)⟩
/-- a state under way: the list at D holds steps of different words -/
structure Stt (H : Hp) (D : Addr) (L : List (Addr × List Key)) (sz : Nat) (ws : List Str) : Prop where
  lst : H D = some (.lst (L.map fun q => V.ref q.1))
  at_ : ∀ q ∈ L, H q.1 = some (.tup (q.2.map kV)) ∧ ∃ x : Stp, q.2 = trK x ∧ StpOk sz x ∧ x.2.1 = "ok" ∧ x.1 ∈ ws
  nd : (L.map fun q => q.2.head?).Nodup
  le : L.length ≤ ws.length
theorem Stt.put {H : Hp} {D b : Addr} {L : List (Addr × List Key)} {sz : Nat} {ws : List Str} {x : Stp} (h : Stt H D L sz ws) (hb : H b = some (.tup ((trK x).map kV))) (ok : StpOk sz x) (o : x.2.1 = "ok") (n : x.1 ∉ ws) :
    Stt (upd H D (.lst ((L.map fun q => V.ref q.1) ++ [.ref b]))) D (L ++ [(b, trK x)]) sz (ws ++ [x.1]) := by
  have keep : ∀ {a : Addr} {xs : List V}, H a = some (.tup xs) → (upd H D (.lst ((L.map fun q => V.ref q.1) ++ [.ref b]))) a = some (.tup xs) := fun {a xs} e => by
    rw [upd_ne fun z => by rw [z, h.lst] at e; cases e]
    exact e
  refine ⟨by rw [upd_same, List.map_append]; rfl, fun q m => ?_, ?_, by rw [List.length_append, List.length_append]; exact Nat.succ_le_succ h.le⟩
  · rcases List.mem_append.mp m with m | m
    · obtain ⟨a, y, e1, e2, e3, e4⟩ := h.at_ q m
      exact ⟨keep a, y, e1, e2, e3, List.mem_append_left _ e4⟩
    · rw [List.mem_singleton.mp m]
      exact ⟨keep hb, x, rfl, ok, o, List.mem_append_right _ List.mem_cons_self⟩
  · rw [List.map_append]
    refine List.nodup_append.mpr ⟨h.nd, by simp, fun p hp q hq e => ?_⟩
    obtain ⟨r, mr, rfl⟩ := List.mem_map.mp hp
    have hq2 : q = some (Sum.inr x.1) := List.mem_singleton.mp hq
    obtain ⟨_, y, e1, _, _, e4⟩ := h.at_ r mr
    rw [e1, hq2] at e
    have e5 : (some (Sum.inr y.1) : Option Key) = some (Sum.inr x.1) := e
    rw [Sum.inr.inj (Option.some.inj e5)] at e4
    exact n e4
theorem Stt.keep {H H' : Hp} {D : Addr} {L : List (Addr × List Key)} {sz : Nat} {ws : List Str} (h : Stt H D L sz ws) (hD : H' D = some (.lst (L.map fun q => V.ref q.1))) (t : Tup H H') : Stt H' D L sz ws :=
  ⟨hD, fun q m => let ⟨a, b⟩ := h.at_ q m; ⟨t _ _ a, b⟩, h.nd, h.le⟩
theorem Stt.more {H : Hp} {D : Addr} {L : List (Addr × List Key)} {sz : Nat} {ws ws' : List Str} (h : Stt H D L sz ws) (sub : ∀ x ∈ ws, x ∈ ws') (l : ws.length ≤ ws'.length) : Stt H D L sz ws' :=
  ⟨h.lst, fun q m => let ⟨a, x, e1, e2, e3, e4⟩ := h.at_ q m; ⟨a, x, e1, e2, e3, sub _ e4⟩, h.nd, Nat.le_trans h.le l⟩
theorem rows_tr {H : Hp} : ∀ (M : List (Addr × List Key)) (xs : List Stp), M.map Prod.snd = xs.map trK → (∀ q ∈ M, H q.1 = some (.tup (q.2.map kV))) → TDs H (M.map fun q => V.ref q.1) (xs.map stepD)
  | [], [], _, _ => .nil
  | [], x :: xs, e, _ => by cases e
  | q :: M, [], e, _ => by cases e
  | q :: M, x :: xs, e, h => by
    injection e with e1 e2
    have hq := h q List.mem_cons_self
    have e1 : q.2 = trK x := e1
    rw [e1] at hq
    exact .cons (.tup hq (.cons (.str _) (.cons (.str _) (.cons (.int _) .nil)))) (rows_tr M xs e2 fun r m => h r (List.mem_cons_of_mem _ m))
theorem wrd_on : Wrd "on" ∧ Wrd "get" ∧ Wrd "put" ∧ Wrd "ok" := by
  unfold Wrd
  decide +kernel
def onW (wy : Int) : List Str := if wy = 0 then ["on"] else []
def uA : TS := fun D σ H => ∃ (DD : Addr) (sz wy k : Int), σ[1]? = some (some (.int sz)) ∧ σ[2]? = some (some (.int wy)) ∧ σ[4]? = some (some (.int k)) ∧ σ[5]? = some (some (.ref DD)) ∧ 0 ≤ k ∧ k < sz ∧ Stt H DD [] sz.toNat [] ∧
  ∀ H' L', Stt H' DD L' sz.toNat (onW wy) → (∀ b o, H b = some o → b ≠ DD → H' b = some o) → D.nx σ H'
def uB : TS := fun D σ H => ∃ (p c DD : Addr) (ks : List Int) (y n sz wy k : Int) (L : List (Addr × List Key)), σ[0]? = some (some (.ref p)) ∧ σ[1]? = some (some (.int sz)) ∧ σ[2]? = some (some (.int wy)) ∧ σ[4]? = some (some (.int k)) ∧ σ[5]? = some (some (.ref DD)) ∧ 0 ≤ k ∧ k < sz ∧
  FeedAt H p c ks y n ∧ n < 900000 ∧ DD ≠ p ∧ DD ≠ c ∧ Stt H DD L sz.toNat (onW wy) ∧
  ∀ H' L' ks' n', Stt H' DD L' sz.toNat ["on"] → FeedAt H' p c ks' y n' → n' ≤ n + 1 → (∀ b o, H b = some o → b ≠ DD → b ≠ p → b ≠ c → H' b = some o) → D.nx σ H'
def spDrawn : Sp := fun vs H Q _ => ∃ (p c : Addr) (ks : List Int) (w n : Int), vs = [.ref p] ∧ FeedAt H p c ks w n ∧ n < 800000 ∧
  ∀ (a : Addr) (ss : List (List Stp)) (ks' : List Int) (n' : Int) (H' : Hp), TD H' (.ref a) (statesD ss) → KOk ss → FeedAt H' p c ks' w n' → n' ≤ n + 400 → Save p c H H' → Q (.ref a) H'
section
variable {P : Program} {w : World} {K : PySem.W.Frag} {mg : Str → Option Value} {base : Heap}
abbrev nDn : List Str := ["_law_feed_here", "_law_size", "_law_way", "_law_found", "_law_k", "_law_state", "_law_word"]
theorem scDn : FnScope nDn ["_law_feed_here"] (defScope sDrawn) := ⟨rfl, rfl, rfl, by decide +kernel, rfl, by decide +kernel, by decide +kernel⟩
theorem ok_drawn {f fP fD : Addr} {fd fdP fdD : FuncData} (F : Fun K "_law_drawn" "_law_drawn" sDrawn f fd) (G : Gs mg)
    (GP : FnOk P w K mg base CX0 2 fP fdP ["_law_feed_here", "_law_some"] spPick) (mP : mg "_law_pick" = some (.ref fP)) (kP : PySem.W.keepIn K (.ref fP) = true) (bP : Binds K fdP ["_law_feed_here", "_law_some"] [])
    (GD : FnOk P w K mg base CX0 1 fD fdD ["_law_feed_here", "_law_many"] spDigit) (mD : mg "_law_digit" = some (.ref fD)) (kD : PySem.W.keepIn K (.ref fD) = true) (bD : Binds K fdD ["_law_feed_here", "_law_many"] []) :
    FnOk P w K mg base CX0 3 f fd ["_law_feed_here"] spDrawn := by
  refine F.ok scDn (fun vs H Q E h => ?_) (fun cdv A outer s H vs Q E hr h => ?_)
  · obtain ⟨p, c, ks, y, n, rfl, _⟩ := h
    rfl
  · obtain ⟨p, c, ks, y, n, rfl, FA, hn, k⟩ := h
    have hu := hr.units
    have hr1 := hr.mono (show 1 ≤ 2 by omega)
    refine ⟨_, (pss_cons (ps_par (i := 1) (j := 2) rfl scDn.nd rfl rfl (by decide) rfl rfl (pa_cons (pe_call GP hr (by rfl) mP kP bP .nil pass0 (pa_cons (pv 0) (pa_cons (pe_lst (pa_cons pe_int (pa_cons pe_int (pa_cons pe_int (pa_cons pe_int (pa_cons pe_int (pa_cons pe_int (pa_cons pe_int pa_nil)))))))) pa_nil))) (pa_cons (pe_call GD hr1 (by rfl) mD kD bD .nil pass0 (pa_cons (pv 0) (pa_cons pe_int pa_nil))) pa_nil)) (by rfl)) (pss_cons (ps_set (i := 3) scDn.nd rfl (Or.inl rfl) (pe_lst pa_nil)) (pss_cons (ps_for PassesOwn.never rfl (pi_range1 (by rfl) G.range (pa_cons (pv 1) pa_nil)) (pg_name (i := 4) scDn.nd rfl (Or.inl rfl)) (pss_cons (ps_set (i := 5) scDn.nd rfl (Or.inl rfl) (pe_lst pa_nil)) (pss_cons (PS.wk (u := uA) (ps_if (PW.pt (pw_and (pt_cmpR op_eq (pv 2) pe_int (nomark _)) (pw_and1 (pt_cmpR op_lt (pe_op op_add (pv 4) pe_int) (pv 1) (nomark _))))) (pss_one (ps_expr (pe_bm PySem.F.plainAttrs_list PySem.F.slot_list_append PySem.F.type_list_append mt_append (pv 5) (pa_cons (pe_tup (pa_cons pe_str (pa_cons pe_str (pa_cons (pe_op op_add (pv 4) pe_int) pa_nil)))) pa_nil)))) pss_nil) (fun D σ H ⟨DD, sz, wy, k, e1, e2, e4, e5, k0, k1, st, q⟩ => by
              have sz0 : ((sz.toNat : Nat) : Int) = sz := Int.toNat_of_nonneg (by omega)
              refine ⟨_, e2, rfl, _, rfl, ?_⟩
              by_cases w0 : wy = 0
              · rw [decide_eq_true (by rw [w0])]
                refine iteT ⟨_, e4, _, _, rfl, rfl, _, e1, _, _, rfl, rfl, _, rfl, ?_⟩
                by_cases lt : k + 1 < sz
                · rw [decide_eq_true lt]
                  refine iteT ⟨_, e5, .inl ⟨rfl, _, SqL.of st.lst⟩, _, e4, _, _, rfl, rfl, by show 3 ≤ sizeLine; decide, fun b hb => ?_⟩
                  have s1 := same_new (o := .tup [V.str "on", .str "ok", .int (k + 1)]) hb
                  have st1 := st.keep (s1 _ _ st.lst) (Tup.of s1)
                  refine ⟨DD, _, _, rfl, rfl, st1.lst, by decide, q _ [(b, trK ("on", "ok", k + 1))] ?_ fun a o e ne => ?_⟩
                  · have z := st1.put (b := b) (x := ("on", "ok", k + 1)) upd_same ⟨wrd_on.1, wrd_on.2.2.2, by show 0 ≤ k + 1; omega, by show k + 1 < _; omega⟩ rfl (fun m => nomatch m)
                    unfold onW
                    rw [if_pos w0]
                    exact z
                  · rw [upd_ne ne]
                    exact s1 _ _ e
                · rw [decide_eq_false lt]
                  exact iteF (q H [] (st.more (fun x m => nomatch m) (Nat.zero_le _)) fun a o e _ => e)
              · rw [decide_eq_false (fun z => w0 (V.int.inj z))]
                exact iteF (q H [] (st.more (fun x m => nomatch m) (Nat.zero_le _)) fun a o e _ => e))) (pss_cons (PS.wk (u := uB) (ps_if (pt_cmpR op_eq (pv 2) pe_int (nomark _)) (pss_one (ps_expr (pe_bm PySem.F.plainAttrs_list PySem.F.slot_list_append PySem.F.type_list_append mt_append (pv 5) (pa_cons (pe_tup (pa_cons pe_str (pa_cons pe_str (pa_cons (pe_op op_mod (pe_op op_add (pv 4) (pe_call GP hr (by rfl) mP kP bP .nil pass0 (pa_cons (pv 0) (pa_cons (pe_lst (pa_cons pe_int (pa_cons pe_int (pa_cons pe_int pa_nil)))) pa_nil)))) (pv 1)) pa_nil)))) pa_nil)))) pss_nil) (fun D σ H ⟨p, c, DD, ks, y, n, sz, wy, k, L, e0, e1, e2, e4, e5, k0, k1, FA, hn, np, nc, st, q⟩ => by
              have sz0 : ((sz.toNat : Nat) : Int) = sz := Int.toNat_of_nonneg (by omega)
              have sub : ∀ x ∈ onW wy, x ∈ (["on"] : List Str) := fun x m => by
                unfold onW at m
                split at m
                · exact m
                · cases m
              have subl : (onW wy).length ≤ 1 := by
                unfold onW
                split <;> decide
              refine ⟨_, e2, rfl, _, rfl, ?_⟩
              by_cases w1 : wy = 1
              · rw [decide_eq_true (by rw [w1])]
                have ew : onW wy = [] := by unfold onW; rw [if_neg (by omega)]
                refine iteT ⟨_, e5, .inl ⟨rfl, _, SqL.of st.lst⟩, _, e4, _, e0, by show 3 ≤ sizeLine; decide, fun l hl => ?_⟩
                have s1 := same_new (o := .lst [V.int 1, .int 1, .int 2]) hl
                refine ⟨p, c, l, ks, _, y, n, rfl, FA.same s1, by omega, upd_same, Ne.symm (ne_of_none FA.ob hl), Ne.symm (ne_of_none FA.cs hl), by show 1 ≤ 3; decide, by show 3 ≤ 100; decide, fun v ks1 H1 mv FA1 sv1 => ?_⟩
                obtain ⟨i, rfl, i0⟩ : ∃ i : Int, v = .int i ∧ 0 ≤ i := by
                  rcases List.mem_cons.mp mv with rfl | mv
                  · exact ⟨1, rfl, by decide⟩
                  rcases List.mem_cons.mp mv with rfl | mv
                  · exact ⟨1, rfl, by decide⟩
                  · rw [List.mem_singleton.mp mv]
                    exact ⟨2, rfl, by decide⟩
                refine ⟨_, _, rfl, rfl, _, e1, _, _, rfl, rfl, by omega, by show 3 ≤ sizeLine; decide, fun b hb => ?_⟩
                have m0 := Int.emod_nonneg (k + i) (show sz ≠ 0 by omega)
                have m1 := Int.emod_lt_of_pos (k + i) (show 0 < sz by omega)
                have s2 := same_new (o := .tup [V.str "on", .str "ok", .int ((k + i) % sz)]) hb
                have st1 := (st.keep (s1 _ _ st.lst) (Tup.of s1)).keep (sv1 _ _ (s1 _ _ st.lst) np nc) (Save.tup (FA.same s1) sv1)
                have st2 := st1.keep (s2 _ _ st1.lst) (Tup.of s2)
                rw [ew] at st2
                refine ⟨DD, _, _, rfl, rfl, st2.lst, small_lt (m := 10) (by rw [List.length_map]; have := st2.le; exact Nat.le_trans this (by decide)), ?_⟩
                have z := st2.put (b := b) (x := ("on", "ok", (k + i) % sz)) upd_same ⟨wrd_on.1, wrd_on.2.2.2, m0, by show _ < ((sz.toNat : Nat) : Int); rw [sz0]; exact m1⟩ rfl (fun m => nomatch m)
                refine q _ (L ++ [(b, trK ("on", "ok", (k + i) % sz))]) ks1 (n + 1) z ((FA1.same s2).wr np nc) (by omega) fun a o e ne n1 n2 => ?_
                rw [upd_ne ne]
                exact s2 _ _ (sv1 _ _ (s1 _ _ e) n1 n2)
              · rw [decide_eq_false (fun z => w1 (V.int.inj z))]
                exact iteF (q H L ks n (st.more sub subl) FA (by omega) fun a o e _ _ _ => e))) (pss_cons (ps_for PassesOwn.never rfl (pi_list (pe_lst (pa_cons pe_str (pa_cons pe_str pa_nil)))) (pg_name (i := 6) scDn.nd rfl (Or.inl rfl)) (pss_one (ps_if (PW.pt (pw_and (pt_cmpR op_eq (pe_call GD hr1 (by rfl) mD kD bD .nil pass0 (pa_cons (pv 0) (pa_cons pe_int pa_nil))) pe_int (nomark _)) (pw_and1 (pt_cmpR op_ne (pv 2) pe_int (nomark _))))) (pss_one (ps_expr (pe_bm PySem.F.plainAttrs_list PySem.F.slot_list_append PySem.F.type_list_append mt_append (pv 5) (pa_cons (pe_tup (pa_cons (pv 6) (pa_cons pe_str (pa_cons (pe_call GD hr1 (by rfl) mD kD bD .nil pass0 (pa_cons (pv 0) (pa_cons (pv 1) pa_nil))) pa_nil)))) pa_nil)))) pss_nil))) (pss_one (ps_expr (pe_bm PySem.F.plainAttrs_list PySem.F.slot_list_append PySem.F.type_list_append mt_append (pv 3) (pa_cons (pe_callTy call_tuple_of (by rfl) G.tuple (by decide +kernel) (pa_cons (pe_callB (r := rSortL K) (cr_sortL hu) (by rfl) G.sorted PyProof.Rows.boot_sorted (pa_cons (pv 5) pa_nil)) pa_nil)) pa_nil))))))))) (pss_one (ps_ret (pe_callTy call_tuple_of (by rfl) G.tuple (by decide +kernel) (pa_cons (pv 3) pa_nil))))))), ?_⟩
    have n0 := FA.n0
    refine ⟨_, rfl, by show 7 ≤ sizeLine; decide, fun l hl => ?_⟩
    have s1 := same_new (o := .lst [V.int 1, .int 2, .int 3, .int 5, .int 9, .int 20, .int 40]) hl
    refine ⟨p, c, l, ks, _, y, n, rfl, FA.same s1, by omega, upd_same, Ne.symm (ne_of_none FA.ob hl), Ne.symm (ne_of_none FA.cs hl), by show 1 ≤ 7; decide, by show 7 ≤ 100; decide, fun v ks1 H1 mv FA1 sv1 => ?_⟩
    obtain ⟨sz, rfl, z1, z40⟩ : ∃ i : Int, v = .int i ∧ 1 ≤ i ∧ i ≤ 40 := by
      simp only [List.mem_cons, List.not_mem_nil, or_false] at mv
      rcases mv with rfl | rfl | rfl | rfl | rfl | rfl | rfl <;> exact ⟨_, rfl, by decide, by decide⟩
    refine ⟨_, rfl, p, c, ks1, y, n + 1, 4, rfl, FA1, by omega, by decide, by decide, fun wy ks2 H2 w0 w4 FA2 sv2 => ⟨_, _, rfl, ?_⟩⟩
    have svA := ((Save.of (p := p) (c := c) s1).trans sv1).trans sv2
    refine ⟨by show 0 ≤ sizeLine; decide, fun fo hfo => ?_⟩
    have fop : fo ≠ p := Ne.symm (ne_of_none FA2.ob hfo)
    have foc : fo ≠ c := Ne.symm (ne_of_none FA2.cs hfo)
    have fo0 : H fo = none := by
      cases e : H fo with
      | none => rfl
      | some o => rw [svA _ _ e fop foc] at hfo; cases hfo
    refine ⟨_, rfl, sz, rfl, by omega, by omega, for_range (lo := 0) (n := sz.toNat) (fun j σ H4 => ∃ (o4 o5 o6 : Option V) (ks' : List Int) (n' : Int) (vs : List V) (ss : List (List Stp)), σ = [some (.ref p), some (.int sz), some (.int wy), some (.ref fo), o4, o5, o6] ∧ FeedAt H4 p c ks' y n' ∧ n' ≤ n + 2 + 6 * (j : Int) ∧ Save p c H H4 ∧ H4 fo = some (.lst vs) ∧ TDs H4 vs (ss.map stateD) ∧ ss.length = j ∧ ∀ st ∈ ss, StOk sz.toNat st ∧ ∀ x ∈ st, evOf x ∈ ([("on", "ok"), ("get", "ok"), ("put", "ok")] : List (Str × Str)))
      ⟨none, none, none, ks2, n + 1 + 1, [], [], rfl, FA2.wr fop foc, by omega, svA.wr fo0, upd_same, .nil, rfl, fun st m => nomatch m⟩ ?_ ?_⟩
    · rintro j σ H4 hj ⟨o4, o5, o6, ks4, n4, vs, ss, rfl, F4, le4, sv4, f4, t4, sl, so⟩
      refine ⟨by show 0 ≤ sizeLine; decide, fun DD hDD => ?_⟩
      have np : DD ≠ p := Ne.symm (ne_of_none F4.ob hDD)
      have nc : DD ≠ c := Ne.symm (ne_of_none F4.cs hDD)
      have nf : DD ≠ fo := Ne.symm (ne_of_none f4 hDD)
      have dd0 : H DD = none := by
        cases e : H DD with
        | none => rfl
        | some o => rw [sv4 _ _ e np nc] at hDD; cases hDD
      have st0 : Stt (upd H4 DD (.lst [])) DD [] sz.toNat [] := ⟨upd_same, (fun q m => nomatch m), List.nodup_nil, Nat.le_refl _⟩
      have F5 := F4.wr (o := .lst []) np nc
      have sv5 := sv4.wr (o := .lst []) dd0
      have f5 : (upd H4 DD (.lst [])) fo = some (.lst vs) := same_new hDD _ _ f4
      have t5 := t4.to (Tup.new (o := .lst []) hDD)
      generalize upd H4 DD (.lst []) = H5 at st0 F5 sv5 f5 t5 ⊢
      refine ⟨DD, sz, wy, 0 + (j : Int), rfl, rfl, rfl, rfl, by omega, by omega, st0, fun H6 L6 st6 kp6 => ?_⟩
      have F6 : FeedAt H6 p c ks4 y n4 := ⟨kp6 _ _ F5.ob (Ne.symm np), kp6 _ _ F5.cs (Ne.symm nc), F5.bits, F5.len, F5.w0, F5.w1, F5.n0⟩
      refine ⟨p, c, DD, ks4, y, n4, sz, wy, 0 + (j : Int), L6, rfl, rfl, rfl, rfl, rfl, by omega, by omega, F6, by omega, np, nc, st6, fun H7 L7 ks7 n7 st7 F7 le7 kp7 => ?_⟩
      have kp57 : ∀ b o, H5 b = some o → b ≠ DD → b ≠ p → b ≠ c → H7 b = some o := fun b o e a1 a2 a3 => kp7 _ _ (kp6 _ _ e a1) a1 a2 a3
      -- the two words
      refine ⟨by show 2 ≤ sizeLine; decide, fun wl hwl => ?_⟩
      have sw := same_new (o := .lst [V.str "get", .str "put"]) hwl
      have wp : wl ≠ p := Ne.symm (ne_of_none F7.ob hwl)
      have wc : wl ≠ c := Ne.symm (ne_of_none F7.cs hwl)
      have wd_ : wl ≠ DD := Ne.symm (ne_of_none st7.lst hwl)
      have st8 := st7.keep (sw _ _ st7.lst) (Tup.of sw)
      have aw : (upd H7 wl (.lst [V.str "get", .str "put"])) wl = some (.lst [V.str "get", .str "put"]) := upd_same
      refine ⟨wl, rfl, ⟨_, SqL.of aw⟩, for_list (K := K) (a := wl) (xs := [V.str "get", .str "put"]) (fun i σ H8 => ∃ (o6 : Option V) (ks8 : List Int) (n8 : Int) (L8 : List (Addr × List Key)), σ = [some (.ref p), some (.int sz), some (.int wy), some (.ref fo), some (.int (0 + (j : Int))), some (.ref DD), o6] ∧ FeedAt H8 p c ks8 y n8 ∧ n8 ≤ n7 + 2 * (i : Int) ∧ Stt H8 DD L8 sz.toNat ((["on", "get", "put"] : List Str).take (i + 1)) ∧ H8 wl = some (.lst [V.str "get", .str "put"]) ∧ ∀ b o, H5 b = some o → b ≠ DD → b ≠ p → b ≠ c → H8 b = some o)
        ⟨o6, ks7, n7, L7, rfl, F7.same sw, by omega, st8, aw, fun b o e a1 a2 a3 => sw _ _ (kp57 b o e a1 a2 a3)⟩ (fun i σ H8 _ ⟨_, _, _, _, _, _, _, _, h, _⟩ => SqL.of h) ?_ ?_⟩
      · rintro i x σ H8 ex ⟨p6, ks8, n8, L8, rfl, F8, le8, s8, a8, kp8⟩
        have li : i < 2 := (List.getElem?_eq_some_iff.mp ex).1
        obtain ⟨wd, rfl, ww, nin, tk⟩ : ∃ wd : Str, x = .str wd ∧ Wrd wd ∧ wd ∉ (["on", "get", "put"] : List Str).take (i + 1) ∧ (["on", "get", "put"] : List Str).take (i + 1 + 1) = (["on", "get", "put"] : List Str).take (i + 1) ++ [wd] := by
          obtain rfl | rfl : i = 0 ∨ i = 1 := by omega
          · exact ⟨"get", (Option.some.inj ex).symm, wrd_on.2.1, by decide +kernel, rfl⟩
          · exact ⟨"put", (Option.some.inj ex).symm, wrd_on.2.2.1, by decide +kernel, rfl⟩
        have grow : ∀ {H' : Hp} {L : List (Addr × List Key)}, Stt H' DD L sz.toNat ((["on", "get", "put"] : List Str).take (i + 1)) → Stt H' DD L sz.toNat ((["on", "get", "put"] : List Str).take (i + 1 + 1)) := fun h => by
          rw [tk]
          exact h.more (fun z m => List.mem_append_left _ m) (by rw [List.length_append]; omega)
        refine ⟨_, rfl, p, c, ks8, y, n8, 3, rfl, F8, by omega, by decide, by decide, fun d ks9 H9 d0 d3 F9 sv9 => ⟨rfl, _, rfl, ?_⟩⟩
        have s9 := s8.keep (sv9 _ _ s8.lst np nc) (Save.tup F8 sv9)
        have a9 := sv9 _ _ a8 wp wc
        have kp9 : ∀ b o, H5 b = some o → b ≠ DD → b ≠ p → b ≠ c → H9 b = some o := fun b o e a1 a2 a3 => sv9 _ _ (kp8 b o e a1 a2 a3) a2 a3
        cases decide (V.int d = V.int 0) with
        | false => exact iteF (iteF ⟨_, ks9, n8 + 1, L8, rfl, F9, by omega, grow s9, a9, kp9⟩)
        | true =>
          refine iteT ⟨_, rfl, rfl, _, rfl, ?_⟩
          cases !decide (V.int wy = V.int 0) with
          | false => exact iteF ⟨_, ks9, n8 + 1, L8, rfl, F9, by omega, grow s9, a9, kp9⟩
          | true =>
            refine iteT ⟨_, rfl, .inl ⟨rfl, _, SqL.of s9.lst⟩, _, rfl, _, rfl, _, rfl, p, c, ks9, y, n8 + 1, sz, rfl, F9, by omega, by omega, by omega, fun g ks10 Ha g0 g1 Fa sva => ⟨by show 3 ≤ sizeLine; decide, fun b hb => ?_⟩⟩
            have sb := same_new (o := .tup [V.str wd, .str "ok", .int g]) hb
            have sa := (s9.keep (sva _ _ s9.lst np nc) (Save.tup F9 sva))
            have sb2 := sa.keep (sb _ _ sa.lst) (Tup.of sb)
            refine ⟨DD, _, _, rfl, rfl, sb2.lst, small_lt (m := 10) (by rw [List.length_map]; have z := sb2.le; rw [List.length_take] at z; simp at z; omega), ?_⟩
            have z := sb2.put (b := b) (x := (wd, "ok", g)) upd_same ⟨ww, wrd_on.2.2.2, g0, by show g < ((sz.toNat : Nat) : Int); omega⟩ rfl nin
            refine ⟨_, ks10, n8 + 1 + 1, _, rfl, (Fa.same sb).wr np nc, by omega, by rw [tk]; exact z, ?_, fun b' o e a1 a2 a3 => ?_⟩
            · rw [upd_ne wd_]
              exact sb _ _ (sva _ _ a9 wp wc)
            · rw [upd_ne a1]
              exact sb _ _ (sva _ _ (kp9 b' o e a1 a2 a3) a2 a3)
      · rintro σ H8 ⟨p6, ks8, n8, L8, rfl, F8, le8, s8, a8, kp8⟩
        have le8' : n8 ≤ n7 + 4 := le8
        have f8 := kp8 _ _ f5 (Ne.symm nf) fop foc
        have tup8 : Tup H5 H8 := fun a xs e => kp8 _ _ e (fun z => by rw [z, st0.lst] at e; cases e) (fun z => by rw [z, F5.ob] at e; cases e) (fun z => by rw [z, F5.cs] at e; cases e)
        refine ⟨_, rfl, .inl ⟨rfl, _, SqL.of f8⟩, _, rfl, DD, L8, rfl, SqL.of s8.lst, (fun q m => SqT.of (s8.at_ q m).1), ?_, ?_, fun q hq => ?_⟩
        · intro d hd d' hd'
          obtain ⟨q, m, rfl⟩ := List.mem_map.mp hd
          obtain ⟨r, m', rfl⟩ := List.mem_map.mp hd'
          obtain ⟨_, x, e1, _⟩ := s8.at_ q m
          obtain ⟨_, x', e2, _⟩ := s8.at_ r m'
          rw [e1, e2]
          rfl
        · refine .inl fun d hd => ?_
          obtain ⟨q, m, rfl⟩ := List.mem_map.mp hd
          obtain ⟨_, x, e1, _⟩ := s8.at_ q m
          rw [e1]
          exact ⟨_, _, rfl⟩
        obtain ⟨xs, e1, e2, e3⟩ := sorted_tr L8 (fun q m => let ⟨_, x, e, _⟩ := s8.at_ q m; ⟨x, e⟩) s8.nd
        have memM : ∀ r ∈ L8.mergeSort (PySem.W.dataLe false fun q : Addr × List Key => tD q.2), H8 r.1 = some (.tup (r.2.map kV)) := fun r mr => (s8.at_ r ((List.mergeSort_perm _ _).mem_iff.mp mr)).1
        have lenM : (L8.mergeSort (PySem.W.dataLe false fun q : Addr × List Key => tD q.2)).length ≤ 3 := by
          rw [List.length_mergeSort]
          have z := s8.le
          rw [List.length_take] at z
          simp at z
          omega
        generalize L8.mergeSort (PySem.W.dataLe false fun q : Addr × List Key => tD q.2) = M at e1 memM lenM ⊢
        have lx : xs.length = M.length := by
          have z := congrArg List.length e1
          rw [List.length_map, List.length_map] at z
          exact z.symm
        refine ⟨q, _, rfl, .inl ⟨SqL.of upd_same, fun r hr3 => ?_⟩⟩
        have sq := (same_new (o := .lst (M.map fun q => V.ref q.1)) hq).trans (same_new (o := .tup (M.map fun q => V.ref q.1)) hr3)
        have td : TD (upd (upd H8 q (.lst (M.map fun q => V.ref q.1))) r (.tup (M.map fun q => V.ref q.1))) (.ref r) (stateD xs) := .tup upd_same (rows_tr M xs e1 fun z m => sq _ _ (memM z m))
        have f9 := sq _ _ f8
        have vl := t5.len
        rw [List.length_map] at vl
        refine ⟨fo, vs, _, rfl, rfl, f9, small_lt (m := 40) (by omega), ?_⟩
        have tp := Tup.at_ (o' := .lst vs) (o := .lst (vs ++ [V.ref r])) f9 fun xs z => nomatch z
        refine ⟨_, _, _, ks8, n8, vs ++ [.ref r], ss ++ [xs], rfl, (F8.same sq).wr fop foc, by omega, fun b o e a1 a2 => ?_, upd_same, ?_, by rw [List.length_append, sl]; rfl, fun st ms => ?_⟩
        · rw [upd_ne (fun z => by rw [z, fo0] at e; cases e)]
          exact sq _ _ (kp8 _ _ (sv5 _ _ e a1 a2) (fun z => by rw [z, dd0] at e; cases e) a1 a2)
        · rw [List.map_append]
          exact TDs.snoc (td.to tp) (((t5.to tup8).to (Tup.of sq)).to tp)
        · rcases List.mem_append.mp ms with z | z
          · exact so st z
          · rw [List.mem_singleton.mp z]
            have back : ∀ x ∈ xs, StpOk sz.toNat x ∧ x.2.1 = "ok" ∧ x.1 ∈ (["on", "get", "put"] : List Str) := fun x mx => by
              obtain ⟨r, mr, er⟩ := List.mem_map.mp (e3 x mx)
              obtain ⟨_, x', e4, ok, o, w⟩ := s8.at_ r mr
              rw [er] at e4
              rw [trK_inj e4]
              exact ⟨ok, o, List.mem_of_mem_take w⟩
            refine ⟨⟨fun x mx => (back x mx).1, e2, by omega⟩, fun x mx => ?_⟩
            obtain ⟨_, o, w⟩ := back x mx
            have ee : evOf x = ((x.1, "ok") : Str × Str) := by rw [← o]
            rw [ee]
            simp only [List.mem_cons, List.not_mem_nil, or_false] at w ⊢
            rcases w with w | w | w <;> rw [w] <;> simp
    · rintro σ H4 ⟨o4, o5, o6, ks4, n4, vs, ss, rfl, F4, le4, sv4, f4, t4, sl, so⟩
      refine ⟨_, rfl, fo, vs, rfl, .inl ⟨SqL.of f4, fun b hb => k b ss ks4 n4 _ (.tup upd_same (t4.to (Tup.new hb))) ⟨by omega, by omega, fun st ms => ?_, _, by decide, fun st ms x mx => (so st ms).2 x mx⟩ (F4.same (same_new hb)) (by omega) (sv4.trans (Save.of (same_new hb)))⟩⟩
      rw [sl]
      exact (so st ms).1
end
end My

-- ===== K4P =====
set_option Elab.async false
set_option linter.all false
set_option maxRecDepth 100000
set_option maxHeartbeats 4000000
namespace My
open PySem L2 PyProof.Rows PySem.Spec Kd TL
def spPickT : Sp := fun vs H Q _ => ∃ (p c a : Addr) (ks : List Int) (xs : List V) (w n : Int), vs = [.ref p, .ref a] ∧ FeedAt H p c ks w n ∧ n < 999999 ∧ H a = some (.tup xs) ∧ a ≠ p ∧ a ≠ c ∧ 1 ≤ xs.length ∧ xs.length ≤ 100 ∧
  ∀ (v : V) (ks' : List Int) (H' : Hp), v ∈ xs → FeedAt H' p c ks' w (n + 1) → Save p c H H' → Q v H'
section
variable {P : Program} {w : World} {K : PySem.W.Frag} {mg : Str → Option Value} {base : Heap}
theorem ok_pickT {f fD : Addr} {fd fdD : FuncData} (F : Fun K "_law_pick" "_law_pick" sPick f fd) (mlen : mg "len" = none)
    (GD : FnOk P w K mg base CX0 1 fD fdD ["_law_feed_here", "_law_many"] spDigit) (mD : mg "_law_digit" = some (.ref fD)) (kD : PySem.W.keepIn K (.ref fD) = true) (bD : Binds K fdD ["_law_feed_here", "_law_many"] []) :
    FnOk P w K mg base CX0 2 f fd ["_law_feed_here", "_law_some"] spPickT := by
  refine F.ok scPi (fun vs H Q E h => ?_) (fun cdv A outer s H vs Q E hr h => ?_)
  · obtain ⟨p, c, a, ks, xs, y, n, rfl, _⟩ := h
    rfl
  · obtain ⟨p, c, a, ks, xs, y, n, rfl, FA, hn, ha, np, nc, l0, l1, k⟩ := h
    refine ⟨_, pss_one (ps_ret (pe_ix ix_tup (pv 1) (pe_call GD hr (by rfl) mD kD bD .nil pass0 (pa_cons (pv 0) (pa_cons (pe_callB (r := rLenQ K) call_len_seq (by rfl) mlen PySem.boot_len (pa_cons (pv 1) pa_nil)) pa_nil))) (fun _ _ => rfl))), ?_⟩
    refine ⟨_, rfl, _, rfl, _, rfl, a, _, rfl, .inr (SqT.of ha), p, c, ks, y, n, _, rfl, FA, by omega, by omega, by omega, fun i ks' H' i0 i1 FA' sv => ?_⟩
    obtain ⟨x, hx, e⟩ := at_nat (xs := xs) i0 i1
    exact ⟨a, _, i, _, rfl, rfl, SqT.of (sv a _ ha np nc), e, k x ks' H' hx FA' sv⟩
end
end My

-- ===== K4Y0 =====
set_option Elab.async false
set_option linter.all false
set_option maxRecDepth 100000
set_option maxHeartbeats 4000000
namespace My
open PySem L2 PyProof.Rows PySem.Spec Kd TL
/-! ### what is reached: the mathematics of the law -/
theorem Rch.sub {ss : List (List Stp)} {S T : List Int} (h : ∀ i ∈ S, Rch ss T i) {i : Int} (r : Rch ss S i) : Rch ss T i := by
  induction r with
  | base m => exact h _ m
  | step _ e m ih => exact .step ih e m
theorem Rch.same {ss : List (List Stp)} {S T : List Int} (h : ∀ i, i ∈ S ↔ i ∈ T) (i : Int) : Rch ss S i ↔ Rch ss T i :=
  ⟨fun r => r.sub fun j m => .base ((h j).mp m), fun r => r.sub fun j m => .base ((h j).mpr m)⟩
theorem Rch.inn {ss : List (List Stp)} {S : List Int} (so : KOk ss) (h : ∀ i ∈ S, 0 ≤ i ∧ i < (ss.length : Int)) {i : Int} (r : Rch ss S i) : 0 ≤ i ∧ i < (ss.length : Int) := by
  induction r with
  | base m => exact h _ m
  | step _ e m ih => exact ⟨((so.all _ (List.mem_of_getElem? e)).all _ m).lo, ((so.all _ (List.mem_of_getElem? e)).all _ m).hi⟩
/-- two answers about what some states lead to are one -/
theorem rch_one {ss : List (List Stp)} {S T fs gs : List Int} (h : ∀ i, i ∈ S ↔ i ∈ T) (a : fs.Pairwise (· < ·)) (ra : ∀ i, i ∈ fs ↔ Rch ss S i) (b : gs.Pairwise (· < ·)) (rb : ∀ i, i ∈ gs ↔ Rch ss T i) : fs = gs :=
  asc_same a b fun i => (ra i).trans ((Rch.same h i).trans (rb i).symm)
theorem rch_least {n : Nat} {fs : List Int} (p : Int → Prop) (a : fs.Pairwise (· < ·)) (ra : ∀ i, i ∈ fs ↔ p i) (inn : ∀ i, p i → 0 ≤ i ∧ i < (n : Int)) (all : ∀ k : Nat, k < n → p (k : Int)) : fs = (List.range n).map fun (k : Nat) => (k : Int) := by
  refine asc_same a ?_ fun i => (ra i).trans ⟨fun r => ?_, fun m => ?_⟩
  · rw [List.pairwise_map]
    exact List.pairwise_lt_range.imp fun h => by omega
  · obtain ⟨h0, h1⟩ := inn i r
    exact List.mem_map.mpr ⟨i.toNat, List.mem_range.mpr (by omega), by omega⟩
  · obtain ⟨k, m1, rfl⟩ := List.mem_map.mp m
    exact all k (List.mem_range.mp m1)
theorem rev_mem (S : List Int) (i : Int) : i ∈ S ↔ i ∈ S.reverse := List.mem_reverse.symm
theorem two_mem (x i : Int) : i ∈ [x, x] ↔ i ∈ [x] := by simp
theorem rch_nil {ss : List (List Stp)} {i : Int} (r : Rch ss [] i) : False := by
  induction r with
  | base m => cases m
  | step _ _ _ ih => exact ih
/-- whole numbers as data -/
def intsD (fs : List Int) : PyData := .tuple (fs.map PyData.int)
theorem tds_ints {H : Hp} : ∀ fs : List Int, TDs H (fs.map V.int) (fs.map PyData.int)
  | [] => .nil
  | i :: fs => .cons (.int i) (tds_ints fs)
theorem td_ints {H : Hp} {c : Addr} {fs : List Int} (h : H c = some (.tup (fs.map V.int))) : TD H (.ref c) (intsD fs) := .tup h (tds_ints fs)
theorem sh_small : ∀ i : Fin 40, (PyData.int (i.val : Int)).showable = true ∧ (PyData.int (i.val : Int)).shown.length ≤ 4 := by decide +kernel
theorem sh_int {i : Int} (h0 : 0 ≤ i) (h1 : i < 40) : Sh 4 (.int i) := by
  have z := sh_small ⟨i.toNat, by omega⟩
  have e : ((i.toNat : Nat) : Int) = i := Int.toNat_of_nonneg h0
  simp only [e] at z
  exact ⟨z.1, z.2⟩
theorem sh_ints {fs : List Int} (l : fs.length ≤ 40) (h : ∀ i ∈ fs, 0 ≤ i ∧ i < 40) : Sh 243 (intsD fs) :=
  sh_tuple (k := 4) (m := 40) (fun d m => by
    obtain ⟨i, mi, rfl⟩ := List.mem_map.mp m
    exact sh_int (h i mi).1 (h i mi).2) (by rw [List.length_map]; exact l)
theorem deep_int : ∀ fs : List Int, PyData.depthAll (fs.map PyData.int) ≤ 2
  | [] => by simp only [List.map_nil, PyData.depthAll]; omega
  | i :: fs => by
    have z := deep_int fs
    simp only [List.map_cons, PyData.depthAll, PyData.depth]
    omega
theorem deep_intsD (fs : List Int) : (intsD fs).depth ≤ 60 := by
  have z := deep_int fs
  show PyData.depth (.tuple (fs.map PyData.int)) ≤ 60
  simp only [PyData.depth]
  omega
theorem rch_small {ss : List (List Stp)} {S fs : List Int} (so : KOk ss) (inn : ∀ i ∈ S, 0 ≤ i ∧ i < (ss.length : Int)) (r : ∀ i, i ∈ fs ↔ Rch ss S i) : ∀ i ∈ fs, 0 ≤ i ∧ i < 40 := fun i m => by
  have z := Rch.inn so inn ((r i).mp m)
  have most := so.most
  omega
theorem rch_len {ss : List (List Stp)} {S fs : List Int} (so : KOk ss) (inn : ∀ i ∈ S, 0 ≤ i ∧ i < (ss.length : Int)) (a : fs.Pairwise (· < ·)) (r : ∀ i, i ∈ fs ↔ Rch ss S i) : fs.length ≤ 40 := by
  have nd : fs.Nodup := a.imp fun h e => by omega
  have z := ints_most nd fun i m => Rch.inn so inn ((r i).mp m)
  have most := so.most
  omega
end My

-- ===== K4Y =====
set_option Elab.async false
set_option linter.all false
set_option maxRecDepth 100000
set_option maxHeartbeats 4000000
namespace My
open PySem L2 PyProof.Rows PySem.Spec Kd TL StX
structure KOf (P : Program) (w : World) (K : PySem.W.Frag) (mg : Str → Option Value) (base : Heap) (C : Addr) : Prop where
  nm : mg "Kind" = some (.ref C)
  cr : ∃ mc, ClX.CRead K C mc ∧ ∃ p g fd, ClX.CMet K C mc "of" p g ∧ FnOk P w K mg base CX0 7 g fd ["cls", "states"] (spOf C) ∧ Binds K fd ["cls", "states"] []
theorem kind_save {C p c : Addr} {H H' : Hp} {v : V} {ss : List (List Stp)} {ks : List Int} {y n : Int} (h : KindAt C H v ss) (so : KOk ss) (F : FeedAt H p c ks y n) (sv : Save p c H H') : KindAt C H' v ss := by
  obtain ⟨o, dx, a, m, rfl, ho, ht, bs, h1, h2, h3⟩ := h
  have one := so.one
  have keep : ∀ {x : Addr} {u : HO}, H x = some u → (∀ ys, u ≠ .lst ys) → H' x = some u := fun {x u} e n =>
    sv _ _ e (fun z => by rw [z, F.ob] at e; exact n _ (Option.some.inj e).symm) (fun z => by rw [z, F.cs] at e; exact n _ (Option.some.inj e).symm)
  obtain ⟨b, bs, rfl⟩ : ∃ b r, bs = b :: r := by
    cases bs with
    | nil => simp at h2; omega
    | cons b r => exact ⟨b, r, rfl⟩
  have np : m ≠ p := fun z => by
    rw [z, F.ob] at h1
    have e := HO.lst.inj (Option.some.inj h1)
    rw [List.map_cons] at e
    injection e with _ e
    cases bs with
    | nil => cases e
    | cons b2 r => injection e with e _; cases e
  have nc : m ≠ c := fun z => by
    rw [z, F.cs] at h1
    have e := HO.lst.inj (Option.some.inj h1)
    cases ks with
    | nil => cases e
    | cons i r => injection e with e _; cases e
  exact ⟨o, dx, a, m, rfl, keep ho (fun _ z => nomatch z), ht.to (Save.tup F sv), b :: bs, sv _ _ h1 np nc, h2, fun i b' st e1 e2 => keep (h3 i b' st e1 e2) (fun _ z => nomatch z)⟩
theorem kind_ins {C o : Addr} {H : Hp} {ss : List (List Stp)} (h : KindAt C H (.ref o) ss) : ∃ dx fs, H o = some (.ins C dx fs) ∧ fs.lookup ("reached" : Str) = none := by
  obtain ⟨o', dx, a, m, ev, ho, _⟩ := h
  obtain rfl : o = o' := V.ref.inj ev
  exact ⟨dx, _, ho, rfl⟩
def spLaw (K : PySem.W.Frag) : Sp := fun vs H Q _ => ∃ (a : Addr) (ns : List Int), vs = [.ref a] ∧ SqL K H a (ns.map V.int) ∧ ns.length ≤ 63 ∧ Bits ns ∧ ∀ H', Q (.bl true) H'
theorem pe_methR0 {X : Cx} {CX : CXT} {k : Nat} {C f : Addr} {sp : Sp} {E : XK} {o : Expr} {m : Str} {pos apos : Pos} {ta : TE} {pl : Sem Bool} (he : PE X o ta) (c : Cls X.K C) (hm : Meth X.K C m f) (F : FnR X.prog X.w X.K X.mg X.base CX k f sp) (hr : Room k X.A) (hx : Passes CX X E) (ht : eval (.Call (.Attribute o m apos) [] [] pos) X.env = (do let ov ← eval o X.env; standAt apos.atName; let (f, first) ← holding [ov] (getMethod ov m pl); callWith pos f first (backTo pos (starEach [] X.env)) (backToKw pos (keywordEach [] X.env))) := by rfl) : PE X (.Call (.Attribute o m apos) [] [] pos) (tMethR C m sp E ta tNil) := by
  refine ⟨fun pins s σ H Q I h => PySem.W.methodCall_KW (pl := pl) (thn (he.run pins s σ H _ I h) fun u s1 ⟨x, H1, I1, rx, a, dx, fs, ex, ea, l, q⟩ => ?_) ht⟩
  subst ex
  obtain rfl : u = Value.ref a := rx
  exact getmeth_ok I1 ea c hm l (PySem.W.callWith_K0 (first := [.ref a]) I1.kIn hm.kp (wpAny_call (run_fnR (us := [.ref a]) (vs := [.ref a]) F hr hx I1 (.cons rfl .nil) q)))
theorem fnR_of {P : Program} {w : World} {K : PySem.W.Frag} {mg : Str → Option Value} {base : Heap} {CX : CXT} {k : Nat} {f : Addr} {fd : FuncData} {ps : List Str} {sp : Sp} (F : FnOk P w K mg base CX k f fd ps sp) (hb : Binds K fd ps []) : FnR P w K mg base CX k f sp :=
  (F.raw hb .nil).imp fun vs H Q E h => by rw [List.append_nil]; exact h
section
variable {P : Program} {w : World} {K : PySem.W.Frag} {mg : Str → Option Value} {base : Heap} {C : Addr}
abbrev nLw : List Str := ["_law_script", "_law_feed_here", "_law_turn", "_law_states", "_law_made", "_law_k", "_law_some", "_law_due", "_law_one", "_law_short", "_law_j", "_law_here"]
theorem scLw : FnScope nLw ["_law_script"] (defScope sLaw) := ⟨rfl, rfl, rfl, by decide +kernel, rfl, by decide +kernel, by decide +kernel⟩
theorem ok_law {f fF fW fD fC fT fP gR gN pp gL : Addr} {fd fdF fdW fdD fdC fdT fdP fdL : FuncData} (F : Fun K "law" "law" sLaw f fd) (G : Gs mg) (T : KOf P w K mg base C) (cl : Cls K C)
    (GF : FnOk P w K mg base CX0 1 fF fdF ["_law_script"] (spFeed K)) (mF : mg "_law_feed" = some (.ref fF)) (kF : PySem.W.keepIn K (.ref fF) = true) (bF : Binds K fdF ["_law_script"] [])
    (GD : FnOk P w K mg base CX0 1 fD fdD ["_law_feed_here", "_law_many"] spDigit) (mD : mg "_law_digit" = some (.ref fD)) (kD : PySem.W.keepIn K (.ref fD) = true) (bD : Binds K fdD ["_law_feed_here", "_law_many"] [])
    (GW : FnOk P w K mg base CX0 3 fW fdW ["_law_feed_here"] spDrawn) (mW : mg "_law_drawn" = some (.ref fW)) (kW : PySem.W.keepIn K (.ref fW) = true) (bW : Binds K fdW ["_law_feed_here"] [])
    (GC : FnOk P w K mg base CX0 1 fC fdC ["_law_states", "_law_some"] spClos) (mC : mg "_law_closure" = some (.ref fC)) (kC : PySem.W.keepIn K (.ref fC) = true) (bC : Binds K fdC ["_law_states", "_law_some"] [])
    (GT : FnOk P w K mg base CX0 3 fT fdT ["_law_made", "_law_some"] (spTold C)) (mT : mg "_law_told" = some (.ref fT)) (kT : PySem.W.keepIn K (.ref fT) = true) (bT : Binds K fdT ["_law_made", "_law_some"] [])
    (GP : FnOk P w K mg base CX0 2 fP fdP ["_law_feed_here", "_law_some"] spPickT) (mP : mg "_law_pick" = some (.ref fP)) (kP : PySem.W.keepIn K (.ref fP) = true) (bP : Binds K fdP ["_law_feed_here", "_law_some"] [])
    (hm : Meth K C "reached" gR) (GR : FnR P w K mg base CX0 2 gR (spRchdR C))
    (hLs : PySem.W.findIn K (.ref C) "__len__" = some (some (.ref gN))) (hLf : PySem.W.isFn K (.ref gN) = true) (GN : FnR P w K mg base CX0 1 gN (spKlen C))
    (pL : PropOf K C "least" pp gL) (GL : FnOk P w K mg base CX0 7 gL fdL ["self"] (spKleast C)) (bL : Binds K fdL ["self"] []) :
    FnG true (fun A => A.guards = some []) P w K mg base CX0 9 f fd ["_law_script"] (spLaw K) := by
  obtain ⟨mc, cr, p1, g1, fd1, m1, G1, b1⟩ := T.cr
  have R1 := fnR_of G1 b1
  refine okG F scLw (fun vs H Q E h => ?_) (fun cdv A outer s H vs Q E hh hgA hr h => ?_)
  · obtain ⟨a, ns, rfl, _⟩ := h
    rfl
  · obtain ⟨a, ns, rfl, hS, hlen, hbits, k⟩ := h
    have hR : Room 8 (A.deeper (envOfC "law" (defScope sLaw) s.heap.objs.size f cdv)) := ⟨hh rfl, hr.dp, hr.un⟩
    have hG : (A.deeper (envOfC "law" (defScope sLaw) s.heap.objs.size f cdv)).guards = some [] := hgA
    have hu := hR.units
    have hR7 := hR.mono (show 7 ≤ 8 by omega)
    have hR3 := hR.mono (show 3 ≤ 8 by omega)
    have hR2 := hR.mono (show 2 ≤ 8 by omega)
    have hR1 := hR.mono (show 1 ≤ 8 by omega)
    refine ⟨_, PSs.nox (pss_cons (ps_set (i := 1) scLw.nd rfl (Or.inr rfl) (pe_call GF hR1 (by rfl) mF kF bF .nil pass0 (pa_cons (pv 0) pa_nil))) (pss_cons (ps_for PassesOwn.never rfl (pi_range1 (by rfl) G.range (pa_cons pe_int pa_nil)) (pg_name (i := 2) scLw.nd rfl (Or.inl rfl)) (pss_cons (ps_set (i := 3) scLw.nd rfl (Or.inr rfl) (pe_call GW hR3 (by rfl) mW kW bW .nil pass0 (pa_cons (pv 1) pa_nil))) (pss_cons (ps_set (i := 4) scLw.nd rfl (Or.inl rfl) (ClX.pe_cmeth (pl := _) (pe_glob (v := .ref C) (by rfl) T.nm rfl) cr m1 R1 hR7 pass0 (pa_cons (pv 3) pa_nil))) (pss_cons (ps_if (pt_cmpR op_ne (pe_callB (call_reprD (F := fun _ => True) hG hu) (by rfl) G.repr boot_repr (pa_cons (pe_methR0 (pl := _) (pv 4) cl hm GR hR2 pass0) pa_nil)) pe_str (nomark _)) (pss_one (ps_ret pe_bl)) pss_nil) (pss_cons (ps_for PassesOwn.never rfl (pi_range1 (by rfl) G.range (pa_cons pe_int pa_nil)) (pg_name (i := 5) scLw.nd rfl (Or.inl rfl)) (pss_cons (ps_setLc (i := 6) (own := [("_law_j", 10)]) (g := gName 10) (tt := tYes) rfl scLw.nd rfl rfl (sw_true rfl rfl rfl (by decide +kernel)) (pi_range1 (by rfl) G.range (pa_cons (pe_op op_add pe_int (pe_call GD hR1 (by rfl) mD kD bD .nil pass0 (pa_cons (pv 1) (pa_cons pe_int pa_nil)))) pa_nil)) (blkOk_by (N := nLw) (sc := defScope sLaw) (by decide +kernel)) (fun _ _ _ _ _ => pg_name (i := 10) scLw.nd rfl (Or.inl rfl)) (fun _ _ _ _ _ => pts_nil) (fun _ _ _ _ _ => (pe_call GD hR1 (by rfl) mD kD bD .nil pass0 (pa_cons (pv 1) (pa_cons (pe_callB (r := rLenQ K) call_len_seq (by rfl) G.len PySem.boot_len (pa_cons (pv 3) pa_nil)) pa_nil))))) (pss_cons (ps_set (i := 7) scLw.nd rfl (Or.inr rfl) (pe_call GC hR1 (by rfl) mC kC bC .nil pass0 (pa_cons (pv 3) (pa_cons (pv 6) pa_nil)))) (pss_cons (ps_if (PW.pt (pw_or (pt_cmpR op_ne (pe_callB (call_reprD (F := fun _ => True) hG hu) (by rfl) G.repr boot_repr (pa_cons (pe_call GT hR3 (by rfl) mT kT bT .nil pass0 (pa_cons (pv 4) (pa_cons (pv 6) pa_nil))) pa_nil)) (pe_callB (call_reprD (F := fun _ => True) hG hu) (by rfl) G.repr boot_repr (pa_cons (pv 7) pa_nil)) (nomark _)) (pw_or1 (pt_cmpR op_ne (pe_callB (call_reprD (F := fun _ => True) hG hu) (by rfl) G.repr boot_repr (pa_cons (pe_call GT hR3 (by rfl) mT kT bT .nil pass0 (pa_cons (pv 4) (pa_cons (pe_revL (pv 6)) pa_nil))) pa_nil)) (pe_callB (call_reprD (F := fun _ => True) hG hu) (by rfl) G.repr boot_repr (pa_cons (pv 7) pa_nil)) (nomark _))))) (pss_one (ps_ret pe_bl)) pss_nil) (pss_cons (ps_if (pt_cmpR op_ne (pe_callB (call_reprD (F := fun _ => True) hG hu) (by rfl) G.repr boot_repr (pa_cons (L2.pe_methR (pl := _) (pv 4) cl hm GR hR2 pass0 (pa_cons (pe_ix (r := rIxL K) ix_list (pv 6) pe_int (fun _ _ => rfl)) (pa_cons (pe_ix (r := rIxL K) ix_list (pv 6) pe_int (fun _ _ => rfl)) pa_nil))) pa_nil)) (pe_callB (call_reprD (F := fun _ => True) hG hu) (by rfl) G.repr boot_repr (pa_cons (pe_call GC hR1 (by rfl) mC kC bC .nil pass0 (pa_cons (pv 3) (pa_cons (pe_slice sl_list (pv 6) po_none (po_some pe_int)) pa_nil))) pa_nil)) (nomark _)) (pss_one (ps_ret pe_bl)) pss_nil) (pss_cons (ps_set (i := 8) scLw.nd rfl (Or.inl rfl) (pe_call GP hR2 (by rfl) mP kP bP .nil pass0 (pa_cons (pv 1) (pa_cons (pv 7) pa_nil)))) (pss_one (ps_if (pt_cmpR (op_neD hu) (pe_lc (own := [("_law_here", 11)]) (g := gName 11) (tt := tTest (tOp (rIn K true) (tVar 11) (tVar 7))) (te := tVar 11) rfl scLw.nd (pi_tup (L2.pe_methR (pl := _) (pv 4) cl hm GR hR2 pass0 (pa_cons (pv 8) pa_nil))) (blkOk_by (N := nLw) (sc := defScope sLaw) (by decide +kernel)) (fun _ _ _ _ _ => pg_name (i := 11) scLw.nd rfl (Or.inl rfl)) (fun _ _ _ _ _ => pts_one (pt_cmpR op_notIn_seq (pv 11) (pv 7) (by rfl))) (fun _ _ _ _ _ => pv 11)) (pe_lst pa_nil) (nomark _)) (pss_one (ps_ret pe_bl)) pss_nil)))))))) (pss_cons (ps_set (i := 9) scLw.nd rfl (Or.inl rfl) (pe_prop (pv 4) cl pL GL hR bL .nil pass0 rfl)) (pss_one (ps_if (PW.pt (pw_or (pt_cmpR op_ne (pe_callB (call_reprD (F := fun _ => True) hG hu) (by rfl) G.repr boot_repr (pa_cons (L2.pe_methR (pl := _) (pv 9) cl hm GR hR2 pass0 (pa_cons pe_int pa_nil)) pa_nil)) (pe_callB (call_reprD (F := fun _ => True) hG hu) (by rfl) G.repr boot_repr (pa_cons (pe_tupRg rfl (by rfl) G.tuple (prg_1 (by rfl) G.range (pe_callB (cr_lenIns hLs hLf GN hR2 pass0) (by rfl) G.len PySem.boot_len (pa_cons (pv 9) pa_nil)))) pa_nil)) (nomark _)) (pw_or1 (pt_cmpR op_gt (pe_callB (cr_lenIns hLs hLf GN hR2 pass0) (by rfl) G.len PySem.boot_len (pa_cons (pv 9) pa_nil)) (pe_callB (r := rLenQ K) call_len_seq (by rfl) G.len PySem.boot_len (pa_cons (L2.pe_methR (pl := _) (pv 4) cl hm GR hR2 pass0 (pa_cons pe_int pa_nil)) pa_nil)) (nomark _))))) (pss_one (ps_ret pe_bl)) pss_nil)))))))) (pss_one (ps_ret pe_bl)))), ?_⟩
    refine ⟨_, rfl, a, ns, rfl, hS, hlen, hbits, fun p c ks y H1 _ _ _ FA => ?_⟩
    refine ⟨5, rfl, by decide, by decide, for_range (lo := 0) (n := 5) (fun m σ H2 => ∃ (o2 o3 o4 o5 o6 o7 o8 o9 : Option V) (ks' : List Int) (n' : Int), σ = [some (.ref a), some (.ref p), o2, o3, o4, o5, o6, o7, o8, o9, none, none] ∧ FeedAt H2 p c ks' y n' ∧ n' ≤ 600 * (m : Int)) ⟨none, none, none, none, none, none, none, none, ks, 0, rfl, FA, by omega⟩ ?_ ?_⟩
    · rintro m σ H2 hm ⟨o2, o3, o4, o5, o6, o7, o8, o9, ks1, n1, rfl, FA1, le1⟩
      -- the machine
      refine ⟨_, rfl, p, c, ks1, y, n1, rfl, FA1, by omega, fun D ss ks2 n2 H3 tD so FA2 le2 sv2 => ?_⟩
      refine ⟨rfl, _, rfl, D, ss, rfl, tD, so, fun v H4 s4 hk => ?_⟩
      have FA4 := FA2.same s4
      have tD4 := tD.to (Tup.of s4)
      obtain ⟨o, dx, am, mm, ev, ho, htm, hmv⟩ := id hk
      subst ev
      have lk : ([("states", V.ref am), ("moves", V.ref mm)] : List (Str × V)).lookup ("reached" : Str) = none := rfl
      -- nothing from nothing
      refine ⟨_, rfl, o, dx, _, rfl, ho, lk, rchd_sp (S := []) hk so (by decide) (fun i m => nomatch m) fun c0 fs0 H5 s5 h0 _ r0 => ?_⟩
      have e0 : fs0 = [] := List.eq_nil_iff_forall_not_mem.mpr fun i m => rch_nil ((r0 i).mp m)
      subst e0
      refine ⟨.ref c0, intsD [], rfl, (td_ints h0).dq, (sh_ints (fs := []) (by decide) (fun i m => nomatch m)).sh, deep_intsD [], Nat.le_trans (sh_ints (fs := []) (by decide) (fun i m => nomatch m)).sz (by decide), rfl, _, rfl, ?_⟩
      rw [show decide (V.str (intsD []).shown = V.str "()") = true from by decide +kernel]
      refine iteF ?_
      have FA5 := FA4.same s5
      have tD5 := tD4.to (Tup.of s5)
      have hk5 := hk.same s5
      refine ⟨8, rfl, by decide, by decide, for_range (lo := 0) (n := 8) (fun k σ H6 => ∃ (o5 o6 o7 o8 : Option V) (ks' : List Int) (n' : Int), σ = [some (.ref a), some (.ref p), some (.int (0 + (m : Int))), some (.ref D), some (.ref o), o5, o6, o7, o8, o9, none, none] ∧ FeedAt H6 p c ks' y n' ∧ n' ≤ n2 + 5 * (k : Int) ∧ TD H6 (.ref D) (statesD ss) ∧ KindAt C H6 (.ref o) ss) ⟨o5, o6, o7, o8, ks2, n2, rfl, FA5, by omega, tD5, hk5⟩ ?_ ?_⟩
      · rintro k1 σ H6 hk1 ⟨o5, o6, o7, o8, ks3, n3, rfl, FA6, le3, tD6, hk6⟩
        -- some states
        refine ⟨_, rfl, p, c, ks3, y, n3, 3, rfl, FA6, by omega, by decide, by decide, fun z ks4 H7 z0 z3 FA7 sv7 => ?_⟩
        refine ⟨1, z, rfl, rfl, 1 + z, rfl, by omega, by omega, fun L hL => lc_range (lo := 0) (n := (1 + z).toNat) (fun i H8 => ∃ (ks5 : List Int) (n5 : Int) (S : List Int), H8 L = some (.lst (S.map V.int)) ∧ S.length = i ∧ (∀ g ∈ S, 0 ≤ g ∧ g < (ss.length : Int)) ∧ FeedAt H8 p c ks5 y n5 ∧ n5 ≤ n3 + 1 + (i : Int) ∧ Save p c H7 H8) ⟨ks4, n3 + 1, [], upd_same, rfl, (fun g mg => nomatch mg), FA7.same (same_new hL), by omega, Save.of (same_new hL)⟩ (fun i H8 hi ⟨ks5, n5, S, hS8, lS, inS, FA8, le8, sv8⟩ => ?_) fun H8 ⟨ks5, n5, S, hS8, lS, inS, FA8, le8, sv8⟩ => ?_⟩
        · have tD8 := tD6.to ((Save.tup FA6 sv7).trans (Save.tup FA7 sv8))
          obtain ⟨b8, xs8, e8, hb8, hx8⟩ := TD.ref_of (ds := ss.map stateD) tD8
          obtain rfl : D = b8 := V.ref.inj e8
          have l8 : xs8.length = ss.length := by rw [hx8.len, List.length_map]
          have one := so.one
          have most := so.most
          refine ⟨rfl, _, rfl, _, rfl, D, _, rfl, .inr (SqT.of hb8), p, c, ks5, y, n5, _, rfl, FA8, by omega, by omega, by omega, fun g ks6 H9 g0 g1 FA9 sv9 => ?_⟩
          have np : L ≠ p := Ne.symm (ne_of_none FA7.ob hL)
          have nc : L ≠ c := Ne.symm (ne_of_none FA7.cs hL)
          refine ⟨S.map V.int, sv9 _ _ hS8 np nc, small_len (m := 64) (by rw [List.length_map]; omega), ks6, n5 + 1, S ++ [g], ?_, by rw [List.length_append, lS]; rfl, fun j mj => ?_, FA9.wr np nc, by omega, (sv8.trans sv9).wr hL⟩
          · rw [List.map_append]
            exact upd_same
          · rcases List.mem_append.mp mj with z | z
            · exact inS j z
            · rw [List.mem_singleton.mp z]
              exact ⟨g0, by omega⟩
        · have np : L ≠ p := Ne.symm (ne_of_none FA7.ob hL)
          have nc : L ≠ c := Ne.symm (ne_of_none FA7.cs hL)
          have one := so.one
          have most := so.most
          have lS1 : 1 ≤ S.length := by omega
          have lS3 : S.length ≤ 3 := by omega
          have tD8 := tD6.to ((Save.tup FA6 sv7).trans (Save.tup FA7 sv8))
          have hk8 := kind_save (kind_save hk6 so FA6 sv7) so FA7 sv8
          refine ⟨_, rfl, _, rfl, D, L, ss, S, rfl, tD8, so, hS8, by omega, inS, fun c1 fs1 H9 s9 h9 a9 r9 => ?_⟩
          have sm1 := rch_small so inS r9
          have len1 : fs1.length ≤ 40 := rch_len so inS a9 r9
          refine ⟨_, rfl, _, rfl, .ref o, L, ss, S, rfl, hk8.same s9, so, s9 _ _ hS8, lS1, lS3, inS, fun c2 fs2 Ha sa ha aa ra => ?_⟩
          have e2 : fs1 = fs2 := (rch_one (fun i => Iff.rfl) aa ra a9 r9).symm
          subst e2
          have shf : (intsD fs1).showable = true ∧ (intsD fs1).depth ≤ 60 ∧ (intsD fs1).shown.length ≤ sizeLine := ⟨(sh_ints len1 sm1).sh, deep_intsD fs1, Nat.le_trans (sh_ints len1 sm1).sz (by decide)⟩
          refine ⟨.ref c2, intsD fs1, rfl, (td_ints ha).dq, shf.1, shf.2.1, shf.2.2, _, rfl, .ref c1, intsD fs1, rfl, (td_ints (sa _ _ h9)).dq, shf.1, shf.2.1, shf.2.2, rfl, _, rfl, ?_⟩
          rw [decide_eq_true rfl]
          refine iteF ?_
          -- the same the other way round
          have hka := (hk8.same s9).same sa
          have hSa := sa _ _ (s9 _ _ hS8)
          refine ⟨_, rfl, _, rfl, L, _, rfl, SqL.of hSa, fun L2 hL2 => ?_⟩
          have sr := same_new (o := .lst (S.map V.int).reverse) hL2
          refine ⟨.ref o, L2, ss, S.reverse, rfl, hka.same sr, so, by rw [List.map_reverse]; exact upd_same, by rw [List.length_reverse]; exact lS1, by rw [List.length_reverse]; exact lS3, fun i mi => inS i (List.mem_reverse.mp mi), fun c3 fs3 Hb sb hb ab rb => ?_⟩
          have e3 : fs1 = fs3 := rch_one (rev_mem S) a9 r9 ab rb
          subst e3
          have h9b := sb _ _ (sr _ _ (sa _ _ h9))
          refine ⟨.ref c3, intsD fs1, rfl, (td_ints hb).dq, shf.1, shf.2.1, shf.2.2, _, rfl, .ref c1, intsD fs1, rfl, (td_ints h9b).dq, shf.1, shf.2.1, shf.2.2, rfl, _, rfl, ?_⟩
          rw [decide_eq_true rfl]
          refine iteF ?_
          -- the first one of them twice
          have hkb := (hka.same sr).same sb
          have hSb := sb _ _ (sr _ _ hSa)
          obtain ⟨g0, Sr, eS⟩ : ∃ g r, S = g :: r := by
            cases S with
            | nil => simp at lS1
            | cons g r => exact ⟨g, r, rfl⟩
          have ig0 : 0 ≤ g0 ∧ g0 < (ss.length : Int) := inS g0 (by rw [eS]; exact List.mem_cons_self)
          have at0 : atI (S.map V.int) 0 = some (.int g0) := atI_nat (xs := S.map V.int) (j := 0) (by rw [eS]; rfl)
          obtain ⟨dxb, fsb, hob, lkb⟩ := kind_ins hkb
          refine ⟨_, rfl, o, dxb, _, rfl, hob, lkb, _, rfl, L, _, 0, _, rfl, rfl, SqL.of hSb, at0, _, rfl, L, _, 0, _, rfl, rfl, SqL.of hSb, at0, rchd_sp (S := [g0, g0]) hkb so (by show 2 < 64; decide) (fun i mi => by simp at mi; subst mi; exact ig0) fun c4 fs4 Hc sc hc ac rc => ?_⟩
          have inn4 : ∀ i ∈ [g0, g0], 0 ≤ i ∧ i < (ss.length : Int) := fun i mi => by
            simp at mi
            subst mi
            exact ig0
          have sm4 := rch_small so inn4 rc
          have len4 : fs4.length ≤ 40 := rch_len so inn4 ac rc
          have shg : (intsD fs4).showable = true ∧ (intsD fs4).depth ≤ 60 ∧ (intsD fs4).shown.length ≤ sizeLine := ⟨(sh_ints len4 sm4).sh, deep_intsD fs4, Nat.le_trans (sh_ints len4 sm4).sz (by decide)⟩
          have tDb := ((((tD8.to (Tup.of s9)).to (Tup.of sa)).to (Tup.of sr)).to (Tup.of sb)).to (Tup.of sc)
          refine ⟨.ref c4, intsD fs4, rfl, (td_ints hc).dq, shg.1, shg.2.1, shg.2.2, _, rfl, _, rfl, 1, rfl, L, _, rfl, SqL.of (sc _ _ hSb), fun L3 hL3 => ?_⟩
          have sl := same_new (o := .lst (cutV (S.map V.int) none (some 1))) hL3
          have cut1 : cutV (S.map V.int) none (some (1 : Int)) = [V.int g0] := by
            rw [show (1 : Int) = ((1 : Nat) : Int) from rfl, cutTo, eS]
            rfl
          refine ⟨D, L3, ss, [g0], rfl, tDb.to (Tup.of sl), so, by rw [cut1]; exact upd_same, by show 1 ≤ 3; decide, fun i mi => inn4 i (List.mem_cons_of_mem _ mi), fun c5 fs5 Hd sd hd ad rd => ?_⟩
          have e5 : fs4 = fs5 := rch_one (two_mem g0) ac rc ad rd
          subst e5
          refine ⟨.ref c5, intsD fs4, rfl, (td_ints hd).dq, shg.1, shg.2.1, shg.2.2, rfl, _, rfl, ?_⟩
          rw [decide_eq_true rfl]
          refine iteF ?_
          -- one that is reached
          have h9d := sd _ _ (sl _ _ (sc _ _ h9b))
          have s8d := s9.trans (sa.trans (sr.trans (sb.trans (sc.trans (sl.trans sd)))))
          have FAd := FA8.same s8d
          refine ⟨_, rfl, _, rfl, p, c, c1, ks5, fs1.map V.int, y, n5, rfl, FAd, by omega, h9d, fun z => by rw [z, FAd.ob] at h9d; (exact absurd h9d (by intro z; cases z)), fun z => by rw [z, FAd.cs] at h9d; (exact absurd h9d (by intro z; cases z)), ?_, by rw [List.length_map]; omega, fun v ks6 He mv FAe sve => ?_⟩
          · have z := (r9 g0).mpr (.base (by rw [eS]; exact List.mem_cons_self))
            rw [List.length_map]
            exact List.length_pos_of_mem z
          obtain ⟨g1, mg1, rfl⟩ := List.mem_map.mp mv
          have rg1 := (r9 g1).mp mg1
          have ig1 := Rch.inn so inS rg1
          have hkd := (((hkb.same sc).same sl).same sd)
          have hke := kind_save hkd so FAd sve
          obtain ⟨dxe, fse, hoe, lke⟩ := kind_ins hke
          refine ⟨_, rfl, o, dxe, _, rfl, hoe, lke, _, rfl, rchd_sp (S := [g1]) hke so (by show 1 < 64; decide) (fun i mi => by rw [List.mem_singleton.mp mi]; exact ig1) fun c6 fs6 Hf sf hf af rf => ?_⟩
          have in6 : ∀ g ∈ fs6, g ∈ fs1 := fun g mg => (r9 g).mpr (((rf g).mp mg).sub fun i mi => by rw [List.mem_singleton.mp mi]; exact rg1)
          have h9f := sf _ _ (sve _ _ h9d (fun z => by rw [z, FAd.ob] at h9d; cases h9d) (fun z => by rw [z, FAd.cs] at h9d; cases h9d))
          have FAf := FAe.same sf
          have tDf := ((((tDb.to (Tup.of sl)).to (Tup.of sd)).to (Save.tup FAd sve)).to (Tup.of sf))
          have hkf := hke.same sf
          refine ⟨c6, rfl, ⟨_, SqT.of hf⟩, fun DD hDD => lc_tup (K := K) (a := c6) (xs := fs6.map V.int) (fun _ Hg => Same Hf Hg ∧ Hg DD = some (.lst [])) ⟨same_new hDD, upd_same⟩ (fun i Hg _ ⟨sg, _⟩ => SqT.of (sg _ _ hf)) (fun i x Hg ex ⟨sg, dg⟩ => ?_) fun Hg ⟨sg, dg⟩ => ?_⟩
          · obtain ⟨g, mg, rfl⟩ := List.mem_map.mp (List.mem_of_getElem? ex)
            refine ⟨rfl, _, rfl, _, rfl, c1, _, rfl, .inr (SqT.of (sg _ _ h9f)), rfl, flat_ints fs1, _, rfl, ?_⟩
            rw [show (if true then !inV (V.int g) (fs1.map V.int) else inV (V.int g) (fs1.map V.int)) = false from by rw [if_pos rfl, inV_int, decide_eq_true (in6 g mg)]; rfl]
            exact iteF ⟨sg, dg⟩
          · refine ⟨by show 0 ≤ sizeLine; exact Nat.zero_le _, fun D2 hD2 => ?_⟩
            have s2 := same_new (o := .lst []) hD2
            refine ⟨.list [], .list [], .lst (SqL.of (s2 _ _ dg)) .nil, .lst (SqL.of upd_same) .nil, rfl, rfl, _, rfl, ?_⟩
            rw [show (!PyData.eqv (.list []) (.list [])) = false from by decide +kernel]
            refine iteF ?_
            have sz := sg.trans s2
            exact ⟨_, _, _, _, ks6, n5 + 1, rfl, FAf.same sz, by omega, tDf.to (Tup.of sz), hkf.same sz⟩
      · rintro σ H6 ⟨o5, o6, o7, o8, ks3, n3, rfl, FA6, le3, tD6, hk6⟩
        obtain ⟨dx6, fs6, ho6, lk6⟩ := kind_ins hk6
        refine ⟨_, rfl, o, dx6, _, rfl, ho6, .ref o, ss, rfl, hk6, so, fun u ls hs H7 s7 ku kl all nd lh rch => ?_⟩
        obtain ⟨ou, dxu, au, mu, eu, hou, htu, hmu⟩ := id ku
        subst eu
        have one := kl.one
        have most := kl.most
        have inn0 : ∀ i ∈ [(0 : Int)], 0 ≤ i ∧ i < (ls.length : Int) := fun i mi => by
          rw [List.mem_singleton.mp mi]
          omega
        refine ⟨_, rfl, ou, dxu, _, rfl, hou, rfl, rchd_sp (S := [0]) ku kl (by decide) inn0 fun c7 fs7 H8 s8 h8 a8 r8 => ?_⟩
        have e7 := rch_least (n := ls.length) (Rch ls [0]) a8 r8 (fun i r => Rch.inn kl inn0 r) all
        have sm7 := rch_small kl inn0 r8
        have len7 : fs7.length ≤ 40 := rch_len kl inn0 a8 r8
        have shf : (intsD fs7).showable = true ∧ (intsD fs7).depth ≤ 60 ∧ (intsD fs7).shown.length ≤ sizeLine := ⟨(sh_ints len7 sm7).sh, deep_intsD fs7, Nat.le_trans (sh_ints len7 sm7).sz (by decide)⟩
        refine ⟨.ref c7, intsD fs7, rfl, (td_ints h8).dq, shf.1, shf.2.1, shf.2.2, _, rfl, ou, dxu, _, rfl, s8 _ _ hou, .ref ou, ls, rfl, ku.same s8, kl, fun H9 s9 => ⟨_, rfl, ⟨by omega, by omega⟩, _, rfl, ?_⟩⟩
        have rg : rgV 0 (ls.length : Int) = fs7.map V.int := by
          unfold rgV
          rw [e7, List.map_map, show ((ls.length : Int) - 0).toNat = ls.length from by omega]
          exact List.map_congr_left fun i _ => by show V.int (0 + (i : Int)) = V.int (i : Int); rw [Int.zero_add]
        refine ⟨RgOk.of_le (by omega) (by omega) (by omega) (by omega), fun q hq => ?_⟩
        have sq := same_new (o := .tup (rgV 0 (ls.length : Int))) hq
        have hq2 : (upd H9 q (.tup (rgV 0 (ls.length : Int)))) q = some (.tup (fs7.map V.int)) := by rw [upd_same, rg]
        refine ⟨.ref q, intsD fs7, rfl, (td_ints hq2).dq, shf.1, shf.2.1, shf.2.2, rfl, _, rfl, ?_⟩
        rw [decide_eq_true rfl]
        refine iteF ?_
        have s9q := s8.trans (s9.trans sq)
        refine ⟨_, rfl, ou, dxu, _, rfl, s9q _ _ hou, .ref ou, ls, rfl, ku.same s9q, kl, fun Ha sa => ⟨_, rfl, ⟨by omega, by omega⟩, ?_⟩⟩
        have hka := ((hk6.same s7).same s9q).same sa
        obtain ⟨dxa, fsa, hoa, lka⟩ := kind_ins hka
        have soo := so.one
        refine ⟨_, rfl, o, dxa, _, rfl, hoa, lka, rchd_sp (S := [0]) hka so (by decide) (fun i mi => by rw [List.mem_singleton.mp mi]; omega) fun c8 fs8 Hb sb hb ab rb => ⟨c8, _, rfl, .inr (SqT.of hb), _, _, rfl, rfl, _, rfl, ?_⟩⟩
        have le8 : ls.length ≤ fs8.length := by
          rw [← lh]
          exact nodup_most _ _ nd fun i m => (rb i).mpr (rch i m)
        rw [List.length_map, decide_eq_false (by omega)]
        refine iteF ?_
        have sz := s7.trans (s9q.trans (sa.trans sb))
        exact ⟨_, _, _, _, _, _, _, _, ks3, n3, rfl, FA6.same sz, by omega⟩
    · rintro σ H2 ⟨o2, o3, o4, o5, o6, o7, o8, o9, ks1, n1, rfl, FA1, le1⟩
      exact k _
end
end My

-- ===== K4Z =====
set_option Elab.async false
set_option linter.all false
set_option maxRecDepth 100000
set_option maxHeartbeats 4000000
namespace My
open PySem L2 PyProof.Rows PySem.Spec Kd StX ClX TL
set_option linter.unusedVariables false in
theorem all_mk {P : Program} {w : World} {K : PySem.W.Frag} {h : Heap} {mg : Str → Option Value} {fa C p1 p3 fM fR fc1 fc2 fc3 fc4 fW fB fS fA fE fF fD fK fb1 fb2 fb3 fL fi fo fn fv fr : Addr} {rest1 rest3 : List Value} {t1 t2 t3 t4 : Tok} (X : K.In h) (G : h.Ns mainGlobals mg) (hfa : mg "law" = some (.ref fa))
    {oc_M kV_M doc_M pm_M cd_M ct_M : Value} {od_M an_M : Option Addr} {sl_M : Array (Option Value)} {oc_R kV_R doc_R pm_R cd_R ct_R : Value} {od_R an_R : Option Addr} {sl_R : Array (Option Value)} {oc_c1 kV_c1 doc_c1 pm_c1 cd_c1 ct_c1 : Value} {od_c1 an_c1 : Option Addr} {sl_c1 : Array (Option Value)} {oc_c2 kV_c2 doc_c2 pm_c2 cd_c2 ct_c2 : Value} {od_c2 an_c2 : Option Addr} {sl_c2 : Array (Option Value)} {oc_c3 kV_c3 doc_c3 pm_c3 cd_c3 ct_c3 : Value} {od_c3 an_c3 : Option Addr} {sl_c3 : Array (Option Value)} {oc_c4 kV_c4 doc_c4 pm_c4 cd_c4 ct_c4 : Value} {od_c4 an_c4 : Option Addr} {sl_c4 : Array (Option Value)} {oc_W kV_W doc_W pm_W cd_W ct_W : Value} {od_W an_W : Option Addr} {sl_W : Array (Option Value)} {oc_B kV_B doc_B pm_B cd_B ct_B : Value} {od_B an_B : Option Addr} {sl_B : Array (Option Value)} {oc_S kV_S doc_S pm_S cd_S ct_S : Value} {od_S an_S : Option Addr} {sl_S : Array (Option Value)} {oc_A kV_A doc_A pm_A cd_A ct_A : Value} {od_A an_A : Option Addr} {sl_A : Array (Option Value)} {oc_E kV_E doc_E pm_E cd_E ct_E : Value} {od_E an_E : Option Addr} {sl_E : Array (Option Value)} {oc_F kV_F doc_F pm_F cd_F ct_F : Value} {od_F an_F : Option Addr} {sl_F : Array (Option Value)} {oc_D kV_D doc_D pm_D cd_D ct_D : Value} {od_D an_D : Option Addr} {sl_D : Array (Option Value)} {oc_K kV_K doc_K pm_K cd_K ct_K : Value} {od_K an_K : Option Addr} {sl_K : Array (Option Value)} {oc_b1 kV_b1 doc_b1 pm_b1 cd_b1 ct_b1 : Value} {od_b1 an_b1 : Option Addr} {sl_b1 : Array (Option Value)} {oc_b2 kV_b2 doc_b2 pm_b2 cd_b2 ct_b2 : Value} {od_b2 an_b2 : Option Addr} {sl_b2 : Array (Option Value)} {oc_b3 kV_b3 doc_b3 pm_b3 cd_b3 ct_b3 : Value} {od_b3 an_b3 : Option Addr} {sl_b3 : Array (Option Value)} {oc_L kV_L doc_L pm_L cd_L ct_L : Value} {od_L an_L : Option Addr} {sl_L : Array (Option Value)} {oc_i kV_i doc_i pm_i cd_i ct_i : Value} {od_i an_i : Option Addr} {sl_i : Array (Option Value)} {oc_o kV_o doc_o pm_o cd_o ct_o : Value} {od_o an_o : Option Addr} {sl_o : Array (Option Value)} {oc_n kV_n doc_n pm_n cd_n ct_n : Value} {od_n an_n : Option Addr} {sl_n : Array (Option Value)} {oc_v kV_v doc_v pm_v cd_v ct_v : Value} {od_v an_v : Option Addr} {sl_v : Array (Option Value)} {oc_r kV_r doc_r pm_r cd_r ct_r : Value} {od_r an_r : Option Addr} {sl_r : Array (Option Value)}
    (aC : PySem.W.nsIn K mainGlobals "Kind" = some (some (.ref C)))
    (clpg : PySem.W.plainGet K C Str.empty = true)
    (clhd : PySem.W.hasDictIn K C = true)
    (clpo : PySem.W.plainOver K C = true)
    (clsa : PySem.W.findIn K (.ref C) "__setattr__" = some (some (.builtin "object.__setattr__")))
    (n1 : PySem.W.findIn K (.ref C) "states" = some none)
    (n2 : PySem.W.findIn K (.ref C) "moves" = some none)
    (rd : PySem.W.readsIn K C (.type "type") = true)
    (ga : PySem.W.specialIn K (.ref C) "__getattribute__" = some (some (.builtin "type.__getattribute__")))
    (m_of : PySem.W.findCls K (.ref C) (.type "type") "of" = some (.get (.builtin "classmethod.__get__") (.ref p1) .none (.ref C)))
    (r_of : PySem.W.recIn K p1 "classmethod" = some (.ref fo :: rest1))
    (f_of : PySem.W.fnIn K fo = true)
    (ptx : PySem.W.findIn K (.ref C) "least" = some (some (.ref p3)))
    (gtx : PySem.W.specialIn K (.ref p3) "__get__" = some (some (.builtin "property.__get__")))
    (ttx : PySem.W.takesIn K (.ref p3) = some true)
    (rtx : PySem.W.recIn K p3 "property" = some (.ref fv :: rest3))
    (mk1 : PySem.W.makesIn K C = true)
    (mk2 : PySem.W.findIn K (.ref C) "__init__" = some (some (.ref fi)))
    (mk3 : PySem.W.isFn K (.ref fi) = true)
    (mk4 : PySem.W.keepIn K (.ref C) = true)
    (ln1 : PySem.W.findIn K (.ref C) "__len__" = some (some (.ref fn)))
    (ln2 : PySem.W.isFn K (.ref fn) = true)
    (rc1 : PySem.W.findIn K (.ref C) "reached" = some (some (.ref fr)))
    (rc2 : PySem.W.isFn K (.ref fr) = true)
    (a_M : PySem.W.nsIn K mainGlobals "moves_of" = some (some (.ref fM)))
    (l_M : K.lookup fM = some ⟨oc_M, od_M, .func (PySem.W.fnOf "moves_of" "moves_of" (defArgs sMoves) (defBody sMoves) (defScope sMoves) .none kV_M doc_M pm_M an_M cd_M ct_M), sl_M⟩)
    (e_M : PySem.W.codeIn K cd_M "moves_of" = true)
    (k_M : PySem.W.keepIn K (.ref fM) = true)
    (a_R : PySem.W.nsIn K mainGlobals "reached_from" = some (some (.ref fR)))
    (l_R : K.lookup fR = some ⟨oc_R, od_R, .func (PySem.W.fnOf "reached_from" "reached_from" (defArgs sReach) (defBody sReach) (defScope sReach) .none kV_R doc_R pm_R an_R cd_R ct_R), sl_R⟩)
    (e_R : PySem.W.codeIn K cd_R "reached_from" = true)
    (k_R : PySem.W.keepIn K (.ref fR) = true)
    (a_c1 : PySem.W.nsIn K mainGlobals "classes" = some (some (.ref fc1)))
    (l_c1 : K.lookup fc1 = some ⟨oc_c1, od_c1, .func (PySem.W.fnOf "classes" "classes" (defArgs sClasses) (defBody sClasses) (defScope sClasses) .none kV_c1 doc_c1 pm_c1 an_c1 cd_c1 ct_c1), sl_c1⟩)
    (e_c1 : PySem.W.codeIn K cd_c1 "classes" = true)
    (k_c1 : PySem.W.keepIn K (.ref fc1) = true)
    (a_c2 : PySem.W.nsIn K mainGlobals "_marked" = some (some (.ref fc2)))
    (l_c2 : K.lookup fc2 = some ⟨oc_c2, od_c2, .func (PySem.W.fnOf "_marked" "_marked" (defArgs sMarked) (defBody sMarked) (defScope sMarked) .none kV_c2 doc_c2 pm_c2 an_c2 cd_c2 ct_c2), sl_c2⟩)
    (e_c2 : PySem.W.codeIn K cd_c2 "_marked" = true)
    (k_c2 : PySem.W.keepIn K (.ref fc2) = true)
    (a_c3 : PySem.W.nsIn K mainGlobals "_numbered" = some (some (.ref fc3)))
    (l_c3 : K.lookup fc3 = some ⟨oc_c3, od_c3, .func (PySem.W.fnOf "_numbered" "_numbered" (defArgs sNumbered) (defBody sNumbered) (defScope sNumbered) .none kV_c3 doc_c3 pm_c3 an_c3 cd_c3 ct_c3), sl_c3⟩)
    (e_c3 : PySem.W.codeIn K cd_c3 "_numbered" = true)
    (k_c3 : PySem.W.keepIn K (.ref fc3) = true)
    (a_c4 : PySem.W.nsIn K mainGlobals "least_states" = some (some (.ref fc4)))
    (l_c4 : K.lookup fc4 = some ⟨oc_c4, od_c4, .func (PySem.W.fnOf "least_states" "least_states" (defArgs sLeastS) (defBody sLeastS) (defScope sLeastS) .none kV_c4 doc_c4 pm_c4 an_c4 cd_c4 ct_c4), sl_c4⟩)
    (e_c4 : PySem.W.codeIn K cd_c4 "least_states" = true)
    (k_c4 : PySem.W.keepIn K (.ref fc4) = true)
    (a_W : PySem.W.nsIn K mainGlobals "is_word" = some (some (.ref fW)))
    (l_W : K.lookup fW = some ⟨oc_W, od_W, .func (PySem.W.fnOf "is_word" "is_word" (defArgs sWord) (defBody sWord) (defScope sWord) .none kV_W doc_W pm_W an_W cd_W ct_W), sl_W⟩)
    (e_W : PySem.W.codeIn K cd_W "is_word" = true)
    (k_W : PySem.W.keepIn K (.ref fW) = true)
    (a_B : PySem.W.nsIn K mainGlobals "is_number" = some (some (.ref fB)))
    (l_B : K.lookup fB = some ⟨oc_B, od_B, .func (PySem.W.fnOf "is_number" "is_number" (defArgs sNumber) (defBody sNumber) (defScope sNumber) .none kV_B doc_B pm_B an_B cd_B ct_B), sl_B⟩)
    (e_B : PySem.W.codeIn K cd_B "is_number" = true)
    (k_B : PySem.W.keepIn K (.ref fB) = true)
    (a_S : PySem.W.nsIn K mainGlobals "is_states" = some (some (.ref fS)))
    (l_S : K.lookup fS = some ⟨oc_S, od_S, .func (PySem.W.fnOf "is_states" "is_states" (defArgs sStates) (defBody sStates) (defScope sStates) .none kV_S doc_S pm_S an_S cd_S ct_S), sl_S⟩)
    (e_S : PySem.W.codeIn K cd_S "is_states" = true)
    (k_S : PySem.W.keepIn K (.ref fS) = true)
    (a_A : PySem.W.nsIn K mainGlobals "_is_state" = some (some (.ref fA)))
    (l_A : K.lookup fA = some ⟨oc_A, od_A, .func (PySem.W.fnOf "_is_state" "_is_state" (defArgs sState) (defBody sState) (defScope sState) .none kV_A doc_A pm_A an_A cd_A ct_A), sl_A⟩)
    (e_A : PySem.W.codeIn K cd_A "_is_state" = true)
    (k_A : PySem.W.keepIn K (.ref fA) = true)
    (a_E : PySem.W.nsIn K mainGlobals "_is_step" = some (some (.ref fE)))
    (l_E : K.lookup fE = some ⟨oc_E, od_E, .func (PySem.W.fnOf "_is_step" "_is_step" (defArgs sStep) (defBody sStep) (defScope sStep) .none kV_E doc_E pm_E an_E cd_E ct_E), sl_E⟩)
    (e_E : PySem.W.codeIn K cd_E "_is_step" = true)
    (k_E : PySem.W.keepIn K (.ref fE) = true)
    (a_F : PySem.W.nsIn K mainGlobals "_law_feed" = some (some (.ref fF)))
    (l_F : K.lookup fF = some ⟨oc_F, od_F, .func (PySem.W.fnOf "_law_feed" "_law_feed" (defArgs sFeed) (defBody sFeed) (defScope sFeed) .none kV_F doc_F pm_F an_F cd_F ct_F), sl_F⟩)
    (e_F : PySem.W.codeIn K cd_F "_law_feed" = true)
    (k_F : PySem.W.keepIn K (.ref fF) = true)
    (a_D : PySem.W.nsIn K mainGlobals "_law_digit" = some (some (.ref fD)))
    (l_D : K.lookup fD = some ⟨oc_D, od_D, .func (PySem.W.fnOf "_law_digit" "_law_digit" (defArgs sDigit) (defBody sDigit) (defScope sDigit) .none kV_D doc_D pm_D an_D cd_D ct_D), sl_D⟩)
    (e_D : PySem.W.codeIn K cd_D "_law_digit" = true)
    (k_D : PySem.W.keepIn K (.ref fD) = true)
    (a_K : PySem.W.nsIn K mainGlobals "_law_pick" = some (some (.ref fK)))
    (l_K : K.lookup fK = some ⟨oc_K, od_K, .func (PySem.W.fnOf "_law_pick" "_law_pick" (defArgs sPick) (defBody sPick) (defScope sPick) .none kV_K doc_K pm_K an_K cd_K ct_K), sl_K⟩)
    (e_K : PySem.W.codeIn K cd_K "_law_pick" = true)
    (k_K : PySem.W.keepIn K (.ref fK) = true)
    (a_b1 : PySem.W.nsIn K mainGlobals "_law_drawn" = some (some (.ref fb1)))
    (l_b1 : K.lookup fb1 = some ⟨oc_b1, od_b1, .func (PySem.W.fnOf "_law_drawn" "_law_drawn" (defArgs sDrawn) (defBody sDrawn) (defScope sDrawn) .none kV_b1 doc_b1 pm_b1 an_b1 cd_b1 ct_b1), sl_b1⟩)
    (e_b1 : PySem.W.codeIn K cd_b1 "_law_drawn" = true)
    (k_b1 : PySem.W.keepIn K (.ref fb1) = true)
    (a_b2 : PySem.W.nsIn K mainGlobals "_law_closure" = some (some (.ref fb2)))
    (l_b2 : K.lookup fb2 = some ⟨oc_b2, od_b2, .func (PySem.W.fnOf "_law_closure" "_law_closure" (defArgs sClos) (defBody sClos) (defScope sClos) .none kV_b2 doc_b2 pm_b2 an_b2 cd_b2 ct_b2), sl_b2⟩)
    (e_b2 : PySem.W.codeIn K cd_b2 "_law_closure" = true)
    (k_b2 : PySem.W.keepIn K (.ref fb2) = true)
    (a_b3 : PySem.W.nsIn K mainGlobals "_law_told" = some (some (.ref fb3)))
    (l_b3 : K.lookup fb3 = some ⟨oc_b3, od_b3, .func (PySem.W.fnOf "_law_told" "_law_told" (defArgs sTold) (defBody sTold) (defScope sTold) .none kV_b3 doc_b3 pm_b3 an_b3 cd_b3 ct_b3), sl_b3⟩)
    (e_b3 : PySem.W.codeIn K cd_b3 "_law_told" = true)
    (k_b3 : PySem.W.keepIn K (.ref fb3) = true)
    (a_L : PySem.W.nsIn K mainGlobals "law" = some (some (.ref fL)))
    (l_L : K.lookup fL = some ⟨oc_L, od_L, .func (PySem.W.fnOf "law" "law" (defArgs sLaw) (defBody sLaw) (defScope sLaw) .none kV_L doc_L pm_L an_L cd_L ct_L), sl_L⟩)
    (e_L : PySem.W.codeIn K cd_L "law" = true)
    (k_L : PySem.W.keepIn K (.ref fL) = true)
    (l_i : K.lookup fi = some ⟨oc_i, od_i, .func (PySem.W.fnOf "__init__" "Kind.__init__" (defArgs sInit) (defBody sInit) (defScope sInit) .none kV_i doc_i pm_i an_i cd_i ct_i), sl_i⟩)
    (e_i : PySem.W.codeIn K cd_i "Kind.__init__" = true)
    (k_i : PySem.W.keepIn K (.ref fi) = true)
    (l_o : K.lookup fo = some ⟨oc_o, od_o, .func (PySem.W.fnOf "of" "Kind.of" (defArgs sOf) (defBody sOf) (defScope sOf) .none kV_o doc_o pm_o an_o cd_o ct_o), sl_o⟩)
    (e_o : PySem.W.codeIn K cd_o "Kind.of" = true)
    (k_o : PySem.W.keepIn K (.ref fo) = true)
    (l_n : K.lookup fn = some ⟨oc_n, od_n, .func (PySem.W.fnOf "__len__" "Kind.__len__" (defArgs sKlen) (defBody sKlen) (defScope sKlen) .none kV_n doc_n pm_n an_n cd_n ct_n), sl_n⟩)
    (e_n : PySem.W.codeIn K cd_n "Kind.__len__" = true)
    (k_n : PySem.W.keepIn K (.ref fn) = true)
    (l_v : K.lookup fv = some ⟨oc_v, od_v, .func (PySem.W.fnOf "least" "Kind.least" (defArgs sKleast) (defBody sKleast) (defScope sKleast) .none kV_v doc_v pm_v an_v cd_v ct_v), sl_v⟩)
    (e_v : PySem.W.codeIn K cd_v "Kind.least" = true)
    (k_v : PySem.W.keepIn K (.ref fv) = true)
    (l_r : K.lookup fr = some ⟨oc_r, od_r, .func (PySem.W.fnOf "reached" "Kind.reached" (defArgs sKreached) (defBody sKreached) (defScope sKreached) .none kV_r doc_r pm_r an_r cd_r ct_r), sl_r⟩)
    (e_r : PySem.W.codeIn K cd_r "Kind.reached" = true)
    (k_r : PySem.W.keepIn K (.ref fr) = true)
    (z_isinstance : PySem.W.nsIn K mainGlobals "isinstance" = some none)
    (z_str : PySem.W.nsIn K mainGlobals "str" = some none)
    (z_int : PySem.W.nsIn K mainGlobals "int" = some none)
    (z_bool : PySem.W.nsIn K mainGlobals "bool" = some none)
    (z_tuple : PySem.W.nsIn K mainGlobals "tuple" = some none)
    (z_len : PySem.W.nsIn K mainGlobals "len" = some none)
    (z_all : PySem.W.nsIn K mainGlobals "all" = some none)
    (z_set : PySem.W.nsIn K mainGlobals "set" = some none)
    (z_sorted : PySem.W.nsIn K mainGlobals "sorted" = some none)
    (z_range : PySem.W.nsIn K mainGlobals "range" = some none)
    (z_repr : PySem.W.nsIn K mainGlobals "repr" = some none)
    (z_enumerate : PySem.W.nsIn K mainGlobals "enumerate" = some none)
    (z_list : PySem.W.nsIn K mainGlobals "list" = some none)
    (z_min : PySem.W.nsIn K mainGlobals "min" = some none)
    (v_MOST_STATES : PySem.W.nsIn K mainGlobals "MOST_STATES" = some (some (.int 40 t1)))
    (v_MOST_EVENTS : PySem.W.nsIn K mainGlobals "MOST_EVENTS" = some (some (.int 24 t2)))
    (v_MOST_LETTERS : PySem.W.nsIn K mainGlobals "MOST_LETTERS" = some (some (.int 12 t3)))
    (v_LETTERS : PySem.W.nsIn K mainGlobals "LETTERS" = some (some (.str LETS t4))) :
    ∃ fd : FuncData, (∀ (s : Shared) (v : Value), BindsTo s fd ⟨[v], []⟩ [("_law_script", v)]) ∧ ∀ base : Heap, K.In base → base.Ns mainGlobals mg → FnG true (fun A => A.guards = some []) P w K mg base CX0 9 fa fd ["_law_script"] (spLaw K) := by
  have e := hfa.symm.trans (PySem.W.mg_of X G a_L)
  cases e
  have nn : ∀ {n : Str}, PySem.W.nsIn K mainGlobals n = some none → mg n = none := fun {n} e => PySem.W.mg_none_of X G e
  have g : Gs mg := ⟨nn z_isinstance, nn z_str, nn z_int, nn z_bool, nn z_tuple, nn z_len, nn z_all, nn z_set, nn z_sorted, nn z_range, nn z_repr, nn z_enumerate, nn z_list, nn z_min, ⟨t1, PySem.W.mg_of X G v_MOST_STATES⟩, ⟨t2, PySem.W.mg_of X G v_MOST_EVENTS⟩, ⟨t3, PySem.W.mg_of X G v_MOST_LETTERS⟩, ⟨t4, PySem.W.mg_of X G v_LETTERS⟩⟩
  have cl : Cls K C := ⟨clpg, clhd, clpo, clsa⟩
  have M : Mk K C fi := ⟨mk1, mk2, mk3, mk4⟩
  have FM := fun_mk (st := sMoves) l_M e_M k_M
  have bM := FM.binds (ps := ["states"]) fun _ _ _ _ _ _ us hl => match us, hl with | [_], _ => rfl
  have mM := PySem.W.mg_of X G a_M
  have FR := fun_mk (st := sReach) l_R e_R k_R
  have bR := FR.binds (ps := ["moves", "starts"]) fun _ _ _ _ _ _ us hl => match us, hl with | [_, _], _ => rfl
  have mR := PySem.W.mg_of X G a_R
  have Fc1 := fun_mk (st := sClasses) l_c1 e_c1 k_c1
  have bc1 := Fc1.binds (ps := ["states"]) fun _ _ _ _ _ _ us hl => match us, hl with | [_], _ => rfl
  have mc1 := PySem.W.mg_of X G a_c1
  have Fc2 := fun_mk (st := sMarked) l_c2 e_c2 k_c2
  have bc2 := Fc2.binds (ps := ["state", "marks"]) fun _ _ _ _ _ _ us hl => match us, hl with | [_, _], _ => rfl
  have mc2 := PySem.W.mg_of X G a_c2
  have Fc3 := fun_mk (st := sNumbered) l_c3 e_c3 k_c3
  have bc3 := Fc3.binds (ps := ["rows"]) fun _ _ _ _ _ _ us hl => match us, hl with | [_], _ => rfl
  have mc3 := PySem.W.mg_of X G a_c3
  have Fc4 := fun_mk (st := sLeastS) l_c4 e_c4 k_c4
  have bc4 := Fc4.binds (ps := ["states"]) fun _ _ _ _ _ _ us hl => match us, hl with | [_], _ => rfl
  have mc4 := PySem.W.mg_of X G a_c4
  have FW := fun_mk (st := sWord) l_W e_W k_W
  have bW := FW.binds (ps := ["thing"]) fun _ _ _ _ _ _ us hl => match us, hl with | [_], _ => rfl
  have mW := PySem.W.mg_of X G a_W
  have FB := fun_mk (st := sNumber) l_B e_B k_B
  have bB := FB.binds (ps := ["thing"]) fun _ _ _ _ _ _ us hl => match us, hl with | [_], _ => rfl
  have mB := PySem.W.mg_of X G a_B
  have FS := fun_mk (st := sStates) l_S e_S k_S
  have bS := FS.binds (ps := ["thing"]) fun _ _ _ _ _ _ us hl => match us, hl with | [_], _ => rfl
  have mS := PySem.W.mg_of X G a_S
  have FA := fun_mk (st := sState) l_A e_A k_A
  have bA := FA.binds (ps := ["thing", "many"]) fun _ _ _ _ _ _ us hl => match us, hl with | [_, _], _ => rfl
  have mA := PySem.W.mg_of X G a_A
  have FE := fun_mk (st := sStep) l_E e_E k_E
  have bE := FE.binds (ps := ["thing", "many"]) fun _ _ _ _ _ _ us hl => match us, hl with | [_, _], _ => rfl
  have mE := PySem.W.mg_of X G a_E
  have FF := fun_mk (st := sFeed) l_F e_F k_F
  have bF := FF.binds (ps := ["_law_script"]) fun _ _ _ _ _ _ us hl => match us, hl with | [_], _ => rfl
  have mF := PySem.W.mg_of X G a_F
  have FD := fun_mk (st := sDigit) l_D e_D k_D
  have bD := FD.binds (ps := ["_law_feed_here", "_law_many"]) fun _ _ _ _ _ _ us hl => match us, hl with | [_, _], _ => rfl
  have mD := PySem.W.mg_of X G a_D
  have FK := fun_mk (st := sPick) l_K e_K k_K
  have bK := FK.binds (ps := ["_law_feed_here", "_law_some"]) fun _ _ _ _ _ _ us hl => match us, hl with | [_, _], _ => rfl
  have mK := PySem.W.mg_of X G a_K
  have Fb1 := fun_mk (st := sDrawn) l_b1 e_b1 k_b1
  have bb1 := Fb1.binds (ps := ["_law_feed_here"]) fun _ _ _ _ _ _ us hl => match us, hl with | [_], _ => rfl
  have mb1 := PySem.W.mg_of X G a_b1
  have Fb2 := fun_mk (st := sClos) l_b2 e_b2 k_b2
  have bb2 := Fb2.binds (ps := ["_law_states", "_law_some"]) fun _ _ _ _ _ _ us hl => match us, hl with | [_, _], _ => rfl
  have mb2 := PySem.W.mg_of X G a_b2
  have Fb3 := fun_mk (st := sTold) l_b3 e_b3 k_b3
  have bb3 := Fb3.binds (ps := ["_law_made", "_law_some"]) fun _ _ _ _ _ _ us hl => match us, hl with | [_, _], _ => rfl
  have mb3 := PySem.W.mg_of X G a_b3
  have FL := fun_mk (st := sLaw) l_L e_L k_L
  have Fi := fun_mk (st := sInit) l_i e_i k_i
  have Fo := fun_mk (st := sOf) l_o e_o k_o
  have bo := Fo.binds (ps := ["cls", "states"]) fun _ _ _ _ _ _ us hl => match us, hl with | [_, _], _ => rfl
  have Fn := fun_mk (st := sKlen) l_n e_n k_n
  have bn := Fn.binds (ps := ["self"]) fun _ _ _ _ _ _ us hl => match us, hl with | [_], _ => rfl
  have Fv := fun_mk (st := sKleast) l_v e_v k_v
  have bv := Fv.binds (ps := ["self"]) fun _ _ _ _ _ _ us hl => match us, hl with | [_], _ => rfl
  have Fr := fun_mk (st := sKreached) l_r e_r k_r
  refine ⟨PySem.W.fnOf "law" "law" (defArgs sLaw) (defBody sLaw) (defScope sLaw) .none kV_L doc_L pm_L an_L cd_L ct_L, fun s v => .of_eq rfl, fun base _ _ => ?_⟩
  have mC := PySem.W.mg_of X G aC
  have oF := ok_feed (P := P) (w := w) (mg := mg) (base := base) FF g.list
  have oD := ok_digit (P := P) (w := w) (mg := mg) (base := base) FD
  have oW := ok_word (P := P) (w := w) (mg := mg) (base := base) FW g
  have oB := ok_number (P := P) (w := w) (mg := mg) (base := base) FB g
  have oE := ok_step (P := P) (w := w) (mg := mg) (base := base) FE g oW mW k_W bW oB mB k_B bB
  have oA := ok_state (P := P) (w := w) (mg := mg) (base := base) FA g oE mE k_E bE
  have oS := ok_states (P := P) (w := w) (mg := mg) (base := base) FS g oA mA k_A bA
  have oM := ok_moves (P := P) (w := w) (mg := mg) (base := base) FM
  have oi := ok_init (P := P) (w := w) (mg := mg) (base := base) Fi cl n1 n2 oS mS k_S bS oM mM k_M bM
  have oo := ok_of (P := P) (w := w) (mg := mg) (base := base) Fo g M oi
  have oR := ok_reach (P := P) (w := w) (mg := mg) (base := base) FR g
  have oc2 := ok_marked (P := P) (w := w) (mg := mg) (base := base) Fc2 g.tuple
  have oc3 := ok_numbered (P := P) (w := w) (mg := mg) (base := base) Fc3 g.len
  have oc1 := ok_classes (P := P) (w := w) (mg := mg) (base := base) Fc1 g.len oc2 mc2 k_c2 bc2 oc3 mc3 k_c3 bc3
  have oc4 := ok_least (P := P) (w := w) (mg := mg) (base := base) Fc4 g.len g.tuple oc1 mc1 k_c1 bc1
  have orr := ok_reached (P := P) (w := w) (mg := mg) (base := base) Fr cl n2 oR mR k_R bR
  have ov := ok_kleast (P := P) (w := w) (mg := mg) (base := base) Fv cl n1 M oi mC oc4 mc4 k_c4 bc4
  have on := ok_klen (P := P) (w := w) (mg := mg) (base := base) Fn cl n1 g.len
  have on2 := fnR_of on bn
  have oK := ok_pick (P := P) (w := w) (mg := mg) (base := base) FK g.len oD mD k_D bD
  have oKT := ok_pickT (P := P) (w := w) (mg := mg) (base := base) FK g.len oD mD k_D bD
  have ob1 := ok_drawn (P := P) (w := w) (mg := mg) (base := base) Fb1 g oK mK k_K bK oD mD k_D bD
  have ob2 := ok_clos (P := P) (w := w) (mg := mg) (base := base) Fb2 g
  have hm : Meth K C "reached" fr := ⟨rc1, rc2, k_r⟩
  have ob3 := ok_told (P := P) (w := w) (mg := mg) (base := base) Fb3 g cl hm orr
  have T : KOf P w K mg base C := ⟨mC, ⟨.type "type", ⟨rd, ga⟩, p1, fo, _, ⟨m_of, ⟨rest1, r_of⟩, f_of⟩, oo, bo⟩⟩
  exact ok_law FL g T cl oF mF k_F bF oD mD k_D bD ob1 mb1 k_b1 bb1 ob2 mb2 k_b2 bb2 ob3 mb3 k_b3 bb3 oKT mK k_K bK hm orr ln1 ln2 on2 ⟨ptx, gtx, ttx, ⟨rest3, rtx⟩⟩ ov bv
end My
-- ===== end =====
open PySem PySem.W PyProof.Rows
set_option maxRecDepth 100000
set_option maxHeartbeats 0
open_top head04 for PySem.Challenge.rw_mustwait_k04_reached
set_option maxRecDepth 100000 in
set_option maxHeartbeats 0 in
theorem PySem.Challenge.cw_mustwait_k04_reached_holds : PySem.Challenge.rw_mustwait_k04_reached.Holds :=
  head04 (by
  k_fill
  refine My.walk_ofG (l := PySem.Challenge.rw_mustwait_k04_reached) (n := 63) (k := 9) (x := "_law_script") (sp := My.spLaw) rfl (by decide) rfl ⟨rfl, by decide, by decide⟩ (fun w h Y => PySem.W.kIn_of Y) ?F (fun K H a ns hl hb _ hS => ⟨a, ns, rfl, hS, hl, hb, fun _ => rfl⟩)
  case F =>
    intro w mg fa h KX G hmg
    refine' My.all_mk KX G hmg ?aC ?clpg ?clhd ?clpo ?clsa ?n1 ?n2 ?rd ?ga ?m_of ?r_of ?f_of ?ptx ?gtx ?ttx ?rtx ?mk1 ?mk2 ?mk3 ?mk4 ?ln1 ?ln2 ?rc1 ?rc2 ?a_M ?l_M ?e_M ?k_M ?a_R ?l_R ?e_R ?k_R ?a_c1 ?l_c1 ?e_c1 ?k_c1 ?a_c2 ?l_c2 ?e_c2 ?k_c2 ?a_c3 ?l_c3 ?e_c3 ?k_c3 ?a_c4 ?l_c4 ?e_c4 ?k_c4 ?a_W ?l_W ?e_W ?k_W ?a_B ?l_B ?e_B ?k_B ?a_S ?l_S ?e_S ?k_S ?a_A ?l_A ?e_A ?k_A ?a_E ?l_E ?e_E ?k_E ?a_F ?l_F ?e_F ?k_F ?a_D ?l_D ?e_D ?k_D ?a_K ?l_K ?e_K ?k_K ?a_b1 ?l_b1 ?e_b1 ?k_b1 ?a_b2 ?l_b2 ?e_b2 ?k_b2 ?a_b3 ?l_b3 ?e_b3 ?k_b3 ?a_L ?l_L ?e_L ?k_L ?l_i ?e_i ?k_i ?l_o ?e_o ?k_o ?l_n ?e_n ?k_n ?l_v ?e_v ?k_v ?l_r ?e_r ?k_r ?z_isinstance ?z_str ?z_int ?z_bool ?z_tuple ?z_len ?z_all ?z_set ?z_sorted ?z_range ?z_repr ?z_enumerate ?z_list ?z_min ?v_MOST_STATES ?v_MOST_EVENTS ?v_MOST_LETTERS ?v_LETTERS
    (case aC => k_is)
    (case clpg => k_is)
    (case clhd => k_is)
    (case clpo => k_is)
    (case clsa => k_is)
    (case n1 => k_is)
    (case n2 => k_is)
    (case rd => k_is)
    (case ga => k_is)
    (case m_of => k_is)
    (case r_of => k_is)
    (case f_of => k_is)
    (case ptx => k_is)
    (case gtx => k_is)
    (case ttx => k_is)
    (case rtx => k_is)
    (case mk1 => k_is)
    (case mk2 => k_is)
    (case mk3 => k_is)
    (case mk4 => k_is)
    (case ln1 => k_is)
    (case ln2 => k_is)
    (case rc1 => k_is)
    (case rc2 => k_is)
    (case a_M => k_is)
    (case l_M => k_is)
    (case e_M => k_is)
    (case k_M => k_is)
    (case a_R => k_is)
    (case l_R => k_is)
    (case e_R => k_is)
    (case k_R => k_is)
    (case a_c1 => k_is)
    (case l_c1 => k_is)
    (case e_c1 => k_is)
    (case k_c1 => k_is)
    (case a_c2 => k_is)
    (case l_c2 => k_is)
    (case e_c2 => k_is)
    (case k_c2 => k_is)
    (case a_c3 => k_is)
    (case l_c3 => k_is)
    (case e_c3 => k_is)
    (case k_c3 => k_is)
    (case a_c4 => k_is)
    (case l_c4 => k_is)
    (case e_c4 => k_is)
    (case k_c4 => k_is)
    (case a_W => k_is)
    (case l_W => k_is)
    (case e_W => k_is)
    (case k_W => k_is)
    (case a_B => k_is)
    (case l_B => k_is)
    (case e_B => k_is)
    (case k_B => k_is)
    (case a_S => k_is)
    (case l_S => k_is)
    (case e_S => k_is)
    (case k_S => k_is)
    (case a_A => k_is)
    (case l_A => k_is)
    (case e_A => k_is)
    (case k_A => k_is)
    (case a_E => k_is)
    (case l_E => k_is)
    (case e_E => k_is)
    (case k_E => k_is)
    (case a_F => k_is)
    (case l_F => k_is)
    (case e_F => k_is)
    (case k_F => k_is)
    (case a_D => k_is)
    (case l_D => k_is)
    (case e_D => k_is)
    (case k_D => k_is)
    (case a_K => k_is)
    (case l_K => k_is)
    (case e_K => k_is)
    (case k_K => k_is)
    (case a_b1 => k_is)
    (case l_b1 => k_is)
    (case e_b1 => k_is)
    (case k_b1 => k_is)
    (case a_b2 => k_is)
    (case l_b2 => k_is)
    (case e_b2 => k_is)
    (case k_b2 => k_is)
    (case a_b3 => k_is)
    (case l_b3 => k_is)
    (case e_b3 => k_is)
    (case k_b3 => k_is)
    (case a_L => k_is)
    (case l_L => k_is)
    (case e_L => k_is)
    (case k_L => k_is)
    (case l_i => k_is)
    (case e_i => k_is)
    (case k_i => k_is)
    (case l_o => k_is)
    (case e_o => k_is)
    (case k_o => k_is)
    (case l_n => k_is)
    (case e_n => k_is)
    (case k_n => k_is)
    (case l_v => k_is)
    (case e_v => k_is)
    (case k_v => k_is)
    (case l_r => k_is)
    (case e_r => k_is)
    (case k_r => k_is)
    (case z_isinstance => k_is)
    (case z_str => k_is)
    (case z_int => k_is)
    (case z_bool => k_is)
    (case z_tuple => k_is)
    (case z_len => k_is)
    (case z_all => k_is)
    (case z_set => k_is)
    (case z_sorted => k_is)
    (case z_range => k_is)
    (case z_repr => k_is)
    (case z_enumerate => k_is)
    (case z_list => k_is)
    (case z_min => k_is)
    (case v_MOST_STATES => k_is)
    (case v_MOST_EVENTS => k_is)
    (case v_MOST_LETTERS => k_is)
    (case v_LETTERS => k_is))
#print axioms PySem.Challenge.cw_mustwait_k04_reached_holds
