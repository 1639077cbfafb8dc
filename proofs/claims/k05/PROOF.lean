import PyProof.Rows.All
import Wide.All
import OpenK.AllK
import Wide.FinOn
import HandS.ForMost
import HandS.Wide
import HandS.Style
import HandS.EndBits
import HandS.Conv
import PyProof.ReprLen
import PyProof.ReprReads
import PyProof.ReprRoads
import HandS.TupSets
import KE.KDictKeyed
import HandS.Strs
import KE.SortData
import KE.LtData
import HandS.Comp
import HandS.SetBool
import HandS.DictComp
import HandS.IsInst
import HandS.FStr
import HandS.Star
import HandS.ClsMeth
import HandS.Property
import HandS.Iter
import KE.GoesMore
import KE.GoesEnum
import HandS.SlotsOwn
import HandS.OwnEq
import PyProof.InstNe
import HandS.More
import HandS.Text
import HandS.Walk
import HandS.WordsExc
import HandS.HotCalls
import KE.KDictWalk
import KE.KDictCopyH
import HandS.ListItems
import KE.KDictDisplayH
import HandS.Dict
import KE.KeyNested
import PyProof.Rows.TupTab
import PyProof.DictMoreH
import HandS.TupLen
import HandS.Deep
import PyProof.TupleOfSeq
import PyProof.P3In
import PyProof.Rows.TupAdd
import HandS.Flow
import PyProof.P3Eq
import PyProof.NeData
import HandS.DictEq
import HandS.TupMul
import HandS.Words
import PySem.Challenge.RW_mustwait_k05_allows_and_alike
-- ===== K5A =====
set_option Elab.async false
set_option linter.all false
set_option maxRecDepth 100000
set_option maxHeartbeats 4000000
namespace My
open PySem L2
def top (i : Nat) : Stmt := PySem.Challenge.pw_mustwait_k05_allows_and_alike.main.body.getD i (.Pass ⟨0, 0, 0, 0⟩)
abbrev sFeed : Stmt := top 26
abbrev sDigit : Stmt := top 27

/-- bits of the script's numbers -/
def Bits (ks : List Int) : Prop := ∀ k ∈ ks, Builtin.Int.intBits k ≤ 1048576
/-- a feed at p: its numbers at c, the mixed number, how many draws there were -/
structure FeedAt (H : Hp) (p c : Addr) (ks : List Int) (w n : Int) : Prop where
  ob : H p = some (.lst [.ref c, .int w, .int n])
  cs : H c = some (.lst (ks.map V.int))
  bits : Bits ks
  len : ks.length ≤ 62
  w0 : 0 ≤ w
  w1 : w < 2147483648
  n0 : 0 ≤ n
theorem FeedAt.ne {H : Hp} {p c : Addr} {ks : List Int} {w n : Int} (F : FeedAt H p c ks w n) : c ≠ p := by
  intro e
  have h1 := F.ob
  have h2 := F.cs
  rw [e, h1] at h2
  have h3 := HO.lst.inj (Option.some.inj h2)
  cases ks with
  | nil => cases h3
  | cons k r =>
    injection h3 with h4 _
    cases h4
/-- all that was tracked is as it was, but for these two -/
def Save (p c : Addr) (H H' : Hp) : Prop := ∀ b o, H b = some o → b ≠ p → b ≠ c → H' b = some o
theorem Save.refl (p c : Addr) (H : Hp) : Save p c H H := fun _ _ h _ _ => h
theorem Save.trans {p c : Addr} {H H1 H2 : Hp} (a : Save p c H H1) (b : Save p c H1 H2) : Save p c H H2 := fun x o h h1 h2 => b x o (a x o h h1 h2) h1 h2
theorem Save.of {p c : Addr} {H H1 : Hp} (a : Same H H1) : Save p c H H1 := fun x o h _ _ => a x o h

/-- _law_feed(script): a new feed -/
def spFeed (K : PySem.W.Frag) : Sp := fun vs H Q _ => ∃ (a : Addr) (ns : List Int), vs = [.ref a] ∧ SqL K H a (ns.map V.int) ∧ ns.length ≤ 63 ∧ Bits ns ∧
  ∀ (p c : Addr) (ks : List Int) (w : Int) (H' : Hp), Same H H' → H p = none → H c = none → FeedAt H' p c ks w 0 → Q (.ref p) H'
/-- _law_digit(feed, many): a number below many -/
def spDigit : Sp := fun vs H Q _ => ∃ (p c : Addr) (ks : List Int) (w n m : Int), vs = [.ref p, .int m] ∧ FeedAt H p c ks w n ∧ n < 1000000 ∧ 0 < m ∧ m < 1000000 ∧
  ∀ (i : Int) (ks' : List Int) (H' : Hp), 0 ≤ i → i < m → FeedAt H' p c ks' w (n + 1) → Save p c H H' → Q (.int i) H'

theorem cut62 (xs : List V) : cutV xs none (some (62 : Int)) = xs.take 62 := by
  unfold cutV HT.sIx
  simp [List.take_eq_take_min]
theorem lay_ints : ∀ ks : List Int, PyData.canLayAll0 (ks.map PyData.int) = true
  | [] => by simp only [List.map_nil, PyData.canLayAll0]
  | k :: r => by simp only [List.map_cons, PyData.canLayAll0, PyData.canLay0, lay_ints r, Bool.and_self]
theorem deep_ints : ∀ ks : List Int, PyData.depthAll (ks.map PyData.int) ≤ 1
  | [] => by simp only [List.map_nil, PyData.depthAll]; omega
  | k :: r => by
    have ih := deep_ints r
    simp only [List.map_cons, PyData.depthAll, PyData.depth]
    omega
theorem shaped_ints (ks : List Int) : SeqAt.shaped (.list (ks.map PyData.int)) = true := by
  have h := deep_ints ks
  unfold SeqAt.shaped
  rw [Bool.and_eq_true]
  refine ⟨by simp only [PyData.canLay0, lay_ints], decide_eq_true ?_⟩
  simp only [PyData.depth]
  omega
theorem dp_ints {K : PySem.W.Frag} {H : Hp} : ∀ ks : List Int, DpAll K H (ks.map V.int) (ks.map PyData.int)
  | [] => .nil
  | k :: r => .cons (.int k) (dp_ints r)
theorem some_ints : ∀ (ks : List Int) (z : Int), PyData.eqv (.list ((ks ++ [z]).map PyData.int)) (.list []) = false
  | [], z => by simp [PyData.eqv, PyData.eqvAll]
  | k :: r, z => by simp [PyData.eqv, PyData.eqvAll]
theorem bits_mono {i j : Int} (h0 : 0 ≤ i) (h : i ≤ j) : Builtin.Int.intBits i ≤ Builtin.Int.intBits j := by
  unfold Builtin.Int.intBits
  by_cases e : i = 0
  · subst e
    simp
  · have ej : ¬ j = 0 := by omega
    have e1 : (i == 0) = false := by simpa using e
    have e2 : (j == 0) = false := by simpa using ej
    rw [e1, e2]
    have h2 : i.natAbs ≤ j.natAbs := by omega
    have h3 : i.natAbs ≠ 0 := by omega
    have h4 : j.natAbs ≠ 0 := by omega
    have := (Nat.le_log2 h4).mpr (Nat.le_trans (Nat.log2_self_le h3) h2)
    simp
    exact this
section
variable {P : Program} {w : World} {K : PySem.W.Frag} {mg : Str → Option Value} {base : Heap}
theorem scF : FnScope ["_law_script", "_law_cells", "_law_whole", "_law_figure"] ["_law_script"] (defScope sFeed) := ⟨rfl, rfl, rfl, by decide +kernel, rfl, by decide +kernel, by decide +kernel⟩
theorem ok_feed {f : Addr} {fd : FuncData} (F : Fun K "_law_feed" "_law_feed" sFeed f fd) (mlist : mg "list" = none) : FnOk P w K mg base CX0 1 f fd ["_law_script"] (spFeed K) := by
  refine F.ok scF (fun vs H Q E h => ?_) (fun cdv A outer s H vs Q E hr h => ?_)
  · obtain ⟨a, ns, rfl, _⟩ := h
    rfl
  · obtain ⟨a, ns, rfl, hS, hlen, hbits, k⟩ := h
    refine ⟨_, pss_cons (ps_par (i := 1) (j := 2) rfl scF.nd rfl rfl (by decide) rfl rfl
        (pa_cons (pe_callTy call_list_of (by rfl) mlist (by decide +kernel) (pa_cons (pe_slice sl_list (pv 0) po_none (po_some pe_int)) pa_nil)) (pa_cons pe_int pa_nil)) (by rfl))
      (pss_cons (ps_for PassesOwn.never rfl (pi_list (pv 1)) (pg_name (i := 3) scF.nd rfl (Or.inl rfl))
        (pss_one (ps_set (i := 2) scF.nd rfl (Or.inl rfl)
          (pe_op op_mod (pe_op op_add (pe_op op_add (pe_op op_mul (pv 2) pe_int) (pe_op op_mod (pv 3) pe_int)) pe_int) pe_int))))
      (pss_one (ps_ret (pe_lst (pa_cons (pe_revL (pv 1)) (pa_cons (pv 2) (pa_cons pe_int pa_nil))))))), ?_⟩
    -- list(script[:62]), 40005
    refine ⟨_, rfl, 62, rfl, a, _, rfl, hS, fun q hq => ⟨q, _, rfl, .inl (SqL.of upd_same), fun l hl => ⟨_, _, rfl, ?_⟩⟩⟩
    have nlq : l ≠ q := fun e => by
      rw [e, upd_same] at hl
      cases hl
    have hl0 : H l = none := by
      rw [upd_ne nlq] at hl
      exact hl
    have s0 : Same H (upd (upd H q (.lst (cutV (ns.map V.int) none (some 62)))) l (.lst (cutV (ns.map V.int) none (some 62)))) := fun b o e => by
      rw [upd_ne (ne_of_none e hl0), upd_ne (ne_of_none e hq)]
      exact e
    have ecut : cutV (ns.map V.int) none (some 62) = (ns.take 62).map V.int := by rw [cut62, List.map_take]
    -- for figure in cells
    refine ⟨_, rfl, l, rfl, ⟨_, SqL.of upd_same⟩, for_list (K := K) (a := l) (xs := (ns.take 62).map V.int) (fun i σ H2 => ∃ (y : Int) (v : Option V), σ = [some (.ref a), some (.ref l), some (.int y), v] ∧ 0 ≤ y ∧ y < 2147483629 ∧ Same H H2 ∧ H2 l = some (.lst ((ns.take 62).map V.int)))
      ⟨40005, none, rfl, by decide, by decide, s0, by rw [upd_same, ecut]⟩ (fun i σ H2 _ ⟨_, _, _, _, _, _, e⟩ => SqL.of e) ?_ ?_⟩
    · rintro i x σ H2 hi ⟨y, v, rfl, y0, y1, s2, hc⟩
      obtain ⟨z, rfl⟩ : ∃ z, x = V.int z := by
        rw [List.getElem?_map] at hi
        cases e : (ns.take 62)[i]? with
        | none =>
          rw [e] at hi
          cases hi
        | some z =>
          rw [e] at hi
          exact ⟨z, (Option.some.inj hi).symm⟩
      refine ⟨_, rfl, _, _, rfl, rfl, .inl ⟨by omega, by omega⟩, _, rfl, _, _, rfl, rfl, (by show (0 : Int) < _; decide), _, _, rfl, rfl, _, _, rfl, rfl, _, _, rfl, rfl, (by show (0 : Int) < _; decide), ?_⟩
      exact ⟨_, _, rfl, Int.emod_nonneg _ (by decide), Int.emod_lt_of_pos _ (by decide), s2, hc⟩
    · rintro σ H2 ⟨y, v, rfl, y0, y1, s2, hc⟩
      refine ⟨_, rfl, l, _, rfl, SqL.of hc, fun c hcn => ⟨_, rfl, by show 3 ≤ sizeLine; decide, fun p hp => ?_⟩⟩
      have npc : p ≠ c := fun e => by
        rw [e, upd_same] at hp
        cases hp
      have hp0 : H2 p = none := by
        rw [upd_ne npc] at hp
        exact hp
      refine k p c (ns.take 62).reverse y _ (fun b o e => ?_) (s2.free hp0) (s2.free hcn) ⟨upd_same, ?_, ?_, ?_, y0, by omega, by decide⟩
      · rw [upd_ne (ne_of_none (s2 b o e) hp0), upd_ne (ne_of_none (s2 b o e) hcn)]
        exact s2 b o e
      · rw [upd_ne (Ne.symm npc), upd_same, List.map_reverse]
      · exact fun z hz => hbits z (List.mem_of_mem_take (List.mem_reverse.mp hz))
      · rw [List.length_reverse, List.length_take]
        omega
theorem scD : FnScope ["_law_feed_here", "_law_many", "_law_mix", "_law_figure"] ["_law_feed_here", "_law_many"] (defScope sDigit) := ⟨rfl, rfl, rfl, by decide +kernel, rfl, by decide +kernel, by decide +kernel⟩
theorem ok_digit {f : Addr} {fd : FuncData} (F : Fun K "_law_digit" "_law_digit" sDigit f fd) : FnOk P w K mg base CX0 1 f fd ["_law_feed_here", "_law_many"] spDigit := by
  refine F.ok scD (fun vs H Q E h => ?_) (fun cdv A outer s H vs Q E hr h => ?_)
  · obtain ⟨p, c, ks, y, n, m, rfl, _⟩ := h
    rfl
  · obtain ⟨p, c, ks, y, n, m, rfl, FA, hn, m0, m1, k⟩ := h
    have hu := hu_of hr
    have ncp := FA.ne
    have w0 := FA.w0
    have w1 := FA.w1
    have n0 := FA.n0
    refine ⟨_, pss_cons (ps_asg (pe_op op_add (pe_ix ix_list (pv 0) pe_int (fun _ _ => rfl)) pe_int) (pg_sub (pv 0) pe_int set_list))
      (pss_cons (ps_set (i := 2) scD.nd rfl (Or.inl rfl) (pe_op op_add (pe_ix ix_list (pv 0) pe_int (fun _ _ => rfl)) (pe_op op_mul (pe_op op_mul pe_int (pe_ix ix_list (pv 0) pe_int (fun _ _ => rfl))) (pe_ix ix_list (pv 0) pe_int (fun _ _ => rfl)))))
      (pss_cons (ps_if (pt_cmpR (op_neD hr.units) (pe_ix ix_list (pv 0) pe_int (fun _ _ => rfl)) (pe_lst pa_nil) (nomark _))
        (pss_cons (ps_set (i := 3) scD.nd rfl (Or.inl rfl) (pe_bm0 PySem.F.plainAttrs_list PySem.F.slot_list_pop PySem.F.type_list_pop mt_pop (pe_ix ix_list (pv 0) pe_int (fun _ _ => rfl))))
        (pss_cons (ps_if (pt_cmpR op_ge (pv 3) (pe_op op_pow pe_int pe_int) (nomark _))
          (pss_cons (ps_expr (pe_bm PySem.F.plainAttrs_list PySem.F.slot_list_append PySem.F.type_list_append mt_append (pe_ix ix_list (pv 0) pe_int (fun _ _ => rfl)) (pa_cons (pe_op op_fdivW (pv 3) (pv 1)) pa_nil)))
          (pss_one (ps_ret (pe_op op_mod (pv 3) (pv 1))))) pss_nil)
        (pss_one (ps_set (i := 2) scD.nd rfl (Or.inl rfl) (pe_op op_add (pv 2) (pv 3)))))) pss_nil)
      (pss_cons (ps_set (i := 2) scD.nd rfl (Or.inl rfl) (pe_op op_mod (pe_op op_mul (pe_op op_mod (pv 2) pe_int) pe_int) pe_int))
      (pss_cons (ps_set (i := 2) scD.nd rfl (Or.inl rfl) (pe_op op_mod (pe_op op_add (pe_op op_add (pe_op op_mul (pv 2) (pv 2)) (pe_op op_mul pe_int (pv 2))) pe_int) pe_int))
      (pss_one (ps_ret (pe_op op_mod (pe_op op_fdiv (pe_op op_mod (pe_op op_mul (pv 2) pe_int) pe_int) pe_int) (pv 1)))))))), ?_⟩
    -- feed[2] = feed[2] + 1
    refine ⟨_, rfl, p, _, 2, .int n, rfl, rfl, SqL.of FA.ob, rfl, _, _, rfl, rfl, _, rfl, p, _, _, 2, rfl, rfl, FA.ob, rfl, ?_⟩
    have hp1 : (upd H p (.lst ([V.ref c, .int y, .int n].set 2 (.int (n + 1))))) p = some (.lst [V.ref c, .int y, .int (n + 1)]) := upd_same
    have hc1 : (upd H p (.lst ([V.ref c, .int y, .int n].set 2 (.int (n + 1))))) c = some (.lst (ks.map V.int)) := by
      rw [upd_ne ncp]
      exact FA.cs
    have sv1 : Save p c H (upd H p (.lst ([V.ref c, .int y, .int n].set 2 (.int (n + 1))))) := fun b o e h1 _ => by
      rw [upd_ne h1]
      exact e
    generalize upd H p (.lst ([V.ref c, .int y, .int n].set 2 (.int (n + 1)))) = H1 at hp1 hc1 sv1 ⊢
    -- mix = feed[1] + 61843 * feed[2] * feed[2]
    refine ⟨_, rfl, p, _, 1, .int y, rfl, rfl, SqL.of hp1, rfl, _, rfl, p, _, 2, .int (n + 1), rfl, rfl, SqL.of hp1, rfl, _, _, rfl, rfl, .inl ⟨by decide, by decide⟩, _, rfl, p, _, 2, .int (n + 1), rfl, rfl, SqL.of hp1, rfl, _, _, rfl, rfl, .inl ⟨by omega, by omega⟩, _, _, rfl, rfl, ?_⟩
    generalize y + 61843 * (n + 1) * (n + 1) = mix
    -- if feed[0] != []
    refine ⟨_, rfl, p, _, 0, .ref c, rfl, rfl, SqL.of hp1, rfl, by show 0 ≤ sizeLine; decide, fun e he => ?_⟩
    refine ⟨.list (ks.map PyData.int), .list [], .lst (SqL.of (by rw [upd_ne (ne_of_none hc1 he)]; exact hc1)) (dp_ints ks), .lst (SqL.of upd_same) .nil, shaped_ints ks, by decide, _, rfl, ?_⟩
    have nce : c ≠ e := ne_of_none hc1 he
    have npe : p ≠ e := ne_of_none hp1 he
    have hp2 : (upd H1 e (.lst [])) p = some (.lst [V.ref c, .int y, .int (n + 1)]) := by
      rw [upd_ne npe]
      exact hp1
    have hc2 : (upd H1 e (.lst [])) c = some (.lst (ks.map V.int)) := by
      rw [upd_ne nce]
      exact hc1
    have sv2 : Save p c H (upd H1 e (.lst [])) := fun b o q h1 h2 => by
      have q1 := sv1 b o q h1 h2
      rw [upd_ne (ne_of_none q1 he)]
      exact q1
    generalize upd H1 e (.lst []) = H2 at hp2 hc2 sv2 ⊢
    have hbit := FA.bits
    have hlen := FA.len
    clear FA
    rcases List.eq_nil_or_concat ks with rfl | ⟨r, z, rfl⟩
    · have hb : (!PyData.eqv (.list (([] : List Int).map PyData.int)) (.list [])) = false := by decide
      rw [hb]
      refine iteF ?_
      refine ⟨_, rfl, _, _, rfl, rfl, (by show (0 : Int) < _; decide), _, _, rfl, rfl, .inl ⟨by omega, by omega⟩, _, _, rfl, rfl, (by show (0 : Int) < _; decide), ?_⟩
      have b0 := Int.emod_nonneg (mix % 2147483563 * 48271) (show (2147483647 : Int) ≠ 0 by decide)
      have b1 := Int.emod_lt_of_pos (mix % 2147483563 * 48271) (show (0 : Int) < 2147483647 by decide)
      generalize mix % 2147483563 * 48271 % 2147483647 = g at b0 b1 ⊢
      refine ⟨_, rfl, _, rfl, _, _, rfl, rfl, .inl ⟨by omega, by omega⟩, _, rfl, _, _, rfl, rfl, .inl ⟨by decide, by decide⟩, _, _, rfl, rfl, _, _, rfl, rfl, _, _, rfl, rfl, (by show (0 : Int) < _; decide), ?_⟩
      have d0 := Int.emod_nonneg (g * g + 39373 * g + 503) (show (2147483587 : Int) ≠ 0 by decide)
      have d1 := Int.emod_lt_of_pos (g * g + 39373 * g + 503) (show (0 : Int) < 2147483587 by decide)
      generalize (g * g + 39373 * g + 503) % 2147483587 = j at d0 d1 ⊢
      refine ⟨_, rfl, _, _, rfl, rfl, .inl ⟨by omega, by omega⟩, _, _, rfl, rfl, (by show (0 : Int) < _; decide), _, _, rfl, rfl, ⟨by decide, by decide⟩, _, rfl, _, _, rfl, rfl, m0, ?_⟩
      exact k _ [] H2 (Int.emod_nonneg _ (by omega)) (Int.emod_lt_of_pos _ m0) ⟨hp2, hc2, hbit, hlen, w0, w1, by omega⟩ sv2
    · rw [List.concat_eq_append] at hc2 hbit hlen ⊢
      have hb : (!PyData.eqv (.list ((r ++ [z]).map PyData.int)) (.list [])) = true := by rw [some_ints] <;> rfl
      rw [hb]
      refine iteT ?_
      rw [List.map_append] at hc2
      -- figure = feed[0].pop()
      have hc2' : H2 c = some (.lst (r.map V.int ++ [V.int z])) := hc2
      have hbr : Bits r := fun v hv => hbit v (List.mem_append_left _ hv)
      have hbz : Builtin.Int.intBits z ≤ 1048576 := hbit z (List.mem_append_right _ List.mem_cons_self)
      have hlr : r.length + 1 ≤ 62 := by
        rw [List.length_append] at hlen
        exact hlen
      refine ⟨_, rfl, p, _, 0, .ref c, rfl, rfl, SqL.of hp2, rfl, .inl ⟨rfl, _, SqL.of hc2'⟩, c, _, .int z, rfl, rfl, hc2', by simp, ?_⟩
      rw [List.dropLast_concat]
      have hp3 : (upd H2 c (.lst (r.map V.int))) p = some (.lst [V.ref c, .int y, .int (n + 1)]) := by
        rw [upd_ne (Ne.symm ncp)]
        exact hp2
      have hc3 : (upd H2 c (.lst (r.map V.int))) c = some (.lst (r.map V.int)) := upd_same
      have sv3 : Save p c H (upd H2 c (.lst (r.map V.int))) := fun b o q h1 h2 => by
        rw [upd_ne h2]
        exact sv2 b o q h1 h2
      generalize upd H2 c (.lst (r.map V.int)) = H3 at hp3 hc3 sv3 ⊢
      -- if figure >= 10 ** 18
      refine ⟨_, rfl, _, _, rfl, rfl, ⟨by decide, by decide, by decide⟩, _, _, rfl, rfl, _, rfl, ?_⟩
      by_cases big : (10 : Int) ^ ((18 : Int).toNat) ≤ z
      · rw [decide_eq_true big]
        refine iteT ?_
        have zb : (0 : Int) ≤ z := Int.le_trans (by decide) big
        -- feed[0].append(figure // many); return figure % many
        refine ⟨_, rfl, p, _, 0, .ref c, rfl, rfl, SqL.of hp3, rfl, .inl ⟨rfl, _, SqL.of hc3⟩, _, rfl, _, rfl, _, _, rfl, rfl, wide_div m0 (b := 30) (by omega) (by decide) (by decide), c, _, _, rfl, rfl, hc3, small1000 (by rw [List.length_map]; omega), ?_⟩
        refine ⟨_, rfl, _, rfl, _, _, rfl, rfl, m0, ?_⟩
        refine k _ (r ++ [z / m]) _ (Int.emod_nonneg _ (by omega)) (Int.emod_lt_of_pos _ m0) ⟨by rw [upd_ne (Ne.symm ncp)]; exact hp3, by rw [upd_same, List.map_append] <;> rfl, fun v hv => ?_, by rw [List.length_append]; exact hlr, w0, w1, by omega⟩ fun b o q h1 h2 => ?_
        · rcases List.mem_append.mp hv with hv | hv
          · exact hbr v hv
          · obtain rfl : v = z / m := by simpa using hv
            exact Nat.le_trans (bits_mono (Int.ediv_nonneg zb (by omega)) (Int.ediv_le_self _ zb)) hbz
        · rw [upd_ne h2]
          exact sv3 b o q h1 h2
      · rw [decide_eq_false big]
        refine iteF ?_
        refine ⟨_, rfl, _, rfl, _, _, rfl, rfl, ?_⟩
        refine ⟨_, rfl, _, _, rfl, rfl, (by show (0 : Int) < _; decide), _, _, rfl, rfl, .inl ⟨by omega, by omega⟩, _, _, rfl, rfl, (by show (0 : Int) < _; decide), ?_⟩
        have b0 := Int.emod_nonneg ((mix + z) % 2147483563 * 48271) (show (2147483647 : Int) ≠ 0 by decide)
        have b1 := Int.emod_lt_of_pos ((mix + z) % 2147483563 * 48271) (show (0 : Int) < 2147483647 by decide)
        generalize (mix + z) % 2147483563 * 48271 % 2147483647 = g at b0 b1 ⊢
        refine ⟨_, rfl, _, rfl, _, _, rfl, rfl, .inl ⟨by omega, by omega⟩, _, rfl, _, _, rfl, rfl, .inl ⟨by decide, by decide⟩, _, _, rfl, rfl, _, _, rfl, rfl, _, _, rfl, rfl, (by show (0 : Int) < _; decide), ?_⟩
        have d0 := Int.emod_nonneg (g * g + 39373 * g + 503) (show (2147483587 : Int) ≠ 0 by decide)
        have d1 := Int.emod_lt_of_pos (g * g + 39373 * g + 503) (show (0 : Int) < 2147483587 by decide)
        generalize (g * g + 39373 * g + 503) % 2147483587 = j at d0 d1 ⊢
        refine ⟨_, rfl, _, _, rfl, rfl, .inl ⟨by omega, by omega⟩, _, _, rfl, rfl, (by show (0 : Int) < _; decide), _, _, rfl, rfl, ⟨by decide, by decide⟩, _, rfl, _, _, rfl, rfl, m0, ?_⟩
        exact k _ r H3 (Int.emod_nonneg _ (by omega)) (Int.emod_lt_of_pos _ m0) ⟨hp3, hc3, hbr, by omega, w0, w1, by omega⟩ sv3
end
end My

-- ===== K5D =====
set_option Elab.async false
set_option linter.all false
set_option maxRecDepth 100000
set_option maxHeartbeats 4000000
namespace My
open PySem L2 PyProof.Rows PySem.Spec
/-! ### data, apart from two addresses -/
mutual
/-- v is the data d; F holds of where its objects stand -/
inductive Dq (F : Addr → Prop) (H : Hp) : V → PyData → Prop
  | non : Dq F H .non .none
  | bl (b : Bool) : Dq F H (.bl b) (.bool b)
  | int (i : Int) : Dq F H (.int i) (.int i)
  | str (x : Str) : Dq F H (.str x) (.str x)
  | lst {a : Addr} {xs : List V} {ds : List PyData} : sysModules < a → F a → H a = some (.lst xs) → DqAll F H xs ds → Dq F H (.ref a) (.list ds)
  | tup {a : Addr} {xs : List V} {ds : List PyData} : F a → H a = some (.tup xs) → DqAll F H xs ds → Dq F H (.ref a) (.tuple ds)
  | dct {a : Addr} {k : Str} {v : V} {d : PyData} : F a → H a = some (.dK [(Sum.inr k, v)]) → Dq F H v d → Dq F H (.ref a) (.dict [(.str k, d)])
inductive DqAll (F : Addr → Prop) (H : Hp) : List V → List PyData → Prop
  | nil : DqAll F H [] []
  | cons {v : V} {vs : List V} {d : PyData} {ds : List PyData} : Dq F H v d → DqAll F H vs ds → DqAll F H (v :: vs) (d :: ds)
end
mutual
/-- .. in another heap, where these objects stand, too; of less -/
theorem Dq.to {F F' : Addr → Prop} {H H' : Hp} (s : ∀ a o, F a → H a = some o → H' a = some o) (m : ∀ a, F a → F' a) : ∀ {v : V} {d : PyData}, Dq F H v d → Dq F' H' v d
  | _, _, .non => .non
  | _, _, .bl b => .bl b
  | _, _, .int i => .int i
  | _, _, .str x => .str x
  | _, _, .lst h1 h2 h4 h5 => .lst h1 (m _ h2) (s _ _ h2 h4) (DqAll.to s m h5)
  | _, _, .tup h2 h4 h5 => .tup (m _ h2) (s _ _ h2 h4) (DqAll.to s m h5)
  | _, _, .dct h2 h4 h5 => .dct (m _ h2) (s _ _ h2 h4) (Dq.to s m h5)
theorem DqAll.to {F F' : Addr → Prop} {H H' : Hp} (s : ∀ a o, F a → H a = some o → H' a = some o) (m : ∀ a, F a → F' a) : ∀ {vs : List V} {ds : List PyData}, DqAll F H vs ds → DqAll F' H' vs ds
  | _, _, .nil => .nil
  | _, _, .cons h1 h2 => .cons (Dq.to s m h1) (DqAll.to s m h2)
end
theorem DqAll.snoc {F : Addr → Prop} {H : Hp} {v : V} {d : PyData} (h : Dq F H v d) : ∀ {vs : List V} {ds : List PyData}, DqAll F H vs ds → DqAll F H (vs ++ [v]) (ds ++ [d])
  | _, _, .nil => .cons h .nil
  | _, _, .cons h1 h2 => .cons h1 (DqAll.snoc h h2)
section
variable {X : Cx} {pins : List (Addr × Obj)} {σ : L2.St} {H : Hp} {s : Shared} {F : Addr → Prop}
theorem modules_not {as bs : List Addr} (h1 : sysModules ∉ as) (h2 : sysModules ∉ bs) : sysModules ∉ as ++ bs := fun h => (List.mem_append.mp h).elim h1 h2
mutual
theorem Dq.reads (I : Inv X pins σ H s) : ∀ (d : PyData) (v : V) (u : Value), Dq F H v d → RelV v u → ∃ as, Reads s.heap u d as ∧ sysModules ∉ as
  | .none, _, _, h, r => by
    cases h
    cases r
    exact ⟨_, Reads.none, by simp⟩
  | .bool b, _, _, h, r => by
    cases h
    cases r
    exact ⟨_, Reads.bool b, by simp⟩
  | .int i, _, _, h, r => by
    cases h
    obtain ⟨t, rfl⟩ := r
    exact ⟨_, Reads.int i t, by simp⟩
  | .str x, _, _, h, r => by
    cases h
    obtain ⟨t, rfl⟩ := r
    exact ⟨_, Reads.str x t, by simp⟩
  | .list ds, _, _, h, r => by
    cases h with
    | lst big n1 ha hd =>
      rename_i a xs
      cases r
      obtain ⟨_, its, n, rv, ho⟩ := (show ObjOk X.prog X.w H s.heap a (.lst xs) from I.hok a _ ha)
      obtain ⟨as, hr, hn⟩ := DqAll.reads I ds _ its hd rv
      refine ⟨_, Reads.list ho rfl rfl (by simpa using hr), ?_⟩
      intro hm
      rcases List.mem_cons.mp hm with e | e
      · exact absurd big (by rw [← e]; exact Nat.lt_irrefl _)
      · exact hn e
  | .tuple ds, _, _, h, r => by
    cases h with
    | tup n1 ha hd =>
      rename_i a xs
      cases r
      obtain ⟨_, its, rv, o, ho, hc, n, hdt⟩ := (show ObjOk X.prog X.w H s.heap a (.tup xs) from I.hok a _ ha)
      obtain ⟨as, hr, hn⟩ := DqAll.reads I ds _ its hd rv
      exact ⟨_, Reads.tuple ho hc hdt (by simpa using hr), hn⟩
  | .dict [], _, _, h, _ => by cases h
  | .dict [(k, d)], _, _, h, r => by
    cases h with
    | dct n1 ha hd =>
      rename_i a k v
      cases r
      obtain ⟨_, low, vs, rel, o, es, ep, ho, hx, hdt, _, hp, _⟩ := (show ObjOk X.prog X.w H s.heap a (.dK [(Sum.inr k, v)]) from I.hok a _ ha)
      rcases vs with _ | ⟨⟨kk, u⟩, _ | ⟨_, _⟩⟩
      · cases rel
      · have r1 : (Sum.inr k = kk) ∧ RelV v u := by
          cases rel with
          | cons r1 rn => exact r1
        obtain ⟨e1, rv⟩ := r1
        subst e1
        generalize hl : es.toList = l at hp
        cases hp with
        | cons hk hv hrest =>
          cases hrest
          rename_i en
          obtain ⟨as, hr, hn⟩ := Dq.reads I d v u hd rv
          obtain ⟨t, hk'⟩ : ∃ t, en.key = Value.str k t := by
            have hk2 : keyIs (Sum.inr k) en.key = true := hk
            rcases keyIs_shape hk2 with ⟨i, t, q, _⟩ | ⟨y, t, q, z⟩
            · cases q
            · cases q
              exact ⟨t, z⟩
          refine ⟨_, Reads.dict (es := es) (as := []) (bs := as ++ []) ho hx.1 hdt ?_ ?_, ?_⟩
          · rw [hl]
            show ReadsAll s.heap [en.key] [PyData.str k] []
            rw [hk']
            exact .cons (as := []) (bs := []) (.str k t) .nil
          · rw [hl]
            show ReadsAll s.heap [en.val] [d] (as ++ [])
            rw [show en.val = u from hv]
            exact .cons hr .nil
          · intro hm
            have hm' : sysModules ∈ a :: (as ++ []) := by simpa using hm
            rcases List.mem_cons.mp hm' with e | e
            · rw [← e] at low
              exact absurd low (by simp)
            · exact hn (by simpa using e)
      · cases rel with
        | cons _ rn => cases rn
  | .dict (_ :: _ :: _), _, _, h, _ => by cases h
theorem DqAll.reads (I : Inv X pins σ H s) : ∀ (ds : List PyData) (vs : List V) (us : List Value), DqAll F H vs ds → Vals vs us → ∃ as, ReadsAll s.heap us ds as ∧ sysModules ∉ as
  | [], _, _, h, r => by
    cases h
    cases r
    exact ⟨_, ReadsAll.nil, by simp⟩
  | d :: ds, _, _, h, r => by
    cases h with
    | cons h1 h2 =>
      cases r with
      | cons r1 r2 =>
        obtain ⟨as, q1, n1⟩ := Dq.reads I d _ _ h1 r1
        obtain ⟨bs, q2, n2⟩ := DqAll.reads I ds _ _ h2 r2
        exact ⟨_, ReadsAll.cons q1 q2, modules_not n1 n2⟩
end
/-! ### repr of such data -/
def rReprD (F : Addr → Prop) : List V → Hp → VK → Prop := fun xs H Q => ∃ v d, xs = [v] ∧ Dq F H v d ∧ d.showable = true ∧ d.depth ≤ 60 ∧ d.shown.length ≤ sizeLine ∧ Q (.str d.shown) H
theorem call_reprD (hg : X.A.guards = some []) (hu : X.A.units + 64 < cLine) : CallR X (.builtin "repr") (rReprD F) := by
  intro pins s σ H xs us Q I r h
  obtain ⟨v, d, rfl, hd, hs, hdp, hz, q⟩ := h
  obtain ⟨u, rfl, rx⟩ := vals1 r
  obtain ⟨as, hr, hn⟩ := Dq.reads I d v u hd rx
  cases hd with
  | non =>
    cases (show u = Value.none from rx)
    exact P.repr_of_none ⟨.str _, H, I.tok _, ⟨_, rfl⟩, q⟩
  | bl b =>
    cases (show u = Value.bool b from rx)
    exact P.repr_of_bool ⟨.str _, H, I.tok _, ⟨_, rfl⟩, q⟩
  | int i =>
    obtain ⟨t, rfl⟩ := (show ∃ t, u = Value.int i t from rx)
    exact P.repr_of_int (by simpa [PyData.showable] using hs) ⟨.str _, H, I.tok _, ⟨_, rfl⟩, q⟩
  | str x =>
    obtain ⟨t, rfl⟩ := (show ∃ t, u = Value.str x t from rx)
    exact P.repr_of_str ⟨.str _, H, I.tok _, ⟨_, rfl⟩, q⟩ (by simpa only [PyData.shown] using hz)
  | lst _ _ _ _ =>
    cases rx
    exact repr_of_reads' hr hs (fun _ => hn) hg (by omega) (fun _ _ e => e) (fun h' t tk k => ⟨.str _, H, I.kept k, ⟨t, rfl⟩, q⟩) hz
  | tup _ _ _ =>
    cases rx
    exact repr_of_reads' hr hs (fun _ => hn) hg (by omega) (fun _ _ e => e) (fun h' t tk k => ⟨.str _, H, I.kept k, ⟨t, rfl⟩, q⟩) hz
  | dct _ _ _ =>
    cases rx
    exact repr_of_reads' hr hs (fun _ => hn) hg (by omega) (fun _ _ e => e) (fun h' t tk k => ⟨.str _, H, I.kept k, ⟨t, rfl⟩, q⟩) hz
end
end My

-- ===== KS1 =====
set_option Elab.async false
set_option linter.all false
set_option maxRecDepth 100000
set_option maxHeartbeats 1600000
/-! Sets whose members are objects told by a key (tuples of texts, nested tuples): search and add. -/
namespace Kd
open PySem PySem.Spec PyProof.Rows L2

section
variable {P : Program} {w : World} {K : Type} [DecidableEq K]
/-- keys that a set can have for members: nothing of the program is asked when they are compared -/
structure SetKind (knd : HeapKind P w K) : Prop where
  st : knd.Stays
  cls : ∀ {A : Around} {E : Value → Shared → Prop} {s : Shared} {k : K} {b : Addr} {Q : Bool → Shared → Prop}, knd.is s.heap k b → Q false s → wpAny (model P w) A (ofAClassStatement 8 (.ref b)) Q E s
  byv : ∀ {A : Around} {E : Value → Shared → Prop} {s : Shared} {k : K} {b : Addr} {Q : Bool → Shared → Prop}, knd.is s.heap k b → (∀ c, Q c s) → wpAny (model P w) A (hashByValue 8 (.ref b)) Q E s

def rowsH (knd : HeapKind P w K) (L : List (Addr × K)) : List (Int × Value) := L.map fun q => (knd.hash q.2, Value.ref q.1)
def hashH (knd : HeapKind P w K) (L : List (Addr × K)) : List Int := L.map fun q => knd.hash q.2
theorem rowsH_len (knd : HeapKind P w K) (L : List (Addr × K)) : (rowsH knd L).length = L.length := List.length_map ..
theorem hashH_len (knd : HeapKind P w K) (L : List (Addr × K)) : (hashH knd L).length = L.length := List.length_map ..
/-- at a the set with the members L: their addresses and keys, in the order of the table -/
structure SetH (knd : HeapKind P w K) (h : Heap) (a : Addr) (L : List (Addr × K)) (es : Array (Int × Value)) (ep : Nat) (t : SetTable) : Prop where
  ob : ∃ o, h.get? a = some o ∧ o.ExactSet ∧ o.data = .set es ep t
  rows : es.toList = rowsH knd L
  tab : TabOk t (hashH knd L)
  nd : (L.map Prod.snd).Nodup
  key : ∀ q ∈ L, knd.is h q.2 q.1
  led : w.params.followText "set-order" = true ∨ t.led = true
  room : L.length * 5 < t.mask * 3
  few : L.length < 64
end

section
variable {P : Program} {w : World} {K : Type} [DecidableEq K] {knd : HeapKind P w K} {A : Around} {E : Value → Shared → Prop} {s : Shared} {h : Heap} {a : Addr} {L : List (Addr × K)} {es : Array (Int × Value)} {ep : Nat} {t : SetTable}

theorem SetH.esz (Z : SetH knd h a L es ep t) : es.size = L.length := by
  have q := congrArg List.length Z.rows
  rwa [rowsH_len, Array.length_toList] at q
theorem SetH.psz (Z : SetH knd h a L es ep t) : t.place.size = L.length := by
  have q := Z.tab.sz
  rwa [hashH_len] at q
theorem SetH.fit (Z : SetH knd h a L es ep t) : t.fits es.size = true := by
  have q1 := Z.psz
  have q2 := Z.esz
  have q3 := Z.room
  unfold SetTable.fits SetTable.fill
  rw [Z.tab.dm, Bool.and_eq_true, beq_iff_eq, decide_eq_true_eq, q1, q2]
  refine ⟨rfl, ?_⟩
  show L.length + 0 ≤ t.mask
  omega
theorem SetH.at_ (Z : SetH knd h a L es ep t) {i : Nat} {q : Addr × K} (e : L[i]? = some q) : es[i]? = some (knd.hash q.2, Value.ref q.1) := by
  have z : es.toList[i]? = some (knd.hash q.2, Value.ref q.1) := by
    rw [Z.rows]
    show (L.map _)[i]? = _
    rw [List.getElem?_map, e]
    rfl
  rwa [Array.getElem?_toList] at z
theorem SetH.stands (Z : SetH knd h a L es ep t) : ¬ t.gaveWay = true := by
  unfold SetTable.gaveWay
  rw [mask_odd Z.tab.mok]
  decide
theorem nth_plain (m : Nat) : ∀ (n : Nat) (p : SetTable.Probe), p.dummy = none → (nth m p n).dummy = none
  | 0, _, e => e
  | n + 1, p, e => nth_plain m n (adv m p) (by unfold adv; split <;> exact e)

/-- comparing keys shows nothing -/
theorem unseen (S : SetKind knd) {k : K} {b : Addr} {Q : Bool → Shared → Prop} (hb : knd.is s.heap k b) {ys : List Value} (hy : ∀ y ∈ ys, ∃ k' c, y = Value.ref c ∧ knd.is s.heap k' c) (q : Q false s) :
    wpAny (model P w) A (searchCouldBeSeen (.ref b) ys) Q E s := by
  unfold searchCouldBeSeen
  refine wpAny_bind (wpAny_forIn_list _ (fun todo r s1 => r.1 = none ∧ s1 = s ∧ ∀ y ∈ todo, ∃ k' c, y = Value.ref c ∧ knd.is s.heap k' c) _ (fun y todo r s1 hI => ?_) (fun r s1 hI => ?_) _ _ ⟨rfl, rfl, hy⟩)
  · obtain ⟨e1, e2, e3⟩ := hI
    subst e2
    obtain ⟨k', c, e4, hc⟩ := e3 y List.mem_cons_self
    subst e4
    have more : ∀ y ∈ todo, ∃ k' c, y = Value.ref c ∧ knd.is s1.heap k' c := fun u hu => e3 u (List.mem_cons_of_mem _ hu)
    dsimp only
    by_cases same : (b == c || (carriedByValue (.ref b) && carriedByValue (.ref c))) = true
    · exact wp_if_pos same (wpAny_pure ⟨rfl, rfl, more⟩)
    · refine wp_if_neg same (wpAny_bind (knd.quiet hb ?_))
      simp only [Bool.not_true, Bool.false_eq_true, if_false]
      refine wpAny_bind (knd.quiet hc ?_)
      simp only [Bool.not_true, Bool.false_eq_true, if_false]
      refine wpAny_bind (S.cls hb ?_)
      simp only [Bool.false_eq_true, if_false]
      refine wpAny_bind (S.cls hc ?_)
      simp only [Bool.false_eq_true, if_false]
      exact wpAny_pure ⟨rfl, rfl, more⟩
  · obtain ⟨r1, r2⟩ := r
    obtain ⟨e1, e2, _⟩ := hI
    have e1 : r1 = none := e1
    subst e1
    subst e2
    exact wpAny_pure q

/-- the probe's state behind c steps -/
abbrev prob (t : SetTable) (g : Int) (c : Nat) : SetTable.Probe := nth t.mask (runAt t.mask (SetTable.bits g % (t.mask + 1)) (SetTable.bits g)) c

theorem seek (S : SetKind knd) (Z : SetH knd s.heap a L es ep t) {x : Addr} {k : K} (hx : knd.is s.heap k x) (hr : knd.room A) {K0 : Nat} (kf : K0 < 10 * SetTable.turns t.mask)
    (kout : way t.mask (knd.hash k) K0 ∉ t.place.toList) (kin : ∀ c, c < K0 → way t.mask (knd.hash k) c ∈ t.place.toList) {Q : SetFound → Shared → Prop}
    (yes : k ∈ L.map Prod.snd → Q (.there none) s) (no : k ∉ L.map Prod.snd → Q (.free (way t.mask (knd.hash k) K0) false) s) :
    ∀ (m f c : Nat) (stand : Option SetTable.Probe), K0 - c = m → m < f → c ≤ K0 → stand.getD (t.probeStart (knd.hash k)) = prob t (knd.hash k) c →
      (∀ (i : Nat) q, L[i]? = some q → q.2 = k → ∃ d, c ≤ d ∧ d < K0 ∧ t.place.toList[i]? = some (way t.mask (knd.hash k) d)) →
      wpAny (model P w) A (setSearchFrom a (.ref x) (knd.hash k) true f stand) Q E s := by
  intro m
  induction m using Nat.strongRecOn with
  | ind m ih =>
    intro f c stand em mf ck es0 left
    obtain ⟨f, rfl⟩ : ∃ f', f = f' + 1 := ⟨f - 1, by omega⟩
    obtain ⟨o, ho, hex, hdat⟩ := Z.ob
    rw [setSearchFrom_succ]
    refine wpAny_bind (wpAny_setState_of ho hdat Z.fit ?_)
    dsimp only
    refine wp_if_neg Z.stands ?_
    have step : ∀ d, nth t.mask (prob t (knd.hash k) c) d = prob t (knd.hash k) (c + d) := fun d => (nth_add t.mask c _ d).symm
    have stepj : ∀ d, (nth t.mask (prob t (knd.hash k) c) d).j = way t.mask (knd.hash k) (c + d) := fun d => by rw [step d]
    have hend : c + (K0 - c) = K0 := by omega
    have hat : ∀ (i : Nat) q, L[i]? = some q → (fun i => (es[i]?.map (·.1)).getD 0) i = knd.hash q.2 := fun i q e => by
      show (es[i]?.map (·.1)).getD 0 = _
      rw [Z.at_ e]
      rfl
    rcases go_spec t Z.tab.ris Z.tab.dm (fun i => (es[i]?.map (·.1)).getD 0) (knd.hash k) (10 * SetTable.turns t.mask) (K0 - c) (prob t (knd.hash k) c) (nth_plain _ _ _ rfl) (by omega)
        (fun d hd => by rw [stepj]; exact kin _ (by omega)) (by rw [stepj, hend]; exact kout) with ⟨d, i, d1, d2, d3, d4, d5⟩ | ⟨d1, d2⟩
    · rw [stepj] at d2
      rw [stepj, step] at d5
      have pr : t.probe (fun i => (es[i]?.map (·.1)).getD 0) (knd.hash k) (stand.getD (t.probeStart (knd.hash k))) = some (.candidate (way t.mask (knd.hash k) (c + d)) i (prob t (knd.hash k) (c + (d + 1)))) := by
        rw [es0]
        exact d5
      rw [pr]
      dsimp only
      have il : i < L.length := by
        have z := (List.getElem?_eq_some_iff.mp d2).1
        rw [Array.length_toList, Z.psz] at z
        exact z
      obtain ⟨q, eq⟩ : ∃ q, L[i]? = some q := ⟨_, List.getElem?_eq_getElem il⟩
      have qm : q ∈ L := List.mem_of_getElem? eq
      have go : wpAny (model P w) A (searchRest a (.ref x) (knd.hash k) true f es t (way t.mask (knd.hash k) (c + d)) i (prob t (knd.hash k) (c + (d + 1)))) Q E s := by
        unfold searchRest
        rw [Z.at_ eq]
        dsimp only
        refine wpAny_bind (wpAny_holding (knd.eqBool hr (Z.key q qm) hx ?_))
        refine wpAny_bind (wpAny_setState_of ho hdat Z.fit ?_)
        dsimp only
        have live : t.slot (way t.mask (knd.hash k) (c + d)) = .live i := slot_live Z.tab.ris d2
        by_cases ek : q.2 = k
        · exact wp_if_pos (by simp [ek]) (wpAny_pure (yes (List.mem_map.mpr ⟨q, qm, ek⟩)))
        · refine wp_if_neg (by simp [ek]) ?_
          rw [sameMem]
          dsimp only
          simp only [if_true, live, Z.at_ eq]
          refine wpAny_bind (wpAny_isSame_ref_self (wpAny_bind (wpAny_pure ?_)))
          simp only [if_true]
          refine wp_if_neg (by simp [ek]) (ih (K0 - (c + (d + 1))) (by omega) f (c + (d + 1)) _ rfl (by omega) (by omega) rfl fun i0 q0 e0 ek0 => ?_)
          obtain ⟨v, v1, v2, v3⟩ := left i0 q0 e0 ek0
          refine ⟨v, ?_, v2, v3⟩
          rcases Nat.lt_trichotomy v (c + d) with lt | e | gt
          · exact absurd ((hat i0 q0 e0).trans (congrArg knd.hash ek0)) (d4 (v - c) i0 (by omega) (by rw [stepj, show c + (v - c) = v by omega]; exact v3))
          · rw [e] at v3
            have live2 := slot_live Z.tab.ris v3
            rw [live] at live2
            cases live2
            rw [eq] at e0
            cases e0
            exact absurd ek0 ek
          · omega
      by_cases ld : t.led = true
      · exact wp_if_neg (by simp [ld]) go
      · refine wp_if_pos (by simp [ld]) (wpAny_bind (unseen S hx (fun y hy => ?_) (wp_if_neg (by decide) go)))
        obtain ⟨u, hu, rfl⟩ := List.mem_map.mp hy
        have hu1 : u ∈ es := by
          have z : u ∈ es ∧ u.1 = knd.hash k := by simpa using hu
          exact z.1
        have hu2 : u ∈ rowsH knd L := by
          rw [← Z.rows]
          simpa using hu1
        obtain ⟨q2, h2, rfl⟩ := List.mem_map.mp hu2
        exact ⟨q2.2, q2.1, rfl, Z.key q2 h2⟩
    · rw [stepj, hend] at d2
      have pr : t.probe (fun i => (es[i]?.map (·.1)).getD 0) (knd.hash k) (stand.getD (t.probeStart (knd.hash k))) = some (.empty (way t.mask (knd.hash k) K0) none) := by
        rw [es0]
        exact d2
      rw [pr]
      dsimp only
      refine wpAny_pure (no fun km => ?_)
      obtain ⟨q0, m0, ek0⟩ := List.mem_map.mp km
      obtain ⟨i0, l0, e0⟩ := List.getElem_of_mem m0
      have e1 : L[i0]? = some q0 := by rw [List.getElem?_eq_getElem l0, e0]
      obtain ⟨v, v1, v2, v3⟩ := left i0 q0 e1 ek0
      exact d1 (v - c) i0 (by omega) (by rw [stepj, show c + (v - c) = v by omega]; exact v3) ((hat i0 q0 e1).trans (congrArg knd.hash ek0))

/-- the search before an add -/
theorem find_at (S : SetKind knd) (Z : SetH knd s.heap a L es ep t) {x : Addr} {k : K} (hx : knd.is s.heap k x) (hr : knd.room A) {Q : SetFound → Shared → Prop} (yes : k ∈ L.map Prod.snd → Q (.there none) s)
    (no : ∀ c, k ∉ L.map Prod.snd → way t.mask (knd.hash k) c ∉ t.place.toList → (∀ d, d < c → way t.mask (knd.hash k) d ∈ t.place.toList) → Q (.free (way t.mask (knd.hash k) c) false) s) :
    wpAny (model P w) A (setSearch a (.ref x) (knd.hash k) true) Q E s := by
  have hroom := Z.room
  obtain ⟨c, c1, c2, c3⟩ := Z.tab.first (by rw [hashH_len]; omega) (knd.hash k)
  have small : c < 100000 := by
    have z : 10 * SetTable.turns t.mask ≤ 1420 := by
      unfold SetTable.turns
      rcases Z.tab.mok with e | e | e <;> omega
    omega
  refine seek S Z hx hr c1 c2 c3 yes (fun h => no c h c2 c3) c 100000 0 none (by omega) small (Nat.zero_le _) rfl fun i q e ek => ?_
  have hi : (hashH knd L)[i]? = some (knd.hash k) := by
    show (L.map _)[i]? = _
    rw [List.getElem?_map, e, ← ek]
    rfl
  have il : i < t.place.toList.length := by
    rw [Array.length_toList, Z.psz]
    exact (List.getElem?_eq_some_iff.mp e).1
  obtain ⟨d, d1, d2⟩ := Z.tab.before c2 hi (List.getElem?_eq_getElem il)
  exact ⟨d, Nat.zero_le _, d1, by rw [d2]; exact List.getElem?_eq_getElem il⟩
end
end Kd

-- ===== KS2 =====
set_option Elab.async false
set_option linter.all false
set_option maxRecDepth 100000
set_option maxHeartbeats 1600000
namespace Kd
open PySem PySem.Spec PyProof.Rows L2

theorem range_pick {α : Type} (L : List α) : ∀ n, n ≤ L.length → (List.range n).filterMap (fun i => L[i]?) = L.take n
  | 0, _ => by simp
  | n + 1, le => by
    have lt : n < L.length := le
    rw [List.range_succ, List.filterMap_append, range_pick L n (Nat.le_of_lt lt), List.take_succ, List.getElem?_eq_getElem lt]
    simp [List.getElem?_eq_getElem lt]

section
variable {P : Program} {w : World} {K : Type} [DecidableEq K] {knd : HeapKind P w K} {A : Around} {E : Value → Shared → Prop} {s : Shared} {a : Addr} {L : List (Addr × K)} {es : Array (Int × Value)} {ep : Nat} {t : SetTable}

theorem rows_get {L : List (Addr × K)} {es : Array (Int × Value)} (hr : es.toList = rowsH knd L) (i : Nat) : es[i]? = (L[i]?).map fun q => (knd.hash q.2, Value.ref q.1) := by
  have z : es.toList[i]? = (rowsH knd L)[i]? := by rw [hr]
  rw [Array.getElem?_toList] at z
  rw [z]
  unfold rowsH
  rw [List.getElem?_map]
theorem rows_hash {L : List (Addr × K)} {es : Array (Int × Value)} (hr : es.toList = rowsH knd L) : ∀ l : List Nat, (∀ i ∈ l, i < L.length) → hashH knd (l.filterMap fun i => L[i]?) = l.map fun i => (es.map Prod.fst).getD i 0
  | [], _ => rfl
  | i :: l, hl => by
    have lt := hl i List.mem_cons_self
    have ih := rows_hash hr l fun j hj => hl j (List.mem_cons_of_mem _ hj)
    have g := rows_get hr i
    rw [List.getElem?_eq_getElem lt] at g
    have g2 : (es.map Prod.fst).getD i 0 = knd.hash (L[i]).2 := by
      rw [Array.getD_eq_getD_getElem?, Array.getElem?_map, g]
      rfl
    rw [List.filterMap_cons_some (List.getElem?_eq_getElem lt), List.map_cons, g2, ← ih]
    rfl
/-- a key stays a key when a set changes -/
theorem SetKind.keeps (S : SetKind knd) {h h' : Heap} {a b : Addr} {k : K} {o : Obj} {es : Array (Int × Value)} {ep : Nat} {t : SetTable} (ho : h.get? a = some o) (hd : o.data = .set es ep t) (sb : Heap.SameBut a h h') (x : knd.is h k b) : knd.is h' k b := by
  refine S.st.stays (fun c u vs n e d => ?_) x
  have ne : c ≠ a := fun z => by
    rw [z, ho] at e
    rw [← Option.some.inj e, hd] at d
    cases d
  rw [sb.2 c ne]
  exact e

/-- the table laid anew -/
theorem relay (S : SetKind knd) {o : Obj} (ho : s.heap.get? a = some o) (hex : o.ExactSet) (hd : o.data = .set es ep t) (hr : es.toList = rowsH knd L) (hp : t.place.size = es.size) (dm : t.dummies = #[]) (fl : es.size ≤ t.mask) (nd : (L.map Prod.snd).Nodup)
    (key : ∀ q ∈ L, knd.is s.heap q.2 q.1) (ld : w.params.followText "set-order" = true ∨ t.led = true) (few : L.length < 64) {wanted M : Nat} (hw : SetTable.sizeAbove wanted - 1 = M) (hM : MaskOk M) (hw2 : SetTable.sizeAbove wanted ≤ 128) (hn : L.length * 5 < M * 3)
    {Q : Unit → Shared → Prop} (q : ∀ h' L' es' ep' t', Heap.SameBut a s.heap h' → SetH knd h' a L' es' ep' t' → L'.Perm L → Q () { s with heap := h' }) : wpAny (model P w) A (setRelay a wanted) Q E s := by
  have sz : es.size = L.length := by
    have z := congrArg List.length hr
    rwa [rowsH_len, Array.length_toList] at z
  have fit : t.fits es.size = true := by
    unfold SetTable.fits SetTable.fill
    rw [dm, Bool.and_eq_true, beq_iff_eq, decide_eq_true_eq, hp]
    exact ⟨rfl, fl⟩
  obtain ⟨t', ord, e1, e2, e3, e4, e5, _, _⟩ := relaid_ok t (hs := es.map Prod.fst) (wanted := wanted) hw hM (by rw [Array.size_map]; omega)
  rw [Array.size_map, sz] at e2
  have lt : ∀ i ∈ ord.toList, i < L.length := fun i hi => List.mem_range.mp (e2.mem_iff.mp hi)
  have pm : (ord.toList.filterMap fun i => L[i]?).Perm L := by
    have z := e2.filterMap fun i => L[i]?
    rwa [range_pick L L.length (Nat.le_refl _), List.take_length] at z
  rw [← rows_hash hr ord.toList lt] at e3
  have er : (ord.filterMap (es[·]?)).toList = rowsH knd (ord.toList.filterMap fun i => L[i]?) := by
    rw [Array.toList_filterMap]
    unfold rowsH
    rw [List.map_filterMap]
    congr 1
    funext i
    exact rows_get hr i
  generalize ord.toList.filterMap (fun i => L[i]?) = L' at e3 er pm
  have sz' : (ord.filterMap (es[·]?)).size = L.length := by
    rw [← Array.length_toList, er, rowsH_len, pm.length_eq]
  rw [setRelay_eq]
  refine wpAny_bind (wpAny_setState_of ho hd fit ?_)
  dsimp only
  refine wp_if_neg (by rw [sizeLine_eq]; omega) ?_
  rw [e1]
  dsimp only
  refine wpAny_bind (wp_if_neg (by rw [sz', sz]; simp) (wpAny_pure ?_))
  dsimp only
  have sb : Heap.SameBut a s.heap (s.heap.update a (Obj.putSet (ord.filterMap (es[·]?)) t')) := Heap.SameBut.update ..
  refine wpAny_storeSet_of ho hd (q _ L' _ (ep + 1) t' sb ⟨⟨_, store_at ho hd, hex, rfl⟩, er, e3, ?_, fun p hp => S.keeps ho hd sb (key p (pm.mem_iff.mp hp)), ?_, ?_, ?_⟩ pm) (by rw [sz', sizeLine_eq]; omega)
  · exact (pm.map Prod.snd).nodup_iff.mpr nd
  · rw [e5]
    exact ld
  · rw [pm.length_eq, e4]
    exact hn
  · rw [pm.length_eq]
    exact few

/-- a member added -/
theorem add_key (S : SetKind knd) (Z : SetH knd s.heap a L es ep t) {x : Addr} {k : K} (hx : knd.is s.heap k x) (hr : knd.room A) (hfew : k ∉ L.map Prod.snd → L.length + 1 < 64) {Q : Bool → Shared → Prop}
    (q : ∀ b h' L' es' ep' t', Heap.SameBut a s.heap h' → SetH knd h' a L' es' ep' t' → (k ∈ L.map Prod.snd → L' = L) → (k ∉ L.map Prod.snd → L'.Perm ((x, k) :: L)) → Q b { s with heap := h' }) :
    wpAny (model P w) A (setAddHashed a (.ref x) (knd.hash k)) Q E s := by
  obtain ⟨o, ho, hex, hd⟩ := Z.ob
  have sz := Z.esz
  have rm := Z.room
  unfold setAddHashed
  refine wpAny_holding ?_
  rw [show (100000 : Nat) = 99999 + 1 from rfl, setAddHashedIn_succ]
  refine wpAny_bind (wpAny_setState_of ho hd Z.fit ?_)
  dsimp only
  refine wp_if_neg (by simp [byScan, Value.scannable]) (wpAny_bind (find_at S Z hx hr (fun km => ?_) fun c kn out inn => ?_))
  · exact wpAny_pure (q false s.heap L es ep t (Heap.SameBut.refl a s.heap) Z (fun _ => rfl) fun n => absurd km n)
  · have less := hfew kn
    dsimp only
    refine wpAny_bind (wpAny_setState_of ho hd Z.fit ?_)
    dsimp only
    obtain ⟨p1, p2, p3, p4, p5, _, _, _, p9⟩ := Z.tab.put out inn
    rw [hashH_len] at p2 p9
    generalize t.put (way t.mask (knd.hash k) c) = pt at p1 p3 p4 p5 p9 ⊢
    obtain ⟨t1, at_⟩ := pt
    dsimp only at p1 p3 p4 p5 p9 ⊢
    subst p1
    generalize SetTable.below t.place (way t.mask (knd.hash k) c) = n at p2 p3 ⊢
    have pm : (L.take n ++ (x, k) :: L.drop n).Perm ((x, k) :: L) := put_perm L n (x, k)
    have hh : hashH knd (L.take n ++ (x, k) :: L.drop n) = (hashH knd L).take n ++ knd.hash k :: (hashH knd L).drop n := by
      unfold hashH
      rw [List.map_append, List.map_cons, List.map_take, List.map_drop]
    have rr : (SetTable.insertAt es n (knd.hash k, Value.ref x)).toList = rowsH knd (L.take n ++ (x, k) :: L.drop n) := by
      rw [SetTable.toList_insertAt, Z.rows]
      unfold rowsH
      rw [List.map_append, List.map_cons, List.map_take, List.map_drop]
    rw [← hh] at p3
    generalize L.take n ++ (x, k) :: L.drop n = L1 at pm p3 rr
    have len1 : L1.length = L.length + 1 := pm.length_eq
    have esz1 : (SetTable.insertAt es n (knd.hash k, Value.ref x)).size = L.length + 1 := by
      rw [← Array.length_toList, rr, rowsH_len, len1]
    have nd1 : (L1.map Prod.snd).Nodup := (pm.map Prod.snd).nodup_iff.mpr (List.nodup_cons.mpr ⟨kn, Z.nd⟩)
    generalize SetTable.insertAt es n (knd.hash k, Value.ref x) = es1 at rr esz1 ⊢
    -- whatever is told of the hash, the table is the same but for a mark
    have fin : ∀ t2 : SetTable, t2.mask = t1.mask → TabOk t2 (hashH knd L1) → t2.led = t1.led → t2.fill = t1.fill →
        wpAny (model P w) A (do
          storeSet a es1 t2
          if (!false && t2.tooFull) = true then do
              let _ ← setRelay a (SetTable.grown (es.size + 1))
              pure true
            else pure true) Q E s := fun t2 m2 ok2 led2 fill2 => by
      have sb : Heap.SameBut a s.heap (s.heap.update a (Obj.putSet es1 t2)) := Heap.SameBut.update ..
      have ho1 := store_at (es' := es1) (t' := t2) ho hd
      refine wpAny_bind (wpAny_storeSet_of ho hd ?_ (by rw [esz1, sizeLine_eq]; omega))
      generalize s.heap.update a (Obj.putSet es1 t2) = h1 at sb ho1 ⊢
      have key1 : ∀ p ∈ L1, knd.is h1 p.2 p.1 := fun p hp => by
        rcases List.mem_cons.mp (pm.mem_iff.mp hp) with e | m
        · rw [e]
          exact S.keeps ho hd sb hx
        · exact S.keeps ho hd sb (Z.key p m)
      have led1 : w.params.followText "set-order" = true ∨ t2.led = true := by
        rw [led2, p5]
        exact Z.led
      have full : t2.tooFull = decide ((L.length + 1) * 5 ≥ t.mask * 3) := by
        unfold SetTable.tooFull
        rw [fill2, p9, m2, p4]
      by_cases hf : (L.length + 1) * 5 ≥ t.mask * 3
      · refine wp_if_pos (by rw [full, decide_eq_true hf]; rfl) (wpAny_bind ?_)
        have sized : (t.mask = 7 ∧ L.length = 4) ∨ (t.mask = 31 ∧ L.length = 18) := by
          rcases Z.tab.mok with e | e | e
          · exact .inl ⟨e, by omega⟩
          · exact .inr ⟨e, by omega⟩
          · omega
        have anew : ∀ M, SetTable.sizeAbove (SetTable.grown (L.length + 1)) - 1 = M → MaskOk M → SetTable.sizeAbove (SetTable.grown (L.length + 1)) ≤ 128 → (L.length + 1) * 5 < M * 3 →
            wpAny (model P w) A (setRelay a (SetTable.grown (es.size + 1))) (fun _ s' => wpAny (model P w) A (pure true) Q E s') E { s with heap := h1 } := fun M g1 g2 g3 g4 => by
          rw [sz]
          refine relay S (s := { s with heap := h1 }) ho1 hex rfl rr ?_ ok2.dm ?_ nd1 key1 led1 (by rw [len1]; exact less) g1 g2 g3 (by rw [len1]; exact g4) fun h2 L2 es2 ep2 t2' sb2 Z2 pm2 => ?_
          · rw [ok2.sz, hashH_len, len1, esz1]
          · rw [esz1, m2, p4]
            rcases sized with ⟨e, e'⟩ | ⟨e, e'⟩ <;> omega
          · exact wpAny_pure (q true h2 L2 es2 ep2 t2' (sb.trans sb2) Z2 (fun n => absurd n kn) fun _ => pm2.trans pm)
        rcases sized with ⟨_, e⟩ | ⟨_, e⟩
        · exact anew 31 (by rw [e, size_20]) (.inr (.inl rfl)) (by rw [e, size_20]; decide) (by omega)
        · exact anew 127 (by rw [e, size_76]) (.inr (.inr rfl)) (by rw [e, size_76]; decide) (by omega)
      · refine wp_if_neg (by rw [full, decide_eq_false hf]; decide) (wpAny_pure (q true h1 L1 es1 (ep + 1) t2 sb ⟨⟨_, ho1, hex, rfl⟩, rr, ok2, nd1, key1, led1, ?_, by rw [len1]; exact less⟩ (fun n => absurd n kn) fun _ => pm))
        rw [len1, m2, p4]
        omega
    by_cases pl : t1.plain = true
    · refine wp_if_pos pl (wpAny_bind (S.byv hx fun c => ?_))
      cases c with
      | true => exact fin t1 rfl p3 rfl rfl
      | false => exact fin { t1 with plain := false } rfl ⟨p3.ris, p3.dm, p3.sz, p3.mok, p3.bd, p3.reach⟩ rfl rfl
    · refine wp_if_neg pl (wpAny_bind (wpAny_pure ?_))
      exact fin t1 rfl p3 rfl rfl

/-- set.add as a call -/
theorem call_add (S : SetKind knd) (Z : SetH knd s.heap a L es ep t) {x : Addr} {k : K} (hx : knd.is s.heap k x) (hr : knd.room A.in1) (hfew : k ∉ L.map Prod.snd → L.length + 1 < 64) {Q : Value → Shared → Prop}
    (q : ∀ h' tk L' es' ep' t', Heap.SameBut a s.heap h' → SetH knd h' a L' es' ep' t' → (k ∈ L.map Prod.snd → L' = L) → (k ∉ L.map Prod.snd → L'.Perm ((x, k) :: L)) → s.toks ≤ tk → Q .none { s with heap := h', toks := tk }) :
    wpAny (model P w) A (call (.builtin "set.add") [.ref a, .ref x]) Q E s := by
  obtain ⟨o, ho, hex, hd⟩ := Z.ob
  refine wpAny_call_entry F.slot_set_add ⟨o, ho, hex.1⟩ F.entry_set_add ?_ (F.args_set_add_2 _ _)
  unfold Builtin.«set.add» Builtin.Frozenset.oneOther
  simp only [List.isEmpty_nil, bind_assoc]
  unfold Builtin.Frozenset.addrOf setAdd
  refine wpAny_bind (wpAny_pure ?_)
  try dsimp only
  refine wpAny_bind (wpAny_pure ?_)
  try dsimp only
  refine wpAny_bind (wpAny_holding (wpAny_bind (knd.pyHash hr hx ?_)))
  refine add_key (s := { s with toks := s.toks + knd.draws k }) S Z hx hr hfew fun b h' L' es' ep' t' sb Z' c1 c2 => ?_
  show wpAny _ _ (ret Value.none) _ _ _
  exact wpAny_pure ⟨_, rfl, q h' (s.toks + knd.draws k) L' es' ep' t' sb Z' c1 c2 (Nat.le_add_right _ _)⟩
end
end Kd

-- ===== KS3 =====
set_option Elab.async false
set_option linter.all false
set_option maxRecDepth 100000
set_option maxHeartbeats 1600000
namespace Kd
open PySem PySem.Spec PyProof.Rows L2

/-! ### tuples of ints and texts are keys -/
section
variable {P : Program} {w : World} {A : Around} {E : Value → Shared → Prop} {s : Shared}
theorem mixed {ks : List Key} {vs : List Value} (x : ItemsAre (mixKind P w) ks vs) : ∀ v ∈ vs, (∃ i t, v = Value.int i t) ∨ ∃ z t, v = Value.str z t := by
  induction x with
  | nil => exact fun v m => nomatch m
  | @cons k u ks vs h _ ih =>
    intro v m
    rcases List.mem_cons.mp m with e | m
    · subst e
      have h : keyIs k v = true := h
      cases k with
      | inl i =>
        obtain ⟨t, e⟩ := Value.isInt_shape (k := i) (v := v) h
        exact .inl ⟨i, t, e⟩
      | inr z =>
        obtain ⟨t, e⟩ := Value.isStrOf_shape (x := z) (v := v) h
        exact .inr ⟨z, t, e⟩
    · exact ih v m
theorem mixed_cls (n : Nat) {v : Value} (h : (∃ i t, v = Value.int i t) ∨ ∃ z t, v = Value.str z t) : ofAClassStatement n v = pure false := by
  rcases h with ⟨i, t, rfl⟩ | ⟨z, t, rfl⟩ <;> cases n <;> rfl
theorem mixed_byv (n : Nat) {v : Value} (h : (∃ i t, v = Value.int i t) ∨ ∃ z t, v = Value.str z t) : ∃ c, hashByValue n v = pure c := by
  rcases h with ⟨i, t, rfl⟩ | ⟨z, t, rfl⟩ <;> cases n <;> exact ⟨_, rfl⟩
theorem mix_cls {ks : List Key} {b : Addr} {Q : Bool → Shared → Prop} (x : IsTupleKey (mixKind P w) s.heap ks b) (q : Q false s) : wpAny (model P w) A (ofAClassStatement 8 (.ref b)) Q E s := by
  have T := x.typeIs
  obtain ⟨o, its, n, ho, _, hd, hi⟩ := x
  unfold ofAClassStatement
  refine wpAny_bind (wpAny_typeOf T ?_)
  dsimp only
  have e : (("tuple" : String) == "tuple") = true := by decide
  simp only [e, if_true, Bool.not_true, Bool.false_eq_true, if_false]
  try refine wpAny_bind (wpAny_pure ?_)
  try simp only [Bool.not_true, Bool.false_eq_true, if_false]
  show wpAny _ _ (seqItems? (.ref b) >>= _) _ _ s
  refine wpAny_bind (wpAny_seqItems ho hd ?_)
  dsimp only
  refine wpAny_bind ?_
  show wpAny _ _ (forIn its _ _) _ _ s
  rw [← Array.forIn_toList]
  refine wpAny_forIn_list _ (fun todo r s1 => r.1 = none ∧ s1 = s ∧ ∀ v ∈ todo, (∃ i t, v = Value.int i t) ∨ ∃ z t, v = Value.str z t) _ (fun v todo r s1 hI => ?_) (fun r s1 hI => ?_) _ _ ⟨rfl, rfl, mixed hi⟩
  · obtain ⟨_, e2, e3⟩ := hI
    rw [mixed_cls 7 (e3 v List.mem_cons_self)]
    refine wpAny_bind (wpAny_pure ?_)
    simp only [Bool.false_eq_true, if_false]
    exact wpAny_pure ⟨rfl, e2, fun u m => e3 u (List.mem_cons_of_mem _ m)⟩
  · obtain ⟨r1, r2⟩ := r
    obtain ⟨e1, e2, _⟩ := hI
    have e1 : r1 = none := e1
    subst e1
    subst e2
    exact wpAny_pure q
theorem mix_byv {ks : List Key} {b : Addr} {Q : Bool → Shared → Prop} (x : IsTupleKey (mixKind P w) s.heap ks b) (q : ∀ c, Q c s) : wpAny (model P w) A (hashByValue 8 (.ref b)) Q E s := by
  have T := x.typeIs
  obtain ⟨o, its, n, ho, _, hd, hi⟩ := x
  unfold hashByValue
  refine wpAny_bind (wpAny_specialOf T F.slot_tuple_hash.lookup ?_)
  show wpAny _ _ (seqItems? (.ref b) >>= _) _ _ s
  refine wpAny_bind (wpAny_seqItems ho hd ?_)
  refine wpAny_bind ?_
  show wpAny _ _ (forIn its _ _) _ _ s
  rw [← Array.forIn_toList]
  refine wpAny_forIn_list _ (fun todo r s1 => r.1 = none ∧ s1 = s ∧ ∀ v ∈ todo, (∃ i t, v = Value.int i t) ∨ ∃ z t, v = Value.str z t) _ (fun v todo r s1 hI => ?_) (fun r s1 hI => ?_) _ _ ⟨rfl, rfl, mixed hi⟩
  · obtain ⟨_, e2, e3⟩ := hI
    obtain ⟨c, ec⟩ := mixed_byv 7 (e3 v List.mem_cons_self)
    rw [ec]
    refine wpAny_bind (wpAny_pure ?_)
    cases c with
    | true =>
      simp only [Bool.not_true, Bool.false_eq_true, if_false]
      exact wpAny_pure ⟨rfl, e2, fun u m => e3 u (List.mem_cons_of_mem _ m)⟩
    | false =>
      simp only [Bool.not_false, if_true]
      subst e2
      exact wpAny_pure (wpAny_pure (q false))
  · obtain ⟨r1, r2⟩ := r
    obtain ⟨e1, e2, _⟩ := hI
    have e1 : r1 = none := e1
    subst e1
    subst e2
    exact wpAny_pure (q true)
theorem mixSet : SetKind (tupleKind (mixKind P w)) where
  st := tupleKind_stays
  cls := fun x q => mix_cls x q
  byv := fun x q => mix_byv x q
end
end Kd

-- ===== KS4 =====
set_option Elab.async false
set_option linter.all false
set_option maxRecDepth 100000
set_option maxHeartbeats 3200000
namespace Kd
open PySem PySem.Spec PyProof.Rows L2

section
variable {P : Program} {w : World} {K : Type} [DecidableEq K] {knd : HeapKind P w K}
theorem SetH.stay (S : SetKind knd) {h h' : Heap} {a : Addr} {L : List (Addr × K)} {es : Array (Int × Value)} {ep : Nat} {t : SetTable} (Z : SetH knd h a L es ep t) (ha : ∀ o, h.get? a = some o → h'.get? a = some o) (hk : ∀ q ∈ L, knd.is h' q.2 q.1) : SetH knd h' a L es ep t := by
  obtain ⟨o, ho, r⟩ := Z.ob
  exact ⟨⟨o, ha o ho, r⟩, Z.rows, Z.tab, Z.nd, hk, Z.led, Z.room, Z.few⟩
theorem SetKind.kept (S : SetKind knd) {h h' : Heap} {k : K} {b : Addr} (x : knd.is h k b) (hk : ∀ c o, h.get? c = some o → h'.get? c = some o) : knd.is h' k b := S.st.stays (fun c o _ _ e _ => hk c o e) x
/-- an empty set, just made -/
abbrev newO (w : World) : Obj := { cls := .type "set", dict := none, data := .set #[] 0 (.fresh 0 0 (!w.params.followText "set-order")) }
theorem setH_new {h : Heap} {a : Addr} (ho : h.get? a = some (newO w)) : SetH knd h a [] #[] 0 (.fresh 0 0 (!w.params.followText "set-order")) where
  ob := ⟨_, ho, ⟨rfl, rfl, rfl⟩, rfl⟩
  rows := rfl
  tab := { ris := List.Pairwise.nil, dm := rfl, sz := rfl, mok := .inl rfl, bd := (fun x hx => nomatch hx), reach := fun i g j e => by simp [hashH] at e }
  nd := List.nodup_nil
  key := fun q m => nomatch m
  led := by
    show _ ∨ (!w.params.followText "set-order") = true
    cases e : w.params.followText "set-order"
    · exact .inr rfl
    · exact .inl rfl
  room := by
    show 0 * 5 < 7 * 3
    decide
  few := by
    show 0 < 64
    decide

/-- what came of the first i of the rows ks -/
structure Came (ks : List (Addr × K)) (i : Nat) (L : List (Addr × K)) : Prop where
  inn : ∀ q ∈ L, q ∈ ks.take i
  got : ∀ q ∈ ks.take i, q.2 ∈ L.map Prod.snd
  most : L.length ≤ i
theorem Came.step {ks L L' : List (Addr × K)} {i : Nat} {x : Addr × K} (c : Came ks i L) (e : ks[i]? = some x) (h1 : x.2 ∈ L.map Prod.snd → L' = L) (h2 : x.2 ∉ L.map Prod.snd → L'.Perm (x :: L)) : Came ks (i + 1) L' := by
  have tk : ks.take (i + 1) = ks.take i ++ [x] := by rw [List.take_succ, e]; rfl
  by_cases m : x.2 ∈ L.map Prod.snd
  · rw [h1 m]
    refine ⟨fun q hq => by rw [tk]; exact List.mem_append_left _ (c.inn q hq), fun q hq => ?_, Nat.le_succ_of_le c.most⟩
    rw [tk] at hq
    rcases List.mem_append.mp hq with z | z
    · exact c.got q z
    · rw [List.mem_singleton.mp z]
      exact m
  · have pm := h2 m
    refine ⟨fun q hq => ?_, fun q hq => ?_, by rw [pm.length_eq]; exact Nat.succ_le_succ c.most⟩
    · rw [tk]
      rcases List.mem_cons.mp (pm.mem_iff.mp hq) with z | z
      · rw [z]
        exact List.mem_append_right _ List.mem_cons_self
      · exact List.mem_append_left _ (c.inn q z)
    · rw [(pm.map Prod.snd).mem_iff]
      rw [tk] at hq
      rcases List.mem_append.mp hq with z | z
      · exact List.mem_cons_of_mem _ (c.got q z)
      · rw [List.mem_singleton.mp z]
        exact List.mem_cons_self
end

section
variable {P : Program} {w : World} {K : Type} [DecidableEq K] {knd : HeapKind P w K} {A : Around} {E : Value → Shared → Prop}
theorem nodup_most {α : Type} [DecidableEq α] : ∀ (l D : List α), l.Nodup → (∀ x ∈ l, x ∈ D) → l.length ≤ D.length
  | [], _, _, _ => Nat.zero_le _
  | x :: l, D, nd, sub => by
    obtain ⟨n1, n2⟩ := List.nodup_cons.mp nd
    have mx := sub x List.mem_cons_self
    have ih := nodup_most l (D.erase x) n2 fun y my => (List.mem_erase_of_ne fun (e : y = x) => n1 (by rw [← e]; exact my)).2 (sub y (List.mem_cons_of_mem _ my))
    rw [List.length_erase_of_mem mx] at ih
    have pos := List.length_pos_of_mem mx
    rw [List.length_cons]
    omega
theorem few_of {ks L : List (Addr × K)} {i : Nat} {q : Addr × K} (less : ∃ ds : List K, (∀ q ∈ ks, q.2 ∈ ds) ∧ ds.length < 64) (inn : ∀ p ∈ L, p ∈ ks.take i) (nd : (L.map Prod.snd).Nodup) (mq : q ∈ ks) (nq : q.2 ∉ L.map Prod.snd) : L.length + 1 < 64 := by
  obtain ⟨ds, h1, h2⟩ := less
  have z := nodup_most (q.2 :: L.map Prod.snd) ds (List.nodup_cons.mpr ⟨nq, nd⟩) fun x mx => by
    rcases List.mem_cons.mp mx with rfl | mx
    · exact h1 q mq
    · obtain ⟨p, mp, rfl⟩ := List.mem_map.mp mx
      exact h1 p (List.mem_of_mem_take (inn p mp))
  rw [List.length_cons, List.length_map] at z
  omega
/-- all that is walked goes into the set -/
theorem filled (S : SetKind knd) {I B : Addr} {fp wr : List Addr} {G : Array GenState → Array GenState → Prop} {n : Nat} {Pv : Nat → Value → Prop} {St : Nat → Shared → Prop} {R : Result → Shared → Prop} (W : WalksS P w A.in1 I fp wr G n Pv St) (hB : B ∉ fp)
    (ks : List (Addr × K)) (hn : n = ks.length) (less : ∃ ds : List K, (∀ q ∈ ks, q.2 ∈ ds) ∧ ds.length < 64) (val : ∀ i v, Pv i v → ∃ q, ks[i]? = some q ∧ v = .ref q.1) (g : Heap) (gk : ∀ q ∈ ks, knd.is g q.2 q.1) (gB : g.get? B = none) (gw : ∀ b ∈ wr, g.get? b = none) (room : knd.room A.in1) :
    ∀ (m i : Nat) (s : Shared), n - i = m → i ≤ n → St i s → (∀ b o, g.get? b = some o → s.heap.get? b = some o) → (∃ L es ep t, SetH knd s.heap B L es ep t ∧ Came ks i L) →
      (∀ s' L es ep t, Moved (B :: wr) G s s' → SetH knd s'.heap B L es ep t → Came ks n L → (∀ b o, g.get? b = some o → s'.heap.get? b = some o) → R (.ok (.ret .none)) s') →
      codeAny (model P w) A (.builtin "set.update.loop" ⟨[.ref B, .ref I], []⟩) R s := by
  have nBw : B ∉ wr := fun m => hB (W.sub _ m)
  have more : ∀ b ∈ wr, b ∈ B :: wr := fun b m => List.mem_cons_of_mem _ m
  have on : ∀ {s s' : Shared}, Moved wr G s s' → (∀ b o, g.get? b = some o → s.heap.get? b = some o) → ∀ b o, g.get? b = some o → s'.heap.get? b = some o := fun mv k b o e =>
    mv.heap b o (fun m => by rw [gw b m] at e; cases e) (k b o e)
  intro m
  induction m with
  | zero =>
    intro i s em le st kp ⟨L, es, ep, t, Z, c⟩ fin
    obtain rfl : i = n := by omega
    refine codeAny_builtin F.entry_set_update_loop ?_
    rw [Around.under_plainId F.plain_set_update_loop _]
    show wpAny _ A.in1 (pyNext (.ref I) >>= _) _ _ s
    refine wpAny_bind (W.done s _ _ st fun s' mv => ?_)
    show wpAny _ A.in1 (ret Value.none) _ _ s'
    have kp' := on mv kp
    exact wpAny_pure (fin s' L es ep t (mv.mono more) (Z.stay S (fun o e => mv.heap B o nBw e) fun q hq => S.kept (gk q (List.mem_of_mem_take (c.inn q hq))) kp') c kp')
  | succ m ih =>
    intro i s em le st kp ⟨L, es, ep, t, Z, c⟩ fin
    have lt : i < n := by omega
    refine codeAny_builtin F.entry_set_update_loop ?_
    rw [Around.under_plainId F.plain_set_update_loop _]
    show wpAny _ A.in1 (pyNext (.ref I) >>= _) _ _ s
    refine wpAny_bind (W.item i s _ _ lt st fun v s' pv st' mv => ?_)
    obtain ⟨q, eq, rfl⟩ := val i v pv
    have kp' := on mv kp
    have Z' : SetH knd s'.heap B L es ep t := Z.stay S (fun o e => mv.heap B o nBw e) fun p hp => S.kept (gk p (List.mem_of_mem_take (c.inn p hp))) kp'
    have hx : knd.is s'.heap q.2 q.1 := S.kept (gk q (List.mem_of_getElem? eq)) kp'
    show wpAny _ A.in1 (holding [Value.ref q.1] (setAdd B (.ref q.1)) >>= _) _ _ s'
    refine wpAny_bind (wpAny_holding ?_)
    unfold setAdd
    refine wpAny_holding (wpAny_bind (knd.pyHash room hx ?_))
    refine add_key (s := { s' with toks := s'.toks + knd.draws q.2 }) S Z' hx room (few_of less c.inn Z.nd (List.mem_of_getElem? eq)) fun b h' L' es' ep' t' sb Z2 c1 c2 => ?_
    have nB : ∀ b o, g.get? b = some o → b ≠ B := fun b o e z => by
      rw [z, gB] at e
      cases e
    have kp2 : ∀ b o, g.get? b = some o → h'.get? b = some o := fun b o e => (sb.2 b (nB b o e)).trans (kp' b o e)
    refine wpAny_pure ⟨plainId_quiet F.plain_set_update_loop _, ih (i + 1) _ (by omega) lt (W.frame _ s' _ _ st' (Nat.le_add_right _ _) fun b m o e => ?_) kp2 ⟨L', es', ep', t', Z2, c.step eq c1 c2⟩ fun s'' L2 es2 ep2 t2 mv2 Z3 c3 kp3 => ?_⟩
    · rw [sb.2 b fun z => hB (z ▸ m)]
      exact e
    · refine fin s'' L2 es2 ep2 t2 (Moved.trans W.gtrans ((mv.mono more).then_heap (Nat.le_add_right _ _) fun b o m e => ?_) mv2) Z3 c3 kp3
      rw [sb.2 b fun z => m (by rw [z]; exact List.mem_cons_self)]
      exact e
end
end Kd

-- ===== KS5 =====
set_option Elab.async false
set_option linter.all false
set_option maxRecDepth 100000
set_option maxHeartbeats 3200000
namespace Kd
open PySem PySem.Spec PyProof.Rows L2
section
variable {P : Program} {w : World} {K : Type} [DecidableEq K] {knd : HeapKind P w K} {A : Around} {E : Value → Shared → Prop} {s : Shared}
/-- what is left when set(..) has run -/
def SetMade (knd : HeapKind P w K) (s : Shared) (ks : List (Addr × K)) (s2 : Shared) : Prop :=
  ∃ h' tk L es ep t, s2 = { s with heap := h', toks := tk } ∧ SetH knd h' s.heap.objs.size L es ep t ∧ Came ks ks.length L ∧ ∀ b o, s.heap.get? b = some o → h'.get? b = some o
theorem call_set_keys (S : SetKind knd) {l : Addr} {its : Array Value} (ks : List (Addr × K)) {Q : Value → Shared → Prop} (calm : A.handled = none) (il : s.heap.IsList l its) (ev : its.toList = ks.map fun q => Value.ref q.1) (kk : ∀ q ∈ ks, knd.is s.heap q.2 q.1)
    (less : ∃ ds : List K, (∀ q ∈ ks, q.2 ∈ ds) ∧ ds.length < 64) (room : knd.room A.in1.in1.in1) (q : ∀ s2, SetMade knd s ks s2 → Q (.ref s.heap.objs.size) s2) : wpAny (model P w) A (call (.type "set") [.ref l]) Q E s := by
  have isz : its.size = ks.length := by rw [← Array.length_toList, ev, List.length_map]
  obtain ⟨c, tl, mro⟩ := F.called_set.mro
  have made := F.called_set.made
  have sub := F.called_set.sub
  refine wpAny_call (codeAny_of_tree ?_)
  show wpAny _ _ (callAny (.type "set") _) _ _ _
  refine wpAny_pure ⟨Code.quiet_builtin _ (by decide +kernel), codeAny_builtin F.entry_type_call ?_⟩
  rw [Around.under_plain (weight_type_call_type "set" [.ref l] []) rfl]
  have z1 := F.called_set.notType
  have z2 := F.called_set.canCreate
  have z3 := F.typeCall_set_1 (.ref l)
  repeat (any_goals (first | assumption | wp_step))
  refine codeAny_mono (code_set_led1 (.ref l) (E := E) (Q₁ := fun v s1 => v = .ref s.heap.objs.size ∧ s1 = { s with heap := s.heap.push (newO w) }) ⟨rfl, rfl⟩) fun r s1 hr => ?_
  rcases r with e | fl
  · exact hr
  cases fl with
  | ret obj =>
    obtain ⟨rfl, rfl⟩ := hr
    have at0 : (s.heap.push (newO w)).get? s.heap.objs.size = some (newO w) := Heap.get?_push_size _ rfl
    have T0 : Shared.TypeIs { s with heap := s.heap.push (newO w) } (.ref s.heap.objs.size) "set" := ⟨_, at0, rfl⟩
    have li := F.called_set.init.lookup
    have bi := F.called_set.init.bind (.ref s.heap.objs.size)
    repeat (any_goals (first | assumption | wp_step))
    refine codeAny_mono (codeAny_call_builtin (R := wants (fun r s2 => r = .none ∧ SetMade knd s ks s2) E) F.called_set.init.plain F.entry_set_init (check_set_init_1 T0 ?_)) fun r s2 hr => ?_
    · obtain ⟨⟨oc, od, ob, os⟩, ol, oc', on, ob'⟩ := il
      simp only at oc' ob'
      subst oc'
      subst ob'
      have ol2 := Heap.get?_push_of_some (newO w) ol
      have y1 := F.sub_list_set
      have y2 := F.sub_list_frozenset
      have y3 : (Value.type "list" == Value.type "dict") = false := by decide
      have il2 : (s.heap.push (newO w)).IsList l its := ⟨_, ol2, rfl, on, rfl⟩
      unfold Builtin.«set.__init__» noKeywords Builtin.Frozenset.updateFrom
      generalize hPI : pyIter = PI
      wp_walk
      subst hPI
      refine wpAny_pyIter_list il2 (wpAny_bind (wpAny_runValue ?_))
      have lS : l < s.heap.objs.size := Heap.lt_size ol
      have calm3 : A.in1.in1.in1.handled = none := by simp [calm]
      have szp : (s.heap.push (newO w)).objs.size = s.heap.objs.size + 1 := Heap.size_push ..
      have lI : l ≠ (s.heap.push (newO w)).objs.size := by
        rw [szp]
        exact Nat.ne_of_lt (Nat.lt_succ_of_lt lS)
      have free : ∀ b, s.heap.objs.size ≤ b → s.heap.get? b = none := fun b le => by
        cases e : s.heap.get? b with
        | none => rfl
        | some o => exact absurd (Heap.lt_size e) (Nat.not_lt.mpr le)
      refine filled S ((Walks.list calm3 _ l lI its).toS) (B := s.heap.objs.size) (fun m => ?_) ks isz less (fun i v e => ?_) s.heap kk (free _ (Nat.le_refl _)) (fun b m => free b ?_) room (its.size - 0) 0 _ rfl (Nat.zero_le _)
        ⟨⟨_, Heap.get?_push_size _ rfl, rfl, rfl⟩, il2.push _⟩ (fun b o e => Heap.get?_push_of_some _ (Heap.get?_push_of_some _ e)) ⟨[], #[], 0, _, setH_new (Heap.get?_push_of_some _ at0), fun q m => (nomatch m), fun q m => (by simp at m), Nat.le_refl _⟩ fun s' L es ep t mv Z c kp => ?_
      · rcases List.mem_cons.mp m with e | m
        · rw [szp] at e
          exact absurd e (Nat.ne_of_lt (Nat.lt_succ_self _))
        · have e := List.mem_singleton.mp m
          rw [← e] at lS
          exact absurd lS (Nat.lt_irrefl _)
      · have e2 : its.toList[i]? = some v := by rw [Array.getElem?_toList]; exact e
        rw [ev, List.getElem?_map] at e2
        obtain ⟨q, e3, e4⟩ := Option.map_eq_some_iff.mp e2
        exact ⟨q, e3, e4.symm⟩
      · rw [List.mem_singleton.mp m, szp]
        exact Nat.le_succ _
      · obtain ⟨h', g', d', tk, os'⟩ := s'
        obtain rfl : g' = s.gens := mv.gens
        obtain rfl : d' = s.drawn := mv.drawn
        obtain rfl : os' = s.os := mv.os
        show wpAny _ _ _ _ _ _
        refine wpAny_pure ?_
        show wpAny _ _ (ret Value.none) _ _ _
        rw [isz] at c
        exact wpAny_pure ⟨rfl, h', tk, L, es, ep, t, rfl, Z, c, kp⟩
    · rcases r with e | fl
      · exact hr
      cases fl with
      | ret r =>
        obtain ⟨rfl, mk⟩ := hr
        repeat (any_goals (first | assumption | wp_step))
        exact q _ mk
      | _ => exact hr.elim
  | _ => exact hr.elim
end
end Kd

-- ===== KS6 =====
set_option Elab.async false
set_option linter.all false
set_option maxRecDepth 100000
set_option maxHeartbeats 3200000
namespace Kd
open PySem PySem.Spec PyProof.Rows L2 PySem.W

theorem perm_lift {α β : Type} (f : α → β) {l m : List β} (p : l.Perm m) : ∀ L : List α, m = L.map f → ∃ L1 : List α, L1.Perm L ∧ l = L1.map f := by
  induction p with
  | nil =>
    intro L e
    refine ⟨[], ?_, rfl⟩
    rw [List.map_eq_nil_iff.mp e.symm]
  | cons x _ ih =>
    intro L e
    obtain ⟨y, L', rfl, rfl, e2⟩ := List.map_eq_cons_iff.mp e.symm
    obtain ⟨L1, p1, e3⟩ := ih L' e2.symm
    exact ⟨y :: L1, p1.cons y, by rw [e3, List.map_cons]⟩
  | swap x y l =>
    intro L e
    obtain ⟨u, L', rfl, rfl, e2⟩ := List.map_eq_cons_iff.mp e.symm
    obtain ⟨v, L'', rfl, rfl, e3⟩ := List.map_eq_cons_iff.mp e2
    exact ⟨v :: u :: L'', List.Perm.swap .., by rw [← e3]; rfl⟩
  | trans _ _ ih1 ih2 =>
    intro L e
    obtain ⟨L1, p1, e1⟩ := ih2 L e
    obtain ⟨L2, p2, e2⟩ := ih1 L1 e1
    exact ⟨L2, p2.trans p1, e2⟩

/-- a key as data -/
def kD : Key → PyData
  | .inl i => .int i
  | .inr x => .str x
def tD (k : List Key) : PyData := .tuple (k.map kD)

/-! ### the set as a tracked thing -/
structure Held (P : Program) (w : World) (h : Heap) (a : Addr) (L : List (Addr × List Key)) : Prop where
  ex : ∃ (es : Array (Int × Value)) (ep : Nat) (t : SetTable), (∃ o, h.get? a = some o ∧ o.ExactSet ∧ o.data = .set es ep t) ∧ es.toList = rowsH (tupleKind (mixKind P w)) L ∧ TabOk t (hashH (tupleKind (mixKind P w)) L) ∧ (L.map Prod.snd).Nodup ∧
    (w.params.followText "set-order" = true ∨ t.led = true) ∧ L.length * 5 < t.mask * 3 ∧ L.length < 64
/-- the set at a with the members L -/
def SetO (P : Program) (w : World) (a : Addr) (L : List (Addr × List Key)) : HO := .ext fun h => Held P w h a L
section
variable {P : Program} {w : World} {h : Heap} {a : Addr} {L : List (Addr × List Key)}
theorem SetH.held {es : Array (Int × Value)} {ep : Nat} {t : SetTable} (Z : SetH (tupleKind (mixKind P w)) h a L es ep t) : Held P w h a L := ⟨es, ep, t, Z.ob, Z.rows, Z.tab, Z.nd, Z.led, Z.room, Z.few⟩
theorem Held.set (R : Held P w h a L) (key : ∀ q ∈ L, IsTupleKey (mixKind P w) h q.2 q.1) : ∃ es ep t, SetH (tupleKind (mixKind P w)) h a L es ep t := by
  obtain ⟨es, ep, t, r1, r2, r3, r4, r5, r6, r7⟩ := R.ex
  exact ⟨es, ep, t, r1, r2, r3, r4, key, r5, r6, r7⟩
theorem setO_ok {H : Hp} (R : Held P w h a L) : ObjOk P w H h a (SetO P w a L) := by
  obtain ⟨es, ep, t, ⟨o, ho, _⟩, _⟩ := R.ex
  refine ⟨R, ⟨o, ho⟩, fun g1 g2 (R1 : Held P w g1 a L) k => ?_⟩
  obtain ⟨es, ep, t, ⟨o, ho, r⟩, q⟩ := R1.ex
  exact ⟨es, ep, t, ⟨o, k o ho, r⟩, q⟩
end

section
variable {X : Cx} {pins : List (Addr × Obj)} {σ : L2.St} {H : Hp} {s : Shared}
theorem items_mix {P : Program} {w : World} : ∀ {k : List Key} {us : List Value}, Vals (k.map kV) us → ItemsAre (mixKind P w) k us
  | [], _, .nil => .nil
  | .inl i :: k, _, .cons r t => by
    obtain ⟨tk, rfl⟩ := r
    exact .cons (mixKind_int P w i tk) (items_mix t)
  | .inr x :: k, _, .cons r t => by
    obtain ⟨tk, rfl⟩ := r
    exact .cons (mixKind_str P w x tk) (items_mix t)
theorem reads_mix {h : Heap} : ∀ {k : List Key} {us : List Value}, Vals (k.map kV) us → ReadsAll h us (k.map kD) []
  | [], _, .nil => .nil
  | .inl i :: k, _, .cons r t => by
    obtain ⟨tk, rfl⟩ := r
    exact ReadsAll.cons (as := []) (bs := []) (Reads.int i tk) (reads_mix t)
  | .inr x :: k, _, .cons r t => by
    obtain ⟨tk, rfl⟩ := r
    exact ReadsAll.cons (as := []) (bs := []) (Reads.str x tk) (reads_mix t)
theorem key_raw (I : Inv X pins σ H s) {b : Addr} {k : List Key} (h : SqT X.K H b (k.map kV)) : IsTupleKey (mixKind X.prog X.w) s.heap k b ∧ Reads s.heap (.ref b) (tD k) [] := by
  obtain ⟨its, r, ⟨o, ho, hc, n, hd⟩, _⟩ := I.tuple h
  exact ⟨⟨o, its.toArray, n, ho, hc, hd, by simpa using items_mix r⟩, Reads.tuple ho hc hd (by simpa using reads_mix r)⟩
theorem refs_raw {α : Type} (f : α → Addr) : ∀ {ks : List α} {us : List Value}, Vals (ks.map fun q => V.ref (f q)) us → us = ks.map fun q => Value.ref (f q)
  | [], _, .nil => rfl
  | q :: ks, _, .cons r t => by
    cases r
    rw [refs_raw f t]
    rfl
theorem refs_vals {α : Type} (f : α → Addr) : ∀ (ks : List α), Vals (ks.map fun q => V.ref (f q)) (ks.map fun q => Value.ref (f q))
  | [] => .nil
  | q :: ks => .cons rfl (refs_vals f ks)

/-- set(xs), xs a list of tuples -/
def rSetOfD (K : PySem.W.Frag) (P : Program) (w : World) : List V → Hp → VK → Prop := fun vs H Q => ∃ (l : Addr) (ks : List (Addr × List Key)), vs = [V.ref l] ∧ SqL K H l (ks.map fun q => V.ref q.1) ∧ (∀ q ∈ ks, SqT K H q.1 (q.2.map kV)) ∧ (∃ ds : List (List Key), (∀ q ∈ ks, q.2 ∈ ds) ∧ ds.length < 64) ∧
  ∀ a L, H a = none → (∀ q ∈ L, q ∈ ks) → (∀ q ∈ ks, q.2 ∈ L.map Prod.snd) → (L.map Prod.snd).Nodup → Q (.ref a) (upd H a (SetO P w a L))
theorem cr_setOfD (hc : X.calm = true) (hu : X.A.units + 64 < cLine) : CallR X (.type "set") (rSetOfD X.K X.prog X.w) := by
  intro pins s σ H vs us Q I r h
  obtain ⟨l, ks, rfl, hl, hk, hf, q⟩ := h
  rw [Vals.ref1 r]
  obtain ⟨its, rv, il, _⟩ := I.list hl
  refine call_set_keys (P := X.prog) (w := X.w) (knd := tupleKind (mixKind X.prog X.w)) mixSet ks (I.ok.hd hc) il.isList (by simpa using refs_raw Prod.fst rv) (fun p hp => (key_raw I (hk p hp)).1) hf (by show X.A.in1.in1.in1.units < cLine; have z : X.A.in1.in1.in1.units ≤ X.A.units + 64 := (by simp only [Around.in1]; omega); omega) fun s2 mk => ?_
  obtain ⟨h', tk, L, es, ep, t, rfl, Z, c, kp⟩ := mk
  refine ⟨.ref s.heap.objs.size, upd H s.heap.objs.size (SetO X.prog X.w s.heap.objs.size L), I.laid (t' := tk) kp (Nat.le_refl _) (setO_ok Z.held), rfl, q _ L (I.hok.fresh (Nat.le_refl _)) (fun p m => List.mem_of_mem_take (c.inn p m)) (fun p m => c.got p (by rw [List.take_length]; exact m)) Z.nd⟩

/-- set(xs), xs short -/
def rSetOf (K : PySem.W.Frag) (P : Program) (w : World) : List V → Hp → VK → Prop := fun vs H Q => ∃ (l : Addr) (ks : List (Addr × List Key)), vs = [V.ref l] ∧ SqL K H l (ks.map fun q => V.ref q.1) ∧ (∀ q ∈ ks, SqT K H q.1 (q.2.map kV)) ∧ ks.length < 64 ∧
  ∀ a L, H a = none → (∀ q ∈ L, q ∈ ks) → (∀ q ∈ ks, q.2 ∈ L.map Prod.snd) → (L.map Prod.snd).Nodup → Q (.ref a) (upd H a (SetO P w a L))
theorem cr_setOf (hc : X.calm = true) (hu : X.A.units + 64 < cLine) : CallR X (.type "set") (rSetOf X.K X.prog X.w) := by
  intro pins s σ H vs us Q I r h
  obtain ⟨l, ks, e, hl, hk, hf, q⟩ := h
  exact cr_setOfD hc hu pins s σ H vs us Q I r ⟨l, ks, e, hl, hk, ⟨ks.map Prod.snd, fun q m => List.mem_map.mpr ⟨q, m, rfl⟩, by rw [List.length_map]; exact hf⟩, q⟩

/-- len of such a set -/
def rLenS (P : Program) (w : World) : List V → Hp → VK → Prop := fun vs H Q => ∃ (a : Addr) (L : List (Addr × List Key)), vs = [V.ref a] ∧ H a = some (SetO P w a L) ∧ Q (.int L.length) H
theorem held_fits {P : Program} {w : World} {h : Heap} {L : List (Addr × List Key)} {es : Array (Int × Value)} {t : SetTable} (r : es.toList = rowsH (tupleKind (mixKind P w)) L) (T : TabOk t (hashH (tupleKind (mixKind P w)) L)) (rm : L.length * 5 < t.mask * 3) : es.size = L.length ∧ t.fits es.size = true := by
  have e1 : es.size = L.length := by rw [← Array.length_toList, r, rowsH_len]
  have e2 := T.sz
  rw [hashH_len] at e2
  refine ⟨e1, ?_⟩
  unfold SetTable.fits SetTable.fill
  rw [T.dm, Bool.and_eq_true, beq_iff_eq, decide_eq_true_eq, e2, e1]
  refine ⟨rfl, ?_⟩
  show L.length + 0 ≤ t.mask
  omega
theorem cr_lenS : CallR X (.builtin "len") (rLenS X.prog X.w) := by
  intro pins s σ H vs us Q I r h
  obtain ⟨a, L, rfl, ha, q⟩ := h
  rw [Vals.ref1 r]
  have R : Held X.prog X.w s.heap a L := (I.hok a _ ha).1
  obtain ⟨es, ep, t, ⟨o, ho, hex, hd⟩, r2, r3, _, _, r6, r7⟩ := R.ex
  obtain ⟨e1, e2⟩ := held_fits (h := s.heap) r2 r3 r6
  refine call_len_set ho hex hd e2 (by rw [e1]; omega) ⟨.int L.length, H, I.tok _, ⟨_, by rw [e1]⟩, q⟩

/-- sorted(xs) of a list of tuples: one list -/
def rSortL (K : PySem.W.Frag) : List V → Hp → VK → Prop := fun vs H Q => ∃ (a : Addr) (L : List (Addr × List Key)), vs = [V.ref a] ∧ SqL K H a (L.map fun q => V.ref q.1) ∧ (∀ q ∈ L, SqT K H q.1 (q.2.map kV)) ∧ AllAlike (L.map fun q => tD q.2) ∧ Sortable (L.map fun q => tD q.2) ∧
  ∀ p, H p = none → Q (.ref p) (upd H p (.lst ((L.mergeSort (dataLe false fun q => tD q.2)).map fun q => V.ref q.1)))
theorem tD_depth (k : List Key) : (tD k).depth ≤ 1 := by
  have all : ∀ k : List Key, PyData.depthAll (k.map kD) = 0 := by
    intro k
    induction k with
    | nil => rfl
    | cons x k ih => cases x <;> simp [kD, PyData.depthAll, PyData.depth, ih]
  simp [tD, PyData.depth, all]
theorem cr_sortL (hu : X.A.units + 64 < cLine) : CallR X (.builtin "sorted") (rSortL X.K) := by
  intro pins s σ H vs us Q I r h
  obtain ⟨a, L, rfl, hl, hk, al, so, q⟩ := h
  rw [Vals.ref1 r]
  obtain ⟨its, rv, il, sz⟩ := I.list hl
  have ei := refs_raw Prod.fst rv
  have each : ∀ (R : Value → Addr × List Key → Prop) (M : List (Addr × List Key)), (∀ q ∈ M, R (.ref q.1) q) → EachIs R (M.map fun q => Value.ref q.1) M := by
    intro R M
    induction M with
    | nil => exact fun _ => .nil
    | cons x M ih => exact fun g => .cons (g x List.mem_cons_self) (ih fun y m => g y (List.mem_cons_of_mem _ m))
  rw [List.length_map] at sz
  subst ei
  refine sorted_data (R := fun v q => v = Value.ref q.1) (enc := fun q : Addr × List Key => tD q.2) (bs := L) il.isList (each _ L fun q _ => rfl) (each _ L fun q m => ⟨[], (key_raw I (hk q m)).2⟩) al so sz (fun b _ => by have z := tD_depth b.2; omega) fun out lo eo => ?_
  have eout : ∀ {o : List Value} {M : List (Addr × List Key)}, EachIs (fun v q => v = Value.ref q.1) o M → o = M.map fun q => Value.ref q.1 := by
    intro o M z
    induction z with
    | nil => rfl
    | cons e _ ih => rw [e, ih]; rfl
  have eo' := eout eo
  subst eo'
  obtain ⟨ep, he⟩ := PyProof.Rows.sortedAll_at s.heap (L.map fun q => Value.ref q.1) (((L.mergeSort (dataLe false fun q => tD q.2)).map fun q => Value.ref q.1).toArray)
  refine ⟨.ref _, upd H (s.heap.objs.size + 1) (.lst ((L.mergeSort (dataLe false fun q => tD q.2)).map fun q => V.ref q.1)), I.laid (t' := s.toks) (fun _ _ => PyProof.Rows.sortedAll_old) (Nat.le_succ _) ⟨?_, _, ep, refs_vals Prod.fst _, he⟩, rfl, q _ (I.hok.fresh (Nat.le_succ _))⟩
  rw [List.length_map, List.length_mergeSort]
  exact sz

/-- sorted(set): one list, of the members in some order sorted -/
def rSortS (K : PySem.W.Frag) (P : Program) (w : World) : List V → Hp → VK → Prop := fun vs H Q => ∃ (a : Addr) (L : List (Addr × List Key)), vs = [V.ref a] ∧ H a = some (SetO P w a L) ∧ (∀ q ∈ L, SqT K H q.1 (q.2.map kV)) ∧ (AllAlike (L.map fun q => tD q.2)) ∧ Sortable (L.map fun q => tD q.2) ∧
  ∀ (L1 : List (Addr × List Key)) p, L1.Perm L → L.length < 64 → (L.map Prod.snd).Nodup → H p = none → Q (.ref p) (upd H p (.lst ((L1.mergeSort (dataLe false fun q => tD q.2)).map fun q => V.ref q.1)))
theorem cr_sortS (hc : X.calm = true) (hu : X.A.units + 64 < cLine) : CallR X (.builtin "sorted") (rSortS X.K X.prog X.w) := by
  intro pins s σ H vs us Q I r h
  obtain ⟨a, L, rfl, ha, hk, al, so, q⟩ := h
  rw [Vals.ref1 r]
  have R : Held X.prog X.w s.heap a L := (I.hok a _ ha).1
  obtain ⟨es, ep, t, ⟨o, ho, hex, hd⟩, r2, r3, r4, r5, r6, r7⟩ := R.ex
  obtain ⟨e1, e2⟩ := held_fits (h := s.heap) r2 r3 r6
  refine Calls.call_function_entry kind_sorted plain_sorted entry_sorted (args_sorted1 _) ?_
  unfold Builtin.«sorted»
  refine wpAny_bind (m := checkCount "sorted" 1 1 _) (wpAny_pure ?_)
  refine wpAny_bind (collect_set (A := X.A.in1) (I.ok.hd hc) ⟨o, ho, hex.1, hd⟩ e2 (by unfold scanBound; omega) r3.ris r5 fun s1 vs kp gr g1 o1 pm => ?_)
  have em : es.toList.map (·.2) = L.map fun q => Value.ref q.1 := by
    rw [r2]
    unfold rowsH
    rw [List.map_map]
    rfl
  rw [em] at pm
  obtain ⟨L1, p1, ev⟩ := perm_lift (fun q : Addr × List Key => Value.ref q.1) pm L rfl
  have less : L1.length < 64 := by rw [p1.length_eq]; exact r7
  have vlen : vs.length = L1.length := by rw [ev, List.length_map]
  refine wpAny_bind (wpAny_newList ?_ (by rw [sizeLine_eq]; omega))
  have oL : (s1.heap.push (seqObj "list" vs.toArray 0)).get? s1.heap.objs.size = some (seqObj "list" vs.toArray 0) := Heap.get?_push_size _ rfl
  have each : ∀ (R : Value → Addr × List Key → Prop) (M : List (Addr × List Key)), (∀ q ∈ M, R (.ref q.1) q) → EachIs R (M.map fun q => Value.ref q.1) M := by
    intro R M
    induction M with
    | nil => exact fun _ => .nil
    | cons x M ih => exact fun g => .cons (g x List.mem_cons_self) (ih fun y m => g y (List.mem_cons_of_mem _ m))
  have pmap : (L1.map fun q => tD q.2).Perm (L.map fun q => tD q.2) := p1.map _
  refine wpAny_bind (wpAny_holding (list_sort_data (s := { s1 with heap := s1.heap.push (seqObj "list" vs.toArray 0) }) (R := fun v q => v = Value.ref q.1) (enc := fun q : Addr × List Key => tD q.2) (bs := L1) oL (by rw [ev]; exact each _ L1 fun q _ => rfl)
    (by rw [ev]; exact each _ L1 fun q m => ⟨[], PyProof.Rows.Reads.keeps (fun b u e => Heap.get?_push_of_some _ (kp b u e)) (key_raw I (hk q (p1.mem_iff.mp m))).2, fun z => nomatch z⟩)
    (fun d m d' m' => al d (pmap.mem_iff.mp m) d' (pmap.mem_iff.mp m')) ?_ (by rw [sizeLine_eq]; omega) (fun b _ => by have z := tD_depth b.2; have y : X.A.in1.units ≤ X.A.units + 32 := (by simp only [Around.in1]; omega); omega) fun out lo eo => ?_))
  · rcases so with g | g
    · exact .inl fun d m => g d (pmap.mem_iff.mp m)
    · exact .inr fun d m => g d (pmap.mem_iff.mp m)
  · have eout : ∀ {o : List Value} {M : List (Addr × List Key)}, EachIs (fun v q => v = Value.ref q.1) o M → o = M.map fun q => Value.ref q.1 := by
      intro o M z
      induction z with
      | nil => rfl
      | cons e _ ih => rw [e, ih]; rfl
    have eo' := eout eo
    subst eo'
    obtain ⟨c, hc2⟩ := sortedHeap_at (vs := vs) (out := (List.toArray ((L1.mergeSort (dataLe false fun q => tD q.2)).map fun q => Value.ref q.1))) oL
    have kp2 : ∀ b u, s.heap.get? b = some u → (sortedHeap (s1.heap.push (seqObj "list" vs.toArray 0)) s1.heap.objs.size vs (List.toArray ((L1.mergeSort (dataLe false fun q => tD q.2)).map fun q => Value.ref q.1))).get? b = some u := fun b u e => by
      have z := kp b u e
      have lt := Heap.lt_size z
      rw [sortedHeap_old (Nat.ne_of_lt lt) (by rw [size_push']; exact Nat.lt_succ_of_lt lt)]
      exact Heap.get?_push_of_some _ z
    have ll : ((L1.mergeSort (dataLe false fun q => tD q.2)).map fun q => V.ref q.1).length ≤ sizeLine := by
      rw [List.length_map, List.length_mergeSort, sizeLine_eq]
      omega
    have J : Inv X pins σ (upd H s1.heap.objs.size (.lst ((L1.mergeSort (dataLe false fun q => tD q.2)).map fun q => V.ref q.1))) { s with heap := sortedHeap (s1.heap.push (seqObj "list" vs.toArray 0)) s1.heap.objs.size vs (List.toArray ((L1.mergeSort (dataLe false fun q => tD q.2)).map fun q => Value.ref q.1)), gens := s1.gens, drawn := s1.drawn, toks := s1.toks } :=
      I.call (ch := []) (Un.laid kp2 gr (I.hok.fresh gr)) (I.hok.laid kp2 gr ⟨ll, _, c, refs_vals Prod.fst _, hc2⟩) (by rw [g1]; exact I.bare) (fun _ z => nomatch z)
    have es : ({ s1 with heap := sortedHeap (s1.heap.push (seqObj "list" vs.toArray 0)) s1.heap.objs.size vs (List.toArray ((L1.mergeSort (dataLe false fun q => tD q.2)).map fun q => Value.ref q.1)) } : Shared) = { s with heap := sortedHeap (s1.heap.push (seqObj "list" vs.toArray 0)) s1.heap.objs.size vs (List.toArray ((L1.mergeSort (dataLe false fun q => tD q.2)).map fun q => Value.ref q.1)), gens := s1.gens, drawn := s1.drawn, toks := s1.toks } := by
      rw [← o1]
    refine wpAny_pure ⟨_, rfl, ?_⟩
    rw [es]
    exact ⟨.ref s1.heap.objs.size, _, J, rfl, q L1 _ p1 r7 r4 (I.hok.fresh gr)⟩
end
end Kd

-- ===== KS7 =====
set_option Elab.async false
set_option linter.all false
set_option maxRecDepth 100000
set_option maxHeartbeats 3200000
namespace Kd
open PySem PySem.Spec PyProof.Rows L2

/-! ### {elt for a in A for b in B} -/
section
variable {prog : Program} {w : World} {A : Around} {R : Result → Shared → Prop} {s : Shared} {elt ta ia tb ib : Expr} {scope : Scope} {pos : Pos} {it acc : Value} {env : Env}
/-- the comprehension itself -/
abbrev two (elt ta ia tb ib : Expr) (scope : Scope) (pos : Pos) : Expr := .SetComp elt [⟨ta, ia, [], 0⟩, ⟨tb, ib, [], 0⟩] scope pos
theorem turn_a : compTurn (two elt ta ia tb ib scope pos) 0 it acc env = (do
    standAt ia.pos
    match ← pyNext it with
    | none => pure (.done .next)
    | some v =>
      letOwnedTupleGo ta it v
      assign ta env v
      let x ← eval ib env
      standAt ib.pos
      let x ← foldedSetIterable ib env x
      let _ ← runOwn (.compStart (two elt ta ia tb ib scope pos) 1 (← holding [x] (pyIter x)) acc env) env
      again (.compLoop (two elt ta ia tb ib scope pos) 0 it acc env)) := by rfl
theorem turn_b : compTurn (two elt ta ia tb ib scope pos) 1 it acc env = (do
    standAt ib.pos
    match ← pyNext it with
    | none => pure (.done .next)
    | some v =>
      letOwnedTupleGo tb it v
      assign tb env v
      (do let v ← eval elt env; standAt elt.pos; let _ ← call (.builtin "set.add") [acc, v])
      again (.compLoop (two elt ta ia tb ib scope pos) 1 it acc env)) := by rfl
/-- what fails leaves by the frame's note -/
abbrev fails (prog : Program) (w : World) (A : Around) (env : Env) (R : Result → Shared → Prop) : Value → Shared → Prop := notedBy (model prog w) A env fun e s' => R (.error e) s'
theorem loop_a (pureI : ∀ x, foldedSetIterable ib env x = pure x) (I : Nat → Shared → Prop)
    (turn : ∀ n s, I n s → wpAny (model prog w) A (pyNext it) (fun r s1 => match r with
      | none => R (.ok .next) s1
      | some v => wpAny (model prog w) A (letOwnedTupleGo ta it v) (fun _ s2 => wpAny (model prog w) A (assign ta env v) (fun _ s3 => wpAny (model prog w) A (eval ib env) (fun x s4 => wpAny (model prog w) A (pyIter x) (fun jt s5 =>
          codeAny (model prog w) A (.compStart (two elt ta ia tb ib scope pos) 1 jt acc env) (fun r s' => match r with
            | .ok _ => ∃ m, m < n ∧ I m s'
            | .error _ => False) s5) (fails prog w A env R) s4) (fails prog w A env R) s3) (fails prog w A env R) s2) (fails prog w A env R) s1) (fails prog w A env R) s)
    (n : Nat) (h : I n s) : codeAny (model prog w) A (.compLoop (two elt ta ia tb ib scope pos) 0 it acc env) R s := by
  refine codeAny_loop rfl I (fun n s hI => ?_) n h
  show wpAny _ A ((compTurn (two elt ta ia tb ib scope pos) 0 it acc env).onRaise (fun x => do noteFrame x env; theTreesLotGoes x)) _ _ s
  refine wpAny_noted ?_
  rw [turn_a]
  refine wpAny_bind (wpAny_standAt (wpAny_bind (wpAny_mono (turn n s hI) (fun r s1 g => ?_) fun _ _ x => x)))
  cases r with
  | none => exact wpAny_pure g
  | some v =>
    refine wpAny_bind (wpAny_mono g (fun _ s2 g2 => wpAny_bind (wpAny_mono g2 (fun _ s3 g3 => wpAny_bind (wpAny_mono g3 (fun x s4 g4 => ?_) fun _ _ x => x)) fun _ _ x => x)) fun _ _ x => x)
    refine wpAny_bind (wpAny_standAt (wpAny_bind (wpAny_of_eq (pureI x) (wpAny_bind (wpAny_holding (wpAny_mono g4 (fun jt s5 g5 => ?_) fun _ _ x => x))))))
    refine wpAny_bind (wpAny_runOwn ?_)
    rw [Around.mark_none]
    refine codeAny_mono g5 fun r s' hr => ?_
    cases r with
    | ok f => exact wpAny_pure ⟨rfl, hr⟩
    | error e => exact hr.elim
theorem loop_b (I : Nat → Shared → Prop)
    (turn : ∀ n s, I n s → wpAny (model prog w) A (pyNext it) (fun r s1 => match r with
      | none => R (.ok .next) s1
      | some v => wpAny (model prog w) A (letOwnedTupleGo tb it v) (fun _ s2 => wpAny (model prog w) A (assign tb env v) (fun _ s3 => wpAny (model prog w) A (eval elt env) (fun x s4 =>
          wpAny (model prog w) A (call (.builtin "set.add") [acc, x]) (fun _ s5 => ∃ m, m < n ∧ I m s5) (fails prog w A env R) s4) (fails prog w A env R) s3) (fails prog w A env R) s2) (fails prog w A env R) s1) (fails prog w A env R) s)
    (n : Nat) (h : I n s) : codeAny (model prog w) A (.compLoop (two elt ta ia tb ib scope pos) 1 it acc env) R s := by
  refine codeAny_loop rfl I (fun n s hI => ?_) n h
  show wpAny _ A ((compTurn (two elt ta ia tb ib scope pos) 1 it acc env).onRaise (fun x => do noteFrame x env; theTreesLotGoes x)) _ _ s
  refine wpAny_noted ?_
  rw [turn_b]
  refine wpAny_bind (wpAny_standAt (wpAny_bind (wpAny_mono (turn n s hI) (fun r s1 g => ?_) fun _ _ x => x)))
  cases r with
  | none => exact wpAny_pure g
  | some v =>
    refine wpAny_bind (wpAny_mono g (fun _ s2 g2 => wpAny_bind (wpAny_mono g2 (fun _ s3 g3 => ?_) fun _ _ x => x)) fun _ _ x => x)
    exact wpAny_bind (wpAny_bind (wpAny_mono g3 (fun x s4 g4 => wpAny_bind (wpAny_standAt (wpAny_bind (wpAny_mono g4 (fun _ s5 g5 => wpAny_pure (wpAny_pure ⟨rfl, g5⟩)) fun _ _ x => x)))) fun _ _ x => x))
/-- a clause's start, the first's or the second's -/
theorem start_b (h0 : codeAny (model prog w) A (.compLoop (two elt ta ia tb ib scope pos) 1 it acc env) R s)
    (h : wpAny (model prog w) A (pyIter it) (fun it' s' => codeAny (model prog w) A (.compLoop (two elt ta ia tb ib scope pos) 1 it' acc env) R s') (fails prog w A env R) s) : codeAny (model prog w) A (.compStart (two elt ta ia tb ib scope pos) 1 it acc env) R s := by
  refine codeAny_of_tree ?_
  show wpAny _ _ ((compStart (two elt ta ia tb ib scope pos) 1 it acc env).onRaise (fun x => do noteFrame x env; standAt theWindowsPlace)) _ _ s
  refine wpAny_notedAt ?_
  unfold compStart
  show wpAny _ _ (ask >>= _) _ _ s
  refine wpAny_bind (wpAny_askSetting (wpAny_ite ?_))
  split
  · exact wpAny_pure (And.intro rfl h0)
  · refine wpAny_bind (wpAny_rule ?_)
    show wpAny _ _ (standAt ib.pos >>= _) _ _ s
    exact wpAny_bind (wpAny_standAt (wpAny_bind (wpAny_mono h (fun it' s' g => wpAny_pure (And.intro rfl g)) fun _ _ x => x)))
end

section
variable {X : Cx} {pins : List (Addr × Obj)} {σ : L2.St} {H : Hp} {s : Shared}
/-- a key added to a tracked set -/
theorem add_ok {E : Value → Shared → Prop} {D e : Addr} {k : List Key} {L : List (Addr × List Key)} {Q : Value → Shared → Prop} (I : Inv X pins σ H s) (hD : H D = some (SetO X.prog X.w D L)) (he : SqT X.K H e (k.map kV)) (hL : ∀ q ∈ L, SqT X.K H q.1 (q.2.map kV))
    (room : k ∉ L.map Prod.snd → L.length + 1 < 64) (hu : X.A.units + 2 < cLine) (h : ∀ L' s', (k ∈ L.map Prod.snd → L' = L) → (k ∉ L.map Prod.snd → L'.Perm ((e, k) :: L)) → Inv X pins σ (upd H D (SetO X.prog X.w D L')) s' → Q .none s') :
    wpAny (model X.prog X.w) X.A (call (.builtin "set.add") [.ref D, .ref e]) Q E s := by
  have R : Held X.prog X.w s.heap D L := (I.hok D _ hD).1
  obtain ⟨es, ep, t, Z⟩ := R.set fun q m => (key_raw I (hL q m)).1
  refine call_add mixSet Z (key_raw I he).1 (by show X.A.in1.units < cLine; have z : X.A.in1.units ≤ X.A.units + 2 := (by simp only [Around.in1]; omega); omega) room fun h' tk L' es' ep' t' sb Z' c1 c2 le => ?_
  obtain ⟨o, ho, _⟩ := Z'.ob
  exact h L' _ c1 c2 (I.write (e := D) (t' := tk) (by rw [hD]; trivial) (.inl rfl) (fun b u hb hu => (sb.2 b hb).trans hu) ⟨o, ho⟩ (setO_ok Z'.held))
end
end Kd

-- ===== KS8 =====
set_option Elab.async false
set_option linter.all false
set_option maxRecDepth 100000
set_option maxHeartbeats 3200000
namespace Kd
open PySem PySem.Spec PyProof.Rows L2
section
variable {X : Cx}
/-- the contexts in which a comprehension's parts run -/
abbrev Blks (X : Cx) (scope : Scope) (p : Cx → Prop) : Prop := ∀ (s : Shared) (H : Hp) (C : Addr) (cl : List (PySem.Str × Addr)) (fp : List Addr), p (X.blk s H scope (compEnvC scope cl C X.env) fp)
/-- {elt for ta in ia for tb in ib}, elt a tuple: D the new set. vs: the block's names; us: those of the second target -/
def tSc2 (K : PySem.W.Frag) (P : Program) (w : World) (wa : TI) (ga : TG) (wb : TI) (gb : TG) (te : TE) (vs us : List Nat) : TE := fun σ H Q => wa σ H fun J H1 => ∀ D, H1 D = none → ∃ W : Nat → Nat → Hp → Prop, (∃ m, W 0 m (upd H1 D (SetO P w D []))) ∧ ∀ i m H2, W i m H2 →
  (J.stop i H2 ∧ Q (.ref D) H2) ∨ (J.go i H2 ∧ ∃ Nx : Hp → Prop, (∀ H3, Nx H3 → ∃ m', m' < m ∧ W (i + 1) m' H3) ∧ ∀ x H3, J.yld i H2 x H3 → ga x (wipe σ vs) H3 fun σ4 H4 => wipe σ4 vs = wipe σ vs ∧ wb σ4 H4 fun J1 H5 =>
    ∃ W1 : Nat → Nat → Hp → Prop, (∃ m, W1 0 m H5) ∧ ∀ j k H6, W1 j k H6 → (J1.stop j H6 ∧ Nx H6) ∨ (J1.go j H6 ∧ ∃ Nx1 : Hp → Prop, (∀ H7, Nx1 H7 → ∃ k', k' < k ∧ W1 (j + 1) k' H7) ∧ ∀ x H7, J1.yld j H6 x H7 →
      gb x (wipe σ4 us) H7 fun σ8 H8 => wipe σ8 us = wipe σ4 us ∧ te σ8 H8 fun y H9 => ∃ (e : Addr) (c : List Key) (L : List (Addr × List Key)), y = .ref e ∧ SqT K H9 e (c.map kV) ∧ H9 D = some (SetO P w D L) ∧ (∀ q ∈ L, SqT K H9 q.1 (q.2.map kV)) ∧ (c ∉ L.map Prod.snd → L.length + 1 < 64) ∧
        ∀ L', (c ∈ L.map Prod.snd → L' = L) → (c ∉ L.map Prod.snd → L'.Perm ((e, c) :: L)) → Nx1 (upd H9 D (SetO P w D L'))))

theorem pe_sc2 {elt ta ia tb ib : Expr} {scope : Scope} {own : List (PySem.Str × Nat)} {us : List Nat} {pos : Pos} {wa wb : TI} {ga gb : TG} {te : TE} (hc : X.calm = true) (hN : X.N.Nodup) (hu : X.A.units + 2 < cLine) (hia : PI X ta ia wa) (ok : BlkOk X.N X.env.scope scope own) (hus : ∀ i ∈ us, i ∈ own.map (·.2))
    (hga : Blks X scope fun Y => PG Y ta ga) (hib : Blks X scope fun Y => PI Y tb ib wb) (hgb : Blks X scope fun Y => PG Y tb gb) (hel : Blks X scope fun Y => PE Y elt te)
    (pa : ∀ x, foldedSetIterable ia X.env x = pure x := by intro _; rfl) (pb : ∀ env x, foldedSetIterable ib env x = pure x := by intro _ _; rfl) :
    PE X (two elt ta ia tb ib scope pos) (tSc2 X.K X.prog X.w wa ga wb gb te (own.map (·.2)) us) := by
  refine ⟨fun pins s σ H Q I h => ?_⟩
  rw [PpSet.eval_SetComp]
  have caught : ∀ y ∈ scope.names, y.2 = .free → ∃ c, X.env.cells.lookup y.1 = some c := fun y m e => (ok.free y m e).elim (fun k => I.ok.has _ (.inl k)) (fun k => I.ok.has _ (.inr k))
  refine wpAny_comprehension_free (use := none) rfl pa (closure_ok caught) ok.kind (fun y m e => by rw [ok.uniq y m, e]) (thn (hia.run pins s σ H _ I h) fun xv s1 hx => thn hx fun itv s2 h2 => ?_)
  obtain ⟨it, fp, tn, J, H2, rfl, I2, T, st2, f2, q⟩ := h2
  refine PpSet.newSet_ok (newEnv_comp ?_)
  generalize eD : s2.heap.objs.size = D
  have D0 : H2 D = none := I2.hok.fresh (Nat.le_of_eq eD)
  obtain ⟨W, ⟨m0, w0⟩, turn⟩ := q D D0
  -- the new set stands
  generalize e3 : ({ s2 with heap := s2.heap.push (newO X.w) } : Shared) = s3
  have hp3 : s3.heap = s2.heap.push (newO X.w) := by rw [← e3]
  have I3 : Inv X pins σ (upd H2 D (SetO X.prog X.w D [])) s3 := by
    rw [← e3]
    refine I2.laid (t' := s2.toks) (fun b o e => Heap.get?_push_of_some _ e) (Nat.le_of_eq eD) (setO_ok (SetH.held (ep := 0) (setH_new ?_)))
    rw [← eD]
    exact Heap.get?_push_size _ rfl
  have low : ∀ b ∈ fp, b < s2.heap.objs.size := fun b m => by
    obtain ⟨o, e, _⟩ := T.obj _ _ st2 b m
    exact Heap.lt_size e
  have f3 : ∀ b ∈ fp, FpOk X pins (upd H2 D (SetO X.prog X.w D [])) b ∧ b < s3.heap.objs.size := fun b m => by
    refine ⟨⟨?_, (f2 b m).2⟩, by rw [hp3, Heap.size_push]; exact Nat.lt_succ_of_lt (low b m)⟩
    rw [upd_ne (by rw [← eD]; exact Nat.ne_of_lt (low b m))]
    exact (f2 b m).1
  have st3 : tn 0 s3.heap := T.keep _ _ _ st2 fun b _ o e => by rw [hp3]; exact Heap.get?_push_of_some _ e
  have I4 := block_start I3 ok hN f3
  have ga4 := hga s3 (upd H2 D (SetO X.prog X.w D [])) s3.heap.objs.size (cellsFrom (s3.heap.objs.size + 1) scope.names (cloFrom X.env.cells scope.names [])) fp
  have ib4 := hib s3 (upd H2 D (SetO X.prog X.w D [])) s3.heap.objs.size (cellsFrom (s3.heap.objs.size + 1) scope.names (cloFrom X.env.cells scope.names [])) fp
  have gb4 := hgb s3 (upd H2 D (SetO X.prog X.w D [])) s3.heap.objs.size (cellsFrom (s3.heap.objs.size + 1) scope.names (cloFrom X.env.cells scope.names [])) fp
  have el4 := hel s3 (upd H2 D (SetO X.prog X.w D [])) s3.heap.objs.size (cellsFrom (s3.heap.objs.size + 1) scope.names (cloFrom X.env.cells scope.names [])) fp
  show codeAny _ _ (.compStart (two elt ta ia tb ib scope pos) 0 (.ref it) (.ref D) (compEnvC scope (cellsFrom (s3.heap.objs.size + 1) scope.names (cloFrom X.env.cells scope.names [])) s3.heap.objs.size X.env)) (compPost (model X.prog X.w) X.A X.xe none _ (.ref D) s3.heap.objs.size) { s3 with heap := pushCells (s3.heap.push { cls := .type "dict", data := .dict #[] }) scope.names }
  have fp0 : ∀ b ∈ fp, (upd H2 D (SetO X.prog X.w D [])) b = none := fun b m => (f3 b m).1.1
  generalize ece : compEnvC scope (cellsFrom (s3.heap.objs.size + 1) scope.names (cloFrom X.env.cells scope.names [])) s3.heap.objs.size X.env = ce at I4 ga4 ib4 gb4 el4 ⊢
  have loc : ce.locals = s3.heap.objs.size := by subst ece; rfl
  generalize upd H2 D (SetO X.prog X.w D []) = H3 at I3 I4 ga4 ib4 gb4 el4 w0 fp0 f3
  generalize e4 : ({ s3 with heap := pushCells (s3.heap.push { cls := .type "dict", data := .dict #[] }) scope.names } : Shared) = s4 at I4 ⊢
  have st4 : tn 0 s4.heap := T.keep _ _ _ st3 fun b _ o e => by rw [← e4]; exact pushCells_keeps _ _ _ _ (Heap.get?_push_of_some _ e)
  have still : ∀ {τ : L2.St} {G : Hp} {u : Shared}, Inv (X.blk s3 H3 scope ce fp) [] τ G u → (∀ b ∈ fp, G b = none) → ∀ b ∈ fp, FpOk (X.blk s3 H3 scope ce fp) [] G b := fun {τ G u} Iu no b m =>
    ⟨no b m, (Iu.ok.exf b m).1, Iu.ok.exfs b m, .inl m, fun x c e => (Iu.ok.exf b m).2 x c e, fun p z => absurd (show p ∈ ([] : List (Addr × Obj)) ++ [] from z) (by simp)⟩
  refine PpSet.codeAny_compStart_set ?loop (T.self X.A 0 _ _ _ st4 ?loop)
  refine loop_a (pb ce) (fun n u => ∃ i G, Inv (X.blk s3 H3 scope ce fp) [] (wipe σ (own.map (·.2))) G u ∧ tn i u.heap ∧ (∀ b ∈ fp, G b = none) ∧ W i n G) (fun n s5 hI => ?_) m0 ⟨0, H3, I4, st4, fp0, w0⟩
  obtain ⟨i, H5, I5, st5, no5, w5⟩ := hI
  rcases turn i n H5 w5 with ⟨stop, fin⟩ | ⟨go, Nx, hNx, step⟩
  · -- at the end: back in the def
    refine thnF (T.done (X.blk s3 H3 scope ce fp) rfl rfl rfl hc i [] s5 _ H5 (fun _ _ => False) I5 (still I5 no5) st5 stop) fun r s6 ⟨hr, I6⟩ => ?_
    subst hr
    have I7 : Inv X pins σ H5 s6 := I3.call' (ch := fp) I6.os I6.base I6.hok I6.bare fun b m => ⟨(f3 b m).1.2.2.2.1, (f3 b m).1.2.1, (f3 b m).1.2.2.2.2.1, (f3 b m).1.2.2.2.2.2⟩
    have none5 : H5 s3.heap.objs.size = none := by
      have z : H5 ce.locals = none := I6.free
      rwa [loc] at z
    obtain ⟨m, hn, _⟩ := I6.loc
    have hn : s6.heap.Ns ce.locals m := hn
    rw [loc] at hn
    obtain ⟨g0, g1, g2, g3, g4, g5⟩ := I3.fpOk (Nat.le_refl _) none5
    exact ⟨m, hn, fun h'' sb => ⟨.ref D, H5, I7.turned (t' := s6.toks) (fun b o ne e => (sb.2 b ne).trans e) g0 g1 g3 g4 g5, rfl, fin⟩⟩
  · refine thnF (T.item (X.blk s3 H3 scope ce fp) rfl rfl rfl hc i [] s5 _ H5 (fun _ _ => False) I5 (still I5 no5) st5 go) fun r s6 ⟨u, hr, h6⟩ => ?_
    subst hr
    refine thnF h6 fun _ s7 ⟨x, H7, I7, r7, y7, st7, no7⟩ => ?_
    have I7p := I7.pinned (still I7 no7) (T.obj _ _ st7)
    refine thnF (ga4.run _ s7 _ H7 x u _ I7p r7 (step x H7 y7)) fun _ s8 ⟨σ8, H8, I8, wp8, q8⟩ => ?_
    have len8 : (wipe σ (own.map (·.2))).length = σ8.length := by rw [← wp8, wipe_length]
    -- what the turn comes to
    have next : ∀ {τ : L2.St} {v : Shared} {G : Hp}, Inv (X.blk s3 H3 scope ce fp) ([] ++ pinsAt fp s7.heap) τ G v → (wipe σ (own.map (·.2))).length = τ.length → (∀ (j : Nat) z, (wipe σ (own.map (·.2)))[j]? = some (some z) → τ[j]? = some (some z)) → Nx G →
        ∃ m, m < n ∧ ∃ i G, Inv (X.blk s3 H3 scope ce fp) [] (wipe σ (own.map (·.2))) G v ∧ tn i v.heap ∧ (∀ b ∈ fp, G b = none) ∧ W i m G := fun {τ v G} Iv le ke nx => by
      obtain ⟨m', lt, w'⟩ := hNx G nx
      have pinned : ∀ b ∈ fp, ∀ o, s7.heap.get? b = some o → v.heap.get? b = some o ∧ G b = none := fun b m o e =>
        have z := Iv.pin (b, o) (List.mem_append_right _ (List.mem_append_right _ (mem_pinsAt m e)))
        ⟨z.1, z.2.1⟩
      refine ⟨m', lt, i + 1, G, (Iv.unpinned (pins := [])).weak le ke, T.keep _ _ _ st7 fun b m o e => (pinned b m o e).1, fun b m => ?_, w'⟩
      obtain ⟨o, e, _⟩ := T.obj _ _ st7 b m
      exact (pinned b m o e).2
    refine thnF (ib4.run _ s8 σ8 H8 _ I8 q8) fun xv s9 hx => thnF hx fun jt s10 h10 => ?_
    obtain ⟨jt, gp, un, J1, H10, rfl, I10, U, su10, f10, W1, ⟨m1, v1⟩, turn1⟩ := h10
    have still1 : ∀ {G : Hp}, (∀ b ∈ gp, G b = none) → ∀ b ∈ gp, FpOk (X.blk s3 H3 scope ce fp) ([] ++ pinsAt fp s7.heap) G b := fun no b m => ⟨no b m, (f10 b m).2⟩
    have inner : codeAny (model X.prog X.w) X.A (.compLoop (two elt ta ia tb ib scope pos) 1 (.ref jt) (.ref D) ce) (fun r v => match r with
        | .ok _ => ∃ m, m < n ∧ ∃ i G, Inv (X.blk s3 H3 scope ce fp) [] (wipe σ (own.map (·.2))) G v ∧ tn i v.heap ∧ (∀ b ∈ fp, G b = none) ∧ W i m G
        | .error _ => False) s10 := by
      refine loop_b (fun k v => ∃ j G, Inv (X.blk s3 H3 scope ce fp) ([] ++ pinsAt fp s7.heap) (wipe σ8 us) G v ∧ un j v.heap ∧ (∀ b ∈ gp, G b = none) ∧ W1 j k G) (fun k s12 hI => ?_) m1 ⟨0, H10, I10.weak (wipe_length _ _) (fun j v e => (wipe_some e).1), su10, fun b m => (f10 b m).1, v1⟩
      obtain ⟨j, H12, I12, su12, no12, w12⟩ := hI
      rcases turn1 j k H12 w12 with ⟨stop1, nx⟩ | ⟨go1, Nx1, hNx1, step1⟩
      · refine thnF (U.done (X.blk s3 H3 scope ce fp) rfl rfl rfl hc j _ s12 (wipe σ8 us) H12 (fun _ _ => False) I12 (still1 no12) su12 stop1) fun r s13 ⟨hr, I13⟩ => ?_
        subst hr
        refine next I13 (len8.trans (wipe_length σ8 us).symm) (fun j v e => ?_) nx
        rw [← wp8] at e
        obtain ⟨a1, a2⟩ := wipe_some e
        rw [wipe_out fun z => a2 (hus j z)]
        exact a1
      · refine thnF (U.item (X.blk s3 H3 scope ce fp) rfl rfl rfl hc j _ s12 (wipe σ8 us) H12 (fun _ _ => False) I12 (still1 no12) su12 go1) fun r s13 ⟨u1, hr, h13⟩ => ?_
        subst hr
        refine thnF h13 fun _ s14 ⟨x1, H14, I14, r14, y14, su14, no14⟩ => ?_
        have I14p := I14.pinned (still1 no14) (U.obj _ _ su14)
        refine thnF (gb4.run _ s14 (wipe σ8 us) H14 x1 u1 _ I14p r14 (step1 x1 H14 y14)) fun _ s15 ⟨σ15, H15, I15, wp15, q15⟩ => ?_
        refine thnF (el4.run _ s15 σ15 H15 _ I15 q15) fun z s17 ⟨yv, H17, I17, r17, e, c, L, ey, he, hD, hL, room, nx⟩ => ?_
        subst ey
        cases r17
        refine add_ok (X := X.blk s3 H3 scope ce fp) I17 hD he hL room hu fun L' s18 c1 c2 I18 => ?_
        obtain ⟨m', lt, w'⟩ := hNx1 _ (nx L' c1 c2)
        have pinned : ∀ b ∈ gp, ∀ o, s14.heap.get? b = some o → s18.heap.get? b = some o ∧ (upd H17 D (SetO X.prog X.w D L')) b = none := fun b m o e =>
          have z := I18.pin (b, o) (List.mem_append_right _ (List.mem_append_right _ (mem_pinsAt m e)))
          ⟨z.1, z.2.1⟩
        refine ⟨m', lt, j + 1, _, I18.unpinned.weak (by rw [← wp15, wipe_length]) (fun j v e => by rw [← wp15] at e; exact (wipe_some e).1), U.keep _ _ _ su14 fun b m o e => (pinned b m o e).1, fun b m => ?_, w'⟩
        obtain ⟨o, e, _⟩ := U.obj _ _ su14 b m
        exact (pinned b m o e).2
    exact start_b inner (U.self X.A 0 _ _ _ su10 inner)
end
end Kd

-- ===== KS9 =====
set_option Elab.async false
set_option linter.all false
set_option maxRecDepth 100000
set_option maxHeartbeats 3200000
namespace Kd
open PySem PySem.Spec PyProof.Rows L2
section
variable {X : Cx} {pins : List (Addr × Obj)} {σ : L2.St} {H : Hp} {s : Shared}
/-- an entry with a tuple for its key, by a comprehension -/
theorem put_ok {E : Value → Shared → Prop} {D b : Addr} {kvs : List (List Key × V)} {k : List Key} {v : V} {r : Value} {Q : Unit → Shared → Prop} (hu : X.A.units + 2 < cLine) (I : Inv X pins σ H s) (hD : H D = some (.dT kvs)) (hb : H b = some (.tup (k.map kV))) (room : kvs.length < sizeLine) (rv : RelV v r)
    (h : ∀ s', Inv X pins σ (upd H D (.dT (putK kvs k v))) s' → Q () s') : wpAny (model X.prog X.w) X.A (dictSet D (.ref b) r) Q E s := by
  obtain ⟨z, nsys, xs, rel, dd⟩ := dt_of I.hok hD
  have xz : xs.length ≤ sizeLine := by rw [← Paired.length rel]; exact z
  have pz : (putK kvs k v).length ≤ sizeLine := by have := length_putK kvs k v; omega
  refine wpAny_dictSet_heap (hsz := xz) (show X.A.units < cLine by omega) (key_of I.hok hb) dd fun h' dd' sb => h _ ?_
  obtain ⟨o, es, ep, ho, o2, o3, o4, _, o5⟩ := dd'
  refine d_write I (by rw [hD]; exact True.intro) sb ⟨o, ho⟩ ⟨pz, nsys, _, (rel.put k hb rv).keeps fun c ys e => ?_, o, es, ep, ho, o2, o3, o4, o5⟩
  rw [upd_ne (ne_of e hD (fun z => nomatch z))]
  exact e
end
section
variable {X : Cx}
/-- {key: val for ta in ia}, the key a tuple: D the new dict -/
def tDcT (wa : TI) (ga : TG) (tk tv : TE) (vs : List Nat) : TE := fun σ H Q => wa σ H fun J H1 => ∀ D, H1 D = none → ∃ W : Nat → Nat → Hp → Prop, (∃ m, W 0 m (upd H1 D (.dT []))) ∧ ∀ i m H2, W i m H2 →
  (J.stop i H2 ∧ Q (.ref D) H2) ∨ (J.go i H2 ∧ ∃ Nx : Hp → Prop, (∀ H3, Nx H3 → ∃ m', m' < m ∧ W (i + 1) m' H3) ∧ ∀ x H3, J.yld i H2 x H3 → ga x (wipe σ vs) H3 fun σ4 H4 => wipe σ4 vs = wipe σ vs ∧ tk σ4 H4 fun y H5 => tv σ4 H5 fun z H6 =>
    ∃ (kvs : List (List Key × V)) (k : List Key) (b : Addr), y = .ref b ∧ H6 b = some (.tup (k.map kV)) ∧ H6 D = some (.dT kvs) ∧ kvs.length < sizeLine ∧ Nx (upd H6 D (.dT (putK kvs k z))))
theorem pe_dcT {kx vx ta ia : Expr} {scope : Scope} {own : List (PySem.Str × Nat)} {pos : Pos} {wa : TI} {ga : TG} {tk tv : TE} (hc : X.calm = true) (hN : X.N.Nodup) (hu : X.A.units + 2 < cLine) (hia : PI X ta ia wa) (ok : BlkOk X.N X.env.scope scope own)
    (hga : Blks X scope fun Y => PG Y ta ga) (hk : Blks X scope fun Y => PE Y kx tk) (hv : Blks X scope fun Y => PE Y vx tv) (pa : ∀ x, foldedSetIterable ia X.env x = pure x := by intro _; rfl) :
    PE X (.DictComp kx vx [⟨ta, ia, [], 0⟩] scope pos) (tDcT wa ga tk tv (own.map (·.2))) := by
  refine ⟨fun pins s σ H Q I h => ?_⟩
  rw [arm_eval_DictComp]
  have caught : ∀ y ∈ scope.names, y.2 = .free → ∃ c, X.env.cells.lookup y.1 = some c := fun y m e => (ok.free y m e).elim (fun k => I.ok.has _ (.inl k)) (fun k => I.ok.has _ (.inr k))
  refine wpAny_comprehension_free (use := none) rfl pa (closure_ok caught) ok.kind (fun y m e => by rw [ok.uniq y m, e]) (thn (hia.run pins s σ H _ I h) fun xv s1 hx => thn hx fun itv s2 h2 => ?_)
  obtain ⟨it, fp, tn, J, H2, rfl, I2, T, st2, f2, q⟩ := h2
  refine wpAny_newObj_type (newEnv_comp ?_)
  generalize eD : s2.heap.objs.size = D
  have D0 : H2 D = none := I2.hok.fresh (Nat.le_of_eq eD)
  obtain ⟨W, ⟨m0, w0⟩, turn⟩ := q D D0
  generalize e3 : ({ s2 with heap := s2.heap.push { cls := .type "dict", data := .dict #[] } } : Shared) = s3
  have hp3 : s3.heap = s2.heap.push { cls := .type "dict", data := .dict #[] } := by rw [← e3]
  have I3 : Inv X pins σ (upd H2 D (.dT [])) s3 := by
    rw [← e3]
    refine I2.laid (t' := s2.toks) (fun b o e => Heap.get?_push_of_some _ e) (Nat.le_of_eq eD) ?_
    rw [← eD]
    exact dt_empty s2.heap I2.big
  have low : ∀ b ∈ fp, b < s2.heap.objs.size := fun b m => by
    obtain ⟨o, e, _⟩ := T.obj _ _ st2 b m
    exact Heap.lt_size e
  have f3 : ∀ b ∈ fp, FpOk X pins (upd H2 D (.dT [])) b ∧ b < s3.heap.objs.size := fun b m => by
    refine ⟨⟨?_, (f2 b m).2⟩, by rw [hp3, Heap.size_push]; exact Nat.lt_succ_of_lt (low b m)⟩
    rw [upd_ne (by rw [← eD]; exact Nat.ne_of_lt (low b m))]
    exact (f2 b m).1
  have st3 : tn 0 s3.heap := T.keep _ _ _ st2 fun b _ o e => by rw [hp3]; exact Heap.get?_push_of_some _ e
  have I4 := block_start I3 ok hN f3
  have ga4 := hga s3 (upd H2 D (.dT [])) s3.heap.objs.size (cellsFrom (s3.heap.objs.size + 1) scope.names (cloFrom X.env.cells scope.names [])) fp
  have k4 := hk s3 (upd H2 D (.dT [])) s3.heap.objs.size (cellsFrom (s3.heap.objs.size + 1) scope.names (cloFrom X.env.cells scope.names [])) fp
  have v4 := hv s3 (upd H2 D (.dT [])) s3.heap.objs.size (cellsFrom (s3.heap.objs.size + 1) scope.names (cloFrom X.env.cells scope.names [])) fp
  show codeAny _ _ (.compStart (.DictComp kx vx [⟨ta, ia, [], 0⟩] scope pos) 0 (.ref it) (.ref D) (compEnvC scope (cellsFrom (s3.heap.objs.size + 1) scope.names (cloFrom X.env.cells scope.names [])) s3.heap.objs.size X.env)) (compPost (model X.prog X.w) X.A X.xe none _ (.ref D) s3.heap.objs.size) { s3 with heap := pushCells (s3.heap.push { cls := .type "dict", data := .dict #[] }) scope.names }
  have fp0 : ∀ b ∈ fp, (upd H2 D (.dT [])) b = none := fun b m => (f3 b m).1.1
  generalize ece : compEnvC scope (cellsFrom (s3.heap.objs.size + 1) scope.names (cloFrom X.env.cells scope.names [])) s3.heap.objs.size X.env = ce at I4 ga4 k4 v4 ⊢
  have loc : ce.locals = s3.heap.objs.size := by subst ece; rfl
  generalize upd H2 D (.dT []) = H3 at I3 I4 ga4 k4 v4 w0 fp0 f3
  generalize e4 : ({ s3 with heap := pushCells (s3.heap.push { cls := .type "dict", data := .dict #[] }) scope.names } : Shared) = s4 at I4 ⊢
  have st4 : tn 0 s4.heap := T.keep _ _ _ st3 fun b _ o e => by rw [← e4]; exact pushCells_keeps _ _ _ _ (Heap.get?_push_of_some _ e)
  have still : ∀ {τ : L2.St} {G : Hp} {u : Shared}, Inv (X.blk s3 H3 scope ce fp) [] τ G u → (∀ b ∈ fp, G b = none) → ∀ b ∈ fp, FpOk (X.blk s3 H3 scope ce fp) [] G b := fun {τ G u} Iu no b m =>
    ⟨no b m, (Iu.ok.exf b m).1, Iu.ok.exfs b m, .inl m, fun x c e => (Iu.ok.exf b m).2 x c e, fun p z => absurd (show p ∈ ([] : List (Addr × Obj)) ++ [] from z) (by simp)⟩
  refine codeAny_compStart_dict ?loop (T.self X.A 0 _ _ _ st4 ?loop)
  refine compLoop_anyD (fun n u => ∃ i G, Inv (X.blk s3 H3 scope ce fp) [] (wipe σ (own.map (·.2))) G u ∧ tn i u.heap ∧ (∀ b ∈ fp, G b = none) ∧ W i n G) (fun n s5 hI => ?_) m0 ⟨0, H3, I4, st4, fp0, w0⟩
  obtain ⟨i, H5, I5, st5, no5, w5⟩ := hI
  rcases turn i n H5 w5 with ⟨stop, fin⟩ | ⟨go, Nx, hNx, step⟩
  · refine thnF (T.done (X.blk s3 H3 scope ce fp) rfl rfl rfl hc i [] s5 _ H5 (fun _ _ => False) I5 (still I5 no5) st5 stop) fun r s6 ⟨hr, I6⟩ => ?_
    subst hr
    have I7 : Inv X pins σ H5 s6 := I3.call' (ch := fp) I6.os I6.base I6.hok I6.bare fun b m => ⟨(f3 b m).1.2.2.2.1, (f3 b m).1.2.1, (f3 b m).1.2.2.2.2.1, (f3 b m).1.2.2.2.2.2⟩
    have none5 : H5 s3.heap.objs.size = none := by
      have z : H5 ce.locals = none := I6.free
      rwa [loc] at z
    obtain ⟨m, hn, _⟩ := I6.loc
    have hn : s6.heap.Ns ce.locals m := hn
    rw [loc] at hn
    obtain ⟨g0, g1, g2, g3, g4, g5⟩ := I3.fpOk (Nat.le_refl _) none5
    exact ⟨m, hn, fun h'' sb => ⟨.ref D, H5, I7.turned (t' := s6.toks) (fun b o ne e => (sb.2 b ne).trans e) g0 g1 g3 g4 g5, rfl, fin⟩⟩
  · refine thnF (T.item (X.blk s3 H3 scope ce fp) rfl rfl rfl hc i [] s5 _ H5 (fun _ _ => False) I5 (still I5 no5) st5 go) fun r s6 ⟨u, hr, h6⟩ => ?_
    subst hr
    refine thnF h6 fun _ s7 ⟨x, H7, I7, r7, y7, st7, no7⟩ => ?_
    have I7p := I7.pinned (still I7 no7) (T.obj _ _ st7)
    refine thnF (ga4.run _ s7 _ H7 x u _ I7p r7 (step x H7 y7)) fun _ s8 ⟨σ8, H8, I8, wp8, q8⟩ => ?_
    refine thnF ((pts_nil (X := X.blk s3 H3 scope ce fp)).run _ s8 σ8 H8 (fun b G => b = true ∧ tk σ8 G _) I8 ⟨rfl, q8⟩) fun b s9 ⟨H9, I9, eb, q9⟩ => ?_
    subst eb
    simp only [if_true]
    refine thnF (k4.run _ s9 σ8 H9 _ I9 q9) fun z1 s10 ⟨yk, H10, I10, r10, q10⟩ => ?_
    refine thnF (v4.run _ s10 σ8 H10 _ I10 q10) fun z2 s11 ⟨yv, H11, I11, r11, kvs, k, b, ek, hb, hD, room, nx⟩ => ?_
    subst ek
    cases r10
    refine put_ok (X := X.blk s3 H3 scope ce fp) hu I11 hD hb room r11 fun s12 I12 => ?_
    obtain ⟨m', lt, w'⟩ := hNx _ nx
    have pinned : ∀ b ∈ fp, ∀ o, s7.heap.get? b = some o → s12.heap.get? b = some o ∧ (upd H11 D (.dT (putK kvs k yv))) b = none := fun b m o e =>
      have z := I12.pin (b, o) (List.mem_append_right _ (List.mem_append_right _ (mem_pinsAt m e)))
      ⟨z.1, z.2.1⟩
    refine ⟨m', lt, i + 1, _, (I12.unpinned (pins := [])).weak (by rw [← wp8, wipe_length]) (fun j v e => by rw [← wp8] at e; exact (wipe_some e).1), T.keep _ _ _ st7 fun b m o e => (pinned b m o e).1, fun b m => ?_, w'⟩
    obtain ⟨o, e, _⟩ := T.obj _ _ st7 b m
    exact (pinned b m o e).2
end
end Kd

-- ===== K5B =====
set_option Elab.async false
set_option linter.all false
set_option maxRecDepth 100000
set_option maxHeartbeats 4000000
namespace My
open PySem L2 PyProof.Rows PySem.Spec Kd
abbrev sMoves : Stmt := top 6
abbrev sText : Stmt := top 9
abbrev sLine : Stmt := top 10
abbrev sUntext : Stmt := top 11
abbrev sUnline : Stmt := top 12
abbrev sUnstep : Stmt := top 13
abbrev sWord : Stmt := top 19
abbrev sNumber : Stmt := top 20
abbrev sStates : Stmt := top 21
abbrev sState : Stmt := top 22
abbrev sStep : Stmt := top 23
/-! ### data of tuples, texts and ints -/
mutual
inductive TD (H : Hp) : V → PyData → Prop
  | int (i : Int) : TD H (.int i) (.int i)
  | str (x : Str) : TD H (.str x) (.str x)
  | tup {a : Addr} {xs : List V} {ds : List PyData} : H a = some (.tup xs) → TDs H xs ds → TD H (.ref a) (.tuple ds)
inductive TDs (H : Hp) : List V → List PyData → Prop
  | nil : TDs H [] []
  | cons {v : V} {vs : List V} {d : PyData} {ds : List PyData} : TD H v d → TDs H vs ds → TDs H (v :: vs) (d :: ds)
end
/-- tuples that stood stand -/
def Tup (H H' : Hp) : Prop := ∀ a xs, H a = some (.tup xs) → H' a = some (.tup xs)
theorem Tup.refl (H : Hp) : Tup H H := fun _ _ e => e
theorem Tup.trans {H H1 H2 : Hp} (a : Tup H H1) (b : Tup H1 H2) : Tup H H2 := fun x xs e => b x xs (a x xs e)
theorem Tup.of {H H' : Hp} (s : Same H H') : Tup H H' := fun a xs e => s a _ e
theorem Tup.new {H : Hp} {p : Addr} {o : HO} (n : H p = none) : Tup H (upd H p o) := fun a xs e => by
  rw [upd_ne (ne_of_none e n)]
  exact e
theorem Tup.at_ {H : Hp} {p : Addr} {o o' : HO} (n : H p = some o') (h : ∀ xs, o' ≠ .tup xs) : Tup H (upd H p o) := fun a xs e => by
  rw [upd_ne (fun z => by rw [z, n] at e; exact h xs (Option.some.inj e))]
  exact e
mutual
theorem TD.to {H H' : Hp} (s : Tup H H') : ∀ {v : V} {d : PyData}, TD H v d → TD H' v d
  | _, _, .int i => .int i
  | _, _, .str x => .str x
  | _, _, .tup h1 h2 => .tup (s _ _ h1) (TDs.to s h2)
theorem TDs.to {H H' : Hp} (s : Tup H H') : ∀ {vs : List V} {ds : List PyData}, TDs H vs ds → TDs H' vs ds
  | _, _, .nil => .nil
  | _, _, .cons h1 h2 => .cons (TD.to s h1) (TDs.to s h2)
end
mutual
theorem TD.dp {K : PySem.W.Frag} {H : Hp} : ∀ {v : V} {d : PyData}, TD H v d → Dp K H v d
  | _, _, .int i => .int i
  | _, _, .str x => .str x
  | _, _, .tup h1 h2 => .tup (SqT.of h1) (TDs.dp h2)
theorem TDs.dp {K : PySem.W.Frag} {H : Hp} : ∀ {vs : List V} {ds : List PyData}, TDs H vs ds → DpAll K H vs ds
  | _, _, .nil => .nil
  | _, _, .cons h1 h2 => .cons (TD.dp h1) (TDs.dp h2)
end
mutual
theorem TD.dq {H : Hp} : ∀ {v : V} {d : PyData}, TD H v d → Dq (fun _ => True) H v d
  | _, _, .int i => .int i
  | _, _, .str x => .str x
  | _, _, .tup h1 h2 => .tup trivial h1 (TDs.dq h2)
theorem TDs.dq {H : Hp} : ∀ {vs : List V} {ds : List PyData}, TDs H vs ds → DqAll (fun _ => True) H vs ds
  | _, _, .nil => .nil
  | _, _, .cons h1 h2 => .cons (TD.dq h1) (TDs.dq h2)
end
theorem TDs.len {H : Hp} : ∀ {vs : List V} {ds : List PyData}, TDs H vs ds → vs.length = ds.length
  | _, _, .nil => rfl
  | _, _, .cons _ h2 => by rw [List.length_cons, List.length_cons, h2.len]
theorem TDs.get {H : Hp} : ∀ {vs : List V} {ds : List PyData}, TDs H vs ds → ∀ {i : Nat} {v : V}, vs[i]? = some v → ∃ d, ds[i]? = some d ∧ TD H v d
  | _, _, .nil, i, v, e => by simp at e
  | _, _, .cons h1 h2, 0, v, e => ⟨_, rfl, by have z := Option.some.inj e; rw [← z]; exact h1⟩
  | _, _, .cons h1 h2, i + 1, v, e => h2.get (i := i) e
theorem TDs.snoc {H : Hp} {v : V} {d : PyData} (h : TD H v d) : ∀ {vs : List V} {ds : List PyData}, TDs H vs ds → TDs H (vs ++ [v]) (ds ++ [d])
  | _, _, .nil => .cons h .nil
  | _, _, .cons h1 h2 => .cons h1 (TDs.snoc h h2)

/-! ### kinds as mathematics -/
abbrev Stp := Str × Str × Int
def stepD (x : Stp) : PyData := .tuple [.str x.1, .str x.2.1, .int x.2.2]
def stateD (st : List Stp) : PyData := .tuple (st.map stepD)
def statesD (ss : List (List Stp)) : PyData := .tuple (ss.map stateD)
abbrev evOf (x : Stp) : Str × Str := (x.1, x.2.1)
def LETS : Str := "abcdefghijklmnopqrstuvwxyz0123456789"
def Wrd (z : Str) : Prop := 1 ≤ z.length ∧ z.length ≤ 12 ∧ ∀ c ∈ z.cps.toList, c ∈ LETS.cps.toList
def evLt (x y : Str × Str) : Prop := x.1.cps.toList < y.1.cps.toList ∨ (x.1 = y.1 ∧ x.2.cps.toList < y.2.cps.toList)
structure StpOk (n : Nat) (x : Stp) : Prop where
  w1 : Wrd x.1
  w2 : Wrd x.2.1
  lo : 0 ≤ x.2.2
  hi : x.2.2 < n
structure StOk (n : Nat) (st : List Stp) : Prop where
  all : ∀ x ∈ st, StpOk n x
  asc : (st.map evOf).Pairwise evLt
  few : st.length ≤ 24
structure KOk (ss : List (List Stp)) : Prop where
  one : 1 ≤ ss.length
  most : ss.length ≤ 40
  all : ∀ st ∈ ss, StOk ss.length st
  evs : ∃ es : List (Str × Str), es.length ≤ 24 ∧ ∀ st ∈ ss, ∀ x ∈ st, evOf x ∈ es

/-- what the module's names hold -/
structure Gs (mg : Str → Option Value) : Prop where
  isi : mg "isinstance" = none
  str : mg "str" = none
  int : mg "int" = none
  bool : mg "bool" = none
  tuple : mg "tuple" = none
  len : mg "len" = none
  all : mg "all" = none
  set : mg "set" = none
  sorted : mg "sorted" = none
  range : mg "range" = none
  repr : mg "repr" = none
  enum : mg "enumerate" = none
  list : mg "list" = none
  min : mg "min" = none
  c40 : ∃ t, mg "MOST_STATES" = some (.int 40 t)
  c24 : ∃ t, mg "MOST_EVENTS" = some (.int 24 t)
  c12 : ∃ t, mg "MOST_LETTERS" = some (.int 12 t)
  lets : ∃ t, mg "LETTERS" = some (.str LETS t)

theorem same_at {H H2 : Hp} {D : Addr} {o : HO} (s : Same H H2) (n : H D = none) : Same H (upd H2 D o) := fun b u e => by
  rw [upd_ne (ne_of_none e n)]
  exact s b u e
theorem small_len {n m : Nat} (h : n ≤ m) (hm : m ≤ 16777216 := by decide) : n ≤ sizeLine := by rw [sizeLine_eq]; omega
theorem small_lt {n m : Nat} (h : n ≤ m) (hm : m < 16777216 := by decide) : n < sizeLine := by rw [sizeLine_eq]; omega
/-! ### walks of comprehensions -/
/-- what a list comprehension's loop over J asks, the list at D -/
def LcW (J : It) (g : TG) (tt : TT) (te : TE) (vs : List Nat) (σ : L2.St) (H1 : Hp) (D : Addr) (Qd : Hp → Prop) : Prop := ∃ W : Nat → Nat → Hp → Prop, (∃ m, W 0 m (upd H1 D (.lst []))) ∧ ∀ i m H, W i m H →
  (J.stop i H ∧ Qd H) ∨ (J.go i H ∧ ∃ Nx : Hp → Prop, (∀ H', Nx H' → ∃ m', m' < m ∧ W (i + 1) m' H') ∧ ∀ x H', J.yld i H x H' → g x (wipe σ vs) H' fun σ2 H2 => wipe σ2 vs = wipe σ vs ∧ tt σ2 H2 fun b H3 =>
    if b = true then te σ2 H3 fun y H4 => ∃ acc, H4 D = some (.lst acc) ∧ acc.length < sizeLine ∧ Nx (upd H4 D (.lst (acc ++ [y]))) else Nx H3)
theorem lc_text {x : Str} {g : TG} {tt : TT} {te : TE} {vs : List Nat} {σ : L2.St} {H1 : Hp} {D : Addr} {Qd : Hp → Prop} (Pv : Nat → Hp → Prop) (first : Pv 0 (upd H1 D (.lst [])))
    (turn : ∀ i c H, x.cps[i]? = some c → Pv i H → g (.str ⟨#[c]⟩) (wipe σ vs) H fun σ2 H2 => wipe σ2 vs = wipe σ vs ∧ tt σ2 H2 fun b H3 => if b = true then te σ2 H3 fun y H4 => ∃ acc, H4 D = some (.lst acc) ∧ acc.length < sizeLine ∧ Pv (i + 1) (upd H4 D (.lst (acc ++ [y]))) else Pv (i + 1) H3)
    (last : ∀ H, Pv x.cps.size H → Qd H) : LcW (Its x) g tt te vs σ H1 D Qd := by
  refine ⟨fun i m H => m = x.cps.size - i ∧ i ≤ x.cps.size ∧ Pv i H, ⟨_, rfl, Nat.zero_le _, first⟩, fun i m H ⟨em, le, p⟩ => ?_⟩
  subst em
  rcases Nat.lt_or_ge i x.cps.size with lt | ge
  · refine .inr ⟨lt, Pv (i + 1), fun H' p' => ⟨_, by omega, rfl, lt, p'⟩, fun v H' ⟨eH, c, ec, ev⟩ => ?_⟩
    subst eH
    subst ev
    exact turn i c _ ec p
  · have e : i = x.cps.size := by omega
    subst e
    exact .inl ⟨Nat.le_refl _, last H p⟩
/-! ### is_word -/
def spWord : Sp := fun vs H Q _ => ∃ z : Str, vs = [.str z] ∧ Wrd z ∧ ∀ H', Same H H' → Q (.bl true) H'
def spNumber : Sp := fun vs H Q _ => ∃ i : Int, vs = [.int i] ∧ 0 ≤ i ∧ Q (.bl true) H
def spStep : Sp := fun vs H Q _ => ∃ (a : Addr) (x : Stp) (n : Nat), vs = [.ref a, .int n] ∧ TD H (.ref a) (stepD x) ∧ StpOk n x ∧ ∀ H', Same H H' → Q (.bl true) H'
theorem small_str {z : Str} (h : z.length ≤ 12) : z.length ≤ sizeLine := by rw [sizeLine_eq]; omega
section
variable {P : Program} {w : World} {K : PySem.W.Frag} {mg : Str → Option Value} {base : Heap}
theorem scW : FnScope ["thing", "letter"] ["thing"] (defScope sWord) := ⟨rfl, rfl, rfl, by decide +kernel, rfl, by decide +kernel, by decide +kernel⟩
theorem ok_word {f : Addr} {fd : FuncData} (F : Fun K "is_word" "is_word" sWord f fd) (G : Gs mg) : FnOk P w K mg base CX0 1 f fd ["thing"] spWord := by
  obtain ⟨t12, m12⟩ := G.c12
  obtain ⟨tl, mlet⟩ := G.lets
  refine F.ok scW (fun vs H Q E h => ?_) (fun cdv A outer s H vs Q E hr h => ?_)
  · obtain ⟨z, rfl, _⟩ := h
    rfl
  · obtain ⟨z, rfl, wz, k⟩ := h
    refine ⟨_, pss_cons (ps_if (PW.pt (pw_or (pt_not (pt_val (pe_callB call_isi (by rfl) G.isi boot_isinstance (pa_cons (pv 0) (pa_cons (pe_bltn (v := .ty "str") (by rfl) G.str PyProof.Rows.boot_str rfl) pa_nil)))))
          (pw_or1 (pt_not (pt_chain op_le op_le pe_int (pe_callB call_len_str (by rfl) G.len PySem.boot_len (pa_cons (pv 0) pa_nil)) (pe_glob (v := .int 12) (by rfl) m12 ⟨_, rfl⟩)))))) (pss_one (ps_ret pe_bl)) pss_nil)
      (pss_one (ps_ret (pe_callB (cr_all rfl) (by rfl) G.all PyProof.Rows.boot_all (pa_cons (pe_lc (own := [("letter", 1)]) (g := gName 1) (tt := tYes) rfl scW.nd (pi_str (pv 0)) (blkOk_by (N := ["thing", "letter"]) (sc := defScope sWord) (by decide +kernel))
        (fun _ _ _ _ _ => pg_name (i := 1) scW.nd rfl (Or.inl rfl)) (fun _ _ _ _ _ => pts_nil) (fun _ _ _ _ _ => pe_cmpR op_in_sign (pv 1) (pe_glob (v := .str LETS) (by rfl) mlet ⟨_, rfl⟩) (by rfl))) pa_nil)))), ?_⟩
    refine ⟨_, rfl, _, _, _, _, _, rfl, .ty "str", .base (.str z), kit_ty (a := "str") (b := "str") (r := true) (by decide +kernel), _, rfl, iteF ?_⟩
    refine ⟨_, rfl, z, rfl, small_str wz.2.1, _, _, rfl, rfl, _, rfl, ?_⟩
    have l1 := wz.1
    have l2 := wz.2.1
    rw [decide_eq_true (show (1 : Int) ≤ z.length by omega)]
    refine iteT ⟨_, _, rfl, rfl, _, rfl, ?_⟩
    rw [decide_eq_true (show (z.length : Int) ≤ 12 by omega)]
    refine iteF ?_
    refine ⟨_, rfl, z, rfl, fun D hD => lc_text (x := z) (fun i H2 => Same H H2 ∧ H2 D = some (.lst ((List.replicate i true).map V.bl))) ⟨?_, upd_same⟩ (fun i c H2 ec ⟨s2, d2⟩ => ?_) fun H2 ⟨s2, d2⟩ => ?_⟩
    · exact same_at (Same.refl H) hD
    · have lt : i < z.cps.size := (Array.getElem?_eq_some_iff.mp ec).1
      have mem : c ∈ z.cps.toList := List.mem_of_getElem? (by rw [Array.getElem?_toList]; exact ec)
      refine ⟨rfl, _, rfl, c, LETS, rfl, rfl, ?_⟩
      rw [decide_eq_true (wz.2.2 c mem)]
      refine ⟨_, d2, ?_, same_at s2 hD, ?_⟩
      · rw [List.length_map, List.length_replicate]
        exact small_lt (m := 12) (Nat.le_trans (Nat.le_of_lt lt) l2)
      · rw [upd_same, List.replicate_succ', List.map_append]
        rfl
    · refine ⟨D, _, rfl, SqL.of d2, ?_⟩
      have e : ((List.replicate z.cps.size true).all id) = true := by simp
      rw [e]
      exact k _ s2
theorem scNu : FnScope ["thing"] ["thing"] (defScope sNumber) := ⟨rfl, rfl, rfl, by decide +kernel, rfl, by decide +kernel, by decide +kernel⟩
theorem ok_number {f : Addr} {fd : FuncData} (F : Fun K "is_number" "is_number" sNumber f fd) (G : Gs mg) : FnOk P w K mg base CX0 1 f fd ["thing"] spNumber := by
  refine F.ok scNu (fun vs H Q E h => ?_) (fun cdv A outer s H vs Q E hr h => ?_)
  · obtain ⟨i, rfl, _⟩ := h
    rfl
  · obtain ⟨i, rfl, i0, k⟩ := h
    refine ⟨_, pss_one (ps_ret (pe_and (pe_callB call_isi (by rfl) G.isi boot_isinstance (pa_cons (pv 0) (pa_cons (pe_bltn (v := .ty "int") (by rfl) G.int PyProof.Rows.boot_int rfl) pa_nil)))
      (pe_and (pe_not (pe_callB call_isi (by rfl) G.isi boot_isinstance (pa_cons (pv 0) (pa_cons (pe_bltn (v := .ty "bool") (by rfl) G.bool PyProof.Rows.boot_bool rfl) pa_nil)))) (pe_one (pe_cmpR op_ge (pv 0) pe_int (nomark _)))))), ?_⟩
    refine ⟨_, rfl, _, _, _, _, _, rfl, .ty "int", .base (.int i), kit_ty (a := "int") (b := "int") (r := true) (by decide +kernel), _, rfl, ?_⟩
    refine ⟨_, rfl, _, _, _, _, _, rfl, .ty "bool", .base (.int i), kit_ty (a := "int") (b := "bool") (r := false) (by decide +kernel), _, rfl, ?_⟩
    refine ⟨_, rfl, iteT ⟨_, rfl, _, _, rfl, rfl, ?_⟩⟩
    show Q (V.bl (decide (0 ≤ i))) H
    rw [decide_eq_true i0]
    exact k
theorem scSp : FnScope ["thing", "many"] ["thing", "many"] (defScope sStep) := ⟨rfl, rfl, rfl, by decide +kernel, rfl, by decide +kernel, by decide +kernel⟩
theorem TD.tup_of {H : Hp} {a : Addr} {ds : List PyData} (h : TD H (.ref a) (.tuple ds)) : ∃ xs, H a = some (.tup xs) ∧ TDs H xs ds := by
  cases h with
  | tup h1 h2 => exact ⟨_, h1, h2⟩
theorem TD.ref_of {H : Hp} {v : V} {ds : List PyData} (h : TD H v (.tuple ds)) : ∃ a xs, v = .ref a ∧ H a = some (.tup xs) ∧ TDs H xs ds := by
  cases h with
  | tup h1 h2 => exact ⟨_, _, rfl, h1, h2⟩
theorem step_of {H : Hp} {v : V} {x : Stp} (h : TD H v (stepD x)) : ∃ a, v = .ref a ∧ H a = some (.tup [.str x.1, .str x.2.1, .int x.2.2]) := by
  obtain ⟨a, xs, rfl, ha, hx⟩ := h.ref_of
  refine ⟨a, rfl, ?_⟩
  cases hx with
  | cons h1 t1 =>
    cases h1
    cases t1 with
    | cons h2 t2 =>
      cases h2
      cases t2 with
      | cons h3 t3 =>
        cases h3
        cases t3
        exact ha
theorem ok_step {f fW fN : Addr} {fd fdW fdN : FuncData} (F : Fun K "_is_step" "_is_step" sStep f fd) (G : Gs mg)
    (GW : FnOk P w K mg base CX0 1 fW fdW ["thing"] spWord) (mW : mg "is_word" = some (.ref fW)) (kW : PySem.W.keepIn K (.ref fW) = true) (bW : Binds K fdW ["thing"] [])
    (GN : FnOk P w K mg base CX0 1 fN fdN ["thing"] spNumber) (mN : mg "is_number" = some (.ref fN)) (kN : PySem.W.keepIn K (.ref fN) = true) (bN : Binds K fdN ["thing"] []) :
    FnOk P w K mg base CX0 2 f fd ["thing", "many"] spStep := by
  refine F.ok scSp (fun vs H Q E h => ?_) (fun cdv A outer s H vs Q E hr h => ?_)
  · obtain ⟨a, x, n, rfl, _⟩ := h
    rfl
  · obtain ⟨a, x, n, rfl, hx, xo, k⟩ := h
    refine ⟨_, pss_cons (ps_if (PW.pt (pw_or (pt_not (pt_val (pe_callB call_isi (by rfl) G.isi boot_isinstance (pa_cons (pv 0) (pa_cons (pe_bltn (v := .ty "tuple") (by rfl) G.tuple PyProof.Rows.boot_tuple rfl) pa_nil)))))
          (pw_or1 (pt_cmpR op_ne (pe_callB call_len_seq (by rfl) G.len PySem.boot_len (pa_cons (pv 0) pa_nil)) pe_int (nomark _))))) (pss_one (ps_ret pe_bl)) pss_nil)
      (pss_one (ps_ret (pe_and (pe_call GW hr (by rfl) mW kW bW .nil pass0 (pa_cons (pe_ix ix_tup (pv 0) pe_int (fun _ _ => rfl)) pa_nil))
        (pe_and (pe_call GW hr (by rfl) mW kW bW .nil pass0 (pa_cons (pe_ix ix_tup (pv 0) pe_int (fun _ _ => rfl)) pa_nil))
        (pe_and (pe_call GN hr (by rfl) mN kN bN .nil pass0 (pa_cons (pe_ix ix_tup (pv 0) pe_int (fun _ _ => rfl)) pa_nil))
        (pe_one (pe_cmpR op_lt (pe_ix ix_tup (pv 0) pe_int (fun _ _ => rfl)) (pv 1) (nomark _)))))))), ?_⟩
    obtain ⟨a', e, ha⟩ := step_of hx
    cases e
    refine ⟨_, rfl, _, _, _, _, _, rfl, .ty "tuple", .base (.tup ha), kit_ty (a := "tuple") (b := "tuple") (r := true) (by decide +kernel), _, rfl, iteF ?_⟩
    refine ⟨_, rfl, a, _, rfl, .inr (SqT.of ha), ?_⟩
    refine ⟨rfl, _, rfl, iteF ?_⟩
    refine ⟨_, rfl, a, _, _, _, rfl, rfl, SqT.of ha, rfl, x.1, rfl, xo.w1, fun H1 s1 => ⟨_, rfl, iteT ?_⟩⟩
    have h1 := s1 _ _ ha
    refine ⟨_, rfl, a, _, _, _, rfl, rfl, SqT.of h1, rfl, x.2.1, rfl, xo.w2, fun H2 s2 => ⟨_, rfl, iteT ?_⟩⟩
    have h2 := s2 _ _ h1
    refine ⟨_, rfl, a, _, _, _, rfl, rfl, SqT.of h2, rfl, x.2.2, rfl, xo.lo, ⟨_, rfl, iteT ?_⟩⟩
    refine ⟨_, rfl, a, _, _, _, rfl, rfl, SqT.of h2, rfl, _, rfl, _, _, rfl, rfl, ?_⟩
    show Q (V.bl (decide (x.2.2 < (n : Int)))) H2
    rw [decide_eq_true xo.hi]
    exact k _ (s1.trans s2)
end
end My

-- ===== K5M =====
set_option Elab.async false
set_option linter.all false
set_option maxRecDepth 100000
set_option maxHeartbeats 1600000
namespace My
open PySem L2 PyProof.Rows PySem.Spec Kd PySem.W
theorem cps_inj {x y : Str} (h : x.cps.toList = y.cps.toList) : x = y := by
  cases x
  cases y
  simp only [Str.mk.injEq]
  exact Array.toList_inj.mp h
/-- a pair of texts as a key -/
def evK (x : Str × Str) : List Key := [Sum.inr x.1, Sum.inr x.2]
theorem evK_inj {x y : Str × Str} (h : evK x = evK y) : x = y := by
  unfold evK at h
  injection h with h1 h2
  injection h2 with h3 _
  exact Prod.ext (Sum.inr.inj h1) (Sum.inr.inj h3)
theorem evLt_irrefl (x : Str × Str) : ¬ evLt x x := fun h => by
  rcases h with h | ⟨_, h⟩
  · exact List.lt_irrefl _ h
  · exact List.lt_irrefl _ h
theorem evLt_trans {x y z : Str × Str} (h1 : evLt x y) (h2 : evLt y z) : evLt x z := by
  rcases h1 with a | ⟨a, b⟩
  · rcases h2 with c | ⟨c, d⟩
    · exact .inl (List.lt_trans a c)
    · exact .inl (by rw [← c]; exact a)
  · rcases h2 with c | ⟨c, d⟩
    · exact .inl (by rw [a]; exact c)
    · exact .inr ⟨a.trans c, List.lt_trans b d⟩
theorem evLt_tri (x y : Str × Str) (h1 : ¬ evLt x y) (h2 : ¬ evLt y x) : x = y := by
  unfold evLt at h1 h2
  have a : x.1 = y.1 := cps_inj (List.le_antisymm (List.not_lt.mp fun z => h2 (.inl z)) (List.not_lt.mp fun z => h1 (.inl z)))
  have b : x.2 = y.2 := cps_inj (List.le_antisymm (List.not_lt.mp fun z => h2 (.inr ⟨a.symm, z⟩)) (List.not_lt.mp fun z => h1 (.inr ⟨a, z⟩)))
  exact Prod.ext a b
theorem eqv_str (x y : Str) : PyData.eqv (.str x) (.str y) = decide (x = y) := by
  by_cases e : x = y
  · subst e
    simp [PyData.eqv]
  · rw [decide_eq_false e]
    simp [PyData.eqv, e]
/-- the order of sorted on such keys -/
theorem lt_evK (x y : Str × Str) : dataLt (tD (evK x)) (tD (evK y)) = true ↔ evLt x y := by
  unfold tD evK evLt
  simp only [List.map_cons, List.map_nil, kD]
  rw [dataLt_pair rfl rfl, eqv_str, eqv_str]
  by_cases e : x.1 = y.1
  · have e0 : ¬ x.1.cps.toList < y.1.cps.toList := by rw [e]; exact List.lt_irrefl _
    rw [decide_eq_true e, if_pos rfl]
    by_cases e2 : x.2 = y.2
    · have e3 : ¬ x.2.cps.toList < y.2.cps.toList := by rw [e2]; exact List.lt_irrefl _
      rw [decide_eq_true e2, if_pos rfl]
      simp [e0, e3]
    · rw [decide_eq_false e2, if_neg (by decide), dataLt_str, decide_eq_true_eq]
      exact ⟨fun h => .inr ⟨e, h⟩, fun h => h.elim (fun z => absurd z e0) fun z => z.2⟩
  · rw [decide_eq_false e, if_neg (by decide), dataLt_str, decide_eq_true_eq]
    simp [e]
theorem le_evK {q r : Addr × List Key} {x y : Str × Str} (hq : q.2 = evK x) (hr : r.2 = evK y) : dataLe false (fun q : Addr × List Key => tD q.2) q r = true ↔ ¬ evLt y x := by
  rw [dataLe_eq]
  show (!dataLt (tD r.2) (tD q.2)) = true ↔ _
  rw [hq, hr, Bool.not_eq_true', ← Bool.not_eq_true, lt_evK]
theorem asc_nodup {es : List (Str × Str)} (h : es.Pairwise evLt) : es.Nodup := List.Pairwise.imp (fun {x y} lt e => by rw [e] at lt; exact evLt_irrefl _ lt) h
/-- whatever is sorted of what has just these keys -/
theorem sorted_is (L : List (Addr × List Key)) (es : List (Str × Str)) (asc : es.Pairwise evLt) (nd : (L.map Prod.snd).Nodup) (mem : ∀ k, k ∈ L.map Prod.snd ↔ k ∈ es.map evK) :
    (L.mergeSort (dataLe false fun q : Addr × List Key => tD q.2)).map Prod.snd = es.map evK := by
  have tot := sortLe_total (listOrd itemOrd) false fun q : Addr × List Key => keyToks (tD q.2)
  have srt : (L.mergeSort (dataLe false fun q : Addr × List Key => tD q.2)).Pairwise fun q r => dataLe false (fun q : Addr × List Key => tD q.2) q r = true := List.pairwise_mergeSort tot.trans (fun a b => by rw [Bool.or_eq_true]; exact tot.total a b) L
  have pm : (L.mergeSort (dataLe false fun q : Addr × List Key => tD q.2)).Perm L := List.mergeSort_perm _ _
  generalize L.mergeSort (dataLe false fun q : Addr × List Key => tD q.2) = M at srt pm
  have key : ∀ q ∈ M, ∃ x, q.2 = evK x := fun q hq => by
    have z := (mem q.2).mp (List.mem_map.mpr ⟨q, pm.mem_iff.mp hq, rfl⟩)
    obtain ⟨x, _, e⟩ := List.mem_map.mp z
    exact ⟨x, e.symm⟩
  -- as pairs of texts
  have back : ∃ xs : List (Str × Str), M.map Prod.snd = xs.map evK := by
    clear srt pm
    induction M with
    | nil => exact ⟨[], rfl⟩
    | cons q M ih =>
      obtain ⟨x, e⟩ := key q List.mem_cons_self
      obtain ⟨xs, e2⟩ := ih fun r hr => key r (List.mem_cons_of_mem _ hr)
      exact ⟨x :: xs, by rw [List.map_cons, List.map_cons, e, e2]⟩
  obtain ⟨xs, ex⟩ := back
  have px : (xs.map evK).Perm (es.map evK) := by
    rw [← ex]
    refine (pm.map Prod.snd).trans ((List.perm_ext_iff_of_nodup nd ?_).mpr mem)
    exact List.Pairwise.map _ (fun {x y} ne e => ne (evK_inj e)) (asc_nodup asc)
  have sx : xs.Pairwise fun x y => ¬ evLt y x := by
    have z : (M.map Prod.snd).Pairwise fun k l => ∀ x y, k = evK x → l = evK y → ¬ evLt y x := List.pairwise_map.mpr (List.Pairwise.imp (fun {q r} h x y e1 e2 => (le_evK e1 e2).mp h) srt)
    rw [ex] at z
    exact List.Pairwise.imp (fun {x y} h => h x y rfl rfl) (List.pairwise_map.mp z)
  have inj : Function.Injective evK := fun _ _ e => evK_inj e
  have p2 : xs.Perm es := by
    obtain ⟨ys, p1, e1⟩ := Kd.perm_lift evK px es rfl
    have e2 : xs = ys := by
      have : ∀ (l m : List (Str × Str)), l.map evK = m.map evK → l = m := by
        intro l
        induction l with
        | nil => intro m e; cases m with | nil => rfl | cons _ _ => cases e
        | cons x l ih =>
          intro m e
          cases m with
          | nil => cases e
          | cons y m =>
            injection e with a b
            rw [evK_inj a, ih m b]
      exact this _ _ e1
    rw [e2]
    exact p1
  have fin : xs = es := List.Perm.eq_of_pairwise (le := fun x y => ¬ evLt y x) (fun a b _ _ h1 h2 => evLt_tri a b h2 h1) sx (List.Pairwise.imp (fun {x y} lt gt => evLt_irrefl _ (evLt_trans lt gt)) asc) p2
  rw [ex, fin]
end My

-- ===== K5C =====
set_option Elab.async false
set_option linter.all false
set_option maxRecDepth 100000
set_option maxHeartbeats 4000000
namespace My
open PySem L2 PyProof.Rows PySem.Spec Kd
def spState : Sp := fun vs H Q _ => ∃ (a : Addr) (st : List Stp) (n : Nat), vs = [.ref a, .int n] ∧ TD H (.ref a) (stateD st) ∧ StOk n st ∧ ∀ H', Same H H' → Q (.bl true) H'
theorem same_new {H : Hp} {p : Addr} {o : HO} (n : H p = none) : Same H (upd H p o) := same_at (Same.refl H) n
theorem dp_keys {K : PySem.W.Frag} {H : Hp} : ∀ k : List Key, DpAll K H (k.map kV) (k.map kD)
  | [] => .nil
  | .inl i :: k => .cons (.int i) (dp_keys k)
  | .inr x :: k => .cons (.str x) (dp_keys k)
theorem dp_rows {K : PySem.W.Frag} {H : Hp} : ∀ M : List (Addr × List Key), (∀ q ∈ M, H q.1 = some (.tup (q.2.map kV))) → DpAll K H (M.map fun q => V.ref q.1) ((M.map Prod.snd).map tD)
  | [], _ => .nil
  | q :: M, h => .cons (.tup (SqT.of (h q List.mem_cons_self)) (dp_keys q.2)) (dp_rows M fun r m => h r (List.mem_cons_of_mem _ m))
theorem lets_low : ∀ c ∈ LETS.cps.toList, c < 1114112 := by decide +kernel
theorem wrd_ok {z : Str} (h : Wrd z) : PyData.strOk z = true := by
  unfold PyData.strOk
  rw [Array.all_eq_true']
  intro c hc
  have := lets_low c (h.2.2 c (Array.mem_toList_iff.mpr hc))
  simpa using this
theorem lay_rows : ∀ es : List (Str × Str), (∀ e ∈ es, Wrd e.1 ∧ Wrd e.2) → PyData.canLayAll0 ((es.map evK).map tD) = true
  | [], _ => by simp only [List.map_nil, PyData.canLayAll0]
  | e :: es, h => by
    have h1 := wrd_ok (h e List.mem_cons_self).1
    have h2 := wrd_ok (h e List.mem_cons_self).2
    simp only [List.map_cons, List.map_nil, tD, evK, kD, PyData.canLayAll0, PyData.canLay0, h1, h2, lay_rows es fun x m => h x (List.mem_cons_of_mem _ m), Bool.and_self]
theorem deep_rows : ∀ ks : List (List Key), PyData.depthAll (ks.map tD) ≤ 1
  | [] => by simp only [List.map_nil, PyData.depthAll]; omega
  | k :: ks => by
    have h1 := tD_depth k
    have h2 := deep_rows ks
    simp only [List.map_cons, PyData.depthAll]
    omega
theorem shaped_rows (es : List (Str × Str)) (w : ∀ e ∈ es, Wrd e.1 ∧ Wrd e.2) : SeqAt.shaped (.list ((es.map evK).map tD)) = true := by
  have h := deep_rows (es.map evK)
  unfold SeqAt.shaped
  rw [Bool.and_eq_true]
  refine ⟨by simp only [PyData.canLay0, lay_rows es w], decide_eq_true ?_⟩
  simp only [PyData.depth]
  omega
section
variable {P : Program} {w : World} {K : PySem.W.Frag} {mg : Str → Option Value} {base : Heap}
abbrev nSt : List Str := ["thing", "many", "events", "step"]
theorem scSt : FnScope nSt ["thing", "many"] (defScope sState) := ⟨rfl, rfl, rfl, by decide +kernel, rfl, by decide +kernel, by decide +kernel⟩
theorem ok_state {f fS : Addr} {fd fdS : FuncData} (F : Fun K "_is_state" "_is_state" sState f fd) (G : Gs mg)
    (GS : FnOk P w K mg base CX0 2 fS fdS ["thing", "many"] spStep) (mS : mg "_is_step" = some (.ref fS)) (kS : PySem.W.keepIn K (.ref fS) = true) (bS : Binds K fdS ["thing", "many"] []) :
    FnOk P w K mg base CX0 3 f fd ["thing", "many"] spState := by
  refine F.ok scSt (fun vs H Q E h => ?_) (fun cdv A outer s H vs Q E hr h => ?_)
  · obtain ⟨a, st, n, rfl, _⟩ := h
    rfl
  · obtain ⟨a, st, n, rfl, hx, so, k⟩ := h
    have hu := hr.units
    refine ⟨_, pss_cons (ps_if (PW.pt (pw_or (pt_not (pt_val (pe_callB call_isi (by rfl) G.isi boot_isinstance (pa_cons (pv 0) (pa_cons (pe_bltn (v := .ty "tuple") (by rfl) G.tuple PyProof.Rows.boot_tuple rfl) pa_nil)))))
          (pw_or1 (pt_not (pt_val (pe_callB (cr_all rfl) (by rfl) G.all PyProof.Rows.boot_all (pa_cons (pe_lc (own := [("step", 3)]) (g := gName 3) (tt := tYes) rfl scSt.nd (pi_tup (pv 0)) (blkOk_by (N := nSt) (sc := defScope sState) (by decide +kernel))
            (fun _ _ _ _ _ => pg_name (i := 3) scSt.nd rfl (Or.inl rfl)) (fun _ _ _ _ _ => pts_nil) (fun _ _ _ _ _ => pe_call GS hr (by rfl) mS kS bS .nil pass0 (pa_cons (pv 3) (pa_cons (pv 1) pa_nil)))) pa_nil))))))) (pss_one (ps_ret pe_bl)) pss_nil)
      (pss_cons (ps_setLc (i := 2) (own := [("step", 3)]) (g := gName 3) (tt := tYes) rfl scSt.nd rfl rfl (sw_true rfl rfl rfl (by decide +kernel)) (pi_tup (pv 0)) (blkOk_by (N := nSt) (sc := defScope sState) (by decide +kernel))
            (fun _ _ _ _ _ => pg_name (i := 3) scSt.nd rfl (Or.inl rfl)) (fun _ _ _ _ _ => pts_nil) (fun _ _ _ _ _ => pe_slice (r := rSlT K) sl_tup (pv 3) po_none (po_some pe_int)))
      (pss_one (ps_ret (pe_cmpR (op_eqD hu) (pv 2) (pe_callB (cr_sortS rfl hu) (by rfl) G.sorted PyProof.Rows.boot_sorted (pa_cons (pe_callTy (cr_setOf rfl hu) (by rfl) G.set PyProof.Rows.boot_set (pa_cons (pv 2) pa_nil)) pa_nil)) (nomark _))))), ?_⟩
    obtain ⟨xs, ha, hxs⟩ := hx.tup_of
    have sx : ∀ {i : Nat} {x : V}, xs[i]? = some x → ∃ y a', st[i]? = some y ∧ x = .ref a' ∧ TD H (.ref a') (stepD y) := fun {i x} e => by
      obtain ⟨d, ed, td⟩ := hxs.get e
      rw [List.getElem?_map] at ed
      obtain ⟨y, ey, rfl⟩ := Option.map_eq_some_iff.mp ed
      obtain ⟨a', rfl, _⟩ := step_of td
      exact ⟨y, a', ey, rfl, td⟩
    have len : xs.length = st.length := by
      have z := hxs.len
      rwa [List.length_map] at z
    have few := so.few
    refine ⟨_, rfl, _, _, _, _, _, rfl, .ty "tuple", .base (.tup ha), kit_ty (a := "tuple") (b := "tuple") (r := true) (by decide +kernel), _, rfl, iteF ?_⟩
    refine ⟨_, rfl, a, rfl, ⟨_, SqT.of ha⟩, fun D hD => lc_tup (K := K) (a := a) (xs := xs) (fun i H2 => Same H H2 ∧ H2 D = some (.lst ((List.replicate i true).map V.bl))) ⟨same_at (Same.refl H) hD, upd_same⟩ (fun i H2 _ ⟨s2, _⟩ => SqT.of (s2 _ _ ha)) (fun i x H2 ex ⟨s2, d2⟩ => ?_) fun H2 ⟨s2, d2⟩ => ?_⟩
    · obtain ⟨y, a', ey, rfl, td⟩ := sx ex
      have lt : i < st.length := (List.getElem?_eq_some_iff.mp ey).1
      refine ⟨rfl, _, rfl, _, rfl, a', y, n, rfl, td.to (Tup.of s2), so.all y (List.mem_of_getElem? ey), fun H3 s3 => ⟨_, s3 _ _ d2, ?_, same_at (s2.trans s3) hD, ?_⟩⟩
      · rw [List.length_map, List.length_replicate]
        exact small_lt (m := 24) (by omega)
      · rw [upd_same, List.replicate_succ', List.map_append]
        rfl
    · refine ⟨D, _, rfl, SqL.of d2, _, rfl, ?_⟩
      have e : ((List.replicate xs.length true).all id) = true := by simp
      rw [e]
      refine iteF ?_
      -- events
      have ha2 := s2 _ _ ha
      refine ⟨_, rfl, a, rfl, ⟨_, SqT.of ha2⟩, fun D2 hD2 => lc_tup (K := K) (a := a) (xs := xs) (fun i H3 => Same H2 H3 ∧ ∃ ks : List (Addr × List Key), ks.map Prod.snd = ((st.take i).map evOf).map evK ∧ H3 D2 = some (.lst (ks.map fun q => V.ref q.1)) ∧ ∀ q ∈ ks, H3 q.1 = some (.tup (q.2.map kV)))
        ⟨same_at (Same.refl H2) hD2, [], by simp, upd_same, fun q m => nomatch m⟩ (fun i H3 _ ⟨s3, _⟩ => SqT.of (s3 _ _ ha2)) (fun i x H3 ex ⟨s3, ks, k1, k2, k3⟩ => ?_) fun H3 ⟨s3, ks, k1, k2, k3⟩ => ?_⟩
      · obtain ⟨y, a', ey, rfl, td⟩ := sx ex
        obtain ⟨a'', e', hy⟩ := step_of (td.to (Tup.of (s2.trans s3)))
        cases e'
        have lt : i < st.length := (List.getElem?_eq_some_iff.mp ey).1
        have kl : ks.length ≤ 24 := by
          have z := congrArg List.length k1
          rw [List.length_map, List.length_map, List.length_map, List.length_take] at z
          omega
        refine ⟨rfl, _, rfl, 2, rfl, a', _, rfl, SqT.of hy, (fun z => absurd (show HT.sIx 3 3 (some 2) = 3 from z.2) (by decide)), fun p hp => ⟨ks.map fun q => V.ref q.1, ?_, ?_, ?_, ks ++ [(p, evK (evOf y))], ?_, ?_, ?_⟩⟩
        · rw [upd_ne (ne_of_none k2 hp)]
          exact k2
        · rw [List.length_map]
          exact small_lt (m := 24) kl
        · exact same_at (s3.trans (same_new hp)) hD2
        · rw [List.map_append, k1, List.take_succ, ey]
          simp
        · rw [upd_same, List.map_append]
          rfl
        · intro q hq
          have nD : ∀ (b : Addr) (xs : List V), (upd H3 p (.tup (cutV [V.str y.1, V.str y.2.1, V.int y.2.2] none (some 2)))) b = some (.tup xs) → b ≠ D2 := fun b xs e z => by
            rw [z, upd_ne (ne_of_none k2 hp), k2] at e
            cases e
          have at_ : (upd H3 p (.tup (cutV [V.str y.1, V.str y.2.1, V.int y.2.2] none (some 2)))) q.1 = some (.tup (q.2.map kV)) := by
            rcases List.mem_append.mp hq with m | m
            · rw [upd_ne (ne_of_none (k3 q m) hp)]
              exact k3 q m
            · rw [List.mem_singleton.mp m, upd_same]
              rfl
          rw [upd_ne (nD _ _ at_)]
          exact at_
      · -- events == sorted(set(events))
        rw [len, List.take_length] at k1
        have kl : ks.length ≤ 24 := by
          have z := congrArg List.length k1
          rw [List.length_map, List.length_map, List.length_map] at z
          omega
        have evs : ∀ q ∈ ks, ∃ e, q.2 = evK e := fun q m => by
          have z : q.2 ∈ (st.map evOf).map evK := by
            rw [← k1]
            exact List.mem_map.mpr ⟨q, m, rfl⟩
          obtain ⟨e, _, h⟩ := List.mem_map.mp z
          exact ⟨e, h.symm⟩
        refine ⟨_, rfl, _, rfl, D2, ks, rfl, SqL.of k2, fun q m => SqT.of (k3 q m), by omega, fun a2 L ha2 sub all nd => ?_⟩
        have keep : ∀ q ∈ ks, (upd H3 a2 (SetO P w a2 L)) q.1 = some (.tup (q.2.map kV)) := fun q m => by
          rw [upd_ne (ne_of_none (k3 q m) ha2)]
          exact k3 q m
        refine ⟨a2, L, rfl, upd_same, fun q m => SqT.of (keep q (sub q m)), ?_, ?_, fun L1 p pm less nd1 hp => ?_⟩
        · intro d hd d' hd'
          obtain ⟨q, m, rfl⟩ := List.mem_map.mp hd
          obtain ⟨r, m', rfl⟩ := List.mem_map.mp hd'
          obtain ⟨x, ex⟩ := evs q (sub q m)
          obtain ⟨y, ey⟩ := evs r (sub r m')
          rw [ex, ey]
          rfl
        · refine .inl fun d hd => ?_
          obtain ⟨q, m, rfl⟩ := List.mem_map.mp hd
          obtain ⟨x, ex⟩ := evs q (sub q m)
          rw [ex]
          exact ⟨_, _, rfl⟩
        have srt := sorted_is L1 (st.map evOf) so.asc ((pm.map Prod.snd).nodup_iff.mpr nd) fun k => by
          rw [(pm.map Prod.snd).mem_iff, ← k1]
          refine ⟨fun z => ?_, fun z => ?_⟩
          · obtain ⟨q, m, rfl⟩ := List.mem_map.mp z
            exact List.mem_map.mpr ⟨q, sub q m, rfl⟩
          · obtain ⟨q, m, rfl⟩ := List.mem_map.mp z
            exact all q m
        have mem1 : ∀ q ∈ L1.mergeSort (PySem.W.dataLe false fun q : Addr × List Key => tD q.2), q ∈ ks := fun q m => sub q (pm.mem_iff.mp ((List.mergeSort_perm _ _).mem_iff.mp m))
        generalize L1.mergeSort (PySem.W.dataLe false fun q : Addr × List Key => tD q.2) = M at srt mem1 ⊢
        have keep2 : ∀ q ∈ ks, (upd (upd H3 a2 (SetO P w a2 L)) p (.lst (M.map fun q => V.ref q.1))) q.1 = some (.tup (q.2.map kV)) := fun q m => by
          rw [upd_ne (ne_of_none (keep q m) hp)]
          exact keep q m
        have words : ∀ e ∈ st.map evOf, Wrd e.1 ∧ Wrd e.2 := fun e m => by
          obtain ⟨x, hx, rfl⟩ := List.mem_map.mp m
          exact ⟨(so.all x hx).w1, (so.all x hx).w2⟩
        have sh := shaped_rows (st.map evOf) words
        have hev : (upd (upd H3 a2 (SetO P w a2 L)) p (.lst (M.map fun q => V.ref q.1))) D2 = some (.lst (ks.map fun q => V.ref q.1)) := by
          have z : (upd H3 a2 (SetO P w a2 L)) D2 = some (.lst (ks.map fun q => V.ref q.1)) := by
            rw [upd_ne (ne_of_none k2 ha2)]
            exact k2
          rw [upd_ne (ne_of_none z hp)]
          exact z
        have d1 := dp_rows (K := K) ks keep2
        have d2' := dp_rows (K := K) M fun q m => keep2 q (mem1 q m)
        rw [k1] at d1
        rw [srt] at d2'
        refine ⟨_, _, .lst (SqL.of hev) d1, .lst (SqL.of upd_same) d2', sh, sh, ?_⟩
        rw [SeqAt.eqv_refl _ (by simp only [PyData.canLay0]; exact lay_rows _ words)]
        refine k _ ((s2.trans s3).trans ((same_new ha2).trans (same_new hp)))
end
end My

-- ===== K5E =====
set_option Elab.async false
set_option linter.all false
set_option maxRecDepth 100000
set_option maxHeartbeats 4000000
namespace My
open PySem L2 PyProof.Rows PySem.Spec Kd
theorem nodup_most {α : Type} [DecidableEq α] : ∀ (l D : List α), l.Nodup → (∀ x ∈ l, x ∈ D) → l.length ≤ D.length
  | [], _, _, _ => Nat.zero_le _
  | x :: l, D, nd, sub => by
    obtain ⟨n1, n2⟩ := List.nodup_cons.mp nd
    have mx := sub x List.mem_cons_self
    have ih := nodup_most l (D.erase x) n2 fun y my => (List.mem_erase_of_ne fun (e : y = x) => n1 (by rw [← e]; exact my)).2 (sub y (List.mem_cons_of_mem _ my))
    rw [List.length_erase_of_mem mx] at ih
    have pos := List.length_pos_of_mem mx
    rw [List.length_cons]
    omega
/-- what a set comprehension over J asks -/
def Sc2W (K : PySem.W.Frag) (P : Program) (w : World) (ga : TG) (wb : TI) (gb : TG) (te : TE) (vs us : List Nat) (σ : L2.St) (Q : VK) (J : It) (H1 : Hp) : Prop := ∀ D, H1 D = none → ∃ W : Nat → Nat → Hp → Prop, (∃ m, W 0 m (upd H1 D (SetO P w D []))) ∧ ∀ i m H2, W i m H2 →
  (J.stop i H2 ∧ Q (.ref D) H2) ∨ (J.go i H2 ∧ ∃ Nx : Hp → Prop, (∀ H3, Nx H3 → ∃ m', m' < m ∧ W (i + 1) m' H3) ∧ ∀ x H3, J.yld i H2 x H3 → ga x (wipe σ vs) H3 fun σ4 H4 => wipe σ4 vs = wipe σ vs ∧ wb σ4 H4 fun J1 H5 =>
    ∃ W1 : Nat → Nat → Hp → Prop, (∃ m, W1 0 m H5) ∧ ∀ j k H6, W1 j k H6 → (J1.stop j H6 ∧ Nx H6) ∨ (J1.go j H6 ∧ ∃ Nx1 : Hp → Prop, (∀ H7, Nx1 H7 → ∃ k', k' < k ∧ W1 (j + 1) k' H7) ∧ ∀ x H7, J1.yld j H6 x H7 →
      gb x (wipe σ4 us) H7 fun σ8 H8 => wipe σ8 us = wipe σ4 us ∧ te σ8 H8 fun y H9 => ∃ (e : Addr) (c : List Key) (L : List (Addr × List Key)), y = .ref e ∧ SqT K H9 e (c.map kV) ∧ H9 D = some (SetO P w D L) ∧ (∀ q ∈ L, SqT K H9 q.1 (q.2.map kV)) ∧ (c ∉ L.map Prod.snd → L.length + 1 < 64) ∧
        ∀ L', (c ∈ L.map Prod.snd → L' = L) → (c ∉ L.map Prod.snd → L'.Perm ((e, c) :: L)) → Nx1 (upd H9 D (SetO P w D L'))))
def stOf {H : Hp} {v : V} {st : List Stp} (h : TD H v (stateD st)) := h
/-- the set at D has the events that p tells -/
structure Evs (P : Program) (w : World) (H H' : Hp) (D : Addr) (p : List Key → Prop) : Prop where
  same : Same H H'
  ex : ∃ L : List (Addr × List Key), H' D = some (SetO P w D L) ∧ (∀ q ∈ L, H' q.1 = some (.tup (q.2.map kV))) ∧ (L.map Prod.snd).Nodup ∧ ∀ k, k ∈ L.map Prod.snd ↔ p k
theorem Evs.like {P : Program} {w : World} {H H' : Hp} {D : Addr} {p q : List Key → Prop} (h : Evs P w H H' D p) (e : ∀ k, p k ↔ q k) : Evs P w H H' D q := by
  obtain ⟨s, L, h1, h2, h3, h4⟩ := h
  exact ⟨s, L, h1, h2, h3, fun k => (h4 k).trans (e k)⟩
theorem ev_set {K : PySem.W.Frag} {P : Program} {w : World} {o : Option V} {a : Addr} {xs : List V} {ss : List (List Stp)} {es : List (Str × Str)} {H : Hp} (ha : H a = some (.tup xs)) (hx : TDs H xs (ss.map stateD)) (les : es.length ≤ 24) (hes : ∀ st ∈ ss, ∀ x ∈ st, evOf x ∈ es) {Q : VK}
    (q : ∀ D H' (L : List (Addr × List Key)), Same H H' → H' D = some (SetO P w D L) → (∀ q ∈ L, H' q.1 = some (.tup (q.2.map kV))) → (L.map Prod.snd).Nodup → (∀ k, k ∈ L.map Prod.snd ↔ ∃ st ∈ ss, ∃ x ∈ st, k = evK (evOf x)) → L.length ≤ 24 → Q (.ref D) H') :
    Sc2W K P w (gName 1) (iTup K (tVar 1)) (gName 2) (tSl (rSlT K) (tVar 2) tNoPart (tPart (tC (V.int 2)))) [1, 2] [2] [o, none, none] Q (Itt K a) H := by
  intro D hD
  have len : xs.length = ss.length := by
    have z := hx.len
    rwa [List.length_map] at z
  have few : ∀ {L : List (Addr × List Key)} {p : List Key → Prop}, (L.map Prod.snd).Nodup → (∀ k, k ∈ L.map Prod.snd ↔ p k) → (∀ k, p k → ∃ st ∈ ss, ∃ x ∈ st, k = evK (evOf x)) → L.length ≤ 24 := fun {L p} nd me im => by
    have z := nodup_most (L.map Prod.snd) (es.map evK) nd fun k hk => by
      obtain ⟨st, m1, x, m2, rfl⟩ := im k ((me k).mp hk)
      exact List.mem_map.mpr ⟨_, hes st m1 x m2, rfl⟩
    rw [List.length_map, List.length_map] at z
    omega
  refine ⟨fun i m H2 => m = xs.length - i ∧ i ≤ xs.length ∧ Evs P w H H2 D fun k => ∃ st ∈ ss.take i, ∃ x ∈ st, k = evK (evOf x), ⟨_, rfl, Nat.zero_le _, same_new hD, [], upd_same, (fun q m => nomatch m), List.nodup_nil, fun k => by simp⟩, fun i m H2 ⟨em, le, ev⟩ => ?_⟩
  subst em
  have ha2 := ev.same _ _ ha
  rcases Nat.lt_or_ge i xs.length with lt | ge
  · obtain ⟨x, ex⟩ : ∃ x, xs[i]? = some x := ⟨_, List.getElem?_eq_getElem lt⟩
    obtain ⟨d, ed, td⟩ := hx.get ex
    rw [List.getElem?_map] at ed
    obtain ⟨st, est, rfl⟩ := Option.map_eq_some_iff.mp ed
    obtain ⟨b, ys, rfl, hb, hy⟩ := td.ref_of
    have stm : st ∈ ss := List.mem_of_getElem? est
    have leny : ys.length = st.length := by
      have z := hy.len
      rwa [List.length_map] at z
    refine .inr ⟨⟨xs, _, SqT.of ha2, ex⟩, fun H3 => Evs P w H H3 D fun k => ∃ st ∈ ss.take (i + 1), ∃ x ∈ st, k = evK (evOf x), fun H3 e3 => ⟨_, by omega, rfl, lt, e3⟩, fun v H3 yl => ?_⟩
    obtain ⟨eH, yv⟩ := yl
    subst eH
    have e0 : xs[i]? = some v := yv _ (SqT.of ha2)
    rw [ex] at e0
    cases e0
    have hb2 := ev.same _ _ hb
    refine ⟨rfl, _, rfl, b, rfl, ⟨_, SqT.of hb2⟩, fun j m H4 => m = ys.length - j ∧ j ≤ ys.length ∧ Evs P w H H4 D fun k => (∃ st ∈ ss.take i, ∃ x ∈ st, k = evK (evOf x)) ∨ ∃ x ∈ st.take j, k = evK (evOf x), ⟨_, rfl, Nat.zero_le _, ev.like fun k => by simp⟩, fun j k H4 ⟨ek, lej, ev4⟩ => ?_⟩
    subst ek
    have hb4 := ev4.same _ _ hb
    rcases Nat.lt_or_ge j ys.length with ltj | gej
    · obtain ⟨y, ey⟩ : ∃ y, ys[j]? = some y := ⟨_, List.getElem?_eq_getElem ltj⟩
      obtain ⟨d, ed, td4⟩ := hy.get ey
      rw [List.getElem?_map] at ed
      obtain ⟨sx, esx, rfl⟩ := Option.map_eq_some_iff.mp ed
      obtain ⟨c, rfl, hc⟩ := step_of td4
      refine .inr ⟨⟨ys, _, SqT.of hb4, ey⟩, fun H5 => Evs P w H H5 D fun k => (∃ st ∈ ss.take i, ∃ x ∈ st, k = evK (evOf x)) ∨ ∃ x ∈ st.take (j + 1), k = evK (evOf x), fun H5 e5 => ⟨_, by omega, rfl, ltj, e5⟩, fun v H5 yl => ?_⟩
      obtain ⟨eH, yv⟩ := yl
      subst eH
      have e0 : ys[j]? = some v := yv _ (SqT.of hb4)
      rw [ey] at e0
      cases e0
      obtain ⟨s4, L, l1, l2, l3, l4⟩ := ev4
      have hc4 := s4 _ _ hc
      refine ⟨rfl, _, rfl, 2, rfl, c, _, rfl, SqT.of hc4, (fun z => absurd (show HT.sIx 3 3 (some 2) = 3 from z.2) (by decide)), fun p hp => ?_⟩
      have at_ : ∀ q ∈ L, (upd H5 p (.tup (cutV [V.str sx.1, V.str sx.2.1, V.int sx.2.2] none (some 2)))) q.1 = some (.tup (q.2.map kV)) := fun q m => by
        rw [upd_ne (ne_of_none (l2 q m) hp)]
        exact l2 q m
      have atD : (upd H5 p (.tup (cutV [V.str sx.1, V.str sx.2.1, V.int sx.2.2] none (some 2)))) D = some (SetO P w D L) := by
        rw [upd_ne (ne_of_none l1 hp)]
        exact l1
      have llen : L.length ≤ 24 := few l3 l4 fun k h => by
        rcases h with ⟨st', m1, x, m2, e⟩ | ⟨x, m2, e⟩
        · exact ⟨st', List.mem_of_mem_take m1, x, m2, e⟩
        · exact ⟨st, stm, x, List.mem_of_mem_take m2, e⟩
      refine ⟨p, evK (evOf sx), L, rfl, SqT.of upd_same, atD, fun q m => SqT.of (at_ q m), fun _ => by omega, fun L' c1 c2 => ?_⟩
      have tk : st.take (j + 1) = st.take j ++ [sx] := by rw [List.take_succ, esx]; rfl
      have tup2 : ∀ {b : Addr} {zs : List V}, (upd H5 p (.tup (cutV [V.str sx.1, V.str sx.2.1, V.int sx.2.2] none (some 2)))) b = some (.tup zs) → (upd (upd H5 p (.tup (cutV [V.str sx.1, V.str sx.2.1, V.int sx.2.2] none (some 2)))) D (SetO P w D L')) b = some (.tup zs) := fun {b zs} e => by
        rw [upd_ne fun z => by rw [z, atD] at e; cases e]
        exact e
      refine ⟨same_at (s4.trans (same_new hp)) hD, L', upd_same, fun q m => ?_, ?_, fun k => ?_⟩
      · by_cases h : evK (evOf sx) ∈ L.map Prod.snd
        · rw [c1 h] at m
          exact tup2 (at_ q m)
        · rcases List.mem_cons.mp ((c2 h).mem_iff.mp m) with e | m
          · rw [e]
            exact tup2 upd_same
          · exact tup2 (at_ q m)
      · by_cases h : evK (evOf sx) ∈ L.map Prod.snd
        · rw [c1 h]
          exact l3
        · exact ((c2 h).map Prod.snd).nodup_iff.mpr (List.nodup_cons.mpr ⟨h, l3⟩)
      · have step : k ∈ L'.map Prod.snd ↔ k = evK (evOf sx) ∨ k ∈ L.map Prod.snd := by
          by_cases h : evK (evOf sx) ∈ L.map Prod.snd
          · rw [c1 h]
            exact ⟨.inr, fun z => z.elim (fun e => by rw [e]; exact h) id⟩
          · rw [((c2 h).map Prod.snd).mem_iff, List.map_cons, List.mem_cons]
        rw [step, l4 k, tk]
        simp only [List.mem_append, List.mem_singleton]
        constructor
        · rintro (e | e | ⟨x, m, e⟩)
          · exact .inr ⟨sx, .inr rfl, e⟩
          · exact .inl e
          · exact .inr ⟨x, .inl m, e⟩
        · rintro (e | ⟨x, m | m, e⟩)
          · exact .inr (.inl e)
          · exact .inr (.inr ⟨x, m, e⟩)
          · rw [m] at e
            exact .inl e
    · have e : j = ys.length := by omega
      subst e
      refine .inl ⟨⟨ys, SqT.of hb4, Nat.le_refl _⟩, ev4.like fun k => ?_⟩
      have tk : ss.take (i + 1) = ss.take i ++ [st] := by rw [List.take_succ, est]; rfl
      rw [leny, List.take_length, tk]
      simp only [List.mem_append, List.mem_singleton]
      constructor
      · rintro (⟨s, m, z⟩ | z)
        · exact ⟨s, .inl m, z⟩
        · exact ⟨st, .inr rfl, z⟩
      · rintro ⟨s, m | m, z⟩
        · exact .inl ⟨s, m, z⟩
        · rw [m] at z
          exact .inr z
  · have e : i = xs.length := by omega
    subst e
    obtain ⟨s2, L, l1, l2, l3, l4⟩ := ev
    rw [len, List.take_length] at l4
    exact .inl ⟨⟨xs, SqT.of ha2, Nat.le_refl _⟩, q D H2 L s2 l1 l2 l3 l4 (few l3 l4 fun k h => h)⟩
def rLenQ (K : PySem.W.Frag) : List V → Hp → VK → Prop := fun xs H Q => ∃ p ys, xs = [.ref p] ∧ (SqL K H p ys ∨ SqT K H p ys) ∧ Q (.int ys.length) H
def spStates : Sp := fun vs H Q _ => ∃ (a : Addr) (ss : List (List Stp)), vs = [.ref a] ∧ TD H (.ref a) (statesD ss) ∧ KOk ss ∧ ∀ H', Same H H' → Q (.bl true) H'
section
variable {P : Program} {w : World} {K : PySem.W.Frag} {mg : Str → Option Value} {base : Heap}
abbrev nSs : List Str := ["thing", "state", "step"]
theorem scSs : FnScope nSs ["thing"] (defScope sStates) := ⟨rfl, rfl, rfl, by decide +kernel, rfl, by decide +kernel, by decide +kernel⟩
theorem ok_states {f fS : Addr} {fd fdS : FuncData} (F : Fun K "is_states" "is_states" sStates f fd) (G : Gs mg)
    (GS : FnOk P w K mg base CX0 3 fS fdS ["thing", "many"] spState) (mS : mg "_is_state" = some (.ref fS)) (kS : PySem.W.keepIn K (.ref fS) = true) (bS : Binds K fdS ["thing", "many"] []) :
    FnOk P w K mg base CX0 4 f fd ["thing"] spStates := by
  obtain ⟨t40, m40⟩ := G.c40
  obtain ⟨t24, m24⟩ := G.c24
  refine F.ok scSs (fun vs H Q E h => ?_) (fun cdv A outer s H vs Q E hr h => ?_)
  · obtain ⟨a, ss, rfl, _⟩ := h
    rfl
  · obtain ⟨a, ss, rfl, hx, so, k⟩ := h
    have hu := hr.units
    have hu2 : (A.deeper (envOfC "is_states" (defScope sStates) s.heap.objs.size f cdv)).units + 2 < cLine := by omega
    refine ⟨_, pss_cons (ps_if (PW.pt (pw_or (pt_not (pt_val (pe_callB call_isi (by rfl) G.isi boot_isinstance (pa_cons (pv 0) (pa_cons (pe_bltn (v := .ty "tuple") (by rfl) G.tuple PyProof.Rows.boot_tuple rfl) pa_nil)))))
          (pw_or1 (pt_not (pt_chain op_le op_le pe_int (pe_callB call_len_seq (by rfl) G.len PySem.boot_len (pa_cons (pv 0) pa_nil)) (pe_glob (v := .int 40) (by rfl) m40 ⟨_, rfl⟩)))))) (pss_one (ps_ret pe_bl)) pss_nil)
      (pss_cons (ps_if (pt_not (pt_val (pe_callB (cr_all rfl) (by rfl) G.all PyProof.Rows.boot_all (pa_cons (pe_lc (own := [("state", 1)]) (g := gName 1) (tt := tYes) rfl scSs.nd (pi_tup (pv 0)) (blkOk_by (N := nSs) (sc := defScope sStates) (by decide +kernel))
            (fun _ _ _ _ _ => pg_name (i := 1) scSs.nd rfl (Or.inl rfl)) (fun _ _ _ _ _ => pts_nil) (fun _ _ _ _ _ => pe_call GS hr (by rfl) mS kS bS .nil pass0 (pa_cons (pv 1) (pa_cons (pe_callB (r := rLenQ K) call_len_seq (by rfl) G.len PySem.boot_len (pa_cons (pv 0) pa_nil)) pa_nil)))) pa_nil)))) (pss_one (ps_ret pe_bl)) pss_nil)
      (pss_one (ps_ret (pe_cmpR op_le (pe_callB cr_lenS (by rfl) G.len PySem.boot_len (pa_cons (pe_sc2 (own := [("state", 1), ("step", 2)]) (us := [2]) (wa := iTup K (tVar 0)) (wb := iTup K (tVar 1)) (te := tSl (rSlT K) (tVar 2) tNoPart (tPart (tC (V.int 2)))) rfl scSs.nd hu2 (pi_tup (pv 0)) (blkOk_by (N := nSs) (sc := defScope sStates) (by decide +kernel)) (by decide)
            (fun _ _ _ _ _ => pg_name (i := 1) scSs.nd rfl (Or.inl rfl)) (fun _ _ _ _ _ => pi_tup (pv 1)) (fun _ _ _ _ _ => pg_name (i := 2) scSs.nd rfl (Or.inl rfl)) (fun _ _ _ _ _ => pe_slice (r := rSlT K) sl_tup (pv 2) po_none (po_some pe_int))) pa_nil)) (pe_glob (v := .int 24) (by rfl) m24 ⟨_, rfl⟩) (nomark _))))), ?_⟩
    obtain ⟨xs, ha, hxs⟩ := hx.tup_of
    have len : xs.length = ss.length := by
      have z := hxs.len
      rwa [List.length_map] at z
    have l1 := so.one
    have l2 := so.most
    refine ⟨_, rfl, _, _, _, _, _, rfl, .ty "tuple", .base (.tup ha), kit_ty (a := "tuple") (b := "tuple") (r := true) (by decide +kernel), _, rfl, iteF ?_⟩
    refine ⟨_, rfl, a, _, rfl, .inr (SqT.of ha), _, _, rfl, rfl, _, rfl, ?_⟩
    rw [decide_eq_true (show (1 : Int) ≤ xs.length by omega)]
    refine iteT ⟨_, _, rfl, rfl, _, rfl, ?_⟩
    rw [decide_eq_true (show (xs.length : Int) ≤ 40 by omega)]
    refine iteF ?_
    refine ⟨_, rfl, a, rfl, ⟨_, SqT.of ha⟩, fun D hD => lc_tup (K := K) (a := a) (xs := xs) (fun i H2 => Same H H2 ∧ H2 D = some (.lst ((List.replicate i true).map V.bl))) ⟨same_new hD, upd_same⟩ (fun i H2 _ ⟨s2, _⟩ => SqT.of (s2 _ _ ha)) (fun i x H2 ex ⟨s2, d2⟩ => ?_) fun H2 ⟨s2, d2⟩ => ?_⟩
    · obtain ⟨d, ed, td⟩ := hxs.get ex
      rw [List.getElem?_map] at ed
      obtain ⟨st, ey, rfl⟩ := Option.map_eq_some_iff.mp ed
      obtain ⟨b, ys, rfl, _⟩ := td.ref_of
      have lt : i < ss.length := (List.getElem?_eq_some_iff.mp ey).1
      refine ⟨rfl, _, rfl, _, rfl, a, _, rfl, .inr (SqT.of (s2 _ _ ha)), b, st, ss.length, by rw [len]; rfl, td.to (Tup.of s2), so.all st (List.mem_of_getElem? ey), fun H3 s3 => ⟨_, s3 _ _ d2, ?_, same_at (s2.trans s3) hD, ?_⟩⟩
      · rw [List.length_map, List.length_replicate]
        exact small_lt (m := 40) (by omega)
      · rw [upd_same, List.replicate_succ', List.map_append]
        rfl
    · refine ⟨D, _, rfl, SqL.of d2, _, rfl, ?_⟩
      have e : ((List.replicate xs.length true).all id) = true := by simp
      rw [e]
      refine iteF ?_
      obtain ⟨es, e1, e2⟩ := so.evs
      refine ⟨_, rfl, a, rfl, ⟨_, SqT.of (s2 _ _ ha)⟩, ev_set (K := K) (P := P) (w := w) (o := some (V.ref a)) (Q := fun x H1 => rLenS P w [x] H1 fun y H2 => rI0 (fun i j => V.bl (decide (i ≤ j))) y (.int 24) H2 Q) (s2 _ _ ha) (hxs.to (Tup.of s2)) e1 e2 fun D2 H3 L s3 h1 h2 h3 h4 h5 => ⟨D2, L, rfl, h1, _, _, rfl, rfl, ?_⟩⟩
      show Q (V.bl (decide ((L.length : Int) ≤ 24))) H3
      rw [decide_eq_true (show (L.length : Int) ≤ 24 by omega)]
      exact k _ (s2.trans s3)
end
end My

-- ===== K5F =====
set_option Elab.async false
set_option linter.all false
set_option maxRecDepth 100000
set_option maxHeartbeats 4000000
namespace My
open PySem L2 PyProof.Rows PySem.Spec Kd
def DcW (ga : TG) (tk tv : TE) (vs : List Nat) (σ : L2.St) (Q : VK) (J : It) (H1 : Hp) : Prop := ∀ D, H1 D = none → ∃ W : Nat → Nat → Hp → Prop, (∃ m, W 0 m (upd H1 D (.dT []))) ∧ ∀ i m H2, W i m H2 →
  (J.stop i H2 ∧ Q (.ref D) H2) ∨ (J.go i H2 ∧ ∃ Nx : Hp → Prop, (∀ H3, Nx H3 → ∃ m', m' < m ∧ W (i + 1) m' H3) ∧ ∀ x H3, J.yld i H2 x H3 → ga x (wipe σ vs) H3 fun σ4 H4 => wipe σ4 vs = wipe σ vs ∧ tk σ4 H4 fun y H5 => tv σ4 H5 fun z H6 =>
    ∃ (kvs : List (List Key × V)) (k : List Key) (b : Addr), y = .ref b ∧ H6 b = some (.tup (k.map kV)) ∧ H6 D = some (.dT kvs) ∧ kvs.length < sizeLine ∧ Nx (upd H6 D (.dT (putK kvs k z))))
def mvOf (x : Stp) : List Key × V := (evK (evOf x), .int x.2.2)
theorem putK_new {kvs : List (List Key × V)} {k : List Key} {v : V} (h : ∀ p ∈ kvs, p.1 ≠ k) : putK kvs k v = kvs ++ [(k, v)] := by
  unfold putK
  rw [if_neg]
  intro z
  obtain ⟨p, m, e⟩ := List.any_eq_true.mp z
  exact h p m (of_decide_eq_true e)
theorem mv_dict {K : PySem.W.Frag} {o0 o1 : Option V} {b : Addr} {ys : List V} {st : List Stp} {H : Hp} (hb : H b = some (.tup ys)) (hy : TDs H ys (st.map stepD)) (asc : (st.map evOf).Pairwise evLt) (few : st.length ≤ 24) {Q : VK}
    (q : ∀ D H', Same H H' → H' D = some (.dT (st.map mvOf)) → Q (.ref D) H') :
    DcW (gTup K 3 (gCons (gName 2) (gCons (gName 3) (gCons (gName 4) gNil)))) (tTup (tCons (tVar 2) (tCons (tVar 3) tNil))) (tVar 4) [2, 3, 4] [o0, o1, none, none, none] Q (Itt K b) H := by
  intro D hD
  have len : ys.length = st.length := by
    have z := hy.len
    rwa [List.length_map] at z
  refine ⟨fun i m H2 => m = ys.length - i ∧ i ≤ ys.length ∧ Same H H2 ∧ H2 D = some (.dT ((st.take i).map mvOf)), ⟨_, rfl, Nat.zero_le _, same_new hD, by simp [upd_same]⟩, fun i m H2 ⟨em, le, s2, d2⟩ => ?_⟩
  subst em
  have hb2 := s2 _ _ hb
  rcases Nat.lt_or_ge i ys.length with lt | ge
  · obtain ⟨y, ey⟩ : ∃ y, ys[i]? = some y := ⟨_, List.getElem?_eq_getElem lt⟩
    obtain ⟨d, ed, td⟩ := hy.get ey
    rw [List.getElem?_map] at ed
    obtain ⟨x, ex, rfl⟩ := Option.map_eq_some_iff.mp ed
    obtain ⟨c, rfl, hc⟩ := step_of td
    refine .inr ⟨⟨ys, _, SqT.of hb2, ey⟩, fun H3 => Same H H3 ∧ H3 D = some (.dT ((st.take (i + 1)).map mvOf)), fun H3 ⟨s3, d3⟩ => ⟨_, by omega, rfl, lt, s3, d3⟩, fun v H3 yl => ?_⟩
    obtain ⟨eH, yv⟩ := yl
    have e0 : ys[i]? = some v := yv _ (SqT.of hb2)
    rw [ey] at e0
    cases e0
    subst eH
    have hc3 := s2 _ _ hc
    refine ⟨c, _, rfl, SqT.of hc3, rfl, _, _, rfl, _, _, rfl, _, _, rfl, rfl, rfl, ?_⟩
    refine ⟨_, rfl, _, rfl, by show 2 ≤ sizeLine; decide, fun p hp => ⟨_, rfl, (st.take i).map mvOf, evK (evOf x), p, rfl, upd_same, ?_, ?_, ?_, ?_⟩⟩
    · rw [upd_ne (ne_of_none d2 hp)]
      exact d2
    · rw [List.length_map, List.length_take]
      exact small_lt (m := 24) (by omega)
    · exact same_at (s2.trans (same_new hp)) hD
    · have tk : st.take (i + 1) = st.take i ++ [x] := by rw [List.take_succ, ex]; rfl
      rw [upd_same, tk, List.map_append, putK_new]
      · rfl
      · intro p hp e
        obtain ⟨z, hz, rfl⟩ := List.mem_map.mp hp
        have e2 : evOf z = evOf x := evK_inj e
        have nd := asc_nodup asc
        have sub : (st.take (i + 1)).map evOf = (st.map evOf).take (i + 1) := List.map_take
        have nd2 : ((st.take (i + 1)).map evOf).Nodup := by
          rw [sub]
          exact List.Pairwise.sublist (List.take_sublist _ _) nd
        rw [tk, List.map_append] at nd2
        exact (List.nodup_append.mp nd2).2.2 (evOf z) (List.mem_map.mpr ⟨z, hz, rfl⟩) (evOf x) (by simp) e2
  · have e : i = ys.length := by omega
    subst e
    rw [len, List.take_length] at d2
    exact .inl ⟨⟨ys, SqT.of hb2, Nat.le_refl _⟩, q D H2 s2 d2⟩
/-- the moves of a kind stand at m -/
def MovesAt (H : Hp) (m : Addr) (ss : List (List Stp)) : Prop := ∃ bs : List Addr, H m = some (.lst (bs.map V.ref)) ∧ bs.length = ss.length ∧ ∀ (i : Nat) (b : Addr) (st : List Stp), bs[i]? = some b → ss[i]? = some st → H b = some (.dT (st.map mvOf))
def spMoves : Sp := fun vs H Q _ => ∃ (a : Addr) (ss : List (List Stp)), vs = [.ref a] ∧ TD H (.ref a) (statesD ss) ∧ KOk ss ∧ ∀ m H', Same H H' → H m = none → MovesAt H' m ss → Q (.ref m) H'
def lcScope : Stmt → Scope
  | .FunctionDef _ _ [.Return (some (.ListComp _ _ sc _)) _] .. => sc
  | _ => { kind := .function, names := [], isGenerator := false, isCoroutine := false }
section
variable {P : Program} {w : World} {K : PySem.W.Frag} {mg : Str → Option Value} {base : Heap}
abbrev nMv : List Str := ["states", "state", "operation", "answer", "goal"]
theorem scMv : FnScope nMv ["states"] (defScope sMoves) := ⟨rfl, rfl, rfl, by decide +kernel, rfl, by decide +kernel, by decide +kernel⟩
theorem ok_moves {f : Addr} {fd : FuncData} (F : Fun K "moves_of" "moves_of" sMoves f fd) : FnOk P w K mg base CX0 1 f fd ["states"] spMoves := by
  refine F.ok scMv (fun vs H Q E h => ?_) (fun cdv A outer s H vs Q E hr h => ?_)
  · obtain ⟨a, ss, rfl, _⟩ := h
    rfl
  · obtain ⟨a, ss, rfl, hx, so, k⟩ := h
    have hu := hu_of hr
    have hu2 : (A.deeper (envOfC "moves_of" (defScope sMoves) s.heap.objs.size f cdv)).units + 2 < cLine := by have := hr.units; omega
    refine ⟨_, pss_one (ps_ret (pe_lc (own := [("state", 1)]) (g := gName 1) (tt := tYes) (te := tDcT (iTup K (tVar 1)) (gTup K 3 (gCons (gName 2) (gCons (gName 3) (gCons (gName 4) gNil)))) (tTup (tCons (tVar 2) (tCons (tVar 3) tNil))) (tVar 4) [2, 3, 4]) rfl scMv.nd (pi_tup (pv 0)) (blkOk_by (N := nMv) (sc := defScope sMoves) (by decide +kernel))
            (fun _ _ _ _ _ => pg_name (i := 1) scMv.nd rfl (Or.inl rfl)) (fun _ _ _ _ _ => pts_nil)
            (fun _ _ _ _ _ => pe_dcT (own := [("operation", 2), ("answer", 3), ("goal", 4)]) rfl scMv.nd hu2 (pi_tup (pv 1)) (blkOk_by (N := nMv) (sc := relS (lcScope sMoves) (defScope sMoves)) (by decide +kernel))
              (fun _ _ _ _ _ => pg_tup (by rfl) (pgs_cons (pg_name (i := 2) scMv.nd rfl (Or.inl rfl)) (pgs_cons (pg_name (i := 3) scMv.nd rfl (Or.inl rfl)) (pgs_cons (pg_name (i := 4) scMv.nd rfl (Or.inl rfl)) pgs_nil))))
              (fun _ _ _ _ _ => pe_tup (pa_cons (pv 2) (pa_cons (pv 3) pa_nil))) (fun _ _ _ _ _ => pv 4)))), ?_⟩
    obtain ⟨xs, ha, hxs⟩ := hx.tup_of
    have len : xs.length = ss.length := by
      have z := hxs.len
      rwa [List.length_map] at z
    have l2 := so.most
    refine ⟨_, rfl, a, rfl, ⟨_, SqT.of ha⟩, fun D hD => lc_tup (K := K) (a := a) (xs := xs) (fun i H2 => Same H H2 ∧ ∃ bs : List Addr, H2 D = some (.lst (bs.map V.ref)) ∧ bs.length = i ∧ ∀ (j : Nat) (b : Addr) (st : List Stp), bs[j]? = some b → ss[j]? = some st → H2 b = some (.dT (st.map mvOf)))
      ⟨same_new hD, [], upd_same, rfl, fun j b st e => by simp at e⟩ (fun i H2 _ ⟨s2, _⟩ => SqT.of (s2 _ _ ha)) (fun i x H2 ex ⟨s2, bs, d2, bl, hbs⟩ => ?_) fun H2 ⟨s2, bs, d2, bl, hbs⟩ => ?_⟩
    · obtain ⟨d, ed, td⟩ := hxs.get ex
      rw [List.getElem?_map] at ed
      obtain ⟨st, ey, rfl⟩ := Option.map_eq_some_iff.mp ed
      obtain ⟨b, ys, rfl, hb, hy⟩ := td.ref_of
      have lt : i < ss.length := (List.getElem?_eq_some_iff.mp ey).1
      have sto := so.all st (List.mem_of_getElem? ey)
      refine ⟨rfl, _, rfl, b, rfl, ⟨_, SqT.of (s2 _ _ hb)⟩, mv_dict (K := K) (o0 := some (V.ref a)) (o1 := some (V.ref b)) (Q := fun y H4 => ∃ acc, H4 D = some (.lst acc) ∧ acc.length < sizeLine ∧ Same H (upd H4 D (.lst (acc ++ [y]))) ∧ ∃ bs : List Addr, (upd H4 D (.lst (acc ++ [y]))) D = some (.lst (bs.map V.ref)) ∧ bs.length = i + 1 ∧ ∀ (j : Nat) (b : Addr) (st : List Stp), bs[j]? = some b → ss[j]? = some st → (upd H4 D (.lst (acc ++ [y]))) b = some (.dT (st.map mvOf)))
        (s2 _ _ hb) (hy.to (Tup.of s2)) sto.asc sto.few fun D2 H3 s3 d3 => ⟨_, s3 _ _ d2, ?_, same_at (s2.trans s3) hD, bs ++ [D2], ?_, ?_, fun j c sj ec es => ?_⟩⟩
      · rw [List.length_map]
        exact small_lt (m := 40) (by omega)
      · rw [upd_same, List.map_append]
        rfl
      · rw [List.length_append, bl]
        rfl
      · have at_ : H3 c = some (.dT (sj.map mvOf)) := by
          rcases Nat.lt_or_ge j bs.length with l | g
          · rw [List.getElem?_append_left l] at ec
            exact s3 _ _ (hbs j c sj ec es)
          · rw [List.getElem?_append_right g] at ec
            have ej : j - bs.length = 0 := by
              have z := (List.getElem?_eq_some_iff.mp ec).1
              simp at z
              omega
            have ej2 : j = i := by omega
            rw [ej] at ec
            have e2 : D2 = c := Option.some.inj ec
            rw [ej2, ey] at es
            rw [← Option.some.inj es, ← e2]
            exact d3
        rw [upd_ne fun z => by rw [z, s3 _ _ d2] at at_; cases at_]
        exact at_
    · exact k D H2 s2 hD ⟨bs, d2, by rw [bl, len], hbs⟩
end
end My

-- ===== K5G =====
set_option Elab.async false
set_option linter.all false
set_option maxRecDepth 100000
set_option maxHeartbeats 4000000
namespace My
open PySem L2 PyProof.Rows PySem.Spec Kd StX ClX
abbrev sKind : Stmt := top 24
abbrev sInit : Stmt := inClass sKind 0
abbrev sOf : Stmt := inClass sKind 1
abbrev sRead : Stmt := inClass sKind 2
abbrev sEq : Stmt := inClass sKind 3
abbrev sKtext : Stmt := inClass sKind 8
/-! ### C(*xs), C in a local name -/
section
variable {X : Cx} {CX : CXT} {k i : Nat} {f C : Addr} {sp : Sp} {E : XK} {x : PySem.Str} {e : Expr} {te : TE} {p sp_ pos : Pos}
theorem pe_makeL (M : Mk X.K C f) (F : FnR X.prog X.w X.K X.mg X.base CX k f sp) (hr : Room (k + 1) X.A) (hN : X.N[i]? = some x) (hv : Vis X.env.scope x) (hx : Passes CX X E) (he : PE X e te) (hdb : (x == ("__debug__" : PySem.Str)) = false := by decide) (hcd : (x == ("__classdict__" : PySem.Str)) = false := by decide)
    (hst : starEach [.Starred e sp_] X.env = [(true, eval e X.env)] := by rfl) :
    PE X (.Call (.Name x p) [.Starred e sp_] [] pos) (fun σ H Q => σ[i]? = some (some (.ref C)) ∧ te σ H fun y H1 => ∃ a xs, y = V.ref a ∧ (SqT X.K H1 a xs ∨ SqL X.K H1 a xs) ∧ ∀ o dx, H1 o = none → H1 dx = none → dx ≠ o →
      sp (V.ref o :: xs) (upd (upd H1 dx (.own o)) o (.ins C dx [])) (fun v H2 => v = .non ∧ Q (.ref o) H2) E) := by
  refine ⟨fun pins s σ H Q I h => ?_⟩
  obtain ⟨hs, ht⟩ := h
  refine wpAny_Call_Name_kw (thn ((pe_var (pos := p) hN hv hdb hcd).run pins s σ H (fun v H1 => v = .ref C ∧ H1 = H) I ⟨.ref C, hs, rfl, rfl⟩) fun u s1 ⟨v, H1, I1, r1, q1⟩ => ?_)
  obtain ⟨rfl, rfl⟩ := q1
  cases r1
  refine PySem.W.callWith_S (h₀ := X.base) I.ok.mod.kin M.kp (thn (he.run pins s1 σ _ _ I1 ht) fun w s2 ⟨y, H2, I2, ry, a, xs, ey, hxs, q⟩ => ?_) hst
  subst ey
  obtain rfl : w = Value.ref a := ry
  exact star_any I2 hxs fun us s3 I3 rv => ⟨I3.kIn, run_makeR M F hr hx I3 rv q⟩
end
/-! ### the class -/
def KindAt (C : Addr) (H : Hp) (v : V) (ss : List (List Stp)) : Prop := ∃ o dx a m, v = .ref o ∧ H o = some (.ins C dx [("states", .ref a), ("moves", .ref m)]) ∧ TD H (.ref a) (statesD ss) ∧ MovesAt H m ss
theorem MovesAt.same {H H' : Hp} {m : Addr} {ss : List (List Stp)} (s : Same H H') (h : MovesAt H m ss) : MovesAt H' m ss := by
  obtain ⟨bs, h1, h2, h3⟩ := h
  exact ⟨bs, s _ _ h1, h2, fun i b st e1 e2 => s _ _ (h3 i b st e1 e2)⟩
theorem KindAt.same {C : Addr} {H H' : Hp} {v : V} {ss : List (List Stp)} (s : Same H H') (h : KindAt C H v ss) : KindAt C H' v ss := by
  obtain ⟨o, dx, a, m, e, h1, h2, h3⟩ := h
  exact ⟨o, dx, a, m, e, s _ _ h1, h2.to (Tup.of s), h3.same s⟩
/-- as it was but for one address -/
def But (o : Addr) (H H' : Hp) : Prop := ∀ b u, H b = some u → b ≠ o → H' b = some u
def spInit (C : Addr) : Sp := fun vs H Q _ => ∃ (o t dx : Addr) (ss : List (List Stp)), vs = [.ref o, .ref t] ∧ H o = some (.ins C dx []) ∧ TD H (.ref t) (statesD ss) ∧ KOk ss ∧
  ∀ H' m, But o H H' → H' o = some (.ins C dx [("states", .ref t), ("moves", .ref m)]) → MovesAt H' m ss → Q .non H'
def spInitR (C : Addr) : Sp := fun vs H Q E => ∃ ws rest, vs = ws ++ rest ∧ ws.length = ["self"].length ∧ rest.length ≤ sizeLine ∧ ∀ p, H p = Option.none → spInit C (ws ++ [V.ref p]) (upd H p (.tup rest)) Q E
def spOf (C : Addr) : Sp := fun vs H Q _ => ∃ (a : Addr) (ss : List (List Stp)), vs = [.ref C, .ref a] ∧ TD H (.ref a) (statesD ss) ∧ KOk ss ∧ ∀ v H', Same H H' → KindAt C H' v ss → Q v H'
section
variable {P : Program} {w : World} {K : PySem.W.Frag} {mg : Str → Option Value} {base : Heap}
theorem scIn : FnScope ["self", "states"] ["self", "states"] (defScope sInit) := ⟨rfl, rfl, rfl, by decide +kernel, rfl, by decide +kernel, by decide +kernel⟩
theorem ok_init {f C fS fM : Addr} {fd fdS fdM : FuncData} (F : Fun K "__init__" "Kind.__init__" sInit f fd) (cl : Cls K C) (n1 : NoAttr K C "states") (n2 : NoAttr K C "moves")
    (GS : FnOk P w K mg base CX0 4 fS fdS ["thing"] spStates) (mS : mg "is_states" = some (.ref fS)) (kS : PySem.W.keepIn K (.ref fS) = true) (bS : Binds K fdS ["thing"] [])
    (GM : FnOk P w K mg base CX0 1 fM fdM ["states"] spMoves) (mM : mg "moves_of" = some (.ref fM)) (kM : PySem.W.keepIn K (.ref fM) = true) (bM : Binds K fdM ["states"] []) :
    FnR P w K mg base CX0 5 f (spInitR C) := by
  obtain ⟨oc, od, kV, doc, pm, an, cdv, ct, osl, rfl, lk, hcd⟩ := F.ex
  refine fn_star (ps := ["self"]) (pv := "states") (sp := spInit C) lk hcd scIn cxUp_none (bind_star1 (B := fun l => bindArgs (PySem.W.fnOf "__init__" "Kind.__init__" (defArgs sInit) (defBody sInit) (defScope sInit) .none kV doc pm an cdv ct) ⟨l, []⟩) (p1 := "self") (pv := "states") (fun a => rfl) (fun a r rs => rfl)) fun A outer s H vs Q E hr h => ?_
  obtain ⟨o, t, dx, ss, rfl, ho, hx, so, k⟩ := h
  refine ⟨_, PSs.nox (pss_cons (ps_if (pt_not (pt_val (pe_call GS hr (by rfl) mS kS bS .nil pass0 (pa_cons (pv 1) pa_nil)))) (pss_one ps_never) pss_nil)
      (pss_cons (ps_fld (pv 0) (pv 1) rfl) (pss_one (ps_fld (pv 0) (pe_call GM (hr.mono (by decide)) (by rfl) mM kM bM .nil pass0 (pa_cons (pv 1) pa_nil)) rfl)))), ?_⟩
  refine ⟨_, rfl, t, ss, rfl, hx, so, fun H1 s1 => ⟨true, rfl, iteF ?_⟩⟩
  refine ⟨_, rfl, _, rfl, o, C, dx, [], rfl, s1 _ _ ho, cl, n1, by decide, ?_⟩
  have tp : Tup H1 (upd H1 o (.ins C dx [("states", .ref t)])) := Tup.at_ (s1 _ _ ho) fun xs z => nomatch z
  refine ⟨_, rfl, t, ss, rfl, (hx.to (Tup.of s1)).to tp, so, fun m H3 s3 nm mv => ?_⟩
  have ho3 : H3 o = some (.ins C dx [("states", .ref t)]) := s3 _ _ upd_same
  refine ⟨_, rfl, o, C, dx, _, rfl, ho3, cl, n2, (by show (1 : Nat) < 1000; decide), ?_⟩
  refine k _ m (fun b u e ne => ?_) upd_same ?_
  · rw [upd_ne ne]
    exact s3 _ _ (by rw [upd_ne ne]; exact s1 _ _ e)
  · obtain ⟨bs, h1, h2, h3⟩ := mv
    have ne : ∀ {b : Addr} {u : HO}, H3 b = some u → (∀ C dx fs, u ≠ .ins C dx fs) → (upd H3 o (.ins C dx (putF "moves" (V.ref m) [("states", .ref t)]))) b = some u := fun {b u} e n => by
      rw [upd_ne fun z => by rw [z, ho3] at e; exact n _ _ _ (Option.some.inj e).symm]
      exact e
    exact ⟨bs, ne h1 (fun _ _ _ z => nomatch z), h2, fun i b st e1 e2 => ne (h3 i b st e1 e2) (fun _ _ _ z => nomatch z)⟩
theorem scOf : FnScope ["cls", "states"] ["cls", "states"] (defScope sOf) := ⟨rfl, rfl, rfl, by decide +kernel, rfl, by decide +kernel, by decide +kernel⟩
theorem ok_of {f C fI : Addr} {fd : FuncData} (F : Fun K "of" "Kind.of" sOf f fd) (G : Gs mg) (M : Mk K C fI) (FI : FnR P w K mg base CX0 5 fI (spInitR C)) : FnOk P w K mg base CX0 7 f fd ["cls", "states"] (spOf C) := by
  refine F.ok scOf (fun vs H Q E h => ?_) (fun cdv A outer s H vs Q E hr h => ?_)
  · obtain ⟨a, ss, rfl, _⟩ := h
    rfl
  · obtain ⟨a, ss, rfl, hx, so, k⟩ := h
    refine ⟨_, pss_cons (ps_if (pt_not (pt_val (pe_callB call_isi (by rfl) G.isi boot_isinstance (pa_cons (pv 1) (pa_cons (pe_bltn (v := .ty "tuple") (by rfl) G.tuple PyProof.Rows.boot_tuple rfl) pa_nil))))) (pss_one ps_never) pss_nil)
      (pss_one (ps_ret (pe_makeL (i := 0) M FI hr rfl (.inl rfl) pass0 (pv 1)))), ?_⟩
    obtain ⟨xs, ha, hxs⟩ := hx.tup_of
    have l2 := so.most
    have len : xs.length = ss.length := by
      have z := hxs.len
      rwa [List.length_map] at z
    refine ⟨_, rfl, _, _, _, _, _, rfl, .ty "tuple", .base (.tup ha), kit_ty (a := "tuple") (b := "tuple") (r := true) (by decide +kernel), _, rfl, iteF ?_⟩
    refine ⟨rfl, _, rfl, a, xs, rfl, .inl (SqT.of ha), fun o dx no nd ne => ?_⟩
    refine ⟨[.ref o], xs, rfl, rfl, small_len (m := 40) (by omega), fun p hp => ?_⟩
    have hp1 : p ≠ o := fun z => by
      rw [z, upd_same] at hp
      cases hp
    have hp2 : (upd H dx (.own o)) p = none := by
      rw [upd_ne hp1] at hp
      exact hp
    have hp3 : p ≠ dx := fun z => by
      rw [z, upd_same] at hp2
      cases hp2
    have hp0 : H p = none := by
      rw [upd_ne hp3] at hp2
      exact hp2
    have no1 : (upd H dx (.own o)) o = none := by
      rw [upd_ne (Ne.symm ne)]
      exact no
    have s0 : Same H (upd (upd (upd H dx (.own o)) o (.ins C dx [])) p (.tup xs)) := ((same_new nd).trans (same_new no1)).trans (same_new hp)
    refine ⟨o, p, dx, ss, rfl, by rw [upd_ne (Ne.symm hp1)]; exact upd_same, .tup upd_same (hxs.to (Tup.of s0)), so, fun H' m but ho mv => ⟨rfl, ?_⟩⟩
    have s1 : Same H H' := fun b u e => but b u (s0 b u e) (ne_of_none e no)
    refine k _ _ s1 ⟨o, dx, p, m, rfl, ho, .tup (but p _ upd_same hp1) ?_, mv⟩
    exact hxs.to (Tup.of s1)
end
end My

-- ===== KS10 =====
set_option Elab.async false
set_option linter.all false
set_option maxRecDepth 100000
set_option maxHeartbeats 4000000
namespace Kd
open PySem L2 PyProof.Rows PySem.Spec
/-! ### enumerate of a tuple -/
theorem meets_enum1 {v : Value} {o : Obj} {H : Heap → Prop} (B : Begins v o H) :
    Meets (Builtin.«enumerate.__new__» ⟨[.type "enumerate", v], []⟩) (fun _ R s => H s.heap ∧
      R (.ok (.ret (.ref (s.heap.push o).objs.size))) { s with heap := (s.heap.push o).push { cls := .type "enumerate", data := .fields #[.none, .bool false, .ref s.heap.objs.size, rawInt 0, .none, .none] } }) :=
  .of_wp fun prog w A R s h => by
    obtain ⟨hp, g, d, tk, os⟩ := s
    obtain ⟨h1, h⟩ := h
    have hsub := sub_enumerate
    have it : ∀ {A' : Around} {E : Value → Shared → Prop} {Q : Value → Shared → Prop}, Q (.ref hp.objs.size) ⟨hp.push o, g, d, tk, os⟩ → wpAny (model prog w) A' (pyIter v) Q E ⟨hp, g, d, tk, os⟩ :=
      fun q => B.iter prog w _ _ ⟨hp, g, d, tk, os⟩ _ h1 q
    wp_walk using it
    refine wpAny_stack_any fun st => wpAny_pure ?_
    split
    · rename_i c _ _ _ _ _
      cases (c == Value.type "enumerate") <;> (wp_walk using it; exact ⟨_, rfl, h⟩)
    · wp_walk using it
      exact ⟨_, rfl, h⟩
theorem enum_tuple {prog : Program} {w : World} {A : Around} {E : Value → Shared → Prop} {s : Shared} {t : Addr} {items : Array Value} {Q : Value → Shared → Prop} (ht : s.heap.IsTuple t items)
    (h : ∀ h', IsEnum h' (s.heap.objs.size + 1) s.heap.objs.size 0 .none → h'.IsTupleIter s.heap.objs.size t 0 → (∀ b o, s.heap.get? b = some o → h'.get? b = some o) → Q (.ref (s.heap.objs.size + 1)) { s with heap := h' }) :
    wpAny (model prog w) A (call (.type "enumerate") [.ref t]) Q E s := by
  refine callType_new F.called_enumerate (by decide) (F.typeCall_enumerate_1 _) (F.newCall_enumerate_1 _) (fun obj => F.args_object_init_2 obj _) F.entry_enumerate_new (meets_enum1 (begins_tuple t items)) ⟨ht, ?_⟩
  generalize ho : ({ cls := .type "tuple_iterator", data := .fields #[.ref t, .int 0 0] } : Obj) = o
  have sz : (s.heap.push o).objs.size = s.heap.objs.size + 1 := Heap.size_push ..
  have e1 : ((s.heap.push o).push { cls := .type "enumerate", data := .fields #[.none, .bool false, .ref s.heap.objs.size, rawInt 0, .none, .none] }).get? (s.heap.push o).objs.size = some _ := Heap.get?_push_size _ rfl
  rw [sz] at e1
  show _ ∧ _
  rw [sz]
  subst ho
  exact ⟨⟨_, e1, rfl⟩, h _ e1 ⟨_, Heap.get?_push_of_some _ (Heap.get?_push_size _ rfl), rfl, rfl⟩ fun b u x => Heap.get?_push_of_some _ (Heap.get?_push_of_some _ x)⟩
/-- the tuple at a, each item beside its place in a new pair -/
def IteT (K : PySem.W.Frag) (a : Addr) : It :=
  ⟨fun i H => ∃ (xs : List V) (x : V), SqT K H a xs ∧ xs[i]? = some x, fun i H v H' => ∃ T x, v = .ref T ∧ H T = none ∧ H' = upd H T (.tup [.int (i : Nat), x]) ∧ ∀ xs, SqT K H a xs → xs[i]? = some x, fun i H => ∃ xs : List V, SqT K H a xs ∧ xs.length = i⟩
theorem turn_enumT {P : Program} {w : World} {K : PySem.W.Frag} {elts : List Expr} {kk : Nat} {tpos : Pos} (a e it : Addr) :
    Turn P w K (.Tuple elts kk tpos) (IteT K a) [e, it] e (fun i h => (∃ old, IsEnum h e it ((i : Nat) : Int) old) ∧ h.IsTupleIter it a i ∧ e ≠ it ∧ a ≠ it ∧ a ≠ e) where
  mem := by simp
  obj := fun i h st b hb => by
    obtain ⟨⟨old, he⟩, ⟨o, ho, _, hd⟩, _⟩ := st
    rcases (show b = e ∨ b = it by simpa using hb) with z | z
    · rw [z]
      exact ⟨_, he, fun v q => nomatch q⟩
    · rw [z]
      exact ⟨o, ho, fun v q => by rw [hd] at q; cases q⟩
  keep := fun i h h' st k => let ⟨⟨old, he⟩, hi, ne⟩ := st; ⟨⟨old, k e (by simp) _ he⟩, hi.at fun o q => k it (by simp) o q, ne⟩
  item := by
    intro X hP hw hK hc i pins s σ H E I hf st hg
    subst hP hw hK
    obtain ⟨⟨old, he⟩, hit, ne, nai, nae⟩ := st
    obtain ⟨xs, x, hq, hx⟩ := hg
    obtain ⟨its, rv, p, _⟩ := I.tuple hq
    obtain ⟨u, hu, ru⟩ := rv.get hx
    have pt : s.heap.IsTuple a its.toArray := p
    have lt : i < its.toArray.size := by
      rw [List.size_toArray]
      exact (List.getElem?_eq_some_iff.mp hu).1
    have el : e < s.heap.objs.size := Heap.lt_size he
    have il : it < s.heap.objs.size := by obtain ⟨_, q, _⟩ := hit; exact Heap.lt_size q
    refine wpAny_pyNext_enum_itemD (n := its.toArray.size) (Draws.tuple (A := X.A.in1) (I.ok.hd hc) it a nai its.toArray) he ⟨hit, pt⟩ lt ne (by simp [ne, Ne.symm nae]) fun y h' tk hy ho hst hT hsz hk => ?_
    have ey : y = u := by
      have z : its.toArray[i]? = some y := hy
      rw [show its.toArray[i]? = some u by simpa using hu] at z
      exact (Option.some.inj z).symm
    subst ey
    refine ⟨_, rfl, wpAny_letOwnedTupleGo_enum (s := { s with heap := h', toks := tk + 1 }) ho fun h'' he' sb => ?_⟩
    have hT2 : h''.get? s.heap.objs.size = some { cls := .type "tuple", data := .seq #[.int i tk, y] } := (sb.2 _ (Nat.ne_of_gt el)).trans hT
    have new : ObjOk X.prog X.w (upd H s.heap.objs.size (.tup [.int (i : Nat), x])) h'' s.heap.objs.size (.tup [.int (i : Nat), x]) :=
      ⟨by show 2 ≤ sizeLine; decide, [.int i tk, y], .cons ⟨_, rfl⟩ (.cons ru .nil), ⟨_, hT2, rfl, _, rfl⟩⟩
    have I1 : Inv X pins σ (upd H s.heap.objs.size (.tup [.int (i : Nat), x])) { s with heap := h'', toks := tk + 1 } :=
      I.turnedNew (ch := [e, it]) (fun b ob hb q => (sb.2 b (fun z => hb (by simp [z]))).trans (hk b ob (fun z => hb (by simp [z])) (fun z => hb (by simp [z])) q)) hf (Nat.le_refl _) new
    refine ⟨.ref s.heap.objs.size, _, I1, rfl, ⟨_, x, rfl, I.hok.fresh (Nat.le_refl _), rfl, fun ys hy => by rw [I.tuple_inj hy hq]; exact hx⟩, ⟨⟨y, ?_⟩, hst.1.at fun o q => (sb.2 it (Ne.symm ne)).trans q, ne, nai, nae⟩, fun b hb => ?_⟩
    · rw [show ((i + 1 : Nat) : Int) = (i : Int) + 1 by omega]
      exact he'
    · have bl : b < s.heap.objs.size := by
        rcases (show b = e ∨ b = it by simpa using hb) with z | z
        · rw [z]; exact el
        · rw [z]; exact il
      rw [upd_ne (Nat.ne_of_lt bl)]
      exact (hf b hb).1
  done := by
    intro X hP hw hK hc i pins s σ H E I hf st hg
    subst hP hw hK
    obtain ⟨⟨old, he⟩, hit, ne, nai, nae⟩ := st
    obtain ⟨xs, hq, hx⟩ := hg
    obtain ⟨its, rv, p, _⟩ := I.tuple hq
    obtain ⟨f0, f1, f2, f3, f4, f5⟩ := hf it (by simp)
    have hl := rv.length
    have pt : s.heap.IsTuple a its.toArray := p
    have hst : s.heap.IsTupleIter it a its.toArray.size ∧ s.heap.IsTuple a its.toArray := ⟨by rw [show its.toArray.size = i by rw [List.size_toArray]; omega]; exact hit, pt⟩
    exact wpAny_pyNext_enum_endD (n := its.toArray.size) (Draws.tuple (A := X.A.in1) (I.ok.hd hc) it a nai its.toArray) he hst fun h' eb => ⟨rfl, I.turned (t' := s.toks) (fun b o hb q => eb b o hb q) f0 f1 f3 f4 f5⟩
  self := fun A i s Q E st h => let ⟨⟨_, he⟩, _⟩ := st; wpAny_pyIter_enum he h
def iEnumT (K : PySem.W.Frag) (ta : TA) : TI := fun σ H R => ta σ H fun vs H1 => ∃ a xs, vs = [.ref a] ∧ SqT K H1 a xs ∧ R (IteT K a) H1
theorem pi_enumT {X : Cx} {e : Expr} {ta : TA} {p pos tpos : Pos} {elts : List Expr} {kk : Nat} (hg : Gl X "enumerate") (hm : X.mg "enumerate" = none) (ha : PA X [e] ta) (hs : starEach [e] X.env = [(false, eval e X.env)] := by rfl) :
    PI X (.Tuple elts kk tpos) (.Call (.Name "enumerate" p) [e] [] pos) (iEnumT X.K ta) := by
  refine ⟨fun pins s σ H R I h => ?_⟩
  refine Call_ (ld_blt I hg hm boot_enumerate (PyProof.Rows.callWith_type1 (thn (ha.run pos pins s σ H _ I h) fun us s1 ⟨vs, H1, I1, r1, q1⟩ => ?_) hs rfl))
  obtain ⟨a, xs, ex, hq, q⟩ := q1
  subst ex
  cases r1 with
  | cons r rr =>
    cases rr
    cases r
    obtain ⟨its, rv, p', _⟩ := I1.tuple hq
    have pt : s1.heap.IsTuple a its.toArray := p'
    have al : a < s1.heap.objs.size := by obtain ⟨_, z, _⟩ := pt; exact Heap.lt_size z
    refine enum_tuple pt fun h' he hit hk => wpAny_pyIter_enum he ?_
    have I2 : Inv X pins σ H1 { s1 with heap := h' } := I1.kept (t' := s1.toks) hk
    refine ⟨s1.heap.objs.size + 1, [s1.heap.objs.size + 1, s1.heap.objs.size], _, _, H1, rfl, I2, turn_enumT a (s1.heap.objs.size + 1) s1.heap.objs.size, ⟨⟨.none, he⟩, hit, Nat.succ_ne_self _, Nat.ne_of_lt al, Nat.ne_of_lt (Nat.lt_succ_of_lt al)⟩, fun b hb => ?_, q⟩
    have le : s1.heap.objs.size ≤ b := by
      rcases (show b = s1.heap.objs.size + 1 ∨ b = s1.heap.objs.size by simpa using hb) with z | z
      · rw [z]; exact Nat.le_add_right _ _
      · rw [z]; exact Nat.le_refl _
    exact I1.fpOk le (I1.hok.fresh le)
end Kd

-- ===== KS11 =====
set_option Elab.async false
set_option linter.all false
set_option maxRecDepth 100000
set_option maxHeartbeats 4000000
namespace Kd
open PySem L2 PyProof.Rows PySem.Spec PySem.W Builtin
/-! ### x != y where the class has __eq__ alone -/
section
variable {prog : Program} {w : World} {A : Around} {E : Value → Shared → Prop} {s : Shared} {K : Frag} {x C f : Addr} {ox : Obj} {od : Option Obj}
theorem bound_slot {M : Model} {id : String} {name : Str} {args : List Value} {Q : Option Value → Shared → Prop} (X : K.In s.heap) (I : InstAt s.heap x ox C od) (hs : findIn K (.ref C) name = some (some (.builtin id)))
    (hb : bindSpecial (.builtin id) (.ref x) = pure (.builtin id, [.ref x])) (h : wpAny M A (call (.builtin id) (.ref x :: args)) (fun v => Q (some v)) E s) : wpAny M A (callSpecialIfBound? (.ref x) name args) Q E s := by
  simp only [callSpecialIfBound?, bindSpecialIfBound?]
  refine wpAny_holding (wpAny_bind (wpAny_bind (wpAny_bind (I.type.here ((looks_findIn X hs).here ?_)))))
  simp only [hb]
  have fin : wpAny M A (call (.builtin id) ([.ref x] ++ args) >>= fun v => pure (some v)) Q E s := wpAny_bind (wpAny_mono h (fun v s' h' => wpAny_pure h') fun _ _ h' => h')
  refine wpAny_bind (wpAny_askSetting (wpAny_ite ?_))
  split
  · exact wpAny_bind (wpAny_pure (wpAny_pure fin))
  · exact wpAny_tryCatch (wpAny_bind (wpAny_pure (wpAny_pure fin)))
theorem obj_ne {y : Addr} {Q : Fin → Shared → Prop} (X : K.In s.heap) (I : InstAt s.heap x ox C od) (hs : findIn K (.ref C) "__eq__" = some (some (.ref f))) (hf : isFn K (.ref f) = true) (hu : A.units < cLine)
    (h : wpAny (model prog w) A (call (.ref f) [.ref x, .ref y]) (fun v s' => ∃ b, v = .bool b ∧ Q (.done (.ret (.bool (!b)))) s') E s) : wpAny (model prog w) A (Builtin.«object.__ne__» ⟨[.ref x, .ref y], []⟩) Q E s := by
  unfold Builtin.«object.__ne__»
  repeat (first
    | with_reducible refine wpAny_cRoomFor hu ?_
    | (refine wpAny_bind (m := callSpecialIfBound? (.ref x) (Str.ofString "__eq__") [.ref y]) (ifBound_K X I hs hf (wpAny_mono h (fun r s' hr => by
          obtain ⟨b, rfl, hq⟩ := hr
          repeat (first | exact hq | exact wpAny_pure hq | exact wpAny_truthy_bool hq | (refine wpAny_bind (m := truthy (.bool _)) (wpAny_truthy_bool ?_)) | wp_step)) fun _ _ e => e)))
    | wp_step)
theorem try_ne {y : Addr} {Q : Option Value → Shared → Prop} (X : K.In s.heap) (I : InstAt s.heap x ox C od) (hs : findIn K (.ref C) "__eq__" = some (some (.ref f))) (hf : isFn K (.ref f) = true)
    (hn : findIn K (.ref C) "__ne__" = some (some (.builtin "object.__ne__"))) (ho : subIn K (.ref C) (.type "object") = some true) (hu : A.units + 1 < cLine)
    (h : wpAny (model prog w) A.in1 (call (.ref f) [.ref x, .ref y]) (fun v s' => ∃ b, v = .bool b ∧ Q (some (.bool (!b))) s') E s) : wpAny (model prog w) A (tryCompare (.ref x) "__ne__" (.ref y)) Q E s := by
  simp only [tryCompare]
  refine wpAny_bind (bound_slot X I hn (PySem.F.cmp_object.ne.bind _) (wpAny_call (codeAny_call_builtin PySem.F.cmp_object.ne.plain PySem.F.cmpEntry_ne
    (check_slot PySem.F.cmpKind_ne PySem.F.cmpSplit_ne (I.type.andThen (looks_subIn X ho)) (PySem.F.cmpArgs_ne _ _) (obj_ne (A := A.in1) X I hs hf hu (wpAny_mono h (fun v s' hv => ?_) fun _ _ e => e))))))
  obtain ⟨b, rfl, hq⟩ := hv
  first | exact ⟨b, rfl, wpAny_pure hq⟩ | exact ⟨b, rfl, wpAny_pure (wpAny_pure hq)⟩ | exact ⟨b, rfl, hq⟩
theorem ne_own {m : Str → Option Value} {h₀ : Heap} {L y : Addr} {oy : Obj} {ody : Option Obj} {Q : Value → Shared → Prop} (X₀ : K.In h₀) (F : Fr h₀ L s.heap m) (I : InstAt s.heap x ox C od) (J : InstAt s.heap y oy C ody) (hs : findIn K (.ref C) "__eq__" = some (some (.ref f))) (hf : isFn K (.ref f) = true)
    (hn : findIn K (.ref C) "__ne__" = some (some (.builtin "object.__ne__"))) (ho : subIn K (.ref C) (.type "object") = some true) (hu : A.units + 1 < cLine)
    (h : wpAny (model prog w) A.in1 (call (.ref f) [.ref x, .ref y]) (fun v s' => ∃ b, v = .bool b ∧ Q (.bool (!b)) s') E s) : wpAny (model prog w) A (compareOp .NotEq (.ref x) (.ref y)) Q E s := by
  have X := X₀.keeps F.keep
  show wpAny _ _ (richCompare .NotEq (.ref x) (.ref y)) Q E s
  unfold richCompare
  simp only [oneThing_ref]
  refine wpAny_holding (wpAny_bind (wpAny_cRoomFor (Nat.lt_of_succ_lt hu) ?_))
  rw [cmpInfo_NotEq]
  dsimp only
  refine wpAny_bind (I.type.here (wpAny_bind (J.type.here ?_)))
  rw [show (Value.ref C != Value.ref C) = false from by simp]
  simp only [Bool.false_eq_true, if_false]
  refine wpAny_bind (wpAny_pure ?_)
  simp only [Bool.false_eq_true, if_false]
  refine wpAny_bind (try_ne X I hs hf hn ho hu (wpAny_mono h (fun v s' hv => ?_) fun _ _ e => e))
  obtain ⟨b, rfl, hq⟩ := hv
  first | exact ⟨b, rfl, wpAny_pure hq⟩ | exact ⟨b, rfl, wpAny_pure (wpAny_pure hq)⟩
end
/-- x != y, both of the class at C, whose __eq__ is at g -/
def rNeIns (C : Addr) (sp : Sp) (E : XK) : R2 := fun x y H Q => ∃ a b dx dy fs gs, x = .ref a ∧ y = .ref b ∧ H a = some (.ins C dx fs) ∧ H b = some (.ins C dy gs) ∧ sp [x, y] H (fun v H' => ∃ k, v = .bl k ∧ Q (.bl (!k)) H') E
section
variable {X : Cx} {CX : CXT} {n : Nat} {C g : Addr} {sp : Sp} {E : XK}
theorem op_neIns (hs : findIn X.K (.ref C) "__eq__" = some (some (.ref g))) (hf : isFn X.K (.ref g) = true) (hn : findIn X.K (.ref C) "__ne__" = some (some (.builtin "object.__ne__"))) (ho : subIn X.K (.ref C) (.type "object") = some true)
    (F : FnR X.prog X.w X.K X.mg X.base CX n g sp) (hr : Room (n + 1) X.A) (hx : Passes CX X E) : OpR X (compareOp .NotEq) (rNeIns C sp E) := by
  intro pins s σ H x y v u Q I rx ry h
  obtain ⟨a, b, dx, dy, fs, gs, rfl, rfl, ha, hb, q⟩ := h
  cases (show v = Value.ref a from rx)
  cases (show u = Value.ref b from ry)
  obtain ⟨mA, J, _⟩ := ins_get I.hok ha
  obtain ⟨mB, J', _⟩ := ins_get I.hok hb
  obtain ⟨od, J, _⟩ := J.look
  obtain ⟨od', J', _⟩ := J'.look
  obtain ⟨m, hF⟩ := I.fr
  refine ne_own I.ok.mod.kin hF J J' hs hf hn ho (by have := hr.un; omega) ?_
  refine wpAny_mono (wpAny_call (SlX.run_at (us := [.ref a, .ref b]) (ws := [.ref a, .ref b]) F hr.in1 I.env0.in1 hx I (.cons rfl (.cons rfl .nil)) q)) (fun r s' z => ?_) fun _ _ x => x
  obtain ⟨z', H', I', rz, k, ek, qz⟩ := z
  subst ek
  cases (show r = Value.bool k from rz)
  exact ⟨k, rfl, .bl (!k), H', I', rfl, qz⟩
end
end Kd

-- ===== KS12 =====
set_option Elab.async false
set_option linter.all false
set_option maxRecDepth 100000
set_option maxHeartbeats 4000000
namespace Kd
open PySem L2 PyProof.Rows PySem.Spec PySem.W PySem.Calls
/-! ### sorted(d), the keys being tuples -/
theorem walk_raw {prog : Program} {w : World} {A : Around} {it d : Addr} {od : Obj} {es : Array DictEntry} {ep : Nat} (hh : A.handled = none) (ne : d ≠ it) (hd : od.data = .dict es ep) :
    Walks prog w A it [it, d] [it] es.size (fun i v => ∃ en, es[i]? = some en ∧ v = en.key) (fun i h => h.IsKeyIter it d i es.size ep ∧ h.get? d = some od) where
  sub := fun b hb => by simp at hb; simp [hb]
  frame := fun _ _ _ st hk => ⟨st.1.at fun o e => hk it (by simp) o e, hk d (by simp) _ st.2⟩
  item := fun i s Q E hi st hQ => by
    obtain ⟨en, hx⟩ : ∃ en, es[i]? = some en := ⟨es[i], by simp [hi]⟩
    refine next_key_item st.1 st.2 hd rfl hx fun h' st' sb => hQ en.key h' s.toks ⟨en, hx, rfl⟩ ⟨st', (sb.2 d ne).trans st.2⟩ fun b o hb e => (sb.2 b fun z => hb (by simp [z])).trans e
  done := fun s Q E st hQ => next_key_end hh st.1 st.2 hd rfl (Nat.le_refl _) fun h' eb => hQ h' s.toks fun b o hb e => eb b o (fun z => hb (by simp [z])) e
  self := fun _ _ _ _ st hQ => wpAny_pyIter_keyiter st.1 hQ
theorem src_raw {prog : Program} {w : World} {d : Addr} {od : Obj} {es : Array DictEntry} {ep : Nat} (lo : (d == sysModules) = false) (ex : od.ExactDict) (hd : od.data = .dict es ep) :
    KdlSrc prog w "dict" d d es.size (fun i v => ∃ en, es[i]? = some en ∧ v = en.key) (fun h => h.get? d = some od) where
  type := fun _ hm => ⟨od, hm, ex.1⟩
  there := fun _ hm => ⟨Heap.lt_size hm, Heap.lt_size hm⟩
  keep := fun _ _ hm hk => hk d (.inl rfl) _ hm
  notList := by decide
  notTuple := by decide
  hint := fun _ _ _ _ hm hq => kdl_hint_dict ⟨od, hm, ex.1⟩ hq
  iter := fun _ _ hh hm => ⟨_, _, (fun _ _ hq => iter_keys lo hm ex hd hq), walk_raw hh (Nat.ne_of_lt (Heap.lt_size hm)) hd, ⟨⟨_, Heap.get?_push_size _ rfl, rfl, rfl⟩, Heap.get?_push_of_some _ hm⟩⟩
/-- one for each place -/
theorem pick_each {α : Type} (R : Nat → α → Prop) : ∀ n : Nat, (∀ i, i < n → ∃ x, R i x) → ∃ L : List α, L.length = n ∧ ∀ i x, L[i]? = some x → R i x
  | 0, _ => ⟨[], rfl, fun i x e => by simp at e⟩
  | n + 1, h => by
    obtain ⟨L, l, g⟩ := pick_each R n fun i hi => h i (by omega)
    obtain ⟨y, hy⟩ := h n (by omega)
    refine ⟨L ++ [y], by rw [List.length_append, l]; rfl, fun i x e => ?_⟩
    rcases Nat.lt_or_ge i L.length with lt | ge
    · rw [List.getElem?_append_left lt] at e
      exact g i x e
    · rw [List.getElem?_append_right ge] at e
      have ei : i - L.length = 0 := by
        have z := (List.getElem?_eq_some_iff.mp e).1
        simp at z
        omega
      rw [ei] at e
      have e2 : y = x := Option.some.inj e
      rw [← e2, show i = n by omega]
      exact hy
def rSortD : List V → Hp → VK → Prop := fun vs H Q => ∃ (a : Addr) (kvs : List (List Key × V)), vs = [V.ref a] ∧ H a = some (.dT kvs) ∧ kvs.length < 64 ∧ AllAlike (kvs.map fun p => tD p.1) ∧ Sortable (kvs.map fun p => tD p.1) ∧
  ∀ (L : List (Addr × List Key)) p, L.map Prod.snd = kvs.map Prod.fst → (∀ q ∈ L, H q.1 = some (.tup (q.2.map kV))) → H p = none → Q (.ref p) (upd H p (.lst ((L.mergeSort (dataLe false fun q => tD q.2)).map fun q => V.ref q.1)))
section
variable {X : Cx}
theorem cr_sortD (hc : X.calm = true) (hu : X.A.units + 64 < cLine) : CallR X (.builtin "sorted") rSortD := by
  intro pins s σ H vs us Q I r h
  obtain ⟨a, kvs, rfl, ha, less, al, so, q⟩ := h
  rw [Vals.ref1 r]
  obtain ⟨od, J⟩ := I.lock ha trivial
  obtain ⟨lo, hod, hex, es, ep, hdt, hsz, ent⟩ := J.frzT upd_same
  obtain ⟨L, ll, hL⟩ := pick_each (fun i (q : Addr × List Key) => (∃ v, kvs[i]? = some (q.2, v)) ∧ (∃ en, es[i]? = some en ∧ en.key = Value.ref q.1) ∧ H q.1 = some (.tup (q.2.map kV))) kvs.length fun i hi => by
    obtain ⟨⟨k, v⟩, hkv⟩ : ∃ p, kvs[i]? = some p := ⟨kvs[i], List.getElem?_eq_getElem hi⟩
    obtain ⟨en, b, hen, hkey, hb⟩ := ent i k v hkv
    refine ⟨(b, k), ⟨v, hkv⟩, ⟨en, hen, hkey⟩, ?_⟩
    rw [upd_ne fun z => by rw [z, upd_same] at hb; cases hb] at hb
    exact hb
  have keys : L.map Prod.snd = kvs.map Prod.fst := by
    refine List.ext_getElem? fun i => ?_
    rw [List.getElem?_map, List.getElem?_map]
    rcases Nat.lt_or_ge i L.length with lt | ge
    · obtain ⟨⟨v, e⟩, _⟩ := hL i L[i] (List.getElem?_eq_getElem lt)
      rw [List.getElem?_eq_getElem lt, e]
      rfl
    · rw [List.getElem?_eq_none ge, List.getElem?_eq_none (by omega)]
      rfl
  have tups : ∀ q ∈ L, H q.1 = some (.tup (q.2.map kV)) := fun q m => by
    obtain ⟨i, e⟩ := List.mem_iff_getElem?.mp m
    exact (hL i q e).2.2
  have en2 : (L.map fun q => tD q.2) = kvs.map fun p => tD p.1 := by
    have z := congrArg (List.map tD) keys
    rw [List.map_map, List.map_map] at z
    exact z
  refine Calls.call_function_entry kind_sorted plain_sorted entry_sorted (args_sorted1 _) ?_
  unfold Builtin.«sorted»
  refine wpAny_bind (m := checkCount "sorted" 1 1 _) (wpAny_pure ?_)
  refine wpAny_bind (kdu_collect (A := X.A.in1) (src_raw lo hex hdt) (I.ok.hd hc) hod (by rw [hsz, sizeLine_eq]; omega) fun h' tk acc hk hacc => ?_)
  have I1 : Inv X pins σ H { s with heap := h', toks := tk } := I.kept hk
  have ev : acc.toList = L.map fun q => Value.ref q.1 := by
    refine List.ext_getElem? fun i => ?_
    rw [List.getElem?_map]
    have al : acc.size = L.length := by rw [hacc.1, hsz, ll]
    rcases Nat.lt_or_ge i L.length with lt | ge
    · obtain ⟨v, hv⟩ : ∃ v, acc[i]? = some v := ⟨acc[i]'(by omega), by simp [al, lt]⟩
      obtain ⟨en, h1, rfl⟩ := hacc.2 i v hv
      obtain ⟨_, ⟨en', h2, h3⟩, _⟩ := hL i L[i] (List.getElem?_eq_getElem lt)
      rw [h1] at h2
      cases h2
      rw [Array.getElem?_toList, hv, h3, List.getElem?_eq_getElem lt]
      rfl
    · rw [List.getElem?_eq_none ge, List.getElem?_eq_none (by rw [Array.length_toList]; omega)]
      rfl
  rw [ev]
  refine wpAny_bind (wpAny_newList ?_ (by rw [List.length_map, sizeLine_eq]; omega))
  have oL : (h'.push (seqObj "list" (L.map fun q => Value.ref q.1).toArray 0)).get? h'.objs.size = some (seqObj "list" (L.map fun q => Value.ref q.1).toArray 0) := Heap.get?_push_size _ rfl
  have each : ∀ (R : Value → Addr × List Key → Prop) (M : List (Addr × List Key)), (∀ q ∈ M, R (.ref q.1) q) → EachIs R (M.map fun q => Value.ref q.1) M := by
    intro R M
    induction M with
    | nil => exact fun _ => .nil
    | cons x M ih => exact fun g => .cons (g x List.mem_cons_self) (ih fun y m => g y (List.mem_cons_of_mem _ m))
  refine wpAny_bind (wpAny_holding (list_sort_data (s := { s with heap := h'.push (seqObj "list" (L.map fun q => Value.ref q.1).toArray 0), toks := tk }) (R := fun v q => v = Value.ref q.1) (enc := fun q : Addr × List Key => tD q.2) (bs := L) oL (each _ L fun q _ => rfl)
    (each _ L fun q m => ⟨[], PyProof.Rows.Reads.keeps (fun b u e => Heap.get?_push_of_some _ e) (key_raw I1 (SqT.of (tups q m))).2, fun z => nomatch z⟩)
    (by rw [en2]; exact al) ?_ (by rw [sizeLine_eq]; omega) (fun b _ => by have z := tD_depth b.2; have y : X.A.in1.units ≤ X.A.units + 32 := (by simp only [Around.in1]; omega); omega) fun out lo2 eo => ?_))
  · rw [← en2] at so
    rcases so with g | g
    · exact .inl fun d m => g d m
    · exact .inr fun d m => g d m
  · have eout : ∀ {o : List Value} {M : List (Addr × List Key)}, EachIs (fun v q => v = Value.ref q.1) o M → o = M.map fun q => Value.ref q.1 := by
      intro o M z
      induction z with
      | nil => rfl
      | cons e _ ih => rw [e, ih]; rfl
    have eo' := eout eo
    subst eo'
    obtain ⟨c, hc2⟩ := sortedHeap_at (vs := L.map fun q => Value.ref q.1) (out := (List.toArray ((L.mergeSort (dataLe false fun q => tD q.2)).map fun q => Value.ref q.1))) oL
    have kp2 : ∀ b u, h'.get? b = some u → (sortedHeap (h'.push (seqObj "list" (L.map fun q => Value.ref q.1).toArray 0)) h'.objs.size (L.map fun q => Value.ref q.1) (List.toArray ((L.mergeSort (dataLe false fun q => tD q.2)).map fun q => Value.ref q.1))).get? b = some u := fun b u z => by
      have lt := Heap.lt_size z
      rw [sortedHeap_old (Nat.ne_of_lt lt) (by rw [size_push']; exact Nat.lt_succ_of_lt lt)]
      exact Heap.get?_push_of_some _ z
    have lz : ((L.mergeSort (dataLe false fun q => tD q.2)).map fun q => V.ref q.1).length ≤ sizeLine := by
      rw [List.length_map, List.length_mergeSort, sizeLine_eq]
      omega
    refine wpAny_pure ⟨_, rfl, ?_⟩
    exact ⟨.ref h'.objs.size, upd H h'.objs.size (.lst ((L.mergeSort (dataLe false fun q => tD q.2)).map fun q => V.ref q.1)), I1.laid (t' := tk) kp2 (Nat.le_refl _) ⟨lz, _, c, refs_vals Prod.fst _, hc2⟩, rfl, q L _ keys tups (I1.hok.fresh (Nat.le_refl _))⟩
end
end Kd

-- ===== KS13 =====
set_option Elab.async false
set_option linter.all false
set_option maxRecDepth 100000
set_option maxHeartbeats 4000000
namespace Kd
open PySem L2 PyProof.Rows PySem.Spec ClX
/-! ### C.m(k = v), m a classmethod -/
def tCMethK (C : Addr) (sp : Sp) (gV : List V → List V → List V) (E : XK) (ta : TE) (tk : TA) : TE := fun σ H Q => ta σ H fun x H1 => x = .ref C ∧ tk σ H1 fun zs H2 => sp (gV [.ref C] zs) H2 Q E
section
variable {X : Cx} {CX : CXT} {k : Nat} {C p g : Addr} {mc : Value} {fd : FuncData} {ps ks : List Str} {sp : Sp} {E : XK} {o : Expr} {kws : List Keyword} {m : Str} {pos apos : Pos} {ta : TE} {tk : TA} {pl : Sem Bool} {gg : List Value → List Value → List Value} {gV : List V → List V → List V}
theorem pe_cmethK (he : PE X o ta) (r : CRead X.K C mc) (c : CMet X.K C mc m p g) (F : FnOk X.prog X.w X.K X.mg X.base CX k g fd ps sp) (hr : Room k X.A) (hb : KBinds X.K fd ps ks gg gV) (hx : Passes CX X E) (hkw : PK X kws tk)
    (hall : (backToKw pos (keywordEach kws X.env)).all (·.1.isSome) = true := by rfl) (hks : (backToKw pos (keywordEach kws X.env)).filterMap (·.1) = ks := by rfl)
    (hpl : ((backTo pos (starEach [] X.env)).any (·.1) || (backToKw pos (keywordEach kws X.env)).any (·.1.isNone)) = false := by rfl)
    (ht : eval (.Call (.Attribute o m apos) [] kws pos) X.env = (do
      let ov ← eval o X.env
      standAt apos.atName
      let (f, first) ← holding [ov] (getMethod ov m pl)
      callWith pos f first (backTo pos (starEach [] X.env)) (backToKw pos (keywordEach kws X.env))) := by rfl) :
    PE X (.Call (.Attribute o m apos) [] kws pos) (tCMethK C sp gV E ta tk) := by
  refine ⟨fun pins s σ H Q I h => ?_⟩
  refine PySem.W.methodCall_KW (pl := pl) (thn (he.run pins s σ H _ I h) fun u s1 ⟨x, H1, I1, rx, ex, q⟩ => ?_) ht
  subst ex
  obtain rfl : u = Value.ref C := rx
  refine getmethcm_ok I1 r c fun s2 I2 => ?_
  refine PySem.W.callWith_of hpl (PySem.W.keeps_M c.fi) (evalArgs_kw2_nil hall (thn (hkw.run pos _ s2 σ H1 _ I2 q) fun ws s3 ⟨zs, H2, I3, rz, q2⟩ => ⟨⟨pin_at I3, I3.kIn⟩, ?_⟩))
  rw [hks]
  have r2 := hb.rel (.cons (show RelV (.ref C) (.ref C) from rfl) .nil : Vals [.ref C] [.ref C]) rz
  have hl : (gg [.ref C] ws).length = ps.length := by rw [← r2.length]; exact F.len _ _ _ _ q2
  have z : wpAny (model X.prog X.w) X.A (call (.ref s1.heap.objs.size) [] (ks.zip ws)) (EP X ((s1.heap.objs.size, PySem.W.methodObj (.ref g) (.ref C)) :: pins) σ Q) X.xe s3 := by
    refine wpAny_call (PySem.W.method_call (pin_at I3) (codeAny_mono (F.run X.A X.stack s3 H2 ⟨[.ref C], ks.zip ws⟩ (gg [.ref C] ws) (gV [.ref C] zs) Q E hr I3.env0 (hb.to s3 [.ref C] ws I3.kIn hl) r2 q2) fun r s' hq => ?_))
    cases r with
    | error e => exact (hx _ σ H2 s3 e s' I3 hq)
    | ok fl =>
      cases fl with
      | ret u => exact I3.after hq
      | next => exact False.elim hq
      | brk => exact False.elim hq
      | cont => exact False.elim hq
  exact thn z fun _ _ y => unpinE y
end
end Kd

-- ===== K5K =====
set_option Elab.async false
set_option linter.all false
set_option maxRecDepth 100000
set_option maxHeartbeats 4000000
namespace My
open PySem L2 PyProof.Rows PySem.Spec Kd TL StX ClX
/-! ### kinds' data compared -/
theorem lay_steps {n : Nat} : ∀ st : List Stp, (∀ x ∈ st, StpOk n x) → PyData.canLayAll0 (st.map stepD) = true
  | [], _ => by simp only [List.map_nil, PyData.canLayAll0]
  | x :: st, h => by
    have h0 := h x List.mem_cons_self
    have h1 := wrd_ok h0.w1
    have h2 := wrd_ok h0.w2
    simp only [List.map_cons, stepD, PyData.canLayAll0, PyData.canLay0, h1, h2, lay_steps st fun y m => h y (List.mem_cons_of_mem _ m), Bool.and_self]
theorem lay_states {n : Nat} : ∀ ss : List (List Stp), (∀ st ∈ ss, StOk n st) → PyData.canLayAll0 (ss.map stateD) = true
  | [], _ => by simp only [List.map_nil, PyData.canLayAll0]
  | st :: ss, h => by
    have h0 := lay_steps st (h st List.mem_cons_self).all
    simp only [List.map_cons, stateD, PyData.canLayAll0, PyData.canLay0, h0, lay_states ss fun y m => h y (List.mem_cons_of_mem _ m), Bool.and_self]
theorem deep_steps : ∀ st : List Stp, PyData.depthAll (st.map stepD) ≤ 2
  | [] => by simp only [List.map_nil, PyData.depthAll]; omega
  | x :: st => by
    have h := deep_steps st
    simp only [List.map_cons, stepD, PyData.depthAll, PyData.depth]
    omega
theorem deep_states : ∀ ss : List (List Stp), PyData.depthAll (ss.map stateD) ≤ 3
  | [] => by simp only [List.map_nil, PyData.depthAll]; omega
  | st :: ss => by
    have h1 := deep_steps st
    have h := deep_states ss
    simp only [List.map_cons, stateD, PyData.depthAll, PyData.depth]
    omega
theorem lay_kind {ss : List (List Stp)} (h : KOk ss) : PyData.canLay0 (statesD ss) = true := by
  unfold statesD
  simp only [PyData.canLay0]
  exact lay_states ss h.all
theorem deep_kind (ss : List (List Stp)) : PyData.depth (statesD ss) ≤ 4 := by
  have h := deep_states ss
  unfold statesD
  simp only [PyData.depth]
  omega
theorem shaped_kind {ss : List (List Stp)} (h : KOk ss) : SeqAt.shaped (statesD ss) = true := by
  unfold SeqAt.shaped
  rw [Bool.and_eq_true]
  have z := deep_kind ss
  exact ⟨lay_kind h, decide_eq_true (by omega)⟩
theorem eqv_map {α : Type} [DecidableEq α] (f : α → PyData) (h : ∀ x y, PyData.eqv (f x) (f y) = decide (x = y)) : ∀ l m : List α, PyData.eqvAll (l.map f) (m.map f) = decide (l = m)
  | [], [] => by simp [PyData.eqvAll]
  | [], _ :: _ => by simp [PyData.eqvAll]
  | _ :: _, [] => by simp [PyData.eqvAll]
  | x :: l, y :: m => by
    simp only [List.map_cons, PyData.eqvAll, h, eqv_map f h l m, List.cons.injEq]
    exact (Bool.decide_and _ _).symm
theorem eqv_step (x y : Stp) : PyData.eqv (stepD x) (stepD y) = decide (x = y) := by
  obtain ⟨a, b, i⟩ := x
  obtain ⟨c, d, j⟩ := y
  unfold stepD
  simp only [PyData.eqvAll, PyData.eqv, eqv_str, Prod.mk.injEq, Bool.and_true, Bool.decide_and]
  first | rfl | simp
theorem eqv_state (x y : List Stp) : PyData.eqv (stateD x) (stateD y) = decide (x = y) := by
  unfold stateD
  rw [← eqv_map stepD eqv_step]
  simp only [PyData.eqv]
theorem eqv_kind (x y : List (List Stp)) : PyData.eqv (statesD x) (statesD y) = decide (x = y) := by
  unfold statesD
  rw [← eqv_map stateD eqv_state]
  simp only [PyData.eqv]
/-- what the module's class has -/
structure KCls (K : PySem.W.Frag) (C : Addr) : Prop where
  cl : Cls K C
  n1 : NoAttr K C "states"
  n2 : NoAttr K C "moves"
  ha : PySem.W.findIn K (.ref C) "__class__" = some (some (.builtin "object.__class__"))
  hn : PySem.W.specialIn K (.builtin "object.__class__") "__get__" = some (some (.builtin "getset_descriptor.__get__"))
  htk : PySem.W.takesIn K (.builtin "object.__class__") = some true
  hm : PySem.W.mroIn K C (.type "object") = some true
  one : PySem.W.kitOne K (.ref C) (.ref C) = some true
/-! ### numbers as texts -/
def numT (i : Int) : Str := (toString i : String)
theorem num_tl (n : Nat) : tl (numT n) = numL n := tl_num n
theorem num_len {i : Int} (h0 : 0 ≤ i) (h1 : i < 100) : (numT i).length ≤ 2 := by
  obtain ⟨n, rfl⟩ := Int.eq_ofNat_of_zero_le h0
  rw [len_tl, num_tl]
  exact numL_len (by decide) (by omega)
theorem num_log {i : Int} (h0 : 0 ≤ i) (h1 : i < 100) : i.natAbs.log2 < 1920 := by
  rcases Nat.eq_zero_or_pos i.natAbs with e | e
  · rw [e]
    decide
  · have h : i.natAbs < 2 ^ 7 := by omega
    exact Nat.lt_trans ((Nat.log2_lt (by omega)).mpr h) (by decide)
end My

-- ===== K5Q =====
set_option Elab.async false
set_option linter.all false
set_option maxRecDepth 100000
set_option maxHeartbeats 4000000
namespace My
open PySem L2 PyProof.Rows PySem.Spec
/-! ### a def's promise under a condition on what is around -/
structure FnG (c : Bool) (G : Around → Prop) (P : Program) (w : World) (K : PySem.W.Frag) (mg : Str → Option Value) (base : Heap) (CX : CXT) (k : Nat) (f : Addr) (fd : FuncData) (ps : List Str) (sp : Sp) : Prop where
  len : ∀ vs H Q E, sp vs H Q E → vs.length = ps.length
  run : ∀ (A : Around) (outer : List Env) (s : Shared) (H : Hp) (args : Args) (us : List Value) (vs : List V) (Q : VK) (E : XK), (c = true → A.handled = none) → G A → L2H.RoomH k A →
    Env0 P w K mg base A outer s H → BindsTo s fd args (ps.zip us) → Vals vs us → sp vs H Q E → codeAny (model P w) A (.call (.ref f) args) (CR CX outer P w H s Q E) s
def cxG (c : Bool) (CX : CXT) (P : Program) (w : World) (K : PySem.W.Frag) (mg : Str → Option Value) (base : Heap) (N : List Str) (qual : Str) (scope : Scope) (f : Addr) (cd : Value) (A : Around) (outer : List Env) (s : Shared) (H : Hp) (E : XK) : Cx :=
  { cxOf CX P w K mg base N qual scope f cd A outer s H E with calm := c }
section
variable {c : Bool} {G : Around → Prop} {CX : CXT} {P : Program} {w : World} {K : PySem.W.Frag} {mg : Str → Option Value} {base : Heap} {N ps : List Str} {qual : Str} {scope : Scope} {f : Addr} {cd : Value} {A : Around} {outer : List Env} {s s1 : Shared} {H : Hp} {E : XK}
theorem inv_startG {us : List Value} {vs : List V} (S : FnScope N ps scope) (hd : c = true → A.handled = none) (e0 : Env0 P w K mg base A outer s H) (hl : vs.length = ps.length) (r : Vals vs us)
    (x : InCallC s s.heap.objs.size (bindL (envOfC qual scope s.heap.objs.size f cd).kindOf (ps.zip us) fun _ => none) (cellsFrom (s.heap.objs.size + 1) scope.names []) (bindC (envOfC qual scope s.heap.objs.size f cd).kindOf (ps.zip us) fun _ => none) s1) :
    Inv (cxG c CX P w K mg base N qual scope f cd A outer s H E) [] (start N vs) H s1 := by
  have J : Inv (cxOf CX P w K mg base N qual scope f cd { A with handled := none } outer s H E) [] (start N vs) H s1 := inv_start S rfl ⟨e0.frames, e0.mod, e0.bs, e0.bsz, e0.funs, e0.frf, e0.hok, e0.bare⟩ hl r x
  have o := J.ok
  exact ⟨⟨o.mod, o.kind, o.glob, o.blt, o.above, o.inj, o.has, o.cab, hd, Around.frames_deeper e0.frames, o.stk, o.exf, o.bs, o.bsz, o.noex, o.exfs, o.funs, o.frf⟩, J.os, J.bare, J.base, J.loc, J.cell, J.free, J.freeC, J.pin, J.hok, J.len⟩
theorem fn_ofG {k : Nat} {name : Str} {params : Arguments} {body : List Stmt} {dV kV doc pm cdv ct oc : Value} {an od : Option Addr} {osl : Array (Option Value)} {sp : Sp}
    (lk : K.lookup f = some ⟨oc, od, .func (PySem.W.fnOf name qual params body scope dV kV doc pm an cdv ct), osl⟩) (hcd : PySem.W.codeIn K cdv qual = true) (S : FnScope N ps scope) (len : ∀ vs H Q E, sp vs H Q E → vs.length = ps.length)
    (hbody : ∀ (A : Around) (outer : List Env) (s : Shared) (H : Hp) (vs : List V) (Q : VK) (E : XK), (c = true → A.handled = none) → G A → L2H.RoomH k (A.deeper (envOfC qual scope s.heap.objs.size f cdv)) → sp vs H Q E →
      ∃ t, PSs (cxG c CX P w K mg base N qual scope f cdv A outer s H E) body t ∧ t { nx := fun _ H' => Q .non H', rt := Q } (start N vs) H) :
    FnG c G P w K mg base CX (k + 1) f (PySem.W.fnOf name qual params body scope dV kV doc pm an cdv ct) ps sp := by
  refine ⟨len, fun A outer s H args us vs Q E hh hG hr e0 hb r hsp => ?_⟩
  have hl := len _ _ _ _ hsp
  have KX : K.In s.heap := e0.mod.kin.keeps fun b o e => (e0.bs b o e).1
  have lim : s.heap.NoLimit := e0.mod.nolimit.keeps fun b o e => (e0.bs b o e).1
  refine codeAny_call_function hr.depth (KX _ _ lk) rfl S.co S.gen rfl (PySem.W.codeRec_of KX hcd) (hb _ _ _ _ ?_)
  refine wpAny_newFunctionEnv_cells S.kind (fun ⟨n, v⟩ hy => ?_) fun env he s1 x => ?_
  · rcases S.par n (List.of_mem_zip hy).1 with q | q
    · exact .inl q
    · exact .inr ⟨q, PySem.W.cellsFrom_some _ _ _ (.inl q)⟩
  subst he
  refine ⟨lim.keeps x.toInCall.keep, codeAny_func ?_⟩
  obtain ⟨t, ht, hq⟩ := hbody A outer s H vs Q E hh hG (hr.deeper _) hsp
  refine wpAny_mono (ht.run [] s1 (start N vs) H _ (inv_startG S hh e0 hl r x) hq) (fun fl s' hs => ?_) fun e s' hs => hs
  cases fl with
  | ret u =>
    obtain ⟨v, σ', H', J, rv, q⟩ := hs
    exact ⟨v, H', J.os, J.bare, J.base, J.hok, rv, q⟩
  | next =>
    obtain ⟨σ', H', J, q⟩ := hs
    exact ⟨V.non, H', J.os, J.bare, J.base, J.hok, rfl, q⟩
  | brk =>
    obtain ⟨_, _, _, q⟩ := hs
    exact False.elim q
  | cont =>
    obtain ⟨_, _, _, q⟩ := hs
    exact False.elim q
/-- by its body, nothing is raised -/
theorem okG {x : Str} {st : Stmt} {fd : FuncData} {k : Nat} {sp : Sp} (F : Fun K x qual st f fd) (S : FnScope N ps (defScope st)) (len : ∀ vs H Q E, sp vs H Q E → vs.length = ps.length)
    (hbody : ∀ (cdv : Value) (A : Around) (outer : List Env) (s : Shared) (H : Hp) (vs : List V) (Q : VK) (E : XK), (c = true → A.handled = none) → G A → L2H.RoomH k (A.deeper (envOfC qual (defScope st) s.heap.objs.size f cdv)) → sp vs H Q E →
      ∃ t, PSs (cxG c CX P w K mg base N qual (defScope st) f cdv A outer s H E) (defBody st) t ∧ t { nx := fun _ H' => Q .non H', rt := Q } (start N vs) H) : FnG c G P w K mg base CX (k + 1) f fd ps sp := by
  obtain ⟨oc, od, kV, doc, pm, an, cdv, ct, osl, rfl, lk, hcd⟩ := F.ex
  exact fn_ofG lk hcd S len fun A outer s H vs Q E hh hG hr hsp => hbody cdv A outer s H vs Q E hh hG hr hsp
end
section
variable {c : Bool} {G : Around → Prop} {X : Cx} {CX : CXT} {k : Nat} {f : Addr} {fd : FuncData} {ps : List Str} {sp : Sp} {x : Str} {p pos : Pos} {e : Expr} {es : List Expr} {t : TA} {E : XK}
theorem pe_callG (F : FnG c G X.prog X.w X.K X.mg X.base CX k f fd ps sp) (hh : c = true → X.A.handled = none) (hG : G X.A) (hr : L2H.RoomH k X.A) (hg : Gl X x) (hm : X.mg x = some (.ref f)) (hk : PySem.W.keepIn X.K (.ref f) = true) (hb : Binds X.K fd ps []) (hx : Passes CX X E)
    (ha : PA X (e :: es) t) (hdb : (x == ("__debug__" : Str)) = false := by decide) (he : starEach (e :: es) X.env = (false, eval e X.env) :: starEach es X.env := by rfl) (hpl : (backTo pos (starEach es X.env)).any (·.1) = false := by rfl) :
    PE X (.Call (.Name x p) (e :: es) [] pos) (tCall sp [] E t) := by
  refine ⟨fun pins s σ H Q I h => ?_⟩
  refine wpAny_Call_Name_kw (ld_glob I hg hm ?_ hdb)
  refine PySem.W.callWith_K (h₀ := X.base) I.ok.mod.kin hk (thn (ha.run pos pins s σ H _ I h) fun us s1 ⟨vs, H1, I1, r, q⟩ => ⟨I1.kIn, ?_⟩) he hpl
  have r2 : Vals (vs ++ []) (us ++ []) := by rw [List.append_nil, List.append_nil]; exact r
  have hl : (us ++ []).length = ps.length := by rw [← r2.length]; exact F.len _ _ _ _ q
  refine wpAny_call (codeAny_mono (F.run X.A X.stack s1 H1 ⟨us, []⟩ (us ++ []) (vs ++ []) Q E hh hG hr I1.env0 (hb s1 us I1.kIn hl) r2 q) fun r s' hq => ?_)
  cases r with
  | error e => exact hx pins σ H1 s1 e s' I1 hq
  | ok fl =>
    cases fl with
    | ret u => exact I1.after hq
    | next => exact False.elim hq
    | brk => exact False.elim hq
    | cont => exact False.elim hq
end
theorem law_callG {P : Program} {w : World} {K : PySem.W.Frag} {mg mb : Str → Option Value} {CX : CXT} {k : Nat} {fa a : Addr} {fd : FuncData} {x : Str} {sp : Sp} {s₁ : Shared} {vs : List Value} {ns : List Int}
    (KX : K.In s₁.heap) (hns : s₁.heap.Ns mainGlobals mg) (hb : s₁.heap.Ns builtinsNs mb) (hbb : ∀ x : Str, x ≠ "__name__" → mb x = bootBuiltins x) (hlim : s₁.heap.NoLimit) (hg : s₁.gens = #[])
    (ha : s₁.heap.get? a = some { cls := .type "list", data := .seq vs.toArray }) (hi : IntsAre vs ns) (hl : ns.length ≤ sizeLine) (hr : Room k callerA)
    (F : ∀ base : Heap, K.In base → base.Ns mainGlobals mg → FnG true (fun A => A.guards = some []) P w K mg base CX k fa fd [x] sp) (hbind : ∀ (s : Shared) (u : Value), BindsTo s fd ⟨[u], []⟩ [(x, u)])
    (hsp : ∀ H : Hp, Only H → SqL K H a (ns.map V.int) → sp [.ref a] H (fun v _ => v = .bl true) fun _ _ _ => False)
    (hCX : ∀ H e s', CX [] H s₁ (fun _ _ _ => False) e s' → False) :
    codeAny (model P w) callerA (.call (.ref fa) ⟨[.ref a], []⟩) (fun r s' => r = .ok (.ret (.bool true)) ∧ OldK s₁.heap s'.heap ∧ s'.os = s₁.os ∧ AllBare s'.gens) s₁ := by
  have rv := vals_ints hi
  have lenV := hi.length
  -- from an abstract heap in which nothing but the script may be tracked
  have core : ∀ H : Hp, Only H → SqL K H a (ns.map V.int) → HOk P w H s₁.heap → (∀ b, H b ≠ none → b = a) → (H a ≠ none → K.lookup a = none) →
      codeAny (model P w) callerA (.call (.ref fa) ⟨[.ref a], []⟩) (fun r s' => r = .ok (.ret (.bool true)) ∧ OldK s₁.heap s'.heap ∧ s'.os = s₁.os ∧ AllBare s'.gens) s₁ := by
    intro H hO hS hok hA hK
    have base_of : ∀ {b : Addr} {o : Obj}, s₁.heap.get? b = some o → H b = none → (hidT s₁.heap H).get? b = some o := fun e n => hidT_get e n
    have noA : ∀ {b : Addr} {o : Obj} {es : Array DictEntry} {ep : Nat}, s₁.heap.get? b = some o → o.data = .dict es ep → H b = none := fun {b o es ep} e d => by
      cases q : H b with
      | none => rfl
      | some u =>
        have e' : b = a := hA b (by rw [q]; simp)
        subst e'
        rw [ha] at e; cases e
        have d' : Data.seq vs.toArray _ = Data.dict es ep := d
        cases d'
    have nsK : ∀ {b : Addr} {m : Str → Option Value}, s₁.heap.Ns b m → (hidT s₁.heap H).Ns b m := fun {b m} ⟨o, es, ep, e, d, r⟩ => ⟨o, es, ep, base_of e (noA e d), d, r⟩
    have hKb : K.In (hidT s₁.heap H) := fun b o e => base_of (KX b o e) (by
      cases q : H b with
      | none => rfl
      | some u =>
        have e' : b = a := hA b (by rw [q]; simp)
        subst e'
        rw [hK (by rw [q]; simp)] at e; cases e)
    have hM : Mod K mg (hidT s₁.heap H) := ⟨hKb, nsK hns, ⟨mb, nsK hb, hbb⟩, let ⟨mc, h1, h2⟩ := hlim; ⟨mc, nsK h1, h2⟩⟩
    have e0 : Env0 P w K mg (hidT s₁.heap H) callerA [] s₁ H := ⟨rfl, hM, fun b o e => of_hidT e, Nat.le_of_eq (hidT_size _ _), trivial, fun b hb => absurd (show b ∈ ([] : List Addr) from hb) (by simp), hok, .of_eq hg⟩
    refine codeAny_mono ((F _ hKb (nsK hns)).run callerA [] s₁ H ⟨[.ref a], []⟩ [.ref a] [.ref a] _ _ (fun _ => rfl) rfl (L2H.roomH_of hr) e0 (hbind s₁ (.ref a)) (.cons rfl .nil) (hsp H hO hS)) fun r s' h => ?_
    cases r with
    | error e => exact (hCX H e s' h).elim
    | ok fl =>
      cases fl with
      | next => exact False.elim h
      | brk => exact False.elim h
      | cont => exact False.elim h
      | ret u =>
        obtain ⟨v, H', os, bare, un, hok', r', q⟩ := h
        have q' : v = .bl true := q
        subst q'
        obtain rfl : u = Value.bool true := r'
        refine ⟨rfl, OldK.of_keep fun b o e => ?_, os, bare⟩
        cases q : H b with
        | none => exact un.keep b o e q (by intro z; exact absurd (show b ∈ ([] : List Addr) from z) (by simp)) (by simp)
        | some u =>
          rcases hO b with z | ⟨ob, xs, z⟩
          · rw [q] at z; cases z
          · have z2 := un.frzs b ob _ z
            obtain ⟨e1, _⟩ := hok b _ z
            obtain ⟨e2, _⟩ := hok' b _ z2
            rw [e] at e1; cases e1
            exact e2
  cases hk : K.lookup a with
  | some o =>
    -- the script is one of the module's own objects
    have e := KX a o hk
    rw [ha] at e
    cases e
    refine core (fun _ => none) (fun _ => .inl rfl) (.inr ⟨_, vs.toArray, _, hk, rfl, rfl, rfl, by rw [List.size_toArray, lenV]; exact hl, by simpa using rv⟩) (fun b u z => by have z' : (none : Option HO) = some u := z; cases z') (fun b z => absurd rfl z) fun z => absurd rfl z
  | none =>
    refine core (fun b => if b = a then some (.frz { cls := .type "list", data := .seq vs.toArray } (.lst (ns.map V.int))) else none) (fun b => ?_) (.inl (.inr ⟨{ cls := .type "list", data := .seq vs.toArray }, if_pos rfl⟩)) (fun b u z => ?_) (fun b z => ?_) fun _ => hk
    · by_cases hb : b = a
      · exact .inr ⟨_, _, if_pos hb⟩
      · exact .inl (if_neg hb)
    · by_cases hb : b = a
      · have z' := (if_pos hb).symm.trans z
        cases z'
        subst hb
        exact ⟨ha, by rw [List.length_map]; exact hl, vs, _, rv, ha⟩
      · have z' := (if_neg hb).symm.trans z
        cases z'
    · by_cases hb : b = a
      · exact hb
      · exact absurd (if_neg hb) z

theorem walk_ofG {l : PySem.W.OpenLaw} {n k : Nat} {q : Program} {loose : List Str} {XP : (Str → Option Value) → Heap → Prop} {YP : World → Heap → Prop} {d : DefRec} {K : Params → PySem.W.Frag} {sp : PySem.W.Frag → Sp} {x : Str}
    (hn : l.most = some n) (hn2 : n ≤ sizeLine) (hdf : d.params.defaults = []) (hr : Room k callerA) (hY : ∀ (w : World) (h : Heap), YP w h → (K w.params).In h)
    (F : ∀ (w : World) (mg : Str → Option Value) (fa : Addr) (h : Heap), (K w.params).In h → h.Ns mainGlobals mg → mg d.name = some (.ref fa) →
      ∃ fd : FuncData, (∀ (s : Shared) (u : Value), BindsTo s fd ⟨[u], []⟩ [(x, u)]) ∧ ∀ base : Heap, (K w.params).In base → base.Ns mainGlobals mg → FnG true (fun A => A.guards = some []) l.prog w (K w.params) mg base CX0 k fa fd [x] (sp (K w.params)))
    (hsp : ∀ (K : PySem.W.Frag) (H : Hp) (a : Addr) (ns : List Int), ns.length ≤ n → (∀ z ∈ ns, Builtin.Int.intBits z ≤ 1048576) → Only H → SqL K H a (ns.map V.int) → sp K [.ref a] H (fun v _ => v = .bl true) fun _ _ _ => False) :
    PySem.W.WalkO q loose XP YP l.row.toRowW d [] (fun f vs => PySem.call f vs) := by
  refine Att.attach_callB hn hdf fun w s₀ s₁ mg mb fa o pm cd doc a vs ns G Y ho hd hcd hmg hobj hints hlen hbits hg => ?_
  have KX := hY w _ Y
  obtain ⟨fd, hb, hF⟩ := F w mg fa _ KX G.T.g hmg
  exact law_callG KX G.T.g G.T.b G.T.builtins G.T.nolimit hg hobj hints (Nat.le_trans hlen hn2) hr hF hb (fun H hO hS => hsp _ H a ns hlen hbits hO hS) fun _ _ _ z => z
/-! ### displays, told that the new object is none of the model's own -/
def tLstL (t : TA) : TE := fun σ H Q => t σ H fun xs H1 => xs.length ≤ sizeLine ∧ ∀ q, H1 q = none → sysModules < q → Q (.ref q) (upd H1 q (.lst xs))
theorem pe_lstL {X : Cx} {es : List Expr} {t : TA} {pos : Pos} (h : PA X es t) : PE X (.List es pos) (tLstL t) := by
  refine ⟨fun pins s σ H Q I hq => ?_⟩
  refine wpAny_List_spliced (thn (h.run pos pins s σ H _ I hq) fun us s1 hh => ?_)
  obtain ⟨xs, H1, I1, r, z, q⟩ := hh
  have big := I1.big
  exact ⟨by rw [← r.length]; exact z, .ref s1.heap.objs.size, _, I1.laid (t' := s1.toks) (o := .lst xs) (fun b u e => Heap.get?_push_of_some _ e) (Nat.le_refl _) ⟨z, us, 0, r, Heap.get?_push_size _ rfl⟩, rfl, q _ (I1.hok.fresh (Nat.le_refl _)) big⟩

open Kd TL
theorem num_low {i : Int} (h : 0 ≤ i) {c : Nat} (m : c ∈ tl (numT i)) : c < 256 := by
  obtain ⟨n, rfl⟩ := Int.eq_ofNat_of_zero_le h
  rw [num_tl] at m
  have := numL_digits n c m
  omega
theorem wrd_low {z : Str} (h : Wrd z) {c : Nat} (m : c ∈ tl z) : c < 256 := by
  have low : ∀ c ∈ LETS.cps.toList, c < 256 := by decide +kernel
  exact low c (h.2.2 c m)
theorem repr_len {z : Str} {k : Nat} (hl : z.length ≤ k) (hc : ∀ c ∈ tl z, c < 256) : (reprText z).length ≤ 10 * k + 2 := by
  have := PySem.StrLaws.reprText_len z fun c m => Nat.lt_trans (hc c m) (by decide)
  omega
/-- data that is shown within k signs -/
structure Sh (k : Nat) (d : PyData) : Prop where
  sh : d.showable = true
  sz : d.shown.length ≤ k
theorem sh_all {k : Nat} : ∀ {ds : List PyData}, (∀ d ∈ ds, Sh k d) → PyData.showableAll ds = true ∧ ((PyData.shownAll ds).map (·.length)).sum ≤ ds.length * k ∧ (PyData.shownAll ds).length = ds.length
  | [], _ => ⟨by simp only [PyData.showableAll], by simp [PyData.shownAll], by simp [PyData.shownAll]⟩
  | d :: r, h => by
    have g := h d List.mem_cons_self
    obtain ⟨h1, h3, h4⟩ := sh_all (ds := r) fun x hx => h x (List.mem_cons_of_mem _ hx)
    have := g.sz
    refine ⟨by simp only [PyData.showableAll, g.sh, h1, Bool.and_true], ?_, by simp only [PyData.shownAll, List.length_cons, h4]⟩
    simp only [PyData.shownAll, List.map_cons, List.sum_cons, List.length_cons]
    rw [Nat.succ_mul]
    omega
theorem sh_tuple {k m : Nat} {ds : List PyData} (h : ∀ d ∈ ds, Sh k d) (hl : ds.length ≤ m) : Sh (m * k + 2 * m + 3) (.tuple ds) := by
  obtain ⟨h1, h3, h4⟩ := sh_all h
  refine ⟨by simp only [PyData.showable, h1], ?_⟩
  have h5 := tupleText_len_le (PyData.shownAll ds)
  simp only [PyData.shown]
  rw [h4] at h5
  have h6 : ds.length * k ≤ m * k := Nat.mul_le_mul_right _ hl
  omega
theorem sh_mono {k m : Nat} {d : PyData} (h : Sh k d) (l : k ≤ m) : Sh m d := ⟨h.sh, Nat.le_trans h.sz l⟩
theorem sh_step {n : Nat} {x : Stp} (h : StpOk n x) (hn : n ≤ 40) : Sh 375 (stepD x) := by
  refine sh_tuple (k := 122) (m := 3) (fun d hd => ?_) (Nat.le_refl _)
  rcases List.mem_cons.mp hd with rfl | hd
  · exact ⟨by simp only [PyData.showable], repr_len h.w1.2.1 fun c m => wrd_low h.w1 m⟩
  rcases List.mem_cons.mp hd with rfl | hd
  · exact ⟨by simp only [PyData.showable], repr_len h.w2.2.1 fun c m => wrd_low h.w2 m⟩
  · rw [List.mem_singleton.mp hd]
    have lo := h.lo
    have hi := h.hi
    have z := num_len lo (by omega)
    have z2 := num_log lo (by omega)
    refine ⟨by simp [PyData.showable, z2], ?_⟩
    simp only [PyData.shown]
    exact Nat.le_trans z (by decide)
theorem sh_state {n : Nat} {st : List Stp} (h : StOk n st) (hn : n ≤ 40) : Sh 9051 (stateD st) :=
  sh_tuple (k := 375) (m := 24) (fun d hd => by
    obtain ⟨x, m, rfl⟩ := List.mem_map.mp hd
    exact sh_step (h.all x m) hn) (by rw [List.length_map]; exact h.few)
theorem sh_kind {ss : List (List Stp)} (h : KOk ss) : Sh 362123 (statesD ss) :=
  sh_tuple (k := 9051) (m := 40) (fun d hd => by
    obtain ⟨x, m, rfl⟩ := List.mem_map.mp hd
    exact sh_state (h.all x m) h.most) (by rw [List.length_map]; exact h.most)
end My

-- ===== K5L =====
set_option Elab.async false
set_option linter.all false
set_option maxRecDepth 100000
set_option maxHeartbeats 4000000
namespace My
open PySem L2 PyProof.Rows PySem.Spec Kd TL
abbrev sPick : Stmt := top 28
abbrev sDrawn : Stmt := top 31
abbrev sLaw : Stmt := top 35
theorem FeedAt.same {H H' : Hp} {p c : Addr} {ks : List Int} {w n : Int} (s : Same H H') (F : FeedAt H p c ks w n) : FeedAt H' p c ks w n := ⟨s _ _ F.ob, s _ _ F.cs, F.bits, F.len, F.w0, F.w1, F.n0⟩
open PySem.W in
theorem sorted_asc (L : List (Addr × List Key)) (key : ∀ q ∈ L, ∃ e, q.2 = evK e) (nd : (L.map Prod.snd).Nodup) :
    ∃ es : List (Str × Str), (L.mergeSort (PySem.W.dataLe false fun q : Addr × List Key => tD q.2)).map Prod.snd = es.map evK ∧ es.Pairwise evLt ∧ ∀ e ∈ es, evK e ∈ L.map Prod.snd := by
  have tot := sortLe_total (listOrd itemOrd) false fun q : Addr × List Key => keyToks (tD q.2)
  have srt : (L.mergeSort (PySem.W.dataLe false fun q : Addr × List Key => tD q.2)).Pairwise fun q r => PySem.W.dataLe false (fun q : Addr × List Key => tD q.2) q r = true := List.pairwise_mergeSort tot.trans (fun a b => by rw [Bool.or_eq_true]; exact tot.total a b) L
  have pm : (L.mergeSort (PySem.W.dataLe false fun q : Addr × List Key => tD q.2)).Perm L := List.mergeSort_perm _ _
  generalize L.mergeSort (PySem.W.dataLe false fun q : Addr × List Key => tD q.2) = M at srt pm
  have keyM : ∀ q ∈ M, ∃ x, q.2 = evK x := fun q hq => key q (pm.mem_iff.mp hq)
  have ndM : (M.map Prod.snd).Nodup := (pm.map Prod.snd).nodup_iff.mpr nd
  have back : ∃ xs : List (Str × Str), M.map Prod.snd = xs.map evK := by
    clear srt pm ndM
    induction M with
    | nil => exact ⟨[], rfl⟩
    | cons q M ih =>
      obtain ⟨x, e⟩ := keyM q List.mem_cons_self
      obtain ⟨xs, e2⟩ := ih fun r hr => keyM r (List.mem_cons_of_mem _ hr)
      exact ⟨x :: xs, by rw [List.map_cons, List.map_cons, e, e2]⟩
  obtain ⟨xs, ex⟩ := back
  have sx : xs.Pairwise fun x y => ¬ evLt y x := by
    have z : (M.map Prod.snd).Pairwise fun k l => ∀ x y, k = evK x → l = evK y → ¬ evLt y x := List.pairwise_map.mpr (List.Pairwise.imp (fun {q r} h x y e1 e2 => (le_evK e1 e2).mp h) srt)
    rw [ex] at z
    exact List.Pairwise.imp (fun {x y} h => h x y rfl rfl) (List.pairwise_map.mp z)
  rw [ex] at ndM
  have nx : xs.Pairwise fun x y => x ≠ y := List.Pairwise.imp (fun {x y} h e => h (by rw [e])) (List.pairwise_map.mp ndM)
  refine ⟨xs, ex, List.Pairwise.imp₂ (fun x y h1 h2 => Classical.byContradiction fun z => h2 (evLt_tri x y z h1)) sx nx, fun e he => ?_⟩
  rw [← (pm.map Prod.snd).mem_iff, ex]
  exact List.mem_map.mpr ⟨e, he, rfl⟩
theorem putK_keys {kvs : List (List Key × V)} {k : List Key} {v : V} : (k ∈ kvs.map Prod.fst → (putK kvs k v).map Prod.fst = kvs.map Prod.fst) ∧ (k ∉ kvs.map Prod.fst → (putK kvs k v).map Prod.fst = kvs.map Prod.fst ++ [k]) := by
  refine ⟨fun h => ?_, fun h => ?_⟩
  · unfold putK
    rw [if_pos]
    · rw [List.map_map]
      refine List.map_congr_left fun p _ => ?_
      show (if p.1 = k then (p.1, v) else p).1 = p.1
      split <;> rfl
    · obtain ⟨p, m, e⟩ := List.mem_map.mp h
      exact List.any_eq_true.mpr ⟨p, m, decide_eq_true e⟩
  · rw [putK_new fun p m e => h (List.mem_map.mpr ⟨p, m, e⟩), List.map_append]
    rfl
/-- what the menu holds -/
structure Menu (kvs : List (List Key × V)) : Prop where
  nd : (kvs.map Prod.fst).Nodup
  ev : ∀ p ∈ kvs, ∃ e : Str × Str, p.1 = evK e ∧ Wrd e.1 ∧ Wrd e.2
theorem Menu.put {kvs : List (List Key × V)} {e : Str × Str} {v : V} (m : Menu kvs) (h1 : Wrd e.1) (h2 : Wrd e.2) : Menu (putK kvs (evK e) v) ∧ (putK kvs (evK e) v).length ≤ kvs.length + 1 := by
  have keys := putK_keys (kvs := kvs) (k := evK e) (v := v)
  have len : ∀ l : List (List Key × V), l.length = (l.map Prod.fst).length := fun l => List.length_map .. |>.symm
  by_cases h : evK e ∈ kvs.map Prod.fst
  · have k1 := keys.1 h
    refine ⟨⟨by rw [k1]; exact m.nd, fun p hp => ?_⟩, by rw [len, k1, ← len]; omega⟩
    have z : p.1 ∈ kvs.map Prod.fst := by rw [← k1]; exact List.mem_map.mpr ⟨p, hp, rfl⟩
    obtain ⟨q, mq, eq⟩ := List.mem_map.mp z
    rw [← eq]
    exact m.ev q mq
  · have k1 := keys.2 h
    refine ⟨⟨by rw [k1]; exact List.nodup_append.mpr ⟨m.nd, by simp, fun a ha b hb => by rw [List.mem_singleton.mp hb]; exact fun z => h (by rw [← z]; exact ha)⟩, fun p hp => ?_⟩, by rw [len, k1, List.length_append, ← len]; exact Nat.le_refl _⟩
    have z : p.1 ∈ kvs.map Prod.fst ++ [evK e] := by rw [← k1]; exact List.mem_map.mpr ⟨p, hp, rfl⟩
    rcases List.mem_append.mp z with z | z
    · obtain ⟨q, mq, eq⟩ := List.mem_map.mp z
      rw [← eq]
      exact m.ev q mq
    · rw [List.mem_singleton.mp z]
      exact ⟨e, rfl, h1, h2⟩
theorem Save.tup {H H' : Hp} {p c : Addr} {ks : List Int} {w n : Int} (F : FeedAt H p c ks w n) (s : Save p c H H') : Tup H H' := fun a xs e =>
  s a _ e (fun z => by rw [z, F.ob] at e; cases e) (fun z => by rw [z, F.cs] at e; cases e)
theorem Save.wr {H H2 : Hp} {p c D : Addr} {o : HO} (s : Save p c H H2) (n : H D = none) : Save p c H (upd H2 D o) := fun b u e h1 h2 => by
  rw [upd_ne (ne_of_none e n)]
  exact s b u e h1 h2
theorem FeedAt.wr {H : Hp} {p c D : Addr} {o : HO} {ks : List Int} {w n : Int} (F : FeedAt H p c ks w n) (h1 : D ≠ p) (h2 : D ≠ c) : FeedAt (upd H D o) p c ks w n :=
  ⟨by rw [upd_ne (Ne.symm h1)]; exact F.ob, by rw [upd_ne (Ne.symm h2)]; exact F.cs, F.bits, F.len, F.w0, F.w1, F.n0⟩
theorem cutTo (xs : List V) (n : Nat) : cutV xs none (some (n : Int)) = xs.take n := by
  unfold cutV HT.sIx
  simp [List.take_eq_take_min, show ¬ ((n : Int) < 0) from by omega]
theorem at_nat {α : Type} {xs : List α} {i : Int} (h0 : 0 ≤ i) (h1 : i < xs.length) : ∃ x, x ∈ xs ∧ atI xs i = some x := by
  have lt : i.toNat < xs.length := by omega
  have z := atI_nat (List.getElem?_eq_getElem lt)
  rw [Int.toNat_of_nonneg h0] at z
  exact ⟨xs[i.toNat], List.getElem_mem lt, z⟩
/-- one of a list's items -/
def spPick : Sp := fun vs H Q _ => ∃ (p c a : Addr) (ks : List Int) (xs : List V) (w n : Int), vs = [.ref p, .ref a] ∧ FeedAt H p c ks w n ∧ n < 999999 ∧ H a = some (.lst xs) ∧ a ≠ p ∧ a ≠ c ∧ 1 ≤ xs.length ∧ xs.length ≤ 100 ∧
  ∀ (v : V) (ks' : List Int) (H' : Hp), v ∈ xs → FeedAt H' p c ks' w (n + 1) → Save p c H H' → Q v H'
section
variable {P : Program} {w : World} {K : PySem.W.Frag} {mg : Str → Option Value} {base : Heap}
theorem scPi : FnScope ["_law_feed_here", "_law_some"] ["_law_feed_here", "_law_some"] (defScope sPick) := ⟨rfl, rfl, rfl, by decide +kernel, rfl, by decide +kernel, by decide +kernel⟩
theorem ok_pick {f fD : Addr} {fd fdD : FuncData} (F : Fun K "_law_pick" "_law_pick" sPick f fd) (mlen : mg "len" = none)
    (GD : FnOk P w K mg base CX0 1 fD fdD ["_law_feed_here", "_law_many"] spDigit) (mD : mg "_law_digit" = some (.ref fD)) (kD : PySem.W.keepIn K (.ref fD) = true) (bD : Binds K fdD ["_law_feed_here", "_law_many"] []) :
    FnOk P w K mg base CX0 2 f fd ["_law_feed_here", "_law_some"] spPick := by
  refine F.ok scPi (fun vs H Q E h => ?_) (fun cdv A outer s H vs Q E hr h => ?_)
  · obtain ⟨p, c, a, ks, xs, y, n, rfl, _⟩ := h
    rfl
  · obtain ⟨p, c, a, ks, xs, y, n, rfl, FA, hn, ha, np, nc, l0, l1, k⟩ := h
    refine ⟨_, pss_one (ps_ret (pe_ix ix_list (pv 1) (pe_call GD hr (by rfl) mD kD bD .nil pass0 (pa_cons (pv 0) (pa_cons (pe_callB (r := rLenQ K) call_len_seq (by rfl) mlen PySem.boot_len (pa_cons (pv 1) pa_nil)) pa_nil))) (fun _ _ => rfl))), ?_⟩
    refine ⟨_, rfl, _, rfl, _, rfl, a, _, rfl, .inl (SqL.of ha), p, c, ks, y, n, _, rfl, FA, by omega, by omega, by omega, fun i ks' H' i0 i1 FA' sv => ?_⟩
    obtain ⟨x, hx, e⟩ := at_nat (xs := xs) i0 i1
    exact ⟨a, _, i, _, rfl, rfl, SqL.of (sv a _ ha np nc), e, k x ks' H' hx FA' sv⟩
end
end My

-- ===== KS14 =====
set_option Elab.async false
set_option linter.all false
set_option maxRecDepth 100000
set_option maxHeartbeats 4000000
namespace Kd
open PySem L2 PyProof.Rows PySem.Spec ClX
/-! ### o.m(k = v, ..), m a def of o's class -/
def tMethK (C : Addr) (m : Str) (sp : Sp) (gV : List V → List V → List V) (E : XK) (ta : TE) (tk : TA) : TE := fun σ H Q => ta σ H fun x H1 => ∃ a dx fs, x = .ref a ∧ H1 a = some (.ins C dx fs) ∧ fs.lookup m = none ∧ tk σ H1 fun zs H2 => sp (gV [.ref a] zs) H2 Q E
section
variable {X : Cx} {CX : CXT} {k : Nat} {C g : Addr} {fd : FuncData} {ps ks : List Str} {sp : Sp} {E : XK} {o : Expr} {kws : List Keyword} {m : Str} {pos apos : Pos} {ta : TE} {tk : TA} {pl : Sem Bool} {gg : List Value → List Value → List Value} {gV : List V → List V → List V}
theorem pe_methK (he : PE X o ta) (c : Cls X.K C) (hm : Meth X.K C m g) (F : FnOk X.prog X.w X.K X.mg X.base CX k g fd ps sp) (hr : Room k X.A) (hb : KBinds X.K fd ps ks gg gV) (hx : Passes CX X E) (hkw : PK X kws tk)
    (hall : (backToKw pos (keywordEach kws X.env)).all (·.1.isSome) = true := by rfl) (hks : (backToKw pos (keywordEach kws X.env)).filterMap (·.1) = ks := by rfl)
    (hpl : ((backTo pos (starEach [] X.env)).any (·.1) || (backToKw pos (keywordEach kws X.env)).any (·.1.isNone)) = false := by rfl)
    (ht : eval (.Call (.Attribute o m apos) [] kws pos) X.env = (do
      let ov ← eval o X.env
      standAt apos.atName
      let (f, first) ← holding [ov] (getMethod ov m pl)
      callWith pos f first (backTo pos (starEach [] X.env)) (backToKw pos (keywordEach kws X.env))) := by rfl) :
    PE X (.Call (.Attribute o m apos) [] kws pos) (tMethK C m sp gV E ta tk) := by
  refine ⟨fun pins s σ H Q I h => ?_⟩
  refine PySem.W.methodCall_KW (pl := pl) (thn (he.run pins s σ H _ I h) fun u s1 ⟨x, H1, I1, rx, a, dx, fs, ex, ea, l, q⟩ => ?_) ht
  subst ex
  obtain rfl : u = Value.ref a := rx
  refine getmeth_ok I1 ea c hm l ?_
  refine PySem.W.callWith_KW0 (first := [.ref a]) (h₀ := X.base) I.ok.mod.kin hm.kp hall (thn (hkw.run pos pins s1 σ H1 _ I1 q) fun ws s2 ⟨zs, H2, I2, rz, q2⟩ => ⟨I2.kIn, ?_⟩) hpl
  rw [hks]
  exact run_fnk (us := [.ref a]) (vs := [.ref a]) F hr hb hx I2 (.cons rfl .nil) rz q2
end
end Kd

-- ===== KS15 =====
set_option Elab.async false
set_option linter.all false
set_option maxRecDepth 100000
set_option maxHeartbeats 4000000
namespace Kd
open PySem L2 PyProof.Rows PySem.Spec
/-! ### dict(xs) of pairs whose keys are tuples -/
/-- pairs one behind the other into a dict -/
def pour (kvs : List (List Key × V)) (ps : List (Addr × List Key × V)) : List (List Key × V) := ps.foldl (fun acc q => putK acc q.2.1 q.2.2) kvs
theorem pour_le : ∀ (ps : List (Addr × List Key × V)) (kvs : List (List Key × V)), (pour kvs ps).length ≤ kvs.length + ps.length
  | [], kvs => Nat.le_refl _
  | q :: ps, kvs => by
    have h := pour_le ps (putK kvs q.2.1 q.2.2)
    have h2 := length_putK kvs q.2.1 q.2.2
    show (pour (putK kvs q.2.1 q.2.2) ps).length ≤ _
    rw [List.length_cons]
    omega
/-- the pair at b -/
def PairAt (H : Hp) (q : Addr × List Key × V) : Prop := ∃ kb, H q.1 = some (.tup [.ref kb, q.2.2]) ∧ H kb = some (.tup (q.2.1.map kV))
section
variable {X : Cx} {pins : List (Addr × Obj)} {σ : L2.St} {H : Hp} {A : Around}
theorem pour_loop {R : Result → Shared → Prop} {S I l : Addr} {all : List (Addr × List Key × V)} {res : Value} (hh : A.handled = none) (hu : A.units + 40 < cLine) (hl : H l = some (.lst (all.map fun q => V.ref q.1))) (hS : H S = none) (fI : FpOk X pins H I) (nSI : S ≠ I) (ok : ∀ q ∈ all, PairAt H q) :
    ∀ (rest : List (Addr × List Key × V)) (i : Nat) (acc : List (List Key × V)) (ix : Int) (t : Tok) (s : Shared), all.drop i = rest → acc.length + rest.length ≤ 1000 → Inv X pins σ (upd H S (.dT acc)) s → s.heap.IsListIter I l i →
      (∀ s', Inv X pins σ (upd H S (.dT (pour acc rest))) s' → R (.ok (.ret res)) s') → codeAny (model X.prog X.w) A (.builtin "dict.update.loop" ⟨[.ref S, .ref I, .int ix t, res], []⟩) R s := by
  intro rest
  induction rest with
  | nil =>
    intro i acc ix t s ed hln J hit hR
    have nlS : l ≠ S := fun z => by rw [z, hS] at hl; cases hl
    have hl2 : (upd H S (.dT acc)) l = some (.lst (all.map fun q => V.ref q.1)) := by rw [upd_ne nlS]; exact hl
    obtain ⟨its, rv, pl, hz⟩ := J.list (SqL.of hl2)
    refine codeAny_builtin ud_entry ?_
    rw [Around.under_plainId ud_plain _]
    show wpAny _ A.in1 (pyNext (.ref I) >>= _) _ _ s
    have le : all.length ≤ i := List.drop_eq_nil_iff.mp ed
    have lz := rv.length
    rw [List.length_map] at lz
    refine wpAny_bind (wpAny_pyNext_list_end (A := A.in1) hh hit pl.isList (by simp; omega) fun h' he => ?_)
    show wpAny _ A.in1 (Builtin.Dict.addKeywords S [] >>= _) _ _ _
    refine wpAny_bind (wpAny_pure (wpAny_pure ?_))
    have f2 : FpOk X pins (upd H S (.dT acc)) I := ⟨by rw [upd_ne (Ne.symm nSI)]; exact fI.1, fI.2.1, fI.2.2.1, fI.2.2.2.1, fI.2.2.2.2.1, fI.2.2.2.2.2⟩
    obtain ⟨f0, f1, _, f3, f4, f5⟩ := f2
    exact hR _ (J.turned (t' := s.toks) (fun b o hb e => he b o hb e) f0 f1 f3 f4 f5)
  | cons q rest ih =>
    intro i acc ix t s ed hln J hit hR
    rw [List.length_cons] at hln
    have ei : all[i]? = some q := by
      have z : (all.drop i)[0]? = some q := by rw [ed]; rfl
      rwa [List.getElem?_drop, Nat.add_zero] at z
    have ed2 : all.drop (i + 1) = rest := by rw [← List.tail_drop, ed]; rfl
    have nlS : l ≠ S := fun z => by rw [z, hS] at hl; cases hl
    have hl2 : (upd H S (.dT acc)) l = some (.lst (all.map fun q => V.ref q.1)) := by rw [upd_ne nlS]; exact hl
    obtain ⟨its, rv, pl, hz⟩ := J.list (SqL.of hl2)
    have eits := refs_raw (fun q : Addr × List Key × V => q.1) rv
    subst eits
    obtain ⟨kb, e1, e2⟩ := ok q (List.mem_of_getElem? ei)
    have n1 : q.1 ≠ S := ne_of_none e1 hS
    have n2 : kb ≠ S := ne_of_none e2 hS
    have e1' : (upd H S (.dT acc)) q.1 = some (.tup [.ref kb, q.2.2]) := by rw [upd_ne n1]; exact e1
    have e2' : (upd H S (.dT acc)) kb = some (.tup (q.2.1.map kV)) := by rw [upd_ne n2]; exact e2
    have f2 : FpOk X pins (upd H S (.dT acc)) I := ⟨by rw [upd_ne (Ne.symm nSI)]; exact fI.1, fI.2.1, fI.2.2.1, fI.2.2.2.1, fI.2.2.2.2.1, fI.2.2.2.2.2⟩
    obtain ⟨f0, f1, _, f3, f4, f5⟩ := f2
    refine codeAny_builtin ud_entry ?_
    rw [Around.under_plainId ud_plain _]
    show wpAny _ A.in1 (pyNext (.ref I) >>= _) _ _ s
    refine wpAny_bind (wpAny_pyNext_list_item (x := .ref q.1) hit pl.isList (by simp [ei]) fun h1 hit1 hs1 => ?_)
    have J1 : Inv X pins σ (upd H S (.dT acc)) { s with heap := h1 } := J.turned (t' := s.toks) (fun b o hb e => (hs1.2 b hb).trans e) f0 f1 f3 f4 f5
    obtain ⟨its2, rv2, ⟨o, ho, hc, n, hd⟩, _⟩ := J1.tuple (SqT.of e1')
    obtain ⟨u, y, ex, ru, ry⟩ := vals2 rv2
    subst ex
    cases (show u = Value.ref kb from ru)
    show wpAny _ A.in1 (holding [Value.ref q.1] _ >>= _) _ _ _
    refine wpAny_bind (wpAny_holding ?_)
    refine wpAny_bind (wpAny_tryCatch ?_)
    unfold Builtin.Dict.pairItems
    refine wpAny_bind (wpAny_typeOf (T := "tuple") ⟨o, ho, hc⟩ ?_)
    rw [if_pos (by first | decide | rfl | simp)]
    refine wpAny_bind (wpAny_seqItems ho hd (wpAny_pure ?_))
    show wpAny _ A.in1 (holding [Value.ref kb, y] (dictSet S (.ref kb) y)) _ _ _
    obtain ⟨z, nsys, xs, rel, dd⟩ := dt_of J1.hok (upd_same (H := H) (a := S) (o := .dT acc))
    have xz : xs.length ≤ sizeLine := by rw [← Paired.length rel]; exact z
    have big := sizeLine_eq
    have pz : (putK acc q.2.1 q.2.2).length ≤ sizeLine := by have := length_putK acc q.2.1 q.2.2; omega
    refine wpAny_holding (wpAny_dictSet_heap (hsz := xz) (show A.in1.units < cLine by simp only [Around.in1]; omega) (key_of J1.hok e2') dd fun h2 dd2 sb => ?_)
    obtain ⟨o2, es, ep, g1, g2, g3, g4, _, g5⟩ := dd2
    have J2 : ∀ t2, Inv X pins σ (upd (upd H S (.dT acc)) S (.dT (putK acc q.2.1 q.2.2))) { s with heap := h2, toks := t2 } := fun t2 => by
      refine d_write (s := { s with heap := h1 }) (t' := t2) J1 (by rw [upd_same]; exact True.intro) sb ⟨o2, g1⟩ ⟨pz, nsys, _, (rel.put q.2.1 e2' ry).keeps fun c ys e => ?_, o2, es, ep, g1, g2, g3, g4, g5⟩
      rw [upd_ne (ne_of e upd_same (fun z => nomatch z))]
      exact e
    rw [L2.upd_upd] at J2
    refine wpAny_pure ⟨plainId_quiet ud_plain _, ih (i + 1) (putK acc q.2.1 q.2.2) (ix + 1) 0 _ ed2 (by have := length_putK acc q.2.1 q.2.2; omega) (J2 _) (hit1.at fun o e => (sb.2 I (Ne.symm nSI)).trans e) hR⟩
/-- dict(xs), xs a list of pairs -/
theorem call_dictT (hc : X.calm = true) (hu : X.A.units + 200 < cLine) : CallR X (.type "dict") (fun xs H Q => ∃ (a : Addr) (all : List (Addr × List Key × V)), xs = [.ref a] ∧ H a = some (.lst (all.map fun q => V.ref q.1)) ∧ (∀ q ∈ all, PairAt H q) ∧ all.length ≤ 1000 ∧
    ∀ p, H p = none → Q (.ref p) (upd H p (.dT (pour [] all)))) := by
  intro pins s σ H xs us Q I r h
  obtain ⟨a, all, rfl, ha, ok, few, q⟩ := h
  rw [Vals.ref1 r]
  have hh : X.A.handled = none := I.ok.hd hc
  have hS : H s.heap.objs.size = none := I.hok.fresh (Nat.le_refl _)
  refine callType_codes (Q₁ := fun obj s₁ => obj = .ref s.heap.objs.size ∧ s₁ = { s with heap := s.heap.push { cls := .type "dict", data := .dict #[] } }) PySem.F.kt_called_dict (PySem.F.kt_typeCall_dict_1 _) PySem.F.entry_dict_init (kt_code_dict_new _ ⟨rfl, rfl⟩) ?_
  rintro obj s₁ ⟨rfl, rfl⟩
  have I1 : Inv X pins σ (upd H s.heap.objs.size (.dT [])) { s with heap := s.heap.push { cls := .type "dict", data := .dict #[] } } := I.laid (t' := s.toks) (fun _ _ z => Heap.get?_push_of_some _ z) (Nat.le_refl _) (dt_empty s.heap I.big)
  have oS : (s.heap.push { cls := .type "dict", data := .dict #[] }).get? s.heap.objs.size = some { cls := .type "dict", data := .dict #[] } := Heap.get?_push_size _ rfl
  have tS : Shared.TypeIs { s with heap := s.heap.push { cls := .type "dict", data := .dict #[] } } (.ref s.heap.objs.size) "dict" := ⟨_, oS, rfl⟩
  have nS : a ≠ s.heap.objs.size := ne_of_none ha hS
  obtain ⟨its, rv, ⟨ol, n, hol, hcl, hdn, hdat⟩, hz⟩ := I1.list (SqL.of (show (upd H s.heap.objs.size (.dT [])) a = some (.lst (all.map fun q => V.ref q.1)) by rw [upd_ne nS]; exact ha))
  refine ⟨tS, PySem.F.args_dict_init_2 _ _, ?_⟩
  unfold Builtin.«dict.__init__»
  refine wpAny_bind ?_
  unfold Builtin.Dict.selfAndRest
  refine wpAny_bind (wpAny_notOrdered_dict tS ?_)
  show wpAny _ _ (pure (s.heap.objs.size, [Value.ref a])) _ _ _
  refine wpAny_pure ?_
  show wpAny _ _ (Builtin.Dict.updateFrom "dict.__init__" s.heap.objs.size (.ref a) [] .none) _ _ _
  unfold Builtin.Dict.updateFrom
  refine wpAny_bind (wpAny_typeOf (T := "list") ⟨ol, hol, hcl⟩ ?_)
  rw [if_pos (by first | decide | rfl | simp)]
  refine wpAny_bind (miss_list hol hcl hdat hdn hh fun h1 tk1 hk1 => ?_)
  rw [if_pos (show (none : Option Value).isNone = true from rfl)]
  refine wpAny_bind (wpAny_rule ?_)
  have I2 : Inv X pins σ (upd H s.heap.objs.size (.dT [])) { s with heap := h1, toks := tk1 } := I1.kept hk1
  have l1 : h1.IsList a its.toArray := ⟨ol, hk1 _ _ hol, hcl, n, hdat⟩
  have lS : s.heap.objs.size < h1.objs.size := Heap.lt_size (hk1 _ _ oS)
  refine wpAny_bind (wpAny_pyIter_list l1 ?_)
  have I3 : Inv X pins σ (upd H s.heap.objs.size (.dT [])) { s with heap := h1.push { cls := .type "list_iterator", data := .fields #[.ref a, .int 0 0] }, toks := tk1 } := I2.kept (t' := tk1) fun b o e => Heap.get?_push_of_some _ e
  have fI : FpOk X pins H h1.objs.size := I2.fpOk (Nat.le_refl _) (I.hok.fresh (Nat.le_of_lt lS))
  have key := pour_loop (X := X) (A := X.A.in1) (R := wants (fun r s₂ => r = .none ∧ EP X pins σ Q (.ref s.heap.objs.size) s₂) X.xe) (res := Value.none) hh (by simp only [Around.in1]; omega) ha hS fI (Nat.ne_of_lt lS) ok all 0 [] 0 0
    { s with heap := h1.push { cls := .type "list_iterator", data := .fields #[.ref a, .int 0 0] }, toks := tk1 } rfl (by rw [List.length_nil]; omega) I3 ⟨_, Heap.get?_push_size _ rfl, rfl, rfl⟩ (fun s' J => ⟨rfl, .ref _, _, J, rfl, q _ hS⟩)
  first
    | exact wpAny_pure ⟨plainId_quiet ud_plain _, key⟩
    | exact wpAny_bind (wpAny_pure (wpAny_pure ⟨plainId_quiet ud_plain _, key⟩))
end
end Kd

-- ===== KS16 =====
set_option Elab.async false
set_option linter.all false
set_option maxRecDepth 100000
set_option maxHeartbeats 4000000
namespace Kd
open PySem L2 PyProof.Rows PySem.Spec PySem.W
/-! ### for v in d.values(), the keys being tuples -/
section
variable {X : Cx} {pins : List (Addr × Obj)} {σ : L2.St} {H : Hp} {s : Shared} {d : Addr} {o : Obj}
theorem frz_vals {kvs : List (List Key × V)} (I : Inv X pins σ H s) (h : H d = some (.frz o (.dT kvs))) :
    s.heap.get? d = some o ∧ o.ExactDict ∧ ∃ (es : Array DictEntry) (ep : Nat), o.data = .dict es ep ∧ es.size = kvs.length ∧ ∀ (i : Nat) (k : List Key) (v : V), kvs[i]? = some (k, v) → ∃ en : DictEntry, es[i]? = some en ∧ RelV v en.val := by
  obtain ⟨hd, z, hs, xs, pr, o', es, ep, ho, hx, hdt, he, _⟩ := I.hok d _ h
  rw [hd] at ho
  cases ho
  refine ⟨hd, hx, es, ep, hdt, ?_, fun i k v e => ?_⟩
  · have l1 : es.size = xs.length := size_of_entries he
    have l2 : kvs.length = xs.length := Paired.length pr
    omega
  · obtain ⟨b, hb, _, _, e3⟩ := paired_get pr e
    have q := entry_at he i
    rw [hb] at q
    exact ⟨_, q, e3⟩
end
/-- the values, in their order -/
def ItdT (d : Addr) (o : Obj) (kvs : List (List Key × V)) : It :=
  ⟨fun i H => H d = some (.frz o (.dT kvs)) ∧ i < kvs.length, fun i H x H' => H' = H ∧ ∃ k, kvs[i]? = some (k, x), fun i H => H d = some (.frz o (.dT kvs)) ∧ kvs.length = i⟩
theorem turn_valsT {P : Program} {w : World} {K : Frag} {tg : Expr} {d : Addr} {o : Obj} {es : Array DictEntry} {ep : Nat} {kvs : List (List Key × V)} (it : Addr) (ni : d ≠ it) (hod : o.data = .dict es ep) (hz : es.size = kvs.length) :
    Turn P w K tg (ItdT d o kvs) [it] it (fun i h => h.IsValIter it d i es.size ep) where
  mem := by simp
  obj := fun i h st b hb => by
    have e : b = it := by simpa using hb
    subst e
    obtain ⟨oi, e, _, dd⟩ := st
    exact ⟨oi, e, fun v z => by rw [dd] at z; cases z⟩
  keep := fun i h h' st k => st.at fun oi e => k it (by simp) oi e
  item := by
    intro X hP hw hK hc i pins s σ H E I hf st hg
    subst hP hw hK
    obtain ⟨hd, hi⟩ := hg
    obtain ⟨f0, f1, f2, f3, f4, f5⟩ := hf it (by simp)
    obtain ⟨hgd, hx, es', ep', hdt, hsz, ent⟩ := frz_vals I hd
    obtain ⟨rfl, rfl⟩ := dict_ep hod hdt
    obtain ⟨⟨k, v⟩, hkv⟩ : ∃ p, kvs[i]? = some p := ⟨kvs[i], List.getElem?_eq_getElem hi⟩
    obtain ⟨en, hen, rv⟩ := ent i k v hkv
    have W := Walks.rawValues (prog := X.prog) (w := X.w) (I.ok.hd hc) it d ni es' ep'
    refine W.item i s _ _ (by omega) ⟨st, o, hgd, hx, hdt⟩ fun u h' tk hu st' kk => ?_
    obtain ⟨lt, rfl⟩ := hu
    have eu : en = es'[i] := by
      rw [Array.getElem?_eq_getElem lt] at hen
      exact (Option.some.inj hen).symm
    subst eu
    have I1 : Inv X pins σ H { s with heap := h', toks := tk } := I.turned (fun b o hb e => kk b o (by simpa using hb) e) f0 f1 f3 f4 f5
    obtain ⟨oi, e, c, dd⟩ := id st'.1
    exact ⟨_, rfl, go_of (s := { s with heap := h', toks := tk }) e c dd (by decide) ⟨v, H, I1, rv, ⟨rfl, k, hkv⟩, st'.1, fun b hb => (hf b hb).1⟩⟩
  done := by
    intro X hP hw hK hc i pins s σ H E I hf st hg
    subst hP hw hK
    obtain ⟨hd, hi⟩ := hg
    obtain ⟨f0, f1, f2, f3, f4, f5⟩ := hf it (by simp)
    obtain ⟨hgd, hx, es', ep', hdt, hsz, ent⟩ := frz_vals I hd
    obtain ⟨rfl, rfl⟩ := dict_ep hod hdt
    have W := Walks.rawValues (prog := X.prog) (w := X.w) (I.ok.hd hc) it d ni es' ep'
    have e : i = es'.size := by omega
    subst e
    exact W.done s _ _ ⟨st, o, hgd, hx, hdt⟩ fun h' tk eb => ⟨rfl, I.turned (fun b o hb q => eb b o (by simpa using hb) q) f0 f1 f3 f4 f5⟩
  self := fun A i s Q E st h => wpAny_pyIter_valiter st h
/-- the dict is locked (tLock, or by the caller) -/
def iValsT (td : TE) : TI := fun σ H R => td σ H fun x H1 => ∃ d o kvs, x = .ref d ∧ H1 d = some (.frz o (.dT kvs)) ∧ R (ItdT d o kvs) H1
theorem walk_valsT {d : Addr} {o : Obj} {kvs : List (List Key × V)} : Walk (ItdT d o kvs) kvs.length (fun H => H d = some (.frz o (.dT kvs))) (fun i H x H' => H' = H ∧ ∃ k, kvs[i]? = some (k, x)) :=
  ⟨fun _ _ hi q => ⟨q, hi⟩, fun _ q => ⟨q, rfl⟩, fun _ _ _ _ _ _ y => y⟩
section
variable {X : Cx} {tg e : Expr} {td : TE} {apos cpos : Pos}
theorem pi_valuesT (he : PE X e td) (hbase : attributeBase e "values" X.env (eval e X.env) = eval e X.env := by rfl) (hline : (apos.endLine == cpos.line) = true := by rfl) : PI X tg (.Call (.Attribute e "values" apos) [] [] cpos) (iValsT td) := by
  refine ⟨fun pins s σ H R I h => ?_⟩
  refine wpAny_Call_method (T := "dict") (id := "dict.values") hbase rfl hline F.plainAttrs_dict F.slot_dict_values F.type_dict_values (thn (he.run pins s σ H _ I h) fun u s1 ⟨x, H1, I1, rx, d, o, kvs, ex, hd, q⟩ => ?_)
  subst ex
  obtain rfl : u = Value.ref d := rx
  have lo := (I1.frzT hd).1
  obtain ⟨hgd, hx, es, ep, hdt, hsz, ent⟩ := frz_vals I1 hd
  have raw : s1.heap.DictRaw d es ep := ⟨o, hgd, hx, hdt⟩
  have ty : s1.TypeIs (.ref d) "dict" := ⟨o, hgd, hx.1⟩
  refine ⟨ty, (fun b z => by cases z; exact ⟨o, hgd, hx.2.1⟩), ?_⟩
  have I2 : Inv X pins σ H1 { s1 with heap := s1.heap.push { cls := .type "dict_values", data := .fields #[.ref d] } } := I1.kept (t' := s1.toks) fun b ob z => Heap.get?_push_of_some _ z
  have lt : d < s1.heap.objs.size := Heap.lt_size hgd
  have fin : wpAny (model X.prog X.w) X.A (pyIter (.ref s1.heap.objs.size)) (PIE X pins σ tg R) X.xe { s1 with heap := s1.heap.push { cls := .type "dict_values", data := .fields #[.ref d] } } := by
    refine wpAny_pyIter_values_raw (d := d) ⟨_, Heap.get?_push_size _ rfl, rfl, rfl⟩ (raw.push _) (pi_one (tk := s1.toks) I2 _ (turn_valsT _ (Nat.ne_of_lt (by show d < (s1.heap.push _).objs.size; rw [Heap.size_push]; exact Nat.lt_succ_of_lt lt)) hdt hsz) ⟨_, Heap.get?_push_size _ rfl, rfl, rfl⟩ q)
  show wpAny _ _ (callWith cpos (.builtin "dict.values") [.ref d] [] []) _ X.xe s1
  exact method_meetsIn F.slot_dict_values F.entry_dict_values rfl (PySem.evalArgs_none ⟨rfl, ty, F.args_dict_values_1 _, _, meets_dict_values_raw d lo, ⟨es, ep, raw⟩, fin⟩)
end
end Kd

-- ===== KS19 =====
set_option Elab.async false
set_option linter.all false
set_option maxRecDepth 100000
set_option maxHeartbeats 4000000
namespace Kd
open PySem L2 PyProof.Rows PySem.Spec PySem.W
/-! ### for k, v in d.items(), the keys being tuples -/
section
variable {X : Cx} {pins : List (Addr × Obj)} {σ : L2.St} {H : Hp} {s : Shared} {d : Addr} {o : Obj}
theorem frz_both {kvs : List (List Key × V)} (I : Inv X pins σ H s) (h : H d = some (.frz o (.dT kvs))) :
    (d == sysModules) = false ∧ s.heap.get? d = some o ∧ o.ExactDict ∧ ∃ (es : Array DictEntry) (ep : Nat), o.data = .dict es ep ∧ es.size = kvs.length ∧ ∀ (i : Nat) (k : List Key) (v : V), kvs[i]? = some (k, v) → ∃ (en : DictEntry) (q : Addr), es[i]? = some en ∧ en.key = .ref q ∧ H q = some (.tup (k.map kV)) ∧ RelV v en.val := by
  obtain ⟨hs, hd, hx, es, ep, hdt, hz, f⟩ := I.frzT h
  obtain ⟨_, _, es2, ep2, hdt2, _, g⟩ := frz_vals I h
  obtain ⟨rfl, rfl⟩ := dict_ep hdt2 hdt
  refine ⟨hs, hd, hx, es, ep, hdt, hz, fun i k v e => ?_⟩
  obtain ⟨en, q, e1, e2, e3⟩ := f i k v e
  obtain ⟨en2, e4, e5⟩ := g i k v e
  rw [e1] at e4
  cases e4
  exact ⟨en, q, e1, e2, e3, e5⟩
end
/-- key and value, in their order, each in a new tuple -/
def ItdI (d : Addr) (o : Obj) (kvs : List (List Key × V)) : It :=
  ⟨fun i H => H d = some (.frz o (.dT kvs)) ∧ i < kvs.length, fun i H x H' => ∃ (T q : Addr) (k : List Key) (v : V), kvs[i]? = some (k, v) ∧ x = .ref T ∧ H T = none ∧ H q = some (.tup (k.map kV)) ∧ H' = upd H T (.tup [.ref q, v]), fun i H => H d = some (.frz o (.dT kvs)) ∧ kvs.length ≤ i⟩
theorem turn_itemsT {P : Program} {w : World} {K : Frag} {elts : List Expr} {kk : Nat} {tpos : Pos} {d : Addr} {o : Obj} {es : Array DictEntry} {ep : Nat} {kvs : List (List Key × V)} (it : Addr) (hod : o.data = .dict es ep) (hz : es.size = kvs.length) :
    Turn P w K (.Tuple elts kk tpos) (ItdI d o kvs) [it] it (fun i h => ∃ ok ov, IsItemIter h it d i es.size ep ok ov) where
  mem := by simp
  obj := fun i h st b hb => by
    have e : b = it := by simpa using hb
    subst e
    obtain ⟨ok, ov, e⟩ := st
    exact ⟨_, e, fun v z => nomatch z⟩
  keep := fun i h h' ⟨ok, ov, e⟩ k => ⟨ok, ov, k it (by simp) _ e⟩
  item := by
    intro X hP hw hK hc i pins s σ H E I hf st hg
    subst hP hw hK
    obtain ⟨hd, hi⟩ := hg
    obtain ⟨hs, hgd, hx, es', ep', hdt, hsz, ent⟩ := frz_both I hd
    obtain ⟨rfl, rfl⟩ := dict_ep hod hdt
    obtain ⟨⟨k, v⟩, hkv⟩ : ∃ p, kvs[i]? = some p := ⟨kvs[i], List.getElem?_eq_getElem hi⟩
    obtain ⟨en, q, e1, e2, e3, e4⟩ := ent i k v hkv
    obtain ⟨ok, ov, he⟩ := st
    have lt : i < es'.size := by omega
    have hlt : it < s.heap.objs.size := Heap.lt_size he
    have een : es'[i] = en := by
      rw [Array.getElem?_eq_getElem lt] at e1
      exact Option.some.inj e1
    refine wpAny_pyNext_items_item_raw he ⟨o, hgd, hx, hdt⟩ lt fun h' ho hT hz2 hk => ?_
    refine ⟨_, rfl, wpAny_letOwnedTupleGo_items (s := { s with heap := h' }) ho fun h'' he' sb => ?_⟩
    have hT2 : h''.get? s.heap.objs.size = some { cls := .type "tuple", data := .seq #[es'[i].key, es'[i].val] } := (sb.2 _ (Nat.ne_of_gt hlt)).trans hT
    rw [een] at hT2
    have new : ObjOk X.prog X.w (upd H s.heap.objs.size (.tup [.ref q, v])) h'' s.heap.objs.size (.tup [.ref q, v]) := ⟨by show 2 ≤ sizeLine; decide, [en.key, en.val], .cons e2 (.cons e4 .nil), ⟨_, hT2, rfl, _, rfl⟩⟩
    have I1 : L2.Inv X pins σ (upd H s.heap.objs.size (.tup [.ref q, v])) { s with heap := h'' } :=
      I.turnedNew (t' := s.toks) (ch := [it]) (fun b ob hb e => (sb.2 b (by simpa using hb)).trans (hk b ob (by simpa using hb) e)) hf (Nat.le_refl _) new
    refine ⟨.ref s.heap.objs.size, _, I1, rfl, ⟨_, q, k, v, hkv, rfl, I.hok.fresh (Nat.le_refl _), e3, rfl⟩, ⟨_, _, he'⟩, fun b hb => ?_⟩
    have e : b = it := by simpa using hb
    rw [e, upd_ne (Nat.ne_of_lt hlt)]
    exact (hf it (by simp)).1
  done := by
    intro X hP hw hK hc i pins s σ H E I hf st hg
    subst hP hw hK
    obtain ⟨hd, hi⟩ := hg
    obtain ⟨f0, f1, f2, f3, f4, f5⟩ := hf it (by simp)
    obtain ⟨hs, hgd, hx, es', ep', hdt, hsz, ent⟩ := frz_both I hd
    obtain ⟨rfl, rfl⟩ := dict_ep hod hdt
    obtain ⟨ok, ov, he⟩ := st
    exact wpAny_pyNext_items_end_raw (I.ok.hd hc) he ⟨o, hgd, hx, hdt⟩ (by omega) fun h' eb => ⟨rfl, I.turned (t' := s.toks) (fun b ob hb e => eb b ob hb e) f0 f1 f3 f4 f5⟩
  self := fun A i s Q E ⟨_, _, e⟩ h => PySem.W.kcp_self e h
def iItemsT (td : TE) : TI := fun σ H R => td σ H fun x H1 => ∃ d o kvs, x = .ref d ∧ H1 d = some (.frz o (.dT kvs)) ∧ R (ItdI d o kvs) H1
section
variable {X : Cx} {e : Expr} {td : TE} {apos cpos tpos : Pos} {elts : List Expr} {kk : Nat}
theorem pi_itemsT (he : PE X e td) (hbase : attributeBase e "items" X.env (eval e X.env) = eval e X.env := by rfl) (hline : (apos.endLine == cpos.line) = true := by rfl) : PI X (.Tuple elts kk tpos) (.Call (.Attribute e "items" apos) [] [] cpos) (iItemsT td) := by
  refine ⟨fun pins s σ H R I h => ?_⟩
  refine wpAny_Call_method (T := "dict") (id := "dict.items") hbase rfl hline F.plainAttrs_dict F.slot_dict_items F.type_dict_items (thn (he.run pins s σ H _ I h) fun u s1 ⟨x, H1, I1, rx, d, o, kvs, ex, hd, q⟩ => ?_)
  subst ex
  obtain rfl : u = Value.ref d := rx
  obtain ⟨lo, hgd, hx, es, ep, hdt, hsz, ent⟩ := frz_both I1 hd
  have raw : s1.heap.DictRaw d es ep := ⟨o, hgd, hx, hdt⟩
  have ty : s1.TypeIs (.ref d) "dict" := ⟨o, hgd, hx.1⟩
  refine ⟨ty, (fun b z => by cases z; exact ⟨o, hgd, hx.2.1⟩), ?_⟩
  have I2 : L2.Inv X pins σ H1 { s1 with heap := s1.heap.push { cls := .type "dict_items", data := .fields #[.ref d] } } := I1.kept (t' := s1.toks) fun b ob z => Heap.get?_push_of_some _ z
  have fin : wpAny (model X.prog X.w) X.A (pyIter (.ref s1.heap.objs.size)) (PIE X pins σ (.Tuple elts kk tpos) R) X.xe { s1 with heap := s1.heap.push { cls := .type "dict_items", data := .fields #[.ref d] } } := by
    refine wpAny_pyIter_items_raw (d := d) ⟨_, Heap.get?_push_size _ rfl, rfl, rfl⟩ (raw.push _) (pi_one (tk := s1.toks) I2 _ (turn_itemsT _ hdt hsz) ⟨.none, .none, Heap.get?_push_size _ rfl⟩ q)
  show wpAny _ _ (callWith cpos (.builtin "dict.items") [.ref d] [] []) _ X.xe s1
  exact method_meetsIn F.slot_dict_items F.entry_dict_items rfl (PySem.evalArgs_none ⟨rfl, ty, F.args_dict_items_1 _, _, meets_dict_items_raw d lo, ⟨es, ep, raw⟩, fin⟩)
end
end Kd
namespace Kd
open PySem L2 PyProof.Rows PySem.Spec PySem.W
theorem walk_itemsT {d : Addr} {o : Obj} {kvs : List (List Key × V)} : Walk (ItdI d o kvs) kvs.length (fun H => H d = some (.frz o (.dT kvs))) (fun i H x H' => ∃ (T q : Addr) (k : List Key) (v : V), kvs[i]? = some (k, v) ∧ x = .ref T ∧ H T = none ∧ H q = some (.tup (k.map kV)) ∧ H' = upd H T (.tup [.ref q, v])) :=
  ⟨fun _ _ hi q => ⟨q, hi⟩, fun _ q => ⟨q, Nat.le_refl _⟩, fun _ _ _ _ _ _ y => y⟩
end Kd

-- ===== KN7 =====
set_option Elab.async false
set_option linter.all false
set_option maxRecDepth 100000
set_option maxHeartbeats 4000000
namespace Kd
open PySem L2 PyProof.Rows PySem.Spec PySem.W
/-! ### {k: v}, k a tuple -/
def tDisp1T (tk tv : TE) : TE := fun σ H Q => ∀ p, H p = none → tk σ (upd H p (.dT [])) fun x H1 => tv σ H1 fun y H2 => H2 p = some (.dT []) ∧ ∃ (q : Addr) (ks : List Key), x = .ref q ∧ H2 q = some (.tup (ks.map kV)) ∧ Q (.ref p) (upd H2 p (.dT (putK [] ks y)))
theorem pe_disp1T {X : Cx} {pos : Pos} {k v : Expr} {tk tv : TE} (hu : X.A.units + 1 < cLine) (hk : PE X k tk) (hv : PE X v tv) : PE X (.Dict [some k] [v] pos) (tDisp1T tk tv) := by
  refine ⟨fun pins s σ H Q I h => ?_⟩
  have hn := I.hok.fresh (Nat.le_refl s.heap.objs.size)
  have I1 := I.laid (a := s.heap.objs.size) (o := .dT []) (h' := s.heap.push { cls := .type "dict", data := .dict #[] }) (t' := s.toks) (fun _ _ q => Heap.get?_push_of_some _ q) (Nat.le_refl _) (dt_empty s.heap I.big)
  rw [arm_eval_Dict, zip_pairTrees [some k] [v] X.env pos rfl rfl, dictDisplay_pairs (pairTrees [some k] [v] X.env pos) (by show _ ≠ _; intro z; cases z) (by show (1 : Nat) < _; decide)]
  refine wpAny_bind (wpAny_standAt (wpAny_bind (wpAny_subDictH (knd := tupleKind (mixKind X.prog X.w)) (show (tupleKind (mixKind X.prog X.w)).room X.A from Nat.lt_of_succ_lt hu) (by show (1 : Nat) ≤ 15; decide) ?_)))
  refine pairTrees_cons_walk (thn (hk.run pins _ σ _ _ I1 (h _ hn)) fun u s1 ⟨x, H1, I2, rx, q1⟩ => thn (hv.run pins s1 σ H1 _ I2 q1) fun w s2 ⟨y, H2, I3, ry, e, q, ks, ex, eq, q2⟩ => ?_)
  subst ex
  cases (show u = Value.ref q from rx)
  refine pairTrees_nil_walk ⟨[(ks, q, w)], ⟨rfl, rfl, key_of I3.hok eq, True.intro⟩, ?_, fun h' tk dd hs => ?_⟩
  · obtain ⟨z, hd, xs, rel, dd⟩ := dt_of I3.hok e
    cases rel
    exact dd
  · obtain ⟨z, hd, xs, rel, _⟩ := dt_of I3.hok e
    obtain ⟨o2, es, ep, g1, g2, g3, g4, _, g5⟩ := dd
    refine wpAny_pure ⟨.ref s.heap.objs.size, _, ?_, rfl, q2⟩
    have rel0 : KT H2 [] [] := .nil
    refine d_write (t' := tk) I3 (by rw [e]; exact True.intro) hs ⟨o2, g1⟩ ⟨by have := length_putK ([] : List (List Key × V)) ks y; rw [List.length_nil] at this; have := sizeLine_eq; omega, hd, _, (rel0.put ks eq ry).keeps fun c ys e2 => ?_, o2, es, ep, g1, g2, g3, g4, g5⟩
    rw [upd_ne (ne_of e2 e (fun z => nomatch z))]
    exact e2
end Kd

-- ===== KN1 =====
set_option Elab.async false
set_option linter.all false
set_option maxRecDepth 100000
set_option maxHeartbeats 4000000
namespace Kd
open PySem L2 PyProof.Rows PySem.Spec PySem.W
theorem paired_snocV {α β : Type} {R : α → β → Prop} {l : List α} {m : List β} {a : α} {b : β} (r : Paired R l m) (h : R a b) : Paired R (l ++ [a]) (m ++ [b]) := by
  induction r with
  | nil => exact .cons h .nil
  | cons x _ ih => exact .cons x ih
/-! ### dicts whose keys are nested tuples (of numbers, truth values, texts), their values anything -/
mutual
/-- v is the key k -/
inductive NqV (H : Hp) : V → NestedKey → Prop
  | num (i : Int) : NqV H (.int i) (.num i)
  | bool (b : Bool) : NqV H (.bl b) (.num (if b = true then 1 else 0))
  | text (x : Str) : NqV H (.str x) (.text x)
  | tup {a : Addr} {vs : List V} {ks : List NestedKey} : H a = some (.tup vs) → NqVs H vs ks → NqV H (.ref a) (.tup ks)
inductive NqVs (H : Hp) : List V → List NestedKey → Prop
  | nil : NqVs H [] []
  | cons {v : V} {vs : List V} {k : NestedKey} {ks : List NestedKey} : NqV H v k → NqVs H vs ks → NqVs H (v :: vs) (k :: ks)
end
mutual
theorem NqV.to {H H' : Hp} (s : ∀ a xs, H a = some (.tup xs) → H' a = some (.tup xs)) : ∀ {v : V} {k : NestedKey}, NqV H v k → NqV H' v k
  | _, _, .num i => .num i
  | _, _, .bool b => .bool b
  | _, _, .text x => .text x
  | _, _, .tup h1 h2 => .tup (s _ _ h1) (NqVs.to s h2)
theorem NqVs.to {H H' : Hp} (s : ∀ a xs, H a = some (.tup xs) → H' a = some (.tup xs)) : ∀ {vs : List V} {ks : List NestedKey}, NqVs H vs ks → NqVs H' vs ks
  | _, _, .nil => .nil
  | _, _, .cons h1 h2 => .cons (NqV.to s h1) (NqVs.to s h2)
end
section
variable {X : Cx} {pins : List (Addr × Obj)} {σ : L2.St} {H : Hp} {s : Shared}
mutual
theorem nq_is (I : Inv X pins σ H s) : ∀ (k : NestedKey) {v : V} {u : Value}, NqV H v k → RelV v u → NestedIs s.heap k u
  | .none, _, _, h, _ => by cases h
  | .num i, _, _, h, r => by
    cases h with
    | num i =>
      obtain ⟨t, rfl⟩ := r
      exact .int i t
    | bool b =>
      have e : _ = Value.bool b := r
      subst e
      exact .bool rfl
  | .text x, _, _, h, r => by
    cases h
    obtain ⟨t, rfl⟩ := r
    exact .text x t
  | .tup ks, _, _, h, r => by
    cases h with
    | tup h1 h2 =>
      cases r
      obtain ⟨_, its, rv, o, ho, hc, n, hd⟩ := (show ObjOk X.prog X.w H s.heap _ (.tup _) from I.hok _ _ h1)
      exact .tup ho hc hd (by simpa using nqs_are I ks h2 rv)
theorem nqs_are (I : Inv X pins σ H s) : ∀ (ks : List NestedKey) {vs : List V} {us : List Value}, NqVs H vs ks → Vals vs us → NestedAll s.heap ks us
  | [], _, _, h, r => by
    cases h
    cases r
    exact .nil
  | k :: ks, _, _, h, r => by
    cases h with
    | cons h1 h2 =>
      cases r with
      | cons r1 r2 => exact .cons (nq_is I k h1 r1) (nqs_are I ks h2 r2)
end
end
/-- a key, where its tuple stands, its value -/
abbrev VRow := NestedKey × Addr × V
def VRows (L : List VRow) (xs : List (NestedKey × Addr × Value)) : Prop := Paired (fun (p : VRow) x => p.1 = x.1 ∧ p.2.1 = x.2.1 ∧ RelV p.2.2 x.2.2) L xs
def VHeld (P : Program) (w : World) (a : Addr) (L : List VRow) (h : Heap) : Prop := ∃ (xs : List (NestedKey × Addr × Value)) (o : Obj) (es : Array DictEntry) (ep : Nat), h.get? a = some o ∧ o.ExactDict ∧ o.data = .dict es ep ∧ es.toList = xs.map (entryOfKey (nestedKind P w)) ∧ (xs.map (·.1)).Nodup ∧ VRows L xs ∧ (a == sysModules) = false ∧ L.length ≤ 1000
def VDict (P : Program) (w : World) (a : Addr) (L : List VRow) : HO := .ext (VHeld P w a L)
theorem vdict_ok {P : Program} {w : World} {H : Hp} {h : Heap} {a : Addr} {L : List VRow} (x : VHeld P w a L h) : ObjOk P w H h a (VDict P w a L) := by
  refine ⟨x, ?_, fun h1 h2 y k => ?_⟩
  · obtain ⟨_, o, _, _, ho, _⟩ := x
    exact ⟨o, ho⟩
  · obtain ⟨xs, o, es, ep, ho, r⟩ := y
    exact ⟨xs, o, es, ep, k o ho, r⟩
/-- the keys' tuples stand -/
def VKeys (H : Hp) (L : List VRow) : Prop := ∀ p ∈ L, NqV H (.ref p.2.1) p.1 ∧ p.1.depth ≤ 8
theorem VKeys.to {H H' : Hp} {L : List VRow} (s : ∀ a xs, H a = some (.tup xs) → H' a = some (.tup xs)) (k : VKeys H L) : VKeys H' L := fun p m => ⟨(k p m).1.to s, (k p m).2⟩
theorem VKeys.snoc {H : Hp} {L : List VRow} {k : NestedKey} {b : Addr} {v : V} (h : VKeys H L) (hk : NqV H (.ref b) k) (hd : k.depth ≤ 8) : VKeys H (L ++ [(k, b, v)]) := fun p m => by
  rcases List.mem_append.mp m with m | m
  · exact h p m
  · rw [List.mem_singleton.mp m]
    exact ⟨hk, hd⟩
def valW (L : List VRow) (k : NestedKey) : Option V := (L.find? fun p => decide (p.1 = k)).map (·.2.2)
theorem valW_none {L : List VRow} {k : NestedKey} : valW L k = none ↔ k ∉ L.map (·.1) := by
  unfold valW
  rw [Option.map_eq_none_iff, List.find?_eq_none]
  constructor
  · intro h m
    obtain ⟨p, hp, e⟩ := List.mem_map.mp m
    exact h p hp (decide_eq_true e)
  · intro h p hp e
    exact h (List.mem_map.mpr ⟨p, hp, of_decide_eq_true e⟩)
theorem valW_some {L : List VRow} {k : NestedKey} {v : V} (h : valW L k = some v) : ∃ b, (k, b, v) ∈ L := by
  unfold valW at h
  obtain ⟨p, hp, e⟩ := Option.map_eq_some_iff.mp h
  have h1 := List.mem_of_find?_eq_some hp
  have h2 : p.1 = k := of_decide_eq_true (by simpa using List.find?_some hp)
  exact ⟨p.2.1, by rw [← h2, ← e]; exact h1⟩
theorem valW_mem {L : List VRow} (nd : (L.map (·.1)).Nodup) {k : NestedKey} {b : Addr} {v : V} (h : (k, b, v) ∈ L) : valW L k = some v := by
  induction L with
  | nil => cases h
  | cons p L ih =>
    rw [List.map_cons, List.nodup_cons] at nd
    unfold valW
    rw [List.find?_cons]
    by_cases e : p.1 = k
    · rw [decide_eq_true e]
      rcases List.mem_cons.mp h with rfl | m
      · rfl
      · exact absurd (List.mem_map.mpr ⟨_, m, rfl⟩) (by rw [e] at nd; exact nd.1)
    · rw [decide_eq_false e]
      rcases List.mem_cons.mp h with rfl | m
      · exact absurd rfl e
      · exact ih nd.2 m
theorem valW_is {L : List VRow} {k : NestedKey} : (valW L k).isSome = decide (k ∈ L.map (·.1)) := by
  cases e : valW L k with
  | none => exact (decide_eq_false (valW_none.mp e)).symm
  | some v =>
    obtain ⟨b, m⟩ := valW_some e
    exact (decide_eq_true (List.mem_map.mpr ⟨_, m, rfl⟩)).symm
theorem rows_atV {L : List VRow} {xs : List (NestedKey × Addr × Value)} (r : VRows L xs) (k : NestedKey) : (∀ v, valW L k = some v → ∃ b u, atKey xs k = some (b, u) ∧ RelV v u) ∧ (valW L k = none → atKey xs k = none) := by
  unfold VRows at r
  induction r with
  | nil => exact ⟨fun i e => (nomatch (show (none : Option V) = some i from e)), fun _ => rfl⟩
  | @cons p x ps xs h t ih =>
    obtain ⟨h1, h2, h3⟩ := h
    unfold valW atKey at ih ⊢
    rw [List.find?_cons, List.find?_cons, ← h1]
    by_cases e : p.1 = k
    · rw [decide_eq_true e]
      refine ⟨fun i q => ?_, fun q => by cases q⟩
      have q2 : p.2.2 = i := Option.some.inj q
      exact ⟨x.2.1, x.2.2, rfl, by rw [← q2]; exact h3⟩
    · rw [decide_eq_false e]
      exact ih
section
variable {X : Cx} {pins : List (Addr × Obj)} {σ : L2.St} {H : Hp} {s : Shared}
theorem vheld_rd {a : Addr} {L : List VRow} (I : Inv X pins σ H s) (h : VHeld X.prog X.w a L s.heap) (ks : VKeys H L) : ∃ xs, s.heap.DictOfH (nestedKind X.prog X.w) a xs ∧ VRows L xs ∧ (a == sysModules) = false ∧ L.length ≤ 1000 := by
  obtain ⟨xs, o, es, ep, ho, hx, hd, he, hn, r, lo, few⟩ := h
  refine ⟨xs, ⟨o, es, ep, ho, hx, hd, he, fun x hx => ?_, hn⟩, r, lo, few⟩
  have all : ∀ {L : List VRow} {xs : List (NestedKey × Addr × Value)}, VRows L xs → VKeys H L → ∀ x ∈ xs, NestedIs s.heap x.1 (.ref x.2.1) ∧ x.1.depth ≤ 8 := by
    intro L xs r
    unfold VRows at r
    induction r with
    | nil => exact fun _ x m => nomatch m
    | @cons p y ps ys h t ih =>
      intro k x m
      rcases List.mem_cons.mp m with rfl | m
      · obtain ⟨h1, h2, _⟩ := h
        rw [← h1, ← h2]
        have q := k p List.mem_cons_self
        exact ⟨nq_is I _ q.1 rfl, q.2⟩
      · exact ih (fun q mq => k q (List.mem_cons_of_mem _ mq)) x m
  exact all r ks x hx
theorem vdict_rd {a : Addr} {L : List VRow} (I : Inv X pins σ H s) (ha : H a = some (VDict X.prog X.w a L)) (ks : VKeys H L) : ∃ xs, s.heap.DictOfH (nestedKind X.prog X.w) a xs ∧ VRows L xs ∧ (a == sysModules) = false ∧ L.length ≤ 1000 :=
  vheld_rd I (show VHeld X.prog X.w a L s.heap from (I.hok a _ ha).1) ks
theorem vheld_new {P : Program} {w : World} (h : Heap) (big : sysModules < h.objs.size) : VHeld P w h.objs.size [] (h.push { cls := .type "dict", data := .dict #[] }) :=
  ⟨[], _, #[], 0, Heap.get?_push_size _ rfl, ⟨rfl, rfl, rfl⟩, rfl, rfl, List.nodup_nil, .nil, beq_eq_false_iff_ne.mpr (Ne.symm (Nat.ne_of_lt big)), Nat.zero_le _⟩
theorem vheld_put {a b : Addr} {L : List VRow} {k : NestedKey} {v : V} {u : Value} {xs : List (NestedKey × Addr × Value)} {h' : Heap} {P : Program} {w : World} (rr : VRows L xs) (rv : RelV v u) (lo : (a == sysModules) = false) (hn : valW L k = none) (few : L.length < 1000)
    (D2 : h'.DictOfH (nestedKind P w) a (storedH xs k b u)) : VHeld P w a (L ++ [(k, b, v)]) h' := by
  rw [storedH_new ((rows_atV rr k).2 hn)] at D2
  obtain ⟨o2, es, ep, g1, g2, g3, g4, _, g5⟩ := D2
  refine ⟨xs ++ [(k, b, u)], o2, es, ep, g1, g2, g3, g4, g5, ?_, lo, by rw [List.length_append]; exact few⟩
  exact paired_snocV rr ⟨rfl, rfl, rv⟩
end
/-- {}, to be such a dict -/
def tDNewV (P : Program) (w : World) : TE := fun _ H Q => ∀ p, H p = none → Q (.ref p) (upd H p (VDict P w p []))
/-- k in d -/
def rInV (P : Program) (w : World) : R2 := fun x y H Q => ∃ b a k L, x = .ref b ∧ y = .ref a ∧ NqV H (.ref b) k ∧ k.depth ≤ 8 ∧ H a = some (VDict P w a L) ∧ VKeys H L ∧ Q (.bl (valW L k).isSome) H
/-- d[k] -/
def tGetV (P : Program) (w : World) (td ty : TE) : TE := fun σ H Q => td σ H fun x H1 => ty σ H1 fun y H2 => ∃ a b k L v, x = .ref a ∧ y = .ref b ∧ NqV H2 (.ref b) k ∧ k.depth ≤ 8 ∧ H2 a = some (VDict P w a L) ∧ VKeys H2 L ∧ valW L k = some v ∧ Q v H2
/-- d[k] = v, the key being new there -/
def sPutV (P : Program) (w : World) (td ty tv : TE) : TS := fun D σ H => tv σ H fun v H1 => td σ H1 fun x H2 => ty σ H2 fun y H3 => ∃ a b k L, x = .ref a ∧ y = .ref b ∧ NqV H3 (.ref b) k ∧ k.depth ≤ 8 ∧ H3 a = some (VDict P w a L) ∧ VKeys H3 L ∧ valW L k = none ∧ L.length < 1000 ∧
  D.nx σ (upd H3 a (VDict P w a (L ++ [(k, b, v)])))
/-- d.setdefault(k, x) -/
def tSetdV (P : Program) (w : World) (td ty tx : TE) : TE := fun σ H Q => td σ H fun x H1 => ∃ a L0, x = .ref a ∧ H1 a = some (VDict P w a L0) ∧ ty σ H1 fun y H2 => tx σ H2 fun z H3 => ∃ b k L, y = .ref b ∧ NqV H3 (.ref b) k ∧ k.depth ≤ 8 ∧ H3 a = some (VDict P w a L) ∧ VKeys H3 L ∧ L.length < 1000 ∧
  (∀ v, valW L k = some v → Q v H3) ∧ (valW L k = none → Q z (upd H3 a (VDict P w a (L ++ [(k, b, z)]))))
section
variable {X : Cx} {o i e f value : Expr} {pos pos' apos cpos : Pos} {td ty tv tx : TE}
theorem pe_dnewV : PE X (.Dict [] [] pos) (tDNewV X.prog X.w) := ⟨fun pins s σ H Q I h =>
  wpAny_Dict_empty ⟨.ref s.heap.objs.size, _, I.laid (a := s.heap.objs.size) (t' := s.toks) (fun _ _ q => Heap.get?_push_of_some _ q) (Nat.le_refl _)
    (vdict_ok (vheld_new s.heap I.big)), rfl, h _ (I.hok.fresh (Nat.le_refl _))⟩⟩
theorem roomV {X : Cx} (hu : X.A.units + 64 < cLine) : (nestedKind X.prog X.w).room X.A.in1 := (show X.A.in1.units + 8 < cLine by simp only [Around.in1]; omega)
theorem op_inV (hu : X.A.units + 64 < cLine) : OpR X (compareOp .In) (rInV X.prog X.w) := by
  intro pins s σ H x y v u Q I rx ry h
  obtain ⟨b, a, k, L, rfl, rfl, hk, hd, ha, ks, q⟩ := h
  cases (show v = Value.ref b from rx)
  cases (show u = Value.ref a from ry)
  obtain ⟨xs, D, r, lo, few⟩ := vdict_rd I ha ks
  refine wpAny_in_heap (roomV hu) ⟨nq_is I k hk rfl, hd⟩ lo D ⟨.bl (valW L k).isSome, H, I.tok _, ?_, q⟩
  have z := rows_atV r k
  cases e : valW L k with
  | none => rw [z.2 e]; rfl
  | some i =>
    obtain ⟨c, t, q, _⟩ := z.1 i e
    rw [q]
    rfl
theorem pe_getV (hu : X.A.units + 64 < cLine) (ho : PE X o td) (hi : PE X i ty) (hs : NoSl i) : PE X (.Subscript o i pos) (tGetV X.prog X.w td ty) := by
  refine ⟨fun pins s σ H Q I h => ?_⟩
  refine subD_of PySem.F.slot_dict_getitem.lookup hs (thn (ho.run pins s σ H _ I h) fun u s1 ⟨x, H1, I1, rx, q1⟩ => thn (hi.run pins s1 σ H1 _ I1 q1) fun iv s2 ⟨y, H2, I2, ry, a, b, k, L, j, ex, ey, hk, hd, ha, ks, hv, q2⟩ => ?_)
  subst ex ey
  obtain rfl : u = Value.ref a := rx
  obtain rfl : iv = Value.ref b := ry
  obtain ⟨xs, D, r, lo, few⟩ := vdict_rd I2 ha ks
  obtain ⟨c, t, q, rv⟩ := (rows_atV r k).1 j hv
  exact ⟨D.typeIs, wpAny_getItem_heap (roomV hu) ⟨nq_is I2 k hk rfl, hd⟩ D q ⟨j, H2, I2.tok _, rv, q2⟩⟩
theorem ps_putV (hu : X.A.units + 64 < cLine) (ho : PE X o td) (hi : PE X i ty) (hv : PE X value tv) (hs : swapsWith value (some (.Subscript o i pos')) pos.line X.env = pure false) :
    PS X (.Assign [.Subscript o i pos'] value pos) (sPutV X.prog X.w td ty tv) := by
  refine ⟨fun pins s σ H D I h => ?_⟩
  refine wpAny_Assign_Subscript (thn (hv.run pins s σ H _ I h) fun r s1 ⟨v, H1, I1, rv, q1⟩ => thn (ho.run pins s1 σ H1 _ I1 q1) fun u s2 ⟨x, H2, I2, rx, q2⟩ => thn (hi.run pins s2 σ H2 _ I2 q2) fun iv s3 ⟨y, H3, I3, ry, a, b, k, L, ex, ey, hk, hd, ha, ks, hn, few, q3⟩ => ?_) hs
  subst ex ey
  obtain rfl : u = Value.ref a := rx
  obtain rfl : iv = Value.ref b := ry
  obtain ⟨xs, Dd, rr, lo, _⟩ := vdict_rd I3 ha ks
  have lx : L.length = xs.length := Paired.length rr
  have big := sizeLine_eq
  refine wpAny_setItem_heap (hsz := by omega) (roomV hu) ⟨nq_is I3 k hk rfl, hd⟩ Dd fun h' D2 sb => ?_
  have VH := vheld_put rr rv lo hn few D2
  obtain ⟨_, o2, _, _, g1, _⟩ := id VH
  exact ⟨σ, _, d_write I3 (by rw [ha]; exact True.intro) sb ⟨o2, g1⟩ (vdict_ok VH), q3⟩
theorem pe_setdV (hu : X.A.units + 64 < cLine) (ho : PE X o td) (he : PE X e ty) (hf : PE X f tx) (m : M2 X o "setdefault" apos e f cpos) : PE X (.Call (.Attribute o "setdefault" apos) [e, f] [] cpos) (tSetdV X.prog X.w td ty tx) := by
  refine ⟨fun pins s σ H Q I h => ?_⟩
  refine wpAny_Call_method m.base m.few m.line PySem.F.plainAttrs_dict PySem.F.slot_dict_setdefault PySem.F.type_dict_setdefault (thn (ho.run pins s σ H _ I h) fun u s1 ⟨x, H1, I1, rx, a, L0, ex, d, q1⟩ => ?_)
  subst ex
  obtain rfl : u = Value.ref a := rx
  obtain ⟨_, o1, _, _, ho1, hx1, _⟩ := (show VHeld X.prog X.w a L0 s1.heap from (I1.hok a _ d).1)
  refine ⟨⟨o1, ho1, hx1.1⟩, (fun b z => by cases z; exact ⟨o1, ho1, hx1.2.1⟩), ?_⟩
  rw [m.trees]
  refine Calls.callWith_builtin rfl (Calls.evalArgs_plain (Calls.spliced_cons (thn (he.run pins s1 σ H1 _ I1 q1) fun iv s2 ⟨y, H2, I2, ry, q2⟩ =>
    Calls.spliced_cons (thn (hf.run pins s2 σ H2 _ I2 q2) fun fv s3 ⟨z, H3, I3, rz, b, k, L, ey, hk, hd, ha, ks, few, q3, q4⟩ => Calls.spliced_nil ?_))))
  subst ey
  obtain rfl : iv = Value.ref b := ry
  obtain ⟨xs, Dd, rr, lo, _⟩ := vdict_rd I3 ha ks
  have lx : L.length = xs.length := Paired.length rr
  have big := sizeLine_eq
  refine call_setdefault_heap (hsz := by omega) (roomV hu) ⟨nq_is I3 k hk rfl, hd⟩ lo Dd (fun p hp => ?_) fun hn h' D2 sb => ?_
  · cases ev : valW L k with
    | none => rw [(rows_atV rr k).2 ev] at hp; cases hp
    | some v =>
      obtain ⟨c, t, q, rv⟩ := (rows_atV rr k).1 v ev
      rw [q] at hp
      cases hp
      exact ⟨v, H3, I3.tok _, rv, q3 v ev⟩
  · have ev : valW L k = none := by
      cases ev : valW L k with
      | none => rfl
      | some v =>
        obtain ⟨c, t, q, rv⟩ := (rows_atV rr k).1 v ev
        rw [q] at hn
        cases hn
    have VH := vheld_put rr rz lo ev few D2
    obtain ⟨_, o2, _, _, g1, _⟩ := id VH
    exact ⟨z, _, d_write I3 (by rw [ha]; exact True.intro) sb ⟨o2, g1⟩ (vdict_ok VH), rz, q4 ev⟩
end
/-! ### its values, walked -/
section
variable {X : Cx} {pins : List (Addr × Obj)} {σ : L2.St} {H : Hp} {s : Shared} {d : Addr} {o : Obj}
theorem frz_valsV {P : Program} {w : World} {kvs : List VRow} (I : Inv X pins σ H s) (h : H d = some (.frz o (VDict P w d kvs))) :
    s.heap.get? d = some o ∧ o.ExactDict ∧ (d == sysModules) = false ∧ ∃ (es : Array DictEntry) (ep : Nat), o.data = .dict es ep ∧ es.size = kvs.length ∧ ∀ (i : Nat) (p : VRow), kvs[i]? = some p → ∃ en : DictEntry, es[i]? = some en ∧ RelV p.2.2 en.val := by
  obtain ⟨hd, hv, _⟩ := I.hok d _ h
  obtain ⟨xs, o', es, ep, ho, hx, hdt, he, _, pr, lo, _⟩ := (show VHeld P w d kvs s.heap from hv)
  rw [hd] at ho
  cases ho
  refine ⟨hd, hx, lo, es, ep, hdt, ?_, fun i p e => ?_⟩
  · have l1 : es.size = xs.length := size_of_entries he
    have l2 : kvs.length = xs.length := Paired.length pr
    omega
  · obtain ⟨b, hb, _, _, e3⟩ := paired_get pr e
    have q := entry_at he i
    rw [hb] at q
    exact ⟨_, q, e3⟩
end
/-- the values, in their order -/
def ItdV (P : Program) (w : World) (d : Addr) (o : Obj) (kvs : List VRow) : It :=
  ⟨fun i H => H d = some (.frz o (VDict P w d kvs)) ∧ i < kvs.length, fun i H x H' => H' = H ∧ ∃ p, kvs[i]? = some p ∧ x = p.2.2, fun i H => H d = some (.frz o (VDict P w d kvs)) ∧ kvs.length = i⟩
theorem turn_valsV {P : Program} {w : World} {K : Frag} {tg : Expr} {d : Addr} {o : Obj} {es : Array DictEntry} {ep : Nat} {kvs : List VRow} (it : Addr) (ni : d ≠ it) (hod : o.data = .dict es ep) (hz : es.size = kvs.length) :
    Turn P w K tg (ItdV P w d o kvs) [it] it (fun i h => h.IsValIter it d i es.size ep) where
  mem := by simp
  obj := fun i h st b hb => by
    have e : b = it := by simpa using hb
    subst e
    obtain ⟨oi, e, _, dd⟩ := st
    exact ⟨oi, e, fun v z => by rw [dd] at z; cases z⟩
  keep := fun i h h' st k => st.at fun oi e => k it (by simp) oi e
  item := by
    intro X hP hw hK hc i pins s σ H E I hf st hg
    subst hP hw hK
    obtain ⟨hd, hi⟩ := hg
    obtain ⟨f0, f1, f2, f3, f4, f5⟩ := hf it (by simp)
    obtain ⟨hgd, hx, lo, es', ep', hdt, hsz, ent⟩ := frz_valsV I hd
    obtain ⟨rfl, rfl⟩ := dict_ep hod hdt
    obtain ⟨p, hkv⟩ : ∃ p, kvs[i]? = some p := ⟨kvs[i], List.getElem?_eq_getElem hi⟩
    obtain ⟨en, hen, rv⟩ := ent i p hkv
    have W := Walks.rawValues (prog := X.prog) (w := X.w) (I.ok.hd hc) it d ni es' ep'
    refine W.item i s _ _ (by omega) ⟨st, o, hgd, hx, hdt⟩ fun u h' tk hu st' kk => ?_
    obtain ⟨lt, rfl⟩ := hu
    have eu : en = es'[i] := by
      rw [Array.getElem?_eq_getElem lt] at hen
      exact (Option.some.inj hen).symm
    subst eu
    have I1 : Inv X pins σ H { s with heap := h', toks := tk } := I.turned (fun b o hb e => kk b o (by simpa using hb) e) f0 f1 f3 f4 f5
    obtain ⟨oi, e, c, dd⟩ := id st'.1
    exact ⟨_, rfl, go_of (s := { s with heap := h', toks := tk }) e c dd (by decide) ⟨p.2.2, H, I1, rv, ⟨rfl, p, hkv, rfl⟩, st'.1, fun b hb => (hf b hb).1⟩⟩
  done := by
    intro X hP hw hK hc i pins s σ H E I hf st hg
    subst hP hw hK
    obtain ⟨hd, hi⟩ := hg
    obtain ⟨f0, f1, f2, f3, f4, f5⟩ := hf it (by simp)
    obtain ⟨hgd, hx, lo, es', ep', hdt, hsz, ent⟩ := frz_valsV I hd
    obtain ⟨rfl, rfl⟩ := dict_ep hod hdt
    have W := Walks.rawValues (prog := X.prog) (w := X.w) (I.ok.hd hc) it d ni es' ep'
    have e : i = es'.size := by omega
    subst e
    exact W.done s _ _ ⟨st, o, hgd, hx, hdt⟩ fun h' tk eb => ⟨rfl, I.turned (fun b o hb q => eb b o (by simpa using hb) q) f0 f1 f3 f4 f5⟩
  self := fun A i s Q E st h => wpAny_pyIter_valiter st h
/-- the dict is locked (tLock, or by the caller) -/
def iValsV (P : Program) (w : World) (td : TE) : TI := fun σ H R => td σ H fun x H1 => ∃ d o kvs, x = .ref d ∧ H1 d = some (.frz o (VDict P w d kvs)) ∧ R (ItdV P w d o kvs) H1
theorem walk_valsV {P : Program} {w : World} {d : Addr} {o : Obj} {kvs : List VRow} : Walk (ItdV P w d o kvs) kvs.length (fun H => H d = some (.frz o (VDict P w d kvs))) (fun i H x H' => H' = H ∧ ∃ p, kvs[i]? = some p ∧ x = p.2.2) :=
  ⟨fun _ _ hi q => ⟨q, hi⟩, fun _ q => ⟨q, rfl⟩, fun _ _ _ _ _ _ y => y⟩
section
variable {X : Cx} {tg e : Expr} {td : TE} {apos cpos : Pos}
theorem pi_valuesV (he : PE X e td) (hbase : attributeBase e "values" X.env (eval e X.env) = eval e X.env := by rfl) (hline : (apos.endLine == cpos.line) = true := by rfl) : PI X tg (.Call (.Attribute e "values" apos) [] [] cpos) (iValsV X.prog X.w td) := by
  refine ⟨fun pins s σ H R I h => ?_⟩
  refine wpAny_Call_method (T := "dict") (id := "dict.values") hbase rfl hline F.plainAttrs_dict F.slot_dict_values F.type_dict_values (thn (he.run pins s σ H _ I h) fun u s1 ⟨x, H1, I1, rx, d, o, kvs, ex, hd, q⟩ => ?_)
  subst ex
  obtain rfl : u = Value.ref d := rx
  obtain ⟨hgd, hx, lo, es, ep, hdt, hsz, ent⟩ := frz_valsV I1 hd
  have raw : s1.heap.DictRaw d es ep := ⟨o, hgd, hx, hdt⟩
  have ty : s1.TypeIs (.ref d) "dict" := ⟨o, hgd, hx.1⟩
  refine ⟨ty, (fun b z => by cases z; exact ⟨o, hgd, hx.2.1⟩), ?_⟩
  have I2 : Inv X pins σ H1 { s1 with heap := s1.heap.push { cls := .type "dict_values", data := .fields #[.ref d] } } := I1.kept (t' := s1.toks) fun b ob z => Heap.get?_push_of_some _ z
  have lt : d < s1.heap.objs.size := Heap.lt_size hgd
  have fin : wpAny (model X.prog X.w) X.A (pyIter (.ref s1.heap.objs.size)) (PIE X pins σ tg R) X.xe { s1 with heap := s1.heap.push { cls := .type "dict_values", data := .fields #[.ref d] } } := by
    refine wpAny_pyIter_values_raw (d := d) ⟨_, Heap.get?_push_size _ rfl, rfl, rfl⟩ (raw.push _) (pi_one (tk := s1.toks) I2 _ (turn_valsV _ (Nat.ne_of_lt (by show d < (s1.heap.push _).objs.size; rw [Heap.size_push]; exact Nat.lt_succ_of_lt lt)) hdt hsz) ⟨_, Heap.get?_push_size _ rfl, rfl, rfl⟩ q)
  show wpAny _ _ (callWith cpos (.builtin "dict.values") [.ref d] [] []) _ X.xe s1
  exact method_meetsIn F.slot_dict_values F.entry_dict_values rfl (PySem.evalArgs_none ⟨rfl, ty, F.args_dict_values_1 _, _, meets_dict_values_raw d lo, ⟨es, ep, raw⟩, fin⟩)
end
end Kd

-- ===== KN2 =====
set_option Elab.async false
set_option linter.all false
set_option maxRecDepth 100000
set_option maxHeartbeats 4000000
namespace Kd
open PySem L2 PyProof.Rows PySem.Spec PySem.W
section
variable {X : Cx} {CX : CXT} {k : Nat} {f : Addr} {fd : FuncData} {ps ks : List Str} {sp : Sp} {x : Str} {p pos : Pos} {tk : TA} {E : XK} {kws : List Keyword} {g : List Value → List Value → List Value} {gV : List V → List V → List V}
/-- f(k = v, ..), nothing by position -/
theorem pe_callK0 (F : FnOk X.prog X.w X.K X.mg X.base CX k f fd ps sp) (hr : Room k X.A) (hg : Gl X x) (hm : X.mg x = some (.ref f)) (hk : PySem.W.keepIn X.K (.ref f) = true) (hb : KBinds X.K fd ps ks g gV) (hx : Passes CX X E)
    (hkw : PK X kws tk) (hall : (backToKw pos (keywordEach kws X.env)).all (·.1.isSome) = true := by rfl) (hks : (backToKw pos (keywordEach kws X.env)).filterMap (·.1) = ks := by rfl)
    (hdb : (x == ("__debug__" : Str)) = false := by decide)
    (hpl : ((backTo pos (starEach [] X.env)).any (·.1) || (backToKw pos (keywordEach kws X.env)).any (·.1.isNone)) = false := by rfl) :
    PE X (.Call (.Name x p) [] kws pos) (tCallK sp gV E tNil tk) := by
  refine ⟨fun pins s σ H Q I h => ?_⟩
  refine wpAny_Call_Name_kw (ld_glob I hg hm ?_ hdb)
  refine PySem.W.callWith_KW0 (h₀ := X.base) I.ok.mod.kin hk hall (thn (hkw.run pos pins s σ H _ I h) fun ws s2 ⟨zs, H2, I2, rz, q2⟩ => ⟨I2.kIn, ?_⟩) hpl
  rw [hks]
  exact run_fnk F hr hb hx I2 (us := []) (vs := []) .nil rz q2
end
section
variable {X : Cx}
/-- x in t, t a tuple of data -/
def rInDT (K : PySem.W.Frag) : R2 := fun x y H Q => ∃ d ds, Dp K H x d ∧ Dp K H y (.tuple ds) ∧ SeqAt.shaped d = true ∧ SeqAt.shaped (.tuple ds) = true ∧ Q (.bl (ds.any fun z => PyData.eqv z d)) H
theorem op_inDT (hu : X.A.units + 65 < cLine) : OpR X (compareOp .In) (rInDT X.K) := by
  intro pins s σ H x y v u Q I rx ry h
  obtain ⟨d, ds, hd, he, sd, se, q⟩ := h
  obtain ⟨as, r1⟩ := Dp.reads I d x v hd rx
  obtain ⟨bs, r2⟩ := Dp.reads I (.tuple ds) y u he ry
  exact SeqAt.in_tuple_reads r2 r1 (SeqAt.canLay_of_shaped se) (SeqAt.canLay_of_shaped sd) (room_in_shaped sd hu) ⟨.bl _, H, I, rfl, q⟩
/-- a list times an int; the new list is none of the model's own -/
def rRepL : R2 := fun x y H Q => ∃ l k xs, x = .ref l ∧ y = .int k ∧ H l = some (.lst xs) ∧ -(2 ^ 63) ≤ k ∧ k < 2 ^ 63 ∧ xs.length * k.toNat ≤ sizeLine ∧
  ∀ p, H p = none → sysModules < p → Q (.ref p) (upd H p (.lst (List.replicate k.toNat xs).flatten))
theorem op_repL : OpR X (binaryOp .Mult) rRepL := by
  intro pins s σ H x y v u Q I rx ry h
  obtain ⟨l, k, xs, rfl, rfl, hH, h1, h2, hz, q⟩ := h
  cases rx
  obtain ⟨t, rfl⟩ := ry
  obtain ⟨z, its, n, r, hl, e⟩ := I.lstM hH
  have hlen : its.toArray.size * k.toNat ≤ sizeLine := by rw [List.size_toArray, ← hl]; exact hz
  have hcap : ¬ its.toArray.size * k.toNat > (2 ^ 63 - 1) / 8 := by
    have : (sizeLine : Nat) ≤ (2 ^ 63 - 1) / 8 := by decide
    omega
  have hfit : ¬ (!Builtin.List.listFitsIndex k) = true := by
    rw [fitsIndex_both h1 h2]
    exact Bool.false_ne_true
  have hlong : ¬ Builtin.List.listTooLong (its.toArray.size * k.toNat) = true := by
    rw [notLongL hlen]
    exact Bool.false_ne_true
  have hnew : List.foldl (fun x1 x2 => x1 ++ x2) #[] (List.replicate (if its.toArray.isEmpty = true then 0 else k.toNat) its.toArray) = (List.replicate k.toNat its).flatten.toArray := by
    have f0 : ∀ m : Nat, List.foldl (fun x1 x2 => x1 ++ x2) #[] (List.replicate m its.toArray) = (List.replicate m its).flatten.toArray := fun m => by
      have := foldl_rep its m []
      rw [List.nil_append] at this
      exact this
    rw [f0]
    cases its with
    | nil => simp
    | cons a r' => rw [if_neg (by simp)]
  refine wpAny_binaryOp_repeat_ref (T := "list") (U := "int") (by decide) ⟨_, e, rfl⟩ (fun s' => typeIs_int s' k t) noFill_list_mul F.fills_int_mul F.slot_int_rmul repeat_list F.slot_int_index.lookup
    (call_meets F.slot_int_rmul (typeIs_int s k t) F.entry_int_rmul (F.args_int_rmul_2 _ _) (int___rmul___int_list k t l its.toArray n)
      ⟨e, rfl, ⟨_, e, rfl⟩, call_meets F.slot_list_mul ⟨_, e, rfl⟩ F.entry_list_mul (F.args_list_mul_2 _ _) (AutoListH.list___mul___list_int_3 l its.toArray n k t hfit hcap hlong) ⟨e, ?_⟩⟩)
  rw [hnew]
  exact ⟨.ref _, _, I.lnew (t' := s.toks) (r.rep k.toNat) (by rw [PyProof.Rows.lm_len_rep_flat, Nat.mul_comm]; exact hz), rfl, q _ I.fresh I.big⟩
end
/-- what is read off stands -/
theorem reads_in {h : Heap} {v : Value} {d : PyData} {as : List Addr} (r : Reads h v d as) : ∀ a ∈ as, ∃ o, h.get? a = some o :=
  Reads.rec (motive_1 := fun _ _ as _ => ∀ a ∈ as, ∃ o, h.get? a = some o) (motive_2 := fun _ _ as _ => ∀ a ∈ as, ∃ o, h.get? a = some o)
    (fun a m => nomatch m) (fun _ a m => nomatch m) (fun _ _ a m => nomatch m) (fun _ _ a m => nomatch m)
    (fun ho _ _ _ ih a m => by
      rcases List.mem_cons.mp m with e | m
      · exact ⟨_, by rw [e]; exact ho⟩
      · exact ih a m)
    (fun _ _ _ _ ih a m => ih a m)
    (fun ho _ _ _ _ ih1 ih2 a m => by
      rcases List.mem_append.mp m with m | m
      · rcases List.mem_cons.mp m with e | m
        · exact ⟨_, by rw [e]; exact ho⟩
        · exact ih1 a m
      · exact ih2 a m)
    (fun a m => nomatch m)
    (fun _ _ ih1 ih2 a m => by
      rcases List.mem_append.mp m with m | m
      · exact ih1 a m
      · exact ih2 a m) r
/-! ### sorted(xs), xs a list or a tuple of data -/
/-- items told with the data that they are -/
def DpRows {β : Type} (enc : β → PyData) (K : PySem.W.Frag) (H : Hp) (L : List (Addr × β)) : Prop := ∀ q ∈ L, Dp K H (.ref q.1) (enc q.2)
def rSortX {β : Type} (enc : β → PyData) (K : PySem.W.Frag) : List V → Hp → VK → Prop := fun vs H Q => ∃ (a : Addr) (L : List (Addr × β)), vs = [V.ref a] ∧ (SqL K H a (L.map fun q => V.ref q.1) ∨ SqT K H a (L.map fun q => V.ref q.1)) ∧ DpRows enc K H L ∧ AllAlike (L.map fun q => enc q.2) ∧ Sortable (L.map fun q => enc q.2) ∧ (∀ q ∈ L, (enc q.2).depth ≤ 60) ∧ L.length ≤ 100000 ∧
  ∀ p, H p = none → Q (.ref p) (upd H p (.lst ((L.mergeSort (dataLe false fun q => enc q.2)).map fun q => V.ref q.1)))
section
variable {X : Cx} {β : Type} {enc : β → PyData}
theorem refs_of : ∀ {L : List (Addr × β)} {us : List Value}, Vals (L.map fun q => V.ref q.1) us → us = L.map fun q => Value.ref q.1
  | [], _, .nil => rfl
  | q :: ks, _, .cons r t => by
    cases r
    rw [refs_of t]
    rfl
theorem refs_are : ∀ (L : List (Addr × β)), Vals (L.map fun q => V.ref q.1) (L.map fun q => Value.ref q.1)
  | [] => .nil
  | q :: ks => .cons rfl (refs_are ks)
theorem cr_sortX (hu : X.A.units + 80 < cLine) : CallR X (.builtin "sorted") (rSortX enc X.K) := by
  intro pins s σ H vs us Q I r h
  obtain ⟨a, L, rfl, hl, hk, al, so, dp, sz, q⟩ := h
  rw [Vals.ref1 r]
  have big := sizeLine_eq
  have each : ∀ (R : Value → Addr × β → Prop) (M : List (Addr × β)), (∀ q ∈ M, R (.ref q.1) q) → EachIs R (M.map fun q => Value.ref q.1) M := by
    intro R M
    induction M with
    | nil => exact fun _ => .nil
    | cons x M ih => exact fun g => .cons (g x List.mem_cons_self) (ih fun y m => g y (List.mem_cons_of_mem _ m))
  have eout : ∀ {o : List Value} {M : List (Addr × β)}, EachIs (fun v q => v = Value.ref q.1) o M → o = M.map fun q => Value.ref q.1 := by
    intro o M z
    induction z with
    | nil => rfl
    | cons e _ ih => rw [e, ih]; rfl
  have rd : ∀ q ∈ L, ∃ as, Reads s.heap (.ref q.1) (enc q.2) as := fun q m => Dp.reads I (enc q.2) (.ref q.1) (.ref q.1) (hk q m) rfl
  have lz : ((L.mergeSort (dataLe false fun q => enc q.2)).map fun q => V.ref q.1).length ≤ sizeLine := by
    rw [List.length_map, List.length_mergeSort]
    omega
  rcases hl with hl | hl
  · obtain ⟨its, rv, il, _⟩ := I.list hl
    have ei := refs_of rv
    subst ei
    refine sorted_data (R := fun v q => v = Value.ref q.1) (enc := fun q : Addr × β => enc q.2) (bs := L) il.isList (each _ L fun q _ => rfl) (each _ L rd) al so (by omega) (fun b m => by have z := dp b m; omega) fun out lo eo => ?_
    have eo' := eout eo
    subst eo'
    obtain ⟨ep, he⟩ := PyProof.Rows.sortedAll_at s.heap (L.map fun q => Value.ref q.1) (((L.mergeSort (dataLe false fun q => enc q.2)).map fun q => Value.ref q.1).toArray)
    exact ⟨.ref _, upd H (s.heap.objs.size + 1) (.lst ((L.mergeSort (dataLe false fun q => enc q.2)).map fun q => V.ref q.1)), I.laid (t' := s.toks) (fun _ _ => PyProof.Rows.sortedAll_old) (Nat.le_succ _) ⟨lz, _, ep, refs_are _, he⟩, rfl, q _ (I.hok.fresh (Nat.le_succ _))⟩
  · obtain ⟨its, rv, ⟨o, ho, hc, n, hd⟩, _⟩ := I.tuple hl
    have ei := refs_of rv
    subst ei
    refine Calls.call_function_entry kind_sorted plain_sorted entry_sorted (args_sorted1 _) ?_
    unfold Builtin.«sorted»
    refine wpAny_bind (m := checkCount "sorted" 1 1 _) (wpAny_pure ?_)
    refine wpAny_bind (wpAny_collect_seq (A := X.A.in1) a (.inr rfl) ho hc hd (hsz := by rw [List.size_toArray, List.length_map]; omega) fun h' hk' => ?_)
    have I1 : Inv X pins σ H { s with heap := h' } := I.kept (t' := s.toks) hk'
    rw [show (L.map fun q => Value.ref q.1).toArray.toList = L.map fun q => Value.ref q.1 by simp]
    refine wpAny_bind (wpAny_newList ?_ (by rw [List.length_map]; omega))
    have oL : (h'.push (seqObj "list" (L.map fun q => Value.ref q.1).toArray 0)).get? h'.objs.size = some (seqObj "list" (L.map fun q => Value.ref q.1).toArray 0) := Heap.get?_push_size _ rfl
    have al' : ∀ q ∈ L, ∃ as, Reads (h'.push (seqObj "list" (L.map fun q => Value.ref q.1).toArray 0)) (.ref q.1) (enc q.2) as ∧ h'.objs.size ∉ as := fun q m => by
      obtain ⟨as, r1⟩ := Dp.reads I1 (enc q.2) (.ref q.1) (.ref q.1) (hk q m) rfl
      refine ⟨as, PyProof.Rows.Reads.keeps (fun b u e => Heap.get?_push_of_some _ e) r1, fun z => ?_⟩
      obtain ⟨o2, e2⟩ := reads_in r1 _ z
      exact absurd (Heap.lt_size e2) (Nat.lt_irrefl _)
    refine wpAny_bind (wpAny_holding (list_sort_data (s := { s with heap := h'.push (seqObj "list" (L.map fun q => Value.ref q.1).toArray 0) }) (R := fun v q => v = Value.ref q.1) (enc := fun q : Addr × β => enc q.2) (bs := L) oL (each _ L fun q _ => rfl)
      (each _ L al') al so (by omega) (fun b m => by have z := dp b m; have y : X.A.in1.units ≤ X.A.units + 1 := (by simp only [Around.in1]; omega); omega) fun out lo eo => ?_))
    have eo' := eout eo
    subst eo'
    obtain ⟨c, hc2⟩ := sortedHeap_at (vs := L.map fun q => Value.ref q.1) (out := (List.toArray ((L.mergeSort (dataLe false fun q => enc q.2)).map fun q => Value.ref q.1))) oL
    have kp2 : ∀ b u, h'.get? b = some u → (sortedHeap (h'.push (seqObj "list" (L.map fun q => Value.ref q.1).toArray 0)) h'.objs.size (L.map fun q => Value.ref q.1) (List.toArray ((L.mergeSort (dataLe false fun q => enc q.2)).map fun q => Value.ref q.1))).get? b = some u := fun b u z => by
      have lt := Heap.lt_size z
      rw [sortedHeap_old (Nat.ne_of_lt lt) (by rw [size_push']; exact Nat.lt_succ_of_lt lt)]
      exact Heap.get?_push_of_some _ z
    refine wpAny_pure ⟨_, rfl, ?_⟩
    exact ⟨.ref h'.objs.size, upd H h'.objs.size (.lst ((L.mergeSort (dataLe false fun q => enc q.2)).map fun q => V.ref q.1)), I1.laid (t' := s.toks) kp2 (Nat.le_refl _) ⟨lz, _, c, refs_are _, hc2⟩, rfl, q _ (I1.hok.fresh (Nat.le_refl _))⟩
/-- what is sorted, without the places -/
theorem sort_snd (L : List (Addr × β)) : (L.mergeSort (dataLe false fun q => enc q.2)).map Prod.snd = (L.map Prod.snd).mergeSort (dataLe false enc) := List.map_mergeSort fun _ _ _ _ => rfl
end
/-! ### {k: v for ..}, the keys nested tuples, each new -/
/-- in each block of a comprehension -/
abbrev BlksV (X : Cx) (scope : Scope) (p : Cx → Prop) : Prop := ∀ (s : Shared) (H : Hp) (C : Addr) (cl : List (PySem.Str × Addr)) (fp : List Addr), p (X.blk s H scope (compEnvC scope cl C X.env) fp)
section
variable {X : Cx} {pins : List (Addr × Obj)} {σ : L2.St} {H : Hp} {s : Shared}
theorem put_okV {E : Value → Shared → Prop} {D b : Addr} {L : List VRow} {k : NestedKey} {v : V} {r : Value} {Q : Unit → Shared → Prop} (hu : X.A.units + 64 < cLine) (I : Inv X pins σ H s) (hD : H D = some (VDict X.prog X.w D L)) (ks : VKeys H L) (hb : NqV H (.ref b) k) (hd : k.depth ≤ 8) (hn : valW L k = none) (few : L.length < 1000) (rv : RelV v r)
    (h : ∀ s', Inv X pins σ (upd H D (VDict X.prog X.w D (L ++ [(k, b, v)]))) s' → Q () s') : wpAny (model X.prog X.w) X.A (dictSet D (.ref b) r) Q E s := by
  obtain ⟨xs, Dd, rr, lo, _⟩ := vdict_rd I hD ks
  have lx : L.length = xs.length := Paired.length rr
  have big := sizeLine_eq
  refine wpAny_dictSet_heap (knd := nestedKind X.prog X.w) (hsz := by omega) (show X.A.units + 8 < cLine by omega) ⟨nq_is I k hb rfl, hd⟩ Dd fun h' D2 sb => h _ ?_
  have VH := vheld_put rr rv lo hn few D2
  obtain ⟨_, o2, _, _, g1, _⟩ := id VH
  exact d_write I (by rw [hD]; exact True.intro) sb ⟨o2, g1⟩ (vdict_ok VH)
end
section
variable {X : Cx}
/-- {key: val for ta in ia}, the key a nested tuple: D the new dict -/
def tDcV (P : Program) (w : World) (wa : TI) (ga : TG) (tk tv : TE) (vs : List Nat) : TE := fun σ H Q => wa σ H fun J H1 => ∀ D, H1 D = none → ∃ W : Nat → Nat → Hp → Prop, (∃ m, W 0 m (upd H1 D (VDict P w D []))) ∧ ∀ i m H2, W i m H2 →
  (J.stop i H2 ∧ Q (.ref D) H2) ∨ (J.go i H2 ∧ ∃ Nx : Hp → Prop, (∀ H3, Nx H3 → ∃ m', m' < m ∧ W (i + 1) m' H3) ∧ ∀ x H3, J.yld i H2 x H3 → ga x (wipe σ vs) H3 fun σ4 H4 => wipe σ4 vs = wipe σ vs ∧ tk σ4 H4 fun y H5 => tv σ4 H5 fun z H6 =>
    ∃ (L : List VRow) (k : NestedKey) (b : Addr), y = .ref b ∧ NqV H6 (.ref b) k ∧ k.depth ≤ 8 ∧ H6 D = some (VDict P w D L) ∧ VKeys H6 L ∧ valW L k = none ∧ L.length < 1000 ∧ Nx (upd H6 D (VDict P w D (L ++ [(k, b, z)]))))
theorem pe_dcV {kx vx ta ia : Expr} {scope : Scope} {own : List (PySem.Str × Nat)} {pos : Pos} {wa : TI} {ga : TG} {tk tv : TE} (hc : X.calm = true) (hN : X.N.Nodup) (hu : X.A.units + 64 < cLine) (hia : PI X ta ia wa) (ok : BlkOk X.N X.env.scope scope own)
    (hga : BlksV X scope fun Y => PG Y ta ga) (hk : BlksV X scope fun Y => PE Y kx tk) (hv : BlksV X scope fun Y => PE Y vx tv) (pa : ∀ x, foldedSetIterable ia X.env x = pure x := by intro _; rfl) :
    PE X (.DictComp kx vx [⟨ta, ia, [], 0⟩] scope pos) (tDcV X.prog X.w wa ga tk tv (own.map (·.2))) := by
  refine ⟨fun pins s σ H Q I h => ?_⟩
  rw [arm_eval_DictComp]
  have caught : ∀ y ∈ scope.names, y.2 = .free → ∃ c, X.env.cells.lookup y.1 = some c := fun y m e => (ok.free y m e).elim (fun k => I.ok.has _ (.inl k)) (fun k => I.ok.has _ (.inr k))
  refine wpAny_comprehension_free (use := none) rfl pa (closure_ok caught) ok.kind (fun y m e => by rw [ok.uniq y m, e]) (thn (hia.run pins s σ H _ I h) fun xv s1 hx => thn hx fun itv s2 h2 => ?_)
  obtain ⟨it, fp, tn, J, H2, rfl, I2, T, st2, f2, q⟩ := h2
  refine wpAny_newObj_type (newEnv_comp ?_)
  generalize eD : s2.heap.objs.size = D
  have D0 : H2 D = none := I2.hok.fresh (Nat.le_of_eq eD)
  obtain ⟨W, ⟨m0, w0⟩, turn⟩ := q D D0
  generalize e3 : ({ s2 with heap := s2.heap.push { cls := .type "dict", data := .dict #[] } } : Shared) = s3
  have hp3 : s3.heap = s2.heap.push { cls := .type "dict", data := .dict #[] } := by rw [← e3]
  have I3 : Inv X pins σ (upd H2 D (VDict X.prog X.w D [])) s3 := by
    rw [← e3]
    refine I2.laid (t' := s2.toks) (fun b o e => Heap.get?_push_of_some _ e) (Nat.le_of_eq eD) ?_
    rw [← eD]
    exact vdict_ok (vheld_new s2.heap I2.big)
  have low : ∀ b ∈ fp, b < s2.heap.objs.size := fun b m => by
    obtain ⟨o, e, _⟩ := T.obj _ _ st2 b m
    exact Heap.lt_size e
  have f3 : ∀ b ∈ fp, FpOk X pins (upd H2 D (VDict X.prog X.w D [])) b ∧ b < s3.heap.objs.size := fun b m => by
    refine ⟨⟨?_, (f2 b m).2⟩, by rw [hp3, Heap.size_push]; exact Nat.lt_succ_of_lt (low b m)⟩
    rw [upd_ne (by rw [← eD]; exact Nat.ne_of_lt (low b m))]
    exact (f2 b m).1
  have st3 : tn 0 s3.heap := T.keep _ _ _ st2 fun b _ o e => by rw [hp3]; exact Heap.get?_push_of_some _ e
  have I4 := block_start I3 ok hN f3
  have ga4 := hga s3 (upd H2 D (VDict X.prog X.w D [])) s3.heap.objs.size (cellsFrom (s3.heap.objs.size + 1) scope.names (cloFrom X.env.cells scope.names [])) fp
  have k4 := hk s3 (upd H2 D (VDict X.prog X.w D [])) s3.heap.objs.size (cellsFrom (s3.heap.objs.size + 1) scope.names (cloFrom X.env.cells scope.names [])) fp
  have v4 := hv s3 (upd H2 D (VDict X.prog X.w D [])) s3.heap.objs.size (cellsFrom (s3.heap.objs.size + 1) scope.names (cloFrom X.env.cells scope.names [])) fp
  show codeAny _ _ (.compStart (.DictComp kx vx [⟨ta, ia, [], 0⟩] scope pos) 0 (.ref it) (.ref D) (compEnvC scope (cellsFrom (s3.heap.objs.size + 1) scope.names (cloFrom X.env.cells scope.names [])) s3.heap.objs.size X.env)) (compPost (model X.prog X.w) X.A X.xe none _ (.ref D) s3.heap.objs.size) { s3 with heap := pushCells (s3.heap.push { cls := .type "dict", data := .dict #[] }) scope.names }
  have fp0 : ∀ b ∈ fp, (upd H2 D (VDict X.prog X.w D [])) b = none := fun b m => (f3 b m).1.1
  generalize ece : compEnvC scope (cellsFrom (s3.heap.objs.size + 1) scope.names (cloFrom X.env.cells scope.names [])) s3.heap.objs.size X.env = ce at I4 ga4 k4 v4 ⊢
  have loc : ce.locals = s3.heap.objs.size := by subst ece; rfl
  generalize upd H2 D (VDict X.prog X.w D []) = H3 at I3 I4 ga4 k4 v4 w0 fp0 f3
  generalize e4 : ({ s3 with heap := pushCells (s3.heap.push { cls := .type "dict", data := .dict #[] }) scope.names } : Shared) = s4 at I4 ⊢
  have st4 : tn 0 s4.heap := T.keep _ _ _ st3 fun b _ o e => by rw [← e4]; exact pushCells_keeps _ _ _ _ (Heap.get?_push_of_some _ e)
  have still : ∀ {τ : L2.St} {G : Hp} {u : Shared}, Inv (X.blk s3 H3 scope ce fp) [] τ G u → (∀ b ∈ fp, G b = none) → ∀ b ∈ fp, FpOk (X.blk s3 H3 scope ce fp) [] G b := fun {τ G u} Iu no b m =>
    ⟨no b m, (Iu.ok.exf b m).1, Iu.ok.exfs b m, .inl m, fun x c e => (Iu.ok.exf b m).2 x c e, fun p z => absurd (show p ∈ ([] : List (Addr × Obj)) ++ [] from z) (by simp)⟩
  refine codeAny_compStart_dict ?loop (T.self X.A 0 _ _ _ st4 ?loop)
  refine compLoop_anyD (fun n u => ∃ i G, Inv (X.blk s3 H3 scope ce fp) [] (wipe σ (own.map (·.2))) G u ∧ tn i u.heap ∧ (∀ b ∈ fp, G b = none) ∧ W i n G) (fun n s5 hI => ?_) m0 ⟨0, H3, I4, st4, fp0, w0⟩
  obtain ⟨i, H5, I5, st5, no5, w5⟩ := hI
  rcases turn i n H5 w5 with ⟨stop, fin⟩ | ⟨go, Nx, hNx, step⟩
  · refine thnF (T.done (X.blk s3 H3 scope ce fp) rfl rfl rfl hc i [] s5 _ H5 (fun _ _ => False) I5 (still I5 no5) st5 stop) fun r s6 ⟨hr, I6⟩ => ?_
    subst hr
    have I7 : Inv X pins σ H5 s6 := I3.call' (ch := fp) I6.os I6.base I6.hok I6.bare fun b m => ⟨(f3 b m).1.2.2.2.1, (f3 b m).1.2.1, (f3 b m).1.2.2.2.2.1, (f3 b m).1.2.2.2.2.2⟩
    have none5 : H5 s3.heap.objs.size = none := by
      have z : H5 ce.locals = none := I6.free
      rwa [loc] at z
    obtain ⟨m, hn, _⟩ := I6.loc
    have hn : s6.heap.Ns ce.locals m := hn
    rw [loc] at hn
    obtain ⟨g0, g1, g2, g3, g4, g5⟩ := I3.fpOk (Nat.le_refl _) none5
    exact ⟨m, hn, fun h'' sb => ⟨.ref D, H5, I7.turned (t' := s6.toks) (fun b o ne e => (sb.2 b ne).trans e) g0 g1 g3 g4 g5, rfl, fin⟩⟩
  · refine thnF (T.item (X.blk s3 H3 scope ce fp) rfl rfl rfl hc i [] s5 _ H5 (fun _ _ => False) I5 (still I5 no5) st5 go) fun r s6 ⟨u, hr, h6⟩ => ?_
    subst hr
    refine thnF h6 fun _ s7 ⟨x, H7, I7, r7, y7, st7, no7⟩ => ?_
    have I7p := I7.pinned (still I7 no7) (T.obj _ _ st7)
    refine thnF (ga4.run _ s7 _ H7 x u _ I7p r7 (step x H7 y7)) fun _ s8 ⟨σ8, H8, I8, wp8, q8⟩ => ?_
    refine thnF ((pts_nil (X := X.blk s3 H3 scope ce fp)).run _ s8 σ8 H8 (fun b G => b = true ∧ tk σ8 G _) I8 ⟨rfl, q8⟩) fun b s9 ⟨H9, I9, eb, q9⟩ => ?_
    subst eb
    simp only [if_true]
    refine thnF (k4.run _ s9 σ8 H9 _ I9 q9) fun z1 s10 ⟨yk, H10, I10, r10, q10⟩ => ?_
    refine thnF (v4.run _ s10 σ8 H10 _ I10 q10) fun z2 s11 ⟨yv, H11, I11, r11, L, k, b, ek, hb, hdp, hD, hks, hnew, room, nx⟩ => ?_
    subst ek
    cases r10
    refine put_okV (X := X.blk s3 H3 scope ce fp) hu I11 hD hks hb hdp hnew room r11 fun s12 I12 => ?_
    obtain ⟨m', lt, w'⟩ := hNx _ nx
    have pinned : ∀ c ∈ fp, ∀ o, s7.heap.get? c = some o → s12.heap.get? c = some o ∧ (upd H11 D (VDict X.prog X.w D (L ++ [(k, b, yv)]))) c = none := fun c m o e =>
      have z := I12.pin (c, o) (List.mem_append_right _ (List.mem_append_right _ (mem_pinsAt m e)))
      ⟨z.1, z.2.1⟩
    refine ⟨m', lt, i + 1, _, (I12.unpinned (pins := [])).weak (by rw [← wp8, wipe_length]) (fun j v e => by rw [← wp8] at e; exact (wipe_some e).1), T.keep _ _ _ st7 fun b m o e => (pinned b m o e).1, fun b m => ?_, w'⟩
    obtain ⟨o, e, _⟩ := T.obj _ _ st7 b m
    exact (pinned b m o e).2
theorem pe_dcVP {P : Program} {w : World} {kx vx ta ia : Expr} {scope : Scope} {own : List (PySem.Str × Nat)} {pos : Pos} {wa : TI} {ga : TG} {tk tv : TE} (hc : X.calm = true) (hN : X.N.Nodup) (hu : X.A.units + 64 < cLine) (hia : PI X ta ia wa) (ok : BlkOk X.N X.env.scope scope own)
    (hga : BlksV X scope fun Y => PG Y ta ga) (hk : BlksV X scope fun Y => PE Y kx tk) (hv : BlksV X scope fun Y => PE Y vx tv) (hP : X.prog = P := by rfl) (hw : X.w = w := by rfl) (pa : ∀ x, foldedSetIterable ia X.env x = pure x := by intro _; rfl) :
    PE X (.DictComp kx vx [⟨ta, ia, [], 0⟩] scope pos) (tDcV P w wa ga tk tv (own.map (·.2))) := by
  subst hP hw
  exact pe_dcV hc hN hu hia ok hga hk hv pa
end
/-! ### the same, the program and the world by their own letters -/
section
variable {X : Cx} {P : Program} {w : World} {o i e f value tg : Expr} {pos pos' apos cpos : Pos} {td ty tv tx : TE}
theorem pe_dnewVP (hP : X.prog = P := by rfl) (hw : X.w = w := by rfl) : PE X (.Dict [] [] pos) (tDNewV P w) := by
  subst hP hw
  exact pe_dnewV
theorem op_inVP (hu : X.A.units + 64 < cLine) (hP : X.prog = P := by rfl) (hw : X.w = w := by rfl) : OpR X (compareOp .In) (rInV P w) := by
  subst hP hw
  exact op_inV hu
theorem pe_getVP (hu : X.A.units + 64 < cLine) (ho : PE X o td) (hi : PE X i ty) (hs : NoSl i) (hP : X.prog = P := by rfl) (hw : X.w = w := by rfl) : PE X (.Subscript o i pos) (tGetV P w td ty) := by
  subst hP hw
  exact pe_getV hu ho hi hs
theorem ps_putVP (hu : X.A.units + 64 < cLine) (ho : PE X o td) (hi : PE X i ty) (hv : PE X value tv) (hs : swapsWith value (some (.Subscript o i pos')) pos.line X.env = pure false) (hP : X.prog = P := by rfl) (hw : X.w = w := by rfl) :
    PS X (.Assign [.Subscript o i pos'] value pos) (sPutV P w td ty tv) := by
  subst hP hw
  exact ps_putV hu ho hi hv hs
theorem pe_setdVP (hu : X.A.units + 64 < cLine) (ho : PE X o td) (he : PE X e ty) (hf : PE X f tx) (m : M2 X o "setdefault" apos e f cpos) (hP : X.prog = P := by rfl) (hw : X.w = w := by rfl) : PE X (.Call (.Attribute o "setdefault" apos) [e, f] [] cpos) (tSetdV P w td ty tx) := by
  subst hP hw
  exact pe_setdV hu ho he hf m
theorem pi_valuesVP (he : PE X e td) (hP : X.prog = P := by rfl) (hw : X.w = w := by rfl) (hbase : attributeBase e "values" X.env (eval e X.env) = eval e X.env := by rfl) (hline : (apos.endLine == cpos.line) = true := by rfl) : PI X tg (.Call (.Attribute e "values" apos) [] [] cpos) (iValsV P w td) := by
  subst hP hw
  exact pi_valuesV he hbase hline
end
end Kd

-- ===== KN4 =====
set_option Elab.async false
set_option linter.all false
set_option maxRecDepth 100000
set_option maxHeartbeats 4000000
namespace Kd
open PySem L2 PyProof.Rows PySem.Spec PySem.W PySem.P
/-! ### t + u, whatever they hold -/
def rCatA : R2 := fun x y H Q => ∃ a b xs ys, x = .ref a ∧ y = .ref b ∧ H a = some (.tup xs) ∧ H b = some (.tup ys) ∧ xs.length + ys.length ≤ sizeLine ∧ ∀ r H', Same H H' → H' r = some (.tup (xs ++ ys)) → Q (.ref r) H'
theorem op_catA {X : Cx} : OpR X (binaryOp .Add) rCatA := by
  intro pins s σ H x y v u Q I rx ry h
  obtain ⟨a, b, xs, ys, rfl, rfl, ha, hb, hz, q⟩ := h
  cases rx
  cases ry
  obtain ⟨its, r1, p1, _⟩ := I.tuple (SqT.of ha)
  obtain ⟨its2, r2, p2, _⟩ := I.tuple (SqT.of hb)
  by_cases hx : xs = []
  · subst hx
    cases r1
    obtain ⟨⟨cls, dd, data, sl⟩, ho, hc, n, hd⟩ := id p1
    obtain ⟨⟨cls2, dd2, data2, sl2⟩, ho2, hc2, n2, hd2⟩ := id p2
    simp only at hc hd hc2 hd2
    subst hc hd hc2 hd2
    exact concat_meets ⟨_, ho, rfl⟩ ⟨_, ho2, rfl⟩ noFill_tuple_add seq_tuple_add PySem.F.slot_tuple_add PySem.F.entry_tuple_add (PySem.F.args_tuple_add_2 _ _)
      (tuple_addW0 a b _ its2.toArray n n2 dd dd2 sl sl2 (by simp)) ⟨ho, ho2, ⟨.ref b, H, I, rfl, q b H (Same.refl H) hb⟩⟩
  · refine HT.cat_tup p1 p2 (fun z => hx (r1.nil_iff.mp z)) (fun z => ⟨.ref a, H, I, rfl, q a H (Same.refl H) (by rw [r2.nil_iff.mp z, List.append_nil]; exact ha)⟩) (fun z => ?_) (by rw [← r1.length, ← r2.length]; exact hz)
    refine ⟨.ref s.heap.objs.size, _, I.laid (t' := s.toks) (o := .tup (xs ++ ys)) (fun b ob q => Heap.get?_push_of_some _ q) (Nat.le_refl _) ?_, rfl, q _ _ (fun c o e => ?_) upd_same⟩
    · exact ⟨by rw [List.length_append]; exact hz, _, r1.append r2, IsTup.new _ _⟩
    · rw [upd_ne (ne_of_none e (I.hok.fresh (Nat.le_refl _)))]
      exact e
end Kd

-- ===== K5R =====
set_option Elab.async false
set_option linter.all false
set_option maxRecDepth 100000
set_option maxHeartbeats 4000000
namespace My
open PySem L2 PyProof.Rows PySem.Spec Kd TL
/-! ### pairs of states led to by the same events -/
inductive Rp (ss : List (List Stp)) (i0 j0 : Int) : Int → Int → Prop
  | base : Rp ss i0 j0 i0 j0
  | step {i j : Nat} {s t : List Stp} {x y : Stp} : Rp ss i0 j0 (i : Int) (j : Int) → ss[i]? = some s → ss[j]? = some t → x ∈ s → y ∈ t → evOf x = evOf y → Rp ss i0 j0 x.2.2 y.2.2
/-- the first allows what the second does not -/
def Bey (ss : List (List Stp)) (i0 j0 : Int) : Prop := ∃ (i j : Nat) (s t : List Stp) (x : Stp), Rp ss i0 j0 (i : Int) (j : Int) ∧ ss[i]? = some s ∧ ss[j]? = some t ∧ x ∈ s ∧ ∀ y ∈ t, evOf x ≠ evOf y
theorem bey_self {ss : List (List Stp)} (so : KOk ss) {i0 : Int} : ¬ Bey ss i0 i0 := by
  have all : ∀ i j, Rp ss i0 i0 i j → i = j := by
    intro i j r
    induction r with
    | base => rfl
    | @step i j s t x y _ e1 e2 mx my ev ih =>
      have ij : i = j := by omega
      subst ij
      rw [e1] at e2
      cases e2
      have asc := (so.all s (List.mem_of_getElem? e1)).asc
      have key : ∀ l : List Stp, (l.map evOf).Pairwise evLt → x ∈ l → y ∈ l → x = y := by
        intro l
        induction l with
        | nil => intro _ h; cases h
        | cons z l ih2 =>
          intro pw hx hy
          rw [List.map_cons] at pw
          obtain ⟨p1, p2⟩ := List.pairwise_cons.mp pw
          have irr : ∀ u ∈ l, evOf z ≠ evOf u := fun u mu e => by
            have q := p1 _ (List.mem_map.mpr ⟨u, mu, rfl⟩)
            rw [← e] at q
            rcases q with q | ⟨_, q⟩
            · exact absurd q (List.lt_irrefl _)
            · exact absurd q (List.lt_irrefl _)
          rcases List.mem_cons.mp hx with e1 | hx1
          · rcases List.mem_cons.mp hy with e2 | hy1
            · rw [e1, e2]
            · rw [e1] at ev
              exact absurd ev (irr _ hy1)
          · rcases List.mem_cons.mp hy with e2 | hy1
            · rw [e2] at ev
              exact absurd ev.symm (irr _ hx1)
            · exact ih2 p2 hx1 hy1
      rw [key s asc mx my]
  rintro ⟨i, j, s, t, x, r, e1, e2, mx, n⟩
  have ij : i = j := by have := all _ _ r; omega
  subst ij
  rw [e1] at e2
  cases e2
  exact n x mx rfl
abbrev IP := Int × Int
def pK (q : IP) : List L2.Key := [.inl q.1, .inl q.2]
theorem pK_inj {q r : IP} (h : pK q = pK r) : q = r := by
  have h1 := Sum.inl.inj (List.cons.inj h).1
  have h2 := Sum.inl.inj (List.cons.inj (List.cons.inj h).2).1
  exact Prod.ext h1 h2
def PIn (n : Nat) (q : IP) : Prop := (0 ≤ q.1 ∧ q.1 < (n : Int)) ∧ 0 ≤ q.2 ∧ q.2 < (n : Int)
theorem pairs_most {ps : List IP} {n : Nat} (nd : ps.Nodup) (h : ∀ q ∈ ps, PIn n q) : ps.length ≤ n * n := by
  have z := nodup_most ps ((List.range n).flatMap fun (a : Nat) => (List.range n).map fun (b : Nat) => (((a : Int), (b : Int)) : IP)) nd fun q m => by
    obtain ⟨⟨a0, a1⟩, b0, b1⟩ := h q m
    refine List.mem_flatMap.mpr ⟨q.1.toNat, List.mem_range.mpr (by omega), List.mem_map.mpr ⟨q.2.toNat, List.mem_range.mpr (by omega), ?_⟩⟩
    rw [Int.toNat_of_nonneg a0, Int.toNat_of_nonneg b0]
  have len : ((List.range n).flatMap fun (a : Nat) => (List.range n).map fun (b : Nat) => (((a : Int), (b : Int)) : IP)).length = n * n := by
    have gen : ∀ (l : List Nat) (c : Nat), (l.map fun _ => c).sum = l.length * c := by
      intro l c
      induction l with
      | nil => simp
      | cons a l ih =>
        rw [List.map_cons, List.sum_cons, ih, List.length_cons, Nat.succ_mul, Nat.add_comm]
    rw [List.length_flatMap]
    simp only [List.length_map, List.length_range]
    rw [gen, List.length_range]
  rwa [len] at z
/-- what a step behind one pair leads to -/
def Shut (ss : List (List Stp)) (all : List IP) (q : IP) : Prop := ∀ (i j : Nat) (s t : List Stp), q = ((i : Int), (j : Int)) → ss[i]? = some s → ss[j]? = some t → ∀ x ∈ s, ∃ y ∈ t, evOf x = evOf y ∧ ∀ z ∈ t, evOf x = evOf z → ((x.2.2, z.2.2) : IP) ∈ all
theorem Shut.more {ss : List (List Stp)} {all all' : List IP} {q : IP} (h : Shut ss all q) (s : ∀ r ∈ all, r ∈ all') : Shut ss all' q := fun i j s1 t e e1 e2 x mx => by
  obtain ⟨y, my, ev, k⟩ := h i j s1 t e e1 e2 x mx
  exact ⟨y, my, ev, fun z mz ez => s _ (k z mz ez)⟩
theorem no_bey {ss : List (List Stp)} {i0 j0 : Int} {all : List IP} (b : (i0, j0) ∈ all) (sh : ∀ q ∈ all, Shut ss all q) : ¬ Bey ss i0 j0 := by
  have key : ∀ i j, Rp ss i0 j0 i j → ((i, j) : IP) ∈ all := by
    intro i j r
    induction r with
    | base => exact b
    | @step i j s t x y _ e1 e2 mx my ev ih =>
      obtain ⟨_, _, _, k⟩ := sh _ ih i j s t rfl e1 e2 x mx
      exact k y my ev
  rintro ⟨i, j, s, t, x, r, e1, e2, mx, n⟩
  obtain ⟨y, my, ev, _⟩ := sh _ (key _ _ r) i j s t rfl e1 e2 x mx
  exact n y my ev
/-- the tables of a state: what stands under an event -/
theorem mv_val {st : List Stp} (asc : (st.map evOf).Pairwise evLt) (e : Str × Str) : (valV (st.map mvOf) (evK e) = none ∧ ∀ y ∈ st, e ≠ evOf y) ∨ ∃ y ∈ st, e = evOf y ∧ valV (st.map mvOf) (evK e) = some (.int y.2.2) ∧ ∀ z ∈ st, e = evOf z → z = y := by
  induction st with
  | nil => exact .inl ⟨rfl, fun y m => nomatch m⟩
  | cons x st ih =>
    rw [List.map_cons] at asc
    obtain ⟨p1, p2⟩ := List.pairwise_cons.mp asc
    by_cases h : evOf x = e
    · refine .inr ⟨x, List.mem_cons_self, h.symm, ?_, fun z mz ez => ?_⟩
      · unfold valV
        rw [List.map_cons, List.find?_cons_of_pos]
        · rfl
        · exact decide_eq_true (by rw [← h]; rfl)
      · rcases List.mem_cons.mp mz with rfl | mz
        · rfl
        · have q := p1 _ (List.mem_map.mpr ⟨z, mz, rfl⟩)
          rw [h, ez] at q
          rcases q with q | ⟨_, q⟩ <;> exact absurd q (List.lt_irrefl _)
    · have nk : ¬ ((mvOf x).1 = evK e) := fun z => h (evK_inj z)
      have ev : valV ((x :: st).map mvOf) (evK e) = valV (st.map mvOf) (evK e) := by
        unfold valV
        rw [List.map_cons, List.find?_cons_of_neg]
        exact fun z => nk (of_decide_eq_true z)
      rcases ih p2 with ⟨h1, h2⟩ | ⟨y, my, h1, h2, h3⟩
      · refine .inl ⟨by rw [ev]; exact h1, fun y my => ?_⟩
        rcases List.mem_cons.mp my with rfl | my
        · exact fun z => h z.symm
        · exact h2 y my
      · refine .inr ⟨y, List.mem_cons_of_mem _ my, h1, by rw [ev]; exact h2, fun z mz ez => ?_⟩
        rcases List.mem_cons.mp mz with rfl | mz
        · exact absurd ez.symm h
        · exact h3 z mz ez
/-! ### the program's queue -/
structure Fb (ss : List (List Stp)) (i0 j0 : Int) (fs : List IP) (at_ : Nat) : Prop where
  nd : fs.Nodup
  inn : ∀ q ∈ fs, PIn ss.length q
  sub : (i0, j0) ∈ fs
  rch : ∀ q ∈ fs, Rp ss i0 j0 q.1 q.2
  le : at_ ≤ fs.length
  shut : ∀ (k : Nat) (q : IP), k < at_ → fs[k]? = some q → Shut ss fs q
theorem Fb.most {ss : List (List Stp)} {i0 j0 : Int} {fs : List IP} {a : Nat} (F : Fb ss i0 j0 fs a) (so : KOk ss) : fs.length ≤ 1600 := Nat.le_trans (pairs_most F.nd F.inn) (Nat.mul_le_mul so.most so.most)
theorem Fb.done {ss : List (List Stp)} {i0 j0 : Int} {fs : List IP} (F : Fb ss i0 j0 fs fs.length) : ¬ Bey ss i0 j0 := no_bey F.sub fun q m => by
  obtain ⟨k, hk⟩ := List.mem_iff_getElem?.mp m
  exact F.shut k q (List.getElem?_eq_some_iff.mp hk).1 hk
/-- while the steps of the first of a pair are looked through -/
structure Mb (ss : List (List Stp)) (i0 j0 : Int) (fs : List IP) (at_ : Nat) (t : List Stp) (done : List Stp) : Prop where
  nd : fs.Nodup
  inn : ∀ q ∈ fs, PIn ss.length q
  sub : (i0, j0) ∈ fs
  rch : ∀ q ∈ fs, Rp ss i0 j0 q.1 q.2
  lt : at_ < fs.length
  shut : ∀ (k : Nat) (q : IP), k < at_ → fs[k]? = some q → Shut ss fs q
  here : ∀ x ∈ done, ∃ y ∈ t, evOf x = evOf y ∧ ∀ z ∈ t, evOf x = evOf z → ((x.2.2, z.2.2) : IP) ∈ fs
theorem Fb.mid {ss : List (List Stp)} {i0 j0 : Int} {fs : List IP} {a : Nat} {t : List Stp} (F : Fb ss i0 j0 fs a) (lt : a < fs.length) : Mb ss i0 j0 fs a t [] := ⟨F.nd, F.inn, F.sub, F.rch, lt, F.shut, fun x m => nomatch m⟩
theorem Mb.most {ss : List (List Stp)} {i0 j0 : Int} {fs : List IP} {a : Nat} {t d : List Stp} (F : Mb ss i0 j0 fs a t d) (so : KOk ss) : fs.length ≤ 1600 := Nat.le_trans (pairs_most F.nd F.inn) (Nat.mul_le_mul so.most so.most)
theorem Mb.skip {ss : List (List Stp)} {i0 j0 : Int} {fs : List IP} {a : Nat} {t d : List Stp} {x y : Stp} (M : Mb ss i0 j0 fs a t d) (my : y ∈ t) (ev : evOf x = evOf y) (u : ∀ z ∈ t, evOf x = evOf z → z = y) (m : ((x.2.2, y.2.2) : IP) ∈ fs) : Mb ss i0 j0 fs a t (d ++ [x]) :=
  ⟨M.nd, M.inn, M.sub, M.rch, M.lt, M.shut, fun w hw => by
    rcases List.mem_append.mp hw with z | z
    · exact M.here w z
    · rw [List.mem_singleton.mp z]
      exact ⟨y, my, ev, fun z mz ez => by rw [u z mz ez]; exact m⟩⟩
theorem Mb.put {ss : List (List Stp)} {i0 j0 : Int} {fs : List IP} {a i j : Nat} {s t d : List Stp} {x y : Stp} (M : Mb ss i0 j0 fs a t d) (my : y ∈ t) (ev : evOf x = evOf y) (u : ∀ z ∈ t, evOf x = evOf z → z = y) (n : ((x.2.2, y.2.2) : IP) ∉ fs) (ei : fs[a]? = some ((i : Int), (j : Int))) (es : ss[i]? = some s) (et : ss[j]? = some t) (mx : x ∈ s) (ox : StpOk ss.length x) (oy : StpOk ss.length y) :
    Mb ss i0 j0 (fs ++ [(x.2.2, y.2.2)]) a t (d ++ [x]) := by
  have up : ∀ r ∈ fs, r ∈ fs ++ [((x.2.2, y.2.2) : IP)] := fun r m => List.mem_append_left _ m
  have M1 : Mb ss i0 j0 (fs ++ [(x.2.2, y.2.2)]) a t d := by
    refine ⟨?_, fun k m => ?_, up _ M.sub, fun k m => ?_, by rw [List.length_append]; exact Nat.lt_add_right _ M.lt, fun k q lt ek => ?_, fun w hw => ?_⟩
    · exact List.nodup_append.mpr ⟨M.nd, List.nodup_cons.mpr ⟨List.not_mem_nil, List.nodup_nil⟩, fun p hp q hq e => n (by rw [← List.mem_singleton.mp hq, ← e]; exact hp)⟩
    · rcases List.mem_append.mp m with z | z
      · exact M.inn k z
      · rw [List.mem_singleton.mp z]
        exact ⟨⟨ox.lo, ox.hi⟩, oy.lo, oy.hi⟩
    · rcases List.mem_append.mp m with z | z
      · exact M.rch k z
      · rw [List.mem_singleton.mp z]
        exact .step (M.rch _ (List.mem_of_getElem? ei)) es et mx my ev
    · have l2 := M.lt
      rw [List.getElem?_append_left (by omega)] at ek
      exact (M.shut k q lt ek).more up
    · obtain ⟨y', my', ev', k⟩ := M.here w hw
      exact ⟨y', my', ev', fun z mz ez => up _ (k z mz ez)⟩
  exact M1.skip my ev u (List.mem_append_right _ List.mem_cons_self)
theorem Mb.fnd {ss : List (List Stp)} {i0 j0 : Int} {fs : List IP} {a i j : Nat} {s t : List Stp} (M : Mb ss i0 j0 fs a t s) (ei : fs[a]? = some ((i : Int), (j : Int))) (es : ss[i]? = some s) (et : ss[j]? = some t) : Fb ss i0 j0 fs (a + 1) := by
  refine ⟨M.nd, M.inn, M.sub, M.rch, M.lt, fun k q lt ek => ?_⟩
  rcases Nat.lt_or_ge k a with l | g
  · exact M.shut k q l ek
  · have e : k = a := by omega
    rw [e, ei] at ek
    cases ek
    intro i' j' s' t' eq e1 e2 x mx
    have h1 : i = i' := by have := congrArg Prod.fst eq; dsimp only at this; omega
    have h2 : j = j' := by have := congrArg Prod.snd eq; dsimp only at this; omega
    subst h1
    subst h2
    rw [es] at e1
    rw [et] at e2
    cases e1
    cases e2
    exact M.here x mx
theorem Mb.bey {ss : List (List Stp)} {i0 j0 : Int} {fs : List IP} {a i j : Nat} {s t d : List Stp} {x : Stp} (M : Mb ss i0 j0 fs a t d) (ei : fs[a]? = some ((i : Int), (j : Int))) (es : ss[i]? = some s) (et : ss[j]? = some t) (mx : x ∈ s) (n : ∀ y ∈ t, evOf x ≠ evOf y) : Bey ss i0 j0 :=
  ⟨i, j, s, t, x, M.rch _ (List.mem_of_getElem? ei), es, et, mx, n⟩
/-! ### the paths -/
/-- the paths of the pairs found, each a tuple no longer than its place -/
def PthAt (H : Hp) (kvs : List (List L2.Key × V)) (fs : List IP) : Prop := kvs.map Prod.fst = fs.map pK ∧ ∀ (k : Nat) (p : List L2.Key × V), kvs[k]? = some p → ∃ (a : Addr) (vs : List V), p.2 = .ref a ∧ H a = some (.tup vs) ∧ vs.length ≤ k
theorem PthAt.to {H H' : Hp} {kvs : List (List L2.Key × V)} {fs : List IP} (h : PthAt H kvs fs) (t : Tup H H') : PthAt H' kvs fs := ⟨h.1, fun k p e => by
  obtain ⟨a, vs, e1, e2, e3⟩ := h.2 k p e
  exact ⟨a, vs, e1, t a vs e2, e3⟩⟩
theorem PthAt.len {H : Hp} {kvs : List (List L2.Key × V)} {fs : List IP} (h : PthAt H kvs fs) : kvs.length = fs.length := by
  have z := congrArg List.length h.1
  rwa [List.length_map, List.length_map] at z
theorem valV_in {kvs : List (List L2.Key × V)} {fs : List IP} (h : kvs.map Prod.fst = fs.map pK) (q : IP) : (valV kvs (pK q)).isSome = decide (q ∈ fs) := by
  unfold valV
  rw [Option.isSome_map]
  refine Bool.eq_iff_iff.mpr ?_
  rw [List.find?_isSome, decide_eq_true_eq]
  constructor
  · rintro ⟨p, m, e⟩
    have mp : p.1 ∈ fs.map pK := by rw [← h]; exact List.mem_map.mpr ⟨p, m, rfl⟩
    obtain ⟨r, mr, er⟩ := List.mem_map.mp mp
    have e2 : p.1 = pK q := of_decide_eq_true e
    rw [← er] at e2
    rw [← pK_inj e2]
    exact mr
  · intro m
    have mp : pK q ∈ kvs.map Prod.fst := by rw [h]; exact List.mem_map.mpr ⟨q, m, rfl⟩
    obtain ⟨p, m2, e⟩ := List.mem_map.mp mp
    exact ⟨p, m2, decide_eq_true e⟩
theorem PthAt.get {H : Hp} {kvs : List (List L2.Key × V)} {fs : List IP} (h : PthAt H kvs fs) {k : Nat} {q : IP} (nd : fs.Nodup) (e : fs[k]? = some q) : ∃ (a : Addr) (vs : List V), valV kvs (pK q) = some (.ref a) ∧ H a = some (.tup vs) ∧ vs.length ≤ k := by
  have lk : k < fs.length := (List.getElem?_eq_some_iff.mp e).1
  have lk2 : k < kvs.length := by rw [h.len]; exact lk
  obtain ⟨a, vs, e1, e2, e3⟩ := h.2 k kvs[k] (List.getElem?_eq_getElem lk2)
  refine ⟨a, vs, ?_, e2, e3⟩
  have ek : kvs[k].1 = pK q := by
    have z : (kvs.map Prod.fst)[k]? = (fs.map pK)[k]? := by rw [h.1]
    rw [List.getElem?_map, List.getElem?_map, e, List.getElem?_eq_getElem lk2] at z
    exact Option.some.inj z
  have ndk : (kvs.map Prod.fst).Nodup := by
    rw [h.1]
    exact List.Pairwise.map _ (fun a b n z => n (pK_inj z)) nd
  unfold valV
  have f : kvs.find? (fun p => decide (p.1 = pK q)) = some kvs[k] := by
    have some_ : (kvs.find? (fun p => decide (p.1 = pK q))).isSome := List.find?_isSome.mpr ⟨_, List.getElem_mem lk2, decide_eq_true ek⟩
    obtain ⟨p, hp⟩ := Option.isSome_iff_exists.mp some_
    have pk : p.1 = pK q := of_decide_eq_true (List.find?_some (p := fun p : List L2.Key × V => decide (p.1 = pK q)) hp)
    obtain ⟨m, hm⟩ := List.mem_iff_getElem?.mp (List.mem_of_find?_eq_some hp)
    obtain ⟨hm1, hm2⟩ := List.getElem?_eq_some_iff.mp hm
    have mk : m = k := by
      refine (List.getElem_inj (h₀ := by rw [List.length_map]; exact hm1) (h₁ := by rw [List.length_map]; exact lk2) ndk).mp ?_
      rw [List.getElem_map, List.getElem_map, hm2, pk, ek]
    subst mk
    rw [hp, ← hm2]
  rw [f, Option.map_some, e1]
theorem PthAt.put {H : Hp} {kvs : List (List L2.Key × V)} {fs : List IP} (h : PthAt H kvs fs) {q : IP} {a : Addr} {vs : List V} (n : q ∉ fs) (ha : H a = some (.tup vs)) (le : vs.length ≤ fs.length) : PthAt H (putK kvs (pK q) (.ref a)) (fs ++ [q]) := by
  have e : putK kvs (pK q) (V.ref a) = kvs ++ [(pK q, .ref a)] := putK_new fun p m e2 => n (by
    have mp : p.1 ∈ fs.map pK := by rw [← h.1]; exact List.mem_map.mpr ⟨p, m, rfl⟩
    obtain ⟨r, mr, er⟩ := List.mem_map.mp mp
    rw [← er] at e2
    rw [← pK_inj e2]
    exact mr)
  rw [e]
  refine ⟨by rw [List.map_append, List.map_append, h.1]; rfl, fun k p ek => ?_⟩
  rcases Nat.lt_or_ge k kvs.length with lt | ge
  · rw [List.getElem?_append_left lt] at ek
    exact h.2 k p ek
  · rw [List.getElem?_append_right ge] at ek
    have z := List.mem_of_getElem? ek
    rw [List.mem_singleton.mp z]
    exact ⟨a, vs, rfl, ha, by rw [h.len] at ge; omega⟩
theorem none_of {H H' : Hp} {a : Addr} (s : Same H H') (h : H' a = none) : H a = none := by
  cases e : H a with
  | none => rfl
  | some o => rw [s _ _ e] at h; cases h
/-- the pairs of a list, each in a tuple -/
def PairsAt (H : Hp) (as : List Addr) (fs : List IP) : Prop := as.length = fs.length ∧ ∀ (k : Nat) (a : Addr) (q : IP), as[k]? = some a → fs[k]? = some q → H a = some (.tup [.int q.1, .int q.2])
theorem PairsAt.to {H H' : Hp} {as : List Addr} {fs : List IP} (h : PairsAt H as fs) (t : Tup H H') : PairsAt H' as fs := ⟨h.1, fun k a q e1 e2 => t a _ (h.2 k a q e1 e2)⟩
theorem PairsAt.put {H : Hp} {as : List Addr} {fs : List IP} (h : PairsAt H as fs) {a : Addr} {q : IP} (ha : H a = some (.tup [.int q.1, .int q.2])) : PairsAt H (as ++ [a]) (fs ++ [q]) := by
  refine ⟨by rw [List.length_append, List.length_append, h.1]; rfl, fun k b r e1 e2 => ?_⟩
  rcases Nat.lt_or_ge k as.length with lt | ge
  · rw [List.getElem?_append_left lt] at e1
    rw [List.getElem?_append_left (by rw [← h.1]; exact lt)] at e2
    exact h.2 k b r e1 e2
  · rw [List.getElem?_append_right ge] at e1
    rw [List.getElem?_append_right (by rw [← h.1]; exact ge)] at e2
    have z1 := List.mem_of_getElem? e1
    have z2 := List.mem_of_getElem? e2
    rw [List.mem_singleton.mp z1, List.mem_singleton.mp z2]
    exact ha
end My

-- ===== K5N =====
set_option Elab.async false
set_option linter.all false
set_option maxRecDepth 100000
set_option maxHeartbeats 4000000
namespace My
open PySem L2 PyProof.Rows PySem.Spec Kd TL
abbrev sBeyond : Stmt := top 7
def spBey : Sp := fun vs H Q _ => ∃ (m : Addr) (ss : List (List Stp)) (i j : Int), vs = [.ref m, .int i, .ref m, .int j] ∧ MovesAt H m ss ∧ KOk ss ∧ PIn ss.length (i, j) ∧
  (∀ H', Same H H' → ¬ Bey ss i j → Q .non H') ∧ ∀ (a : Addr) (vs : List V) (H' : Hp), Same H H' → H' a = some (.tup vs) → Bey ss i j → Q (.ref a) H'
theorem moves_rd {H H' : Hp} {m d : Addr} {u : HO} {od : Obj} {ss : List (List Stp)} {j : Nat} {t : List Stp} (hm : MovesAt H m ss) (md : m ≠ d) (keep : ∀ x o, H x = some o → x ≠ d → H' x = some o) (hd : H d = some u) (hd' : H' d = some (.frz od u)) (et : ss[j]? = some t) :
    ∃ (bs : List Addr) (e : Addr), H' m = some (.lst (bs.map V.ref)) ∧ atI (bs.map V.ref) (j : Int) = some (.ref e) ∧ Rd H' e (.dT (t.map mvOf)) := by
  obtain ⟨bs, h1, h2, h3⟩ := hm
  have lj : j < ss.length := (List.getElem?_eq_some_iff.mp et).1
  have eb : bs[j]? = some (bs[j]'(by omega)) := List.getElem?_eq_getElem _
  have he := h3 j _ t eb et
  refine ⟨bs, bs[j]'(by omega), keep _ _ h1 md, atI_nat (by rw [List.getElem?_map, eb]; rfl), ?_⟩
  by_cases ed : bs[j]'(by omega) = d
  · rw [ed] at he ⊢
    rw [hd] at he
    cases he
    exact .inr ⟨od, hd'⟩
  · exact .inl (keep _ _ he ed)
section
variable {P : Program} {w : World} {K : PySem.W.Frag} {mg : Str → Option Value} {base : Heap}
abbrev nBe : List Str := ["mine", "one", "theirs", "other", "pairs", "paths", "at", "here", "there", "path", "event", "goal", "pair"]
theorem scBe : FnScope nBe ["mine", "one", "theirs", "other"] (defScope sBeyond) := ⟨rfl, rfl, rfl, by decide +kernel, rfl, by decide +kernel, by decide +kernel⟩
theorem ok_beyond {f : Addr} {fd : FuncData} (F : Fun K "first_beyond" "first_beyond" sBeyond f fd) (G : Gs mg) : FnOk P w K mg base CX0 1 f fd ["mine", "one", "theirs", "other"] spBey := by
  refine F.ok scBe (fun vs H Q E h => ?_) (fun cdv A outer s H vs Q E hr h => ?_)
  · obtain ⟨m, ss, i, j, rfl, _⟩ := h
    rfl
  · obtain ⟨m, ss, i0, j0, rfl, hm, so, pin, k1, k2⟩ := h
    have hu := hr.units
    have hu1 : (A.deeper (envOfC "first_beyond" (defScope sBeyond) s.heap.objs.size f cdv)).units + 1 < cLine := by omega
    refine ⟨_, pss_cons (ps_set (i := 4) scBe.nd rfl (Or.inl rfl) (pe_lst (pa_cons (pe_tup (pa_cons (pv 1) (pa_cons (pv 3) pa_nil))) pa_nil)))
      (pss_cons (ps_set (i := 5) scBe.nd rfl (Or.inl rfl) (pe_disp1T hu1 (pe_tup (pa_cons (pv 1) (pa_cons (pv 3) pa_nil))) (pe_tup pa_nil)))
      (pss_cons (ps_set (i := 6) scBe.nd rfl (Or.inl rfl) pe_int)
      (pss_cons (ps_while PassesOwn.never (pt_cmp (pc_lt (pv 6) (pe_callB (r := rLenQ K) call_len_seq (by rfl) G.len PySem.boot_len (pa_cons (pv 4) pa_nil))))
        (pss_cons (ps_asg (pe_ix (r := rIxL K) ix_list (pv 4) (pv 6) (fun _ _ => rfl)) (pg_tup (by rfl) (pgs_cons (pg_name (i := 7) scBe.nd rfl (Or.inl rfl)) (pgs_cons (pg_name (i := 8) scBe.nd rfl (Or.inl rfl)) pgs_nil))))
        (pss_cons (ps_set (i := 9) scBe.nd rfl (Or.inl rfl) (pe_dget hu1 (pv 5) (pe_tup (pa_cons (pv 7) (pa_cons (pv 8) pa_nil))) (fun _ _ => rfl)))
        (pss_cons (ps_lock (ps_for PassesOwn.never rfl (pi_itemsT (pe_ix (r := rIxL K) ix_list (pv 0) (pv 7) (fun _ _ => rfl))) (pg_tup (by rfl) (pgs_cons (pg_name (i := 10) scBe.nd rfl (Or.inl rfl)) (pgs_cons (pg_name (i := 11) scBe.nd rfl (Or.inl rfl)) pgs_nil)))
          (pss_cons (ps_if (pt_cmp (pc_dnotin hu1 (pv 10) (pe_ix (r := rIxL K) ix_list (pv 2) (pv 8) (fun _ _ => rfl)))) (pss_one (ps_ret (pe_op Kd.op_catA (pv 9) (pe_tup (pa_cons (pv 10) pa_nil))))) pss_nil)
          (pss_cons (ps_set (i := 12) scBe.nd rfl (Or.inl rfl) (pe_tup (pa_cons (pv 11) (pa_cons (pe_dget hu1 (pe_ix (r := rIxL K) ix_list (pv 2) (pv 8) (fun _ _ => rfl)) (pv 10) (fun _ _ => rfl)) pa_nil))))
          (pss_one (ps_if (pt_cmp (pc_dnotin hu1 (pv 12) (pv 5))) (pss_cons (ps_dput hu1 (pv 5) (pv 12) (pe_op Kd.op_catA (pv 9) (pe_tup (pa_cons (pv 10) pa_nil))) (by rfl)) (pss_one (ps_expr (pe_bm PySem.F.plainAttrs_list PySem.F.slot_list_append PySem.F.type_list_append mt_append (pv 4) (pa_cons (pv 12) pa_nil))))) pss_nil))))))
        (pss_one (ps_aug (i := 6) scBe.nd rfl (Or.inl rfl) pe_int ip_add))))))
      (pss_one (ps_ret pe_non))))), ?_⟩
    -- the first pair, the first path
    refine ⟨_, rfl, _, rfl, by show 2 ≤ sizeLine; decide, fun q0 hq0 => ⟨by show 1 ≤ sizeLine; decide, fun po hpo => ?_⟩⟩
    have sa := (same_new (o := .tup [V.int i0, .int j0]) hq0).trans (same_new (o := .lst [V.ref q0]) hpo)
    have ap := same_new (o := .lst [V.ref q0]) hpo q0 (.tup [V.int i0, .int j0]) upd_same
    have fpo : H po = none := none_of (same_new (o := .tup [V.int i0, .int j0]) hq0) hpo
    have bpo : (upd (upd H q0 (.tup [V.int i0, .int j0])) po (.lst [V.ref q0])) po = some (.lst [V.ref q0]) := upd_same
    generalize upd (upd H q0 (.tup [V.int i0, .int j0])) po (.lst [V.ref q0]) = H1 at sa ap bpo ⊢
    intro pd hpd
    have sb1 := same_new (o := .dT []) hpd
    refine ⟨_, rfl, _, rfl, by show 2 ≤ sizeLine; decide, fun q1 hq1 => ⟨by show 0 ≤ sizeLine; decide, fun pe hpe => ?_⟩⟩
    have sb2 := sb1.trans (same_new (o := .tup [V.int i0, .int j0]) hq1)
    have sb3 := sb2.trans (same_new (o := .tup []) hpe)
    have e1 : (upd (upd (upd H1 pd (.dT [])) q1 (.tup [V.int i0, .int j0])) pe (.tup [])) pd = some (.dT []) := same_new hpe _ _ (same_new hq1 _ _ upd_same)
    have e2 : (upd (upd (upd H1 pd (.dT [])) q1 (.tup [V.int i0, .int j0])) pe (.tup [])) q1 = some (.tup [V.int i0, .int j0]) := same_new hpe _ _ upd_same
    have e3 : (upd (upd (upd H1 pd (.dT [])) q1 (.tup [V.int i0, .int j0])) pe (.tup [])) pe = some (.tup []) := upd_same
    have fpd : H1 pd = none := hpd
    generalize upd (upd (upd H1 pd (.dT [])) q1 (.tup [V.int i0, .int j0])) pe (.tup []) = H2 at sb3 e1 e2 e3 ⊢
    refine ⟨e1, q1, pK (i0, j0), rfl, e2, ?_⟩
    have fpd0 : H pd = none := none_of sa fpd
    have s0 : Same H (upd H2 pd (.dT (putK [] (pK (i0, j0)) (.ref pe)))) := fun a o e => by
      rw [upd_ne (ne_of_none e fpd0)]
      exact sb3 _ _ (sa _ _ e)
    have tp0 : Tup H2 (upd H2 pd (.dT (putK [] (pK (i0, j0)) (.ref pe)))) := Tup.at_ e1 fun xs z => nomatch z
    have pq : po ≠ pd := ne_of_none bpo fpd
    have b3 : (upd H2 pd (.dT (putK [] (pK (i0, j0)) (.ref pe)))) po = some (.lst ([q0].map V.ref)) := by
      rw [upd_ne pq]
      exact sb3 _ _ bpo
    have d3 : (upd H2 pd (.dT (putK [] (pK (i0, j0)) (.ref pe)))) pd = some (.dT (putK [] (pK (i0, j0)) (.ref pe))) := upd_same
    have P0 : PairsAt (upd H2 pd (.dT (putK [] (pK (i0, j0)) (.ref pe)))) [q0] [(i0, j0)] := ⟨rfl, fun kk a q ea eq => by
      have h1 := List.mem_singleton.mp (List.mem_of_getElem? ea)
      have h2 := List.mem_singleton.mp (List.mem_of_getElem? eq)
      rw [h1, h2]
      exact tp0 _ _ (sb3 _ _ ap)⟩
    have W0 : PthAt (upd H2 pd (.dT (putK [] (pK (i0, j0)) (.ref pe)))) (putK [] (pK (i0, j0)) (.ref pe)) [(i0, j0)] := by
      have z : PthAt (upd H2 pd (.dT (putK [] (pK (i0, j0)) (.ref pe)))) [] [] := ⟨rfl, fun kk p e => nomatch e⟩
      exact z.put (a := pe) (vs := []) (fun m => nomatch m) (tp0 _ _ e3) (Nat.le_refl _)
    have F0 : Fb ss i0 j0 [(i0, j0)] 0 := ⟨List.nodup_cons.mpr ⟨List.not_mem_nil, List.nodup_nil⟩, fun q m => by rw [List.mem_singleton.mp m]; exact pin, List.mem_cons_self, fun q m => by rw [List.mem_singleton.mp m]; exact .base, Nat.zero_le _, fun kk q lt _ => absurd lt (Nat.not_lt_zero _)⟩
    generalize upd H2 pd (.dT (putK [] (pK (i0, j0)) (.ref pe))) = H3 at s0 b3 d3 P0 W0 ⊢
    generalize putK [] (pK (i0, j0)) (.ref pe) = kv0 at d3 W0
    refine ⟨fun μ σ Hw => ∃ (at_ : Nat) (fs : List IP) (as : List Addr) (kvs : List (List L2.Key × V)) (o7 o8 o9 o10 o11 o12 : Option V), μ = ss.length * ss.length - at_ ∧ σ = [some (.ref m), some (.int i0), some (.ref m), some (.int j0), some (.ref po), some (.ref pd), some (.int (at_ : Int)), o7, o8, o9, o10, o11, o12] ∧ Same H Hw ∧ Hw po = some (.lst (as.map V.ref)) ∧ Hw pd = some (.dT kvs) ∧ PairsAt Hw as fs ∧ PthAt Hw kvs fs ∧ Fb ss i0 j0 fs at_,
      ⟨_, 0, _, [q0], kv0, none, none, none, none, none, none, rfl, rfl, s0, b3, d3, P0, W0, F0⟩, fun μ σ Hw ⟨at_, fs, as, kvs, o7, o8, o9, o10, o11, o12, eμ, eσ, sw, fw, dw, PA, PT, F⟩ => ?_⟩
    subst eμ
    subst eσ
    have fm := F.most so
    have fm2 := pairs_most F.nd F.inn
    refine ⟨_, rfl, _, rfl, po, _, rfl, .inl (SqL.of fw), _, _, rfl, rfl, _, rfl, ?_⟩
    rw [List.length_map, PA.1]
    dsimp only
    by_cases lt : at_ < fs.length
    · rw [decide_eq_true (show (at_ : Int) < (fs.length : Int) by omega)]
      refine iteT ⟨fun σ' H' => ∃ (fs' : List IP) (as' : List Addr) (kvs' : List (List L2.Key × V)) (p7 p8 p9 p10 p11 p12 : Option V), σ' = [some (.ref m), some (.int i0), some (.ref m), some (.int j0), some (.ref po), some (.ref pd), some (.int ((at_ + 1 : Nat) : Int)), p7, p8, p9, p10, p11, p12] ∧ Same H H' ∧ H' po = some (.lst (as'.map V.ref)) ∧ H' pd = some (.dT kvs') ∧ PairsAt H' as' fs' ∧ PthAt H' kvs' fs' ∧ Fb ss i0 j0 fs' (at_ + 1),
        fun σ' H' ⟨fs', as', kvs', p7, p8, p9, p10, p11, p12, e, r1, r2, r3, r4, r5, r6⟩ => ⟨_, by omega, at_ + 1, fs', as', kvs', p7, p8, p9, p10, p11, p12, rfl, e, r1, r2, r3, r4, r5, r6⟩, ?_⟩
      obtain ⟨⟨ii, jj⟩, eq⟩ : ∃ q, fs[at_]? = some q := ⟨fs[at_], List.getElem?_eq_getElem lt⟩
      obtain ⟨⟨n0, n1⟩, n2, n3⟩ := F.inn _ (List.mem_of_getElem? eq)
      obtain ⟨i, ei⟩ := Int.eq_ofNat_of_zero_le n0
      obtain ⟨j, ej⟩ := Int.eq_ofNat_of_zero_le n2
      dsimp only at ei ej n1 n3
      subst ei
      subst ej
      have li : i < ss.length := by omega
      have lj : j < ss.length := by omega
      have la : at_ < as.length := by rw [PA.1]; exact lt
      have ea : as[at_]? = some as[at_] := List.getElem?_eq_getElem la
      have hqa := PA.2 at_ _ _ ea eq
      have eat : atI (as.map V.ref) (at_ : Int) = some (.ref as[at_]) := atI_nat (by rw [List.getElem?_map, ea]; rfl)
      refine ⟨_, rfl, _, rfl, po, _, _, _, rfl, rfl, SqL.of fw, eat, as[at_], _, rfl, SqT.of hqa, rfl, _, _, rfl, _, _, rfl, rfl, ?_⟩
      -- the path
      refine ⟨_, rfl, _, rfl, _, rfl, by show 2 ≤ sizeLine; decide, fun q2 hq2 => ?_⟩
      have sq := same_new (o := .tup [V.int (i : Int), .int (j : Int)]) hq2
      obtain ⟨pa, pvs, evp, hpa, lpa⟩ := PT.get F.nd eq
      refine ⟨pd, .ref pa, rfl, .inr ⟨kvs, pK ((i : Int), (j : Int)), q2, .inl (sq _ _ dw), rfl, upd_same, evp.symm⟩, ?_⟩
      have sw2 := sw.trans sq
      have fw2 := sq _ _ fw
      have dw2 := sq _ _ dw
      have PA2 := PA.to (Tup.of sq)
      have PT2 := PT.to (Tup.of sq)
      have hpa2 := sq _ _ hpa
      generalize upd Hw q2 (.tup [V.int (i : Int), .int (j : Int)]) = Hx at sw2 fw2 dw2 PA2 PT2 hpa2 ⊢
      have hm' := hm.same sw2
      obtain ⟨bs, hm1, hm2, hm3⟩ := hm'
      obtain ⟨st, es⟩ : ∃ st, ss[i]? = some st := ⟨ss[i], List.getElem?_eq_getElem li⟩
      obtain ⟨tt, et⟩ : ∃ tt, ss[j]? = some tt := ⟨ss[j], List.getElem?_eq_getElem lj⟩
      obtain ⟨d, ed⟩ : ∃ d, bs[i]? = some d := ⟨bs[i]'(by omega), List.getElem?_eq_getElem _⟩
      have hd := hm3 i d st ed es
      have sto := so.all st (List.mem_of_getElem? es)
      have tto := so.all tt (List.mem_of_getElem? et)
      refine ⟨d, _, hd, trivial, fun od => ?_⟩
      have md : m ≠ d := fun z => by rw [z, hd] at hm1; cases hm1
      have fd_ : po ≠ d := fun z => by rw [z, hd] at fw2; cases fw2
      have pq' : po ≠ pd := pq
      have hdH : H d = some (.dT (st.map mvOf)) := by
        obtain ⟨bs0, g1, g2, g3⟩ := hm
        have eb : bs0 = bs := by
          have z := sw2 _ _ g1
          rw [hm1] at z
          have z2 : bs.map V.ref = bs0.map V.ref := HO.lst.inj (Option.some.inj z)
          exact (List.map_inj_right (fun a b e => V.ref.inj e)).mp z2.symm
        rw [eb] at g3
        exact g3 i d st ed es
      have sd : pd ≠ d := fun z => by rw [z, hdH] at fpd0; cases fpd0
      have eatd : atI (bs.map V.ref) (i : Int) = some (.ref d) := atI_nat (by rw [List.getElem?_map, ed]; rfl)
      have tpl : Tup Hx (upd Hx d (.frz od (.dT (st.map mvOf)))) := Tup.at_ hd fun xs z => nomatch z
      refine ⟨_, rfl, _, rfl, m, _, _, _, rfl, rfl, SqL.of (by rw [upd_ne md]; exact hm1), eatd, d, od, _, rfl, upd_same, for_it walk_itemsT (fun g σ H4 => ∃ (fs' : List IP) (as' : List Addr) (kvs' : List (List L2.Key × V)) (o10 o11 o12 : Option V), σ = [some (.ref m), some (.int i0), some (.ref m), some (.int j0), some (.ref po), some (.ref pd), some (.int (at_ : Int)), some (.int (i : Int)), some (.int (j : Int)), some (.ref pa), o10, o11, o12] ∧ H4 d = some (.frz od (.dT (st.map mvOf))) ∧ (∀ x o, H x = some o → x ≠ d → H4 x = some o) ∧ H4 po = some (.lst (as'.map V.ref)) ∧ H4 pd = some (.dT kvs') ∧ PairsAt H4 as' fs' ∧ PthAt H4 kvs' fs' ∧ H4 pa = some (.tup pvs) ∧ Mb ss i0 j0 fs' at_ tt (st.take g) ∧ fs'[at_]? = some ((i : Int), (j : Int))) ?_ (fun g σ H4 _ ⟨_, _, _, _, _, _, _, h, _⟩ => h) ?_ ?_⟩
      · refine ⟨fs, as, kvs, _, _, _, rfl, upd_same, fun x o e ne => ?_, by rw [upd_ne fd_]; exact fw2, by rw [upd_ne sd]; exact dw2, PA2.to tpl, PT2.to tpl, tpl _ _ hpa2, F.mid lt, eq⟩
        rw [upd_ne ne]
        exact sw2 _ _ e
      · rintro g v σ H4 H5 lg ⟨fs', as', kvs', p10, p11, p12, rfl, h4, b4, f4, d4, A4, T4, a4, M, eq'⟩ ⟨T, q, kk, vv, ekv, rfl, hT, hq, rfl⟩
        rw [List.getElem?_map] at ekv
        obtain ⟨x, ex, e2'⟩ := Option.map_eq_some_iff.mp ekv
        cases e2'
        have mx := List.mem_of_getElem? ex
        have xo := sto.all x mx
        have tk : st.take (g + 1) = st.take g ++ [x] := by rw [List.take_succ, ex]; rfl
        have fm' := M.most so
        have s5 := same_new (o := .tup [V.ref q, V.int x.2.2]) hT
        have hT5 : (upd H4 T (.tup [V.ref q, V.int x.2.2])) T = some (.tup [V.ref q, V.int x.2.2]) := upd_same
        have hq5 := s5 _ _ hq
        have h5 := s5 _ _ h4
        have b5 : ∀ y o, H y = some o → y ≠ d → (upd H4 T (.tup [V.ref q, V.int x.2.2])) y = some o := fun y o e ne => s5 _ _ (b4 y o e ne)
        have f5 := s5 _ _ f4
        have d5 := s5 _ _ d4
        have A5 := A4.to (Tup.of s5)
        have T5 := T4.to (Tup.of s5)
        have a5 := s5 _ _ a4
        generalize upd H4 T (.tup [V.ref q, V.int x.2.2]) = H5 at hT5 hq5 h5 b5 f5 d5 A5 T5 a5 ⊢
        refine ⟨T, _, rfl, SqT.of hT5, rfl, _, _, rfl, _, _, rfl, rfl, ?_⟩
        obtain ⟨bs', e', hm5, at5, rd5⟩ := moves_rd hm md b5 hdH h5 et
        refine ⟨_, rfl, _, rfl, _, rfl, m, _, _, _, rfl, rfl, SqL.of hm5, at5, e', _, rfl, .inr ⟨_, evK (evOf x), q, rd5, rfl, hq5, rfl⟩, _, rfl, ?_⟩
        rcases mv_val tto.asc (evOf x) with ⟨ev, no⟩ | ⟨y, my, ev, evv, uq⟩
        · rw [ev]
          refine iteT ⟨_, rfl, _, rfl, by show 1 ≤ sizeLine; decide, fun r1 hr1 => ?_⟩
          have s6 := same_new (o := .tup [V.ref q]) hr1
          refine ⟨pa, r1, pvs, [.ref q], rfl, rfl, s6 _ _ a5, upd_same, small_len (m := 1601) (by rw [List.length_singleton]; omega), fun r H' s7 hr' => ⟨s7 _ _ (s6 _ _ h5), ?_⟩⟩
          have rd_ : r ≠ d := fun z => by rw [z, s7 _ _ (s6 _ _ h5)] at hr'; cases hr'
          refine k2 r _ _ (fun b o e => ?_) (by rw [upd_ne rd_]; exact hr') (M.bey eq' es et mx no)
          by_cases bd : b = d
          · rw [bd, hdH] at e
            rw [bd, upd_same]
            exact e
          · rw [upd_ne bd]
            exact s7 _ _ (s6 _ _ (b5 b o e bd))
        · rw [evv]
          refine iteF ⟨_, rfl, _, rfl, _, rfl, m, _, _, _, rfl, rfl, SqL.of hm5, at5, _, rfl, e', .int y.2.2, rfl, .inr ⟨_, evK (evOf x), q, rd5, rfl, hq5, evv.symm⟩, by show 2 ≤ sizeLine; decide, fun pr hpr => ?_⟩
          have s6 := same_new (o := .tup [V.int x.2.2, .int y.2.2]) hpr
          have hp6 : (upd H5 pr (.tup [V.int x.2.2, .int y.2.2])) pr = some (.tup [V.int x.2.2, .int y.2.2]) := upd_same
          have h6 := s6 _ _ h5
          have b6 : ∀ y' o, H y' = some o → y' ≠ d → (upd H5 pr (.tup [V.int x.2.2, .int y.2.2])) y' = some o := fun y' o e ne => s6 _ _ (b5 y' o e ne)
          have f6 := s6 _ _ f5
          have d6 := s6 _ _ d5
          have A6 := A5.to (Tup.of s6)
          have T6 := T5.to (Tup.of s6)
          have a6 := s6 _ _ a5
          generalize upd H5 pr (.tup [V.int x.2.2, .int y.2.2]) = H6 at hp6 h6 b6 f6 d6 A6 T6 a6 ⊢
          refine ⟨_, rfl, _, rfl, pd, _, rfl, .inr ⟨kvs', pK (x.2.2, y.2.2), pr, .inl d6, rfl, hp6, rfl⟩, _, rfl, ?_⟩
          rw [valV_in T6.1]
          by_cases mem2 : ((x.2.2, y.2.2) : IP) ∈ fs'
          · rw [decide_eq_true mem2]
            refine iteF ⟨fs', as', kvs', _, _, _, rfl, h6, b6, f6, d6, A6, T6, a6, ?_, eq'⟩
            rw [tk]
            exact M.skip my ev uq mem2
          · rw [decide_eq_false mem2]
            refine iteT ⟨_, rfl, _, rfl, by show 1 ≤ sizeLine; decide, fun r1 hr1 => ?_⟩
            have s7 := same_new (o := .tup [V.ref q]) hr1
            refine ⟨pa, r1, pvs, [.ref q], rfl, rfl, s7 _ _ a6, upd_same, small_len (m := 1601) (by rw [List.length_singleton]; omega), fun r H7 s8 hr' => ?_⟩
            have s68 := s7.trans s8
            have d8 := s68 _ _ d6
            have lk : kvs'.length = fs'.length := T6.len
            refine ⟨_, rfl, _, rfl, pd, _, rfl, .inr ⟨kvs', pK (x.2.2, y.2.2), pr, d8, rfl, s68 _ _ hp6, small_lt (m := 1600) (by omega), rfl⟩, ?_⟩
            have tp9 : Tup H7 (upd H7 pd (.dT (putK kvs' (pK (x.2.2, y.2.2)) (.ref r)))) := Tup.at_ d8 fun xs z => nomatch z
            have f9 : (upd H7 pd (.dT (putK kvs' (pK (x.2.2, y.2.2)) (.ref r)))) po = some (.lst (as'.map V.ref)) := by
              rw [upd_ne pq']
              exact s68 _ _ f6
            have A9 := (A6.to (Tup.of s68)).to tp9
            have T9 := ((T6.to (Tup.of s68)).to tp9).put (q := (x.2.2, y.2.2)) (a := r) mem2 (tp9 _ _ hr') (by rw [List.length_append, List.length_singleton]; have := M.lt; omega)
            have h9 : (upd H7 pd (.dT (putK kvs' (pK (x.2.2, y.2.2)) (.ref r)))) d = some (.frz od (.dT (st.map mvOf))) := by
              rw [upd_ne (Ne.symm sd)]
              exact s68 _ _ h6
            have b9 : ∀ y' o, H y' = some o → y' ≠ d → (upd H7 pd (.dT (putK kvs' (pK (x.2.2, y.2.2)) (.ref r)))) y' = some o := fun y' o e ne => by
              rw [upd_ne (ne_of_none e fpd0)]
              exact s68 _ _ (b6 y' o e ne)
            have d9 : (upd H7 pd (.dT (putK kvs' (pK (x.2.2, y.2.2)) (.ref r)))) pd = some (.dT (putK kvs' (pK (x.2.2, y.2.2)) (.ref r))) := upd_same
            have a9 := tp9 _ _ (s68 _ _ a6)
            have p9 := tp9 _ _ (s68 _ _ hp6)
            generalize upd H7 pd (.dT (putK kvs' (pK (x.2.2, y.2.2)) (.ref r))) = H9 at f9 A9 T9 h9 b9 d9 a9 p9 ⊢
            refine ⟨_, rfl, .inl ⟨rfl, _, SqL.of f9⟩, _, rfl, po, _, _, rfl, rfl, f9, small_lt (m := 1600) (by rw [List.length_map, A9.1]; omega), ?_⟩
            have tpA : Tup H9 (upd H9 po (.lst (as'.map V.ref ++ [.ref pr]))) := Tup.at_ f9 fun xs z => nomatch z
            refine ⟨fs' ++ [(x.2.2, y.2.2)], as' ++ [pr], _, _, _, _, rfl, by rw [upd_ne (Ne.symm fd_)]; exact h9, fun y' o e ne => ?_, by rw [upd_same, List.map_append]; rfl, by rw [upd_ne (Ne.symm pq')]; exact d9, (A9.put p9).to tpA, T9.to tpA, tpA _ _ a9, ?_, ?_⟩
            · rw [upd_ne (ne_of_none e fpo)]
              exact b9 y' o e ne
            · rw [tk]
              exact M.put my ev uq mem2 eq' es et mx xo (tto.all y my)
            · have l2 := M.lt
              rw [List.getElem?_append_left l2]
              exact eq'
      · rintro σ H4 ⟨fs', as', kvs', p10, p11, p12, rfl, h4, b4, f4, d4, A4, T4, a4, M, eq'⟩
        rw [List.length_map, List.take_length] at M
        have tp4 : Tup H4 (upd H4 d (.dT (st.map mvOf))) := Tup.at_ h4 fun xs z => nomatch z
        refine ⟨h4, _, rfl, _, _, rfl, rfl, fs', as', kvs', _, _, _, _, _, _, rfl, fun y o e => ?_, by rw [upd_ne fd_]; exact f4, by rw [upd_ne sd]; exact d4, A4.to tp4, T4.to tp4, M.fnd eq' es et⟩
        by_cases yd : y = d
        · rw [yd, hdH] at e
          rw [yd, upd_same]
          exact e
        · rw [upd_ne yd]
          exact b4 y o e yd
    · rw [decide_eq_false (show ¬ ((at_ : Int) < (fs.length : Int)) by omega)]
      have ea : at_ = fs.length := by have := F.le; omega
      subst ea
      exact iteF (k1 _ sw F.done)
end
end My

-- ===== KX1 =====
set_option Elab.async false
set_option linter.all false
set_option maxRecDepth 100000
set_option maxHeartbeats 4000000
namespace PySem.SeqAt
open AutoSeq1 (wpAny_loadPart')
open MeetsSeq
theorem dict_eq_declines_str (l : Addr) (es : Array DictEntry) (n : Nat) (dd : Option Addr) (sl : Array (Option Value)) (b : Str) (u : Tok) :
    Meets (Builtin.«dict.__eq__» ⟨[.ref l, .str b u], []⟩) (fun _ R s => s.heap.get? l = some { cls := .type "dict", dict := dd, data := .dict es n, slots := sl } ∧ R (.ok (.ret .notImplemented)) s) :=
  .of_wp fun prog w A R s h => by obtain ⟨hp, g, d, tk, os⟩ := s; obtain ⟨hl, h⟩ := h; have f1 := F.sub_str_dict; wp_walk using wpAny_loadPart' hl; exact ⟨_, rfl, h⟩
theorem str_eq_declines_dict (b : Str) (u : Tok) (l : Addr) (es : Array DictEntry) (n : Nat) (dd : Option Addr) (sl : Array (Option Value)) :
    Meets (Builtin.«str.__eq__» ⟨[.str b u, .ref l], []⟩) (fun _ R s => s.heap.get? l = some { cls := .type "dict", dict := dd, data := .dict es n, slots := sl } ∧ R (.ok (.ret .notImplemented)) s) :=
  .of_wp fun prog w A R s h => by obtain ⟨hp, g, d, tk, os⟩ := s; obtain ⟨hl, h⟩ := h; wp_walk using wpAny_loadPart' hl, wpAny_load hl; exact ⟨_, rfl, h⟩
end PySem.SeqAt
namespace PySem.SeqAt
open MeetsSeq
theorem RcAt.dict_str {A : Around} {s : Shared} {l : Addr} {es : Array DictEntry} {n : Nat} {dd : Option Addr} {sl : Array (Option Value)} (b : Str) (u : Tok) (ho : s.heap.get? l = some { cls := .type "dict", dict := dd, data := .dict es n, slots := sl }) (hu : A.units < cLine) : RcAt A s (.ref l) (.str b u) false := fun prog w E Q h =>
  rc_eq_decline_or (k := false) ⟨_, ho, rfl⟩ (typeIs_str s b u) (by decide) F.sub_str_dict F.slot_dict_eq F.slot_str_eq_refl
    (fun _ hq => call_meets F.slot_dict_eq ⟨_, ho, rfl⟩ F.entry_dict_eq (F.args_dict_eq_2 _ _) (dict_eq_declines_str l es n dd sl b u) ⟨ho, hq⟩)
    (fun _ hq => call_meets F.slot_str_eq_refl (typeIs_str s b u) F.entry_str_eq (F.args_str_eq_2 _ _) (str_eq_declines_dict b u l es n dd sl) ⟨ho, hq⟩)
    (fun _ hq => wpAny_of_eq (rfl : isSame (.ref l) (.str b u) = pure false) hq) (.inr hu) h
end PySem.SeqAt
namespace Kd
open PySem L2 PyProof.Rows PySem.Spec
/-! ### values of any kind: lists are not looked into, dicts are empty; N of where the lists stand -/
mutual
inductive TZ (N : Addr → Prop) (H : Hp) : V → PyData → Prop
  | non : TZ N H .non .none
  | bl (b : Bool) : TZ N H (.bl b) (.bool b)
  | int (i : Int) : TZ N H (.int i) (.int i)
  | str (x : Str) : TZ N H (.str x) (.str x)
  | lst {a : Addr} {xs : List V} : N a → H a = some (.lst xs) → TZ N H (.ref a) (.list [])
  | tup {a : Addr} {xs : List V} {ds : List PyData} : H a = some (.tup xs) → TZs N H xs ds → TZ N H (.ref a) (.tuple ds)
  | dct {a : Addr} : H a = some (.dK []) → TZ N H (.ref a) (.dict [])
inductive TZs (N : Addr → Prop) (H : Hp) : List V → List PyData → Prop
  | nil : TZs N H [] []
  | cons {v : V} {vs : List V} {d : PyData} {ds : List PyData} : TZ N H v d → TZs N H vs ds → TZs N H (v :: vs) (d :: ds)
end
/-- what a value is made of stands in another heap, too -/
structure Zf (N : Addr → Prop) (H H' : Hp) : Prop where
  l : ∀ a xs, N a → H a = some (.lst xs) → H' a = some (.lst xs)
  t : ∀ a xs, H a = some (.tup xs) → H' a = some (.tup xs)
  d : ∀ a, H a = some (.dK []) → H' a = some (.dK [])
theorem Zf.of {N : Addr → Prop} {H H' : Hp} (s : ∀ a o, H a = some o → H' a = some o) : Zf N H H' := ⟨fun a _ _ e => s a _ e, fun a _ e => s a _ e, fun a e => s a _ e⟩
theorem Zf.trans {N : Addr → Prop} {H H' H2 : Hp} (f : Zf N H H') (g : Zf N H' H2) : Zf N H H2 := ⟨fun a xs n e => g.l a xs n (f.l a xs n e), fun a xs e => g.t a xs (f.t a xs e), fun a e => g.d a (f.d a e)⟩
mutual
theorem TZ.to {N : Addr → Prop} {H H' : Hp} (f : Zf N H H') : ∀ {v : V} {d : PyData}, TZ N H v d → TZ N H' v d
  | _, _, .non => .non
  | _, _, .bl b => .bl b
  | _, _, .int i => .int i
  | _, _, .str x => .str x
  | _, _, .lst n e => .lst n (f.l _ _ n e)
  | _, _, .tup e r => .tup (f.t _ _ e) (TZs.to f r)
  | _, _, .dct e => .dct (f.d _ e)
theorem TZs.to {N : Addr → Prop} {H H' : Hp} (f : Zf N H H') : ∀ {vs : List V} {ds : List PyData}, TZs N H vs ds → TZs N H' vs ds
  | _, _, .nil => .nil
  | _, _, .cons h r => .cons (TZ.to f h) (TZs.to f r)
end
theorem TZs.len {N : Addr → Prop} {H : Hp} : ∀ {vs : List V} {ds : List PyData}, TZs N H vs ds → vs.length = ds.length
  | _, _, .nil => rfl
  | _, _, .cons _ r => by rw [List.length_cons, List.length_cons, r.len]
theorem TZs.at_ {N : Addr → Prop} {H : Hp} : ∀ {vs : List V} {ds : List PyData}, TZs N H vs ds → ∀ {i : Nat} {v : V}, vs[i]? = some v → ∃ d, ds[i]? = some d ∧ TZ N H v d
  | _, _, .nil, i, v, e => by simp at e
  | _, _, .cons h r, 0, v, e => ⟨_, rfl, by rw [← Option.some.inj e]; exact h⟩
  | _, _, .cons h r, i + 1, v, e => r.at_ (i := i) e
theorem TZs.app {N : Addr → Prop} {H : Hp} : ∀ {vs : List V} {ds : List PyData} {us : List V} {es : List PyData}, TZs N H vs ds → TZs N H us es → TZs N H (vs ++ us) (ds ++ es)
  | _, _, _, _, .nil, g => g
  | _, _, _, _, .cons h r, g => .cons h (r.app g)
theorem TZs.take {N : Addr → Prop} {H : Hp} : ∀ {vs : List V} {ds : List PyData} (n : Nat), TZs N H vs ds → TZs N H (vs.take n) (ds.take n)
  | _, _, 0, _ => .nil
  | _, _, n + 1, .nil => .nil
  | _, _, n + 1, .cons h r => .cons h (r.take n)
theorem TZs.drop {N : Addr → Prop} {H : Hp} : ∀ {vs : List V} {ds : List PyData} (n : Nat), TZs N H vs ds → TZs N H (vs.drop n) (ds.drop n)
  | _, _, 0, h => h
  | _, _, n + 1, .nil => .nil
  | _, _, n + 1, .cons h r => r.drop n
/-- the name of a value's type -/
def tyN : PyData → String
  | .none => "NoneType"
  | .bool _ => "bool"
  | .int _ => "int"
  | .str _ => "str"
  | .list _ => "list"
  | .tuple _ => "tuple"
  | .dict _ => "dict"
def isTup : PyData → Bool
  | .tuple _ => true
  | _ => false
def isStr : PyData → Bool
  | .str _ => true
  | _ => false
def isInt : PyData → Bool
  | .int _ => true
  | .bool _ => true
  | _ => false
def isBl : PyData → Bool
  | .bool _ => true
  | _ => false
theorem TZ.ty {K : PySem.W.Frag} {N : Addr → Prop} {H : Hp} {v : V} {d : PyData} (h : TZ N H v d) : TyX K H v (.type (tyN d)) := by
  cases h with
  | non => exact .base .non
  | bl b => exact .base (.bl b)
  | int i => exact .base (.int i)
  | str x => exact .base (.str x)
  | lst _ e => exact .base (.lst e)
  | tup e _ => exact .base (.tup e)
  | dct e => exact .base (.dK e)
theorem kb_all : ([("NoneType", false, false, false, false), ("bool", false, false, true, true), ("int", false, false, true, false), ("str", false, true, false, false), ("list", false, false, false, false), ("tuple", true, false, false, false), ("dict", false, false, false, false)] : List (String × Bool × Bool × Bool × Bool)).all (fun x =>
    kitB x.1 "tuple" == some x.2.1 && kitB x.1 "str" == some x.2.2.1 && kitB x.1 "int" == some x.2.2.2.1 && kitB x.1 "bool" == some x.2.2.2.2) = true := by decide +kernel
theorem kb_of (d : PyData) : kitB (tyN d) "tuple" = some (isTup d) ∧ kitB (tyN d) "str" = some (isStr d) ∧ kitB (tyN d) "int" = some (isInt d) ∧ kitB (tyN d) "bool" = some (isBl d) := by
  have z := kb_all
  simp only [List.all_cons, List.all_nil, Bool.and_true, Bool.and_eq_true, beq_iff_eq] at z
  obtain ⟨z1, z2, z3, z4, z5, z6, z7⟩ := z
  cases d with
  | none => exact ⟨z1.1.1.1, z1.1.1.2, z1.1.2, z1.2⟩
  | bool _ => exact ⟨z2.1.1.1, z2.1.1.2, z2.1.2, z2.2⟩
  | int _ => exact ⟨z3.1.1.1, z3.1.1.2, z3.1.2, z3.2⟩
  | str _ => exact ⟨z4.1.1.1, z4.1.1.2, z4.1.2, z4.2⟩
  | list _ => exact ⟨z5.1.1.1, z5.1.1.2, z5.1.2, z5.2⟩
  | tuple _ => exact ⟨z6.1.1.1, z6.1.1.2, z6.1.2, z6.2⟩
  | dict _ => exact ⟨z7.1.1.1, z7.1.1.2, z7.1.2, z7.2⟩
section
variable {K : PySem.W.Frag} {N : Addr → Prop} {H : Hp} {v : V} {d : PyData} {Q : VK}
theorem TZ.isi_tup (h : TZ N H v d) (q : Q (.bl (isTup d)) H) : rIsi K [v, .ty "tuple"] H Q := ⟨v, .ty "tuple", _, _, _, rfl, .ty "tuple", h.ty, kit_ty (kb_of d).1, q⟩
theorem TZ.isi_str (h : TZ N H v d) (q : Q (.bl (isStr d)) H) : rIsi K [v, .ty "str"] H Q := ⟨v, .ty "str", _, _, _, rfl, .ty "str", h.ty, kit_ty (kb_of d).2.1, q⟩
theorem TZ.isi_int (h : TZ N H v d) (q : Q (.bl (isInt d)) H) : rIsi K [v, .ty "int"] H Q := ⟨v, .ty "int", _, _, _, rfl, .ty "int", h.ty, kit_ty (kb_of d).2.2.1, q⟩
theorem TZ.isi_bl (h : TZ N H v d) (q : Q (.bl (isBl d)) H) : rIsi K [v, .ty "bool"] H Q := ⟨v, .ty "bool", _, _, _, rfl, .ty "bool", h.ty, kit_ty (kb_of d).2.2.2, q⟩
end
/-! ### == of values of any kind -/
def isS (t : Str) : PyData → Bool
  | .str s => decide (s = t)
  | _ => false
def rEqS (N : Addr → Prop) : R2 := fun x y H Q => ∃ d t, TZ N H x d ∧ y = .str t ∧ Q (.bl (isS t d)) H
def rEqE : R2 := fun x y H Q => ∃ a b xs, x = .ref a ∧ y = .ref b ∧ H a = some (.tup xs) ∧ H b = some (.tup []) ∧ Q (.bl xs.isEmpty) H
def rNeE : R2 := fun x y H Q => ∃ a b xs, x = .ref a ∧ y = .ref b ∧ H a = some (.tup xs) ∧ H b = some (.tup []) ∧ Q (.bl (!xs.isEmpty)) H
def rNeL : R2 := fun x y H Q => ∃ a b xs, x = .ref a ∧ y = .ref b ∧ H a = some (.lst xs) ∧ H b = some (.lst []) ∧ Q (.bl (!xs.isEmpty)) H
def rEq1 : R2 := fun x y H Q => ∃ a b s t xs, x = .ref a ∧ y = .ref b ∧ H a = some (.tup (.str s :: xs)) ∧ H b = some (.tup [.str t]) ∧ Q (.bl (decide (s = t) && xs.isEmpty)) H
section
variable {X : Cx} {N : Addr → Prop}
theorem tup_is {pins : List (Addr × Obj)} {σ : L2.St} {H : Hp} {s : Shared} (I : Inv X pins σ H s) {a : Addr} {xs : List V} (e : H a = some (.tup xs)) : ∃ its : List Value, Vals xs its ∧ s.heap.IsTuple a its.toArray := by
  obtain ⟨_, its, rv, o, h1, h2, n, h3⟩ := (show ObjOk X.prog X.w H s.heap a (.tup xs) from I.hok a _ e)
  exact ⟨its, rv, o, h1, h2, n, h3⟩
theorem lst_is {pins : List (Addr × Obj)} {σ : L2.St} {H : Hp} {s : Shared} (I : Inv X pins σ H s) {a : Addr} {xs : List V} (e : H a = some (.lst xs)) : ∃ its : List Value, Vals xs its ∧ s.heap.IsList a its.toArray := by
  obtain ⟨_, its, n, rv, h1⟩ := (show ObjOk X.prog X.w H s.heap a (.lst xs) from I.hok a _ e)
  exact ⟨its, rv, _, h1, rfl, n, rfl⟩
theorem op_eqS (hu : X.A.units < cLine) : OpR X (compareOp .Eq) (rEqS N) := by
  intro pins s σ H x y v u Q I rx ry h
  obtain ⟨d, t, hd, rfl, q⟩ := h
  obtain ⟨tk, rfl⟩ : ∃ tk, u = Value.str t tk := ry
  have fin : ∀ {b : Bool}, SeqAt.RcAt X.A s v (.str t tk) b → Q (.bl b) H → PySem.wpAny (model X.prog X.w) X.A (compareOp .Eq v (.str t tk)) (EP X pins σ Q) X.xe s := fun {b} r q => r X.prog X.w _ _ ⟨.bl b, H, I, rfl, q⟩
  cases hd with
  | non =>
    cases (show v = Value.none from rx)
    exact fin (SeqAt.RcAt.none_str t tk) q
  | bl b =>
    cases (show v = Value.bool b from rx)
    exact fin (SeqAt.RcAt.bool_str b t tk) q
  | int i =>
    obtain ⟨t2, rfl⟩ : ∃ t2, v = Value.int i t2 := rx
    exact fin (SeqAt.RcAt.int_str i t2 t tk) q
  | str z =>
    obtain ⟨t2, rfl⟩ : ∃ t2, v = Value.str z t2 := rx
    refine fin (SeqAt.RcAt.str_str z t2 t tk) ?_
    have e : (z == t) = decide (z = t) := by
      by_cases h : z = t
      · rw [h, decide_eq_true rfl, beq_self_eq_true]
      · rw [decide_eq_false h]
        exact beq_eq_false_iff_ne.mpr h
    rw [e]
    exact q
  | lst _ e =>
    cases (show v = Value.ref _ from rx)
    obtain ⟨its, _, hl⟩ := lst_is I e
    exact fin (SeqAt.RcAt.list_str t tk hl hu) q
  | tup e _ =>
    cases (show v = Value.ref _ from rx)
    obtain ⟨its, _, hl⟩ := tup_is I e
    exact fin (SeqAt.RcAt.tuple_str t tk hl hu) q
  | dct e =>
    cases (show v = Value.ref _ from rx)
    obtain ⟨_, _, vs, _, o, es, ep, h1, h2, h3, _⟩ := (show ObjOk X.prog X.w H s.heap _ (.dK []) from I.hok _ _ e)
    obtain ⟨cls, dd, data, sl⟩ := o
    simp only at h3
    subst h3
    have hc : cls = .type "dict" := h2.1
    subst hc
    exact fin (SeqAt.RcAt.dict_str t tk h1 hu) q
theorem op_eqE (hu : X.A.units < cLine) : OpR X (compareOp .Eq) rEqE := by
  intro pins s σ H x y v u Q I rx ry h
  obtain ⟨a, b, xs, rfl, rfl, ha, hb, q⟩ := h
  cases (show v = Value.ref a from rx)
  cases (show u = Value.ref b from ry)
  obtain ⟨its, rv, hl⟩ := tup_is I ha
  obtain ⟨its2, rv2, hl2⟩ := tup_is I hb
  cases rv2
  have r := SeqAt.RcAt.tuples (A := X.A) (e := fun _ => true) hl hl2 hu (fun j _ h2 => absurd h2 (Nat.not_lt_zero _))
  refine r X.prog X.w _ _ ⟨.bl xs.isEmpty, H, I, ?_, q⟩
  show Value.bool _ = Value.bool _
  cases rv with
  | nil => rfl
  | cons _ _ => simp
theorem op_neE (hu : X.A.units < cLine) : OpR X (compareOp .NotEq) rNeE := by
  intro pins s σ H x y v u Q I rx ry h
  obtain ⟨a, b, xs, rfl, rfl, ha, hb, q⟩ := h
  cases (show v = Value.ref a from rx)
  cases (show u = Value.ref b from ry)
  obtain ⟨its, rv, hl⟩ := tup_is I ha
  obtain ⟨its2, rv2, hl2⟩ := tup_is I hb
  cases rv2
  have r := SeqAt.RcNeAt.tuples (A := X.A) (e := fun _ => true) hl hl2 hu (fun j _ h2 => absurd h2 (Nat.not_lt_zero _))
  refine r X.prog X.w _ _ ⟨.bl (!xs.isEmpty), H, I, ?_, q⟩
  show Value.bool _ = Value.bool _
  cases rv with
  | nil => rfl
  | cons _ _ => simp
theorem op_neL (hu : X.A.units < cLine) : OpR X (compareOp .NotEq) rNeL := by
  intro pins s σ H x y v u Q I rx ry h
  obtain ⟨a, b, xs, rfl, rfl, ha, hb, q⟩ := h
  cases (show v = Value.ref a from rx)
  cases (show u = Value.ref b from ry)
  obtain ⟨its, rv, hl⟩ := lst_is I ha
  obtain ⟨its2, rv2, hl2⟩ := lst_is I hb
  cases rv2
  cases rv with
  | nil => exact SeqAt.RcNeAt.lists (A := X.A) (e := fun _ => true) hl hl2 rfl hu (fun j _ h2 => absurd h2 (Nat.not_lt_zero _)) X.prog X.w _ _ ⟨.bl _, H, I, rfl, q⟩
  | cons _ _ => exact SeqAt.RcNeAt.lists_lengths (A := X.A) hl hl2 (by simp) hu X.prog X.w _ _ ⟨.bl _, H, I, rfl, q⟩
theorem op_eq1 (hu : X.A.units < cLine) : OpR X (compareOp .Eq) rEq1 := by
  intro pins s σ H x y v u Q I rx ry h
  obtain ⟨a, b, z, t, xs, rfl, rfl, ha, hb, q⟩ := h
  cases (show v = Value.ref a from rx)
  cases (show u = Value.ref b from ry)
  obtain ⟨its, rv, hl⟩ := tup_is I ha
  obtain ⟨its2, rv2, hl2⟩ := tup_is I hb
  cases rv2 with
  | cons r2 n2 =>
    cases n2
    cases rv with
    | cons r1 n1 =>
      rename_i u1 us1
      obtain ⟨t2, rfl⟩ := (show ∃ t2, _ = Value.str t t2 from r2)
      obtain ⟨t1, rfl⟩ := (show ∃ t1, u1 = Value.str z t1 from r1)
      have r := SeqAt.RcAt.tuples (A := X.A) (e := fun _ => z == t) hl hl2 hu (fun j h1 h2 => by
        have ej : j = 0 := Nat.lt_one_iff.mp h2
        subst ej
        exact SeqAt.EqAt.str_str z t1 t t2)
      refine r X.prog X.w _ _ ⟨.bl _, H, I, ?_, q⟩
      show Value.bool _ = Value.bool _
      have e : (z == t) = decide (z = t) := by
        by_cases h : z = t
        · rw [h, decide_eq_true rfl, beq_self_eq_true]
        · rw [decide_eq_false h]
          exact beq_eq_false_iff_ne.mpr h
      rw [e]
      have l : xs.length = us1.length := n1.length
      cases n1 with
      | nil => simp
      | cons _ _ => simp
end
end Kd

-- ===== K5P =====
set_option Elab.async false
set_option linter.all false
set_option maxRecDepth 100000
set_option maxHeartbeats 4000000
namespace My
open PySem L2 PyProof.Rows PySem.Spec Kd TL
/-! ### the law's own judge -/
abbrev sAllow : Stmt := top 32
def swp (q : IP) : IP := (q.2, q.1)
def AllP (ks ls : List IP) : List IP := (ks ++ ls).map swp
theorem in_all {ks ls : List IP} {q : IP} : swp q ∈ AllP ks ls ↔ q ∈ ks ++ ls := by
  unfold AllP
  rw [List.mem_map]
  constructor
  · rintro ⟨r, m, e⟩
    have h1 := congrArg Prod.fst e
    have h2 := congrArg Prod.snd e
    have : r = q := Prod.ext h2 h1
    rw [← this]
    exact m
  · exact fun m => ⟨q, m, rfl⟩
structure Lk (ss : List (List Stp)) (i0 j0 : Int) (ks ls : List IP) : Prop where
  nd : ks.Nodup
  inn : ∀ q ∈ ks ++ ls, PIn ss.length q
  sub : (i0, j0) ∈ ks ++ ls
  rch : ∀ q ∈ ks ++ ls, Rp ss j0 i0 q.2 q.1
  few : ls.length ≤ 1 + 24 * ks.length
  shut : ∀ q ∈ ks, Shut ss (AllP ks ls) (swp q)
theorem Lk.most {ss : List (List Stp)} {i0 j0 : Int} {ks ls : List IP} (F : Lk ss i0 j0 ks ls) (so : KOk ss) : ks.length ≤ ss.length * ss.length ∧ ks.length ≤ 1600 := by
  have z := pairs_most F.nd fun q m => F.inn q (List.mem_append_left _ m)
  exact ⟨z, Nat.le_trans z (Nat.mul_le_mul so.most so.most)⟩
theorem Lk.done {ss : List (List Stp)} {i0 j0 : Int} {ks : List IP} (F : Lk ss i0 j0 ks []) : ¬ Bey ss j0 i0 := by
  refine no_bey (all := AllP ks []) (in_all.mpr F.sub : swp (i0, j0) ∈ _) fun q m => ?_
  unfold AllP at m
  obtain ⟨r, mr, e⟩ := List.mem_map.mp m
  rw [List.append_nil] at mr
  rw [← e]
  exact F.shut r mr
/-- the last one taken was known -/
theorem Lk.known {ss : List (List Stp)} {i0 j0 : Int} {ks ls : List IP} {q : IP} (F : Lk ss i0 j0 ks (ls ++ [q])) (m : q ∈ ks) : Lk ss i0 j0 ks ls := by
  have same : ∀ r, r ∈ ks ++ (ls ++ [q]) → r ∈ ks ++ ls := fun r h => by
    rcases List.mem_append.mp h with h | h
    · exact List.mem_append_left _ h
    · rcases List.mem_append.mp h with h | h
      · exact List.mem_append_right _ h
      · rw [List.mem_singleton.mp h]
        exact List.mem_append_left _ m
  have back : ∀ r, r ∈ ks ++ ls → r ∈ ks ++ (ls ++ [q]) := fun r h => by
    rcases List.mem_append.mp h with h | h
    · exact List.mem_append_left _ h
    · exact List.mem_append_right _ (List.mem_append_left _ h)
  refine ⟨F.nd, fun r h => F.inn r (back r h), same _ F.sub, fun r h => F.rch r (back r h), ?_, fun r h => (F.shut r h).more fun u hu => ?_⟩
  · have := F.few
    rw [List.length_append] at this
    omega
  · obtain ⟨v, mv, e⟩ := List.mem_map.mp hu
    exact List.mem_map.mpr ⟨v, same v mv, e⟩
/-- while the steps of one pair are looked through: q has just been put among the known -/
structure Lm (ss : List (List Stp)) (i0 j0 : Int) (ks ls : List IP) (q : IP) (t : List Stp) (done : List Stp) : Prop where
  nd : ks.Nodup
  mq : q ∈ ks
  inn : ∀ r ∈ ks ++ ls, PIn ss.length r
  sub : (i0, j0) ∈ ks ++ ls
  rch : ∀ r ∈ ks ++ ls, Rp ss j0 i0 r.2 r.1
  few : ls.length + 24 ≤ 1 + 24 * ks.length + done.length
  shut : ∀ r ∈ ks, r ≠ q → Shut ss (AllP ks ls) (swp r)
  here : ∀ x ∈ done, ∃ y ∈ t, evOf x = evOf y ∧ ∀ z ∈ t, evOf x = evOf z → ((x.2.2, z.2.2) : IP) ∈ AllP ks ls
theorem Lm.most {ss : List (List Stp)} {i0 j0 : Int} {ks ls : List IP} {q : IP} {t d : List Stp} (F : Lm ss i0 j0 ks ls q t d) (so : KOk ss) : ks.length ≤ ss.length * ss.length ∧ ks.length ≤ 1600 := by
  have z := pairs_most F.nd fun q m => F.inn q (List.mem_append_left _ m)
  exact ⟨z, Nat.le_trans z (Nat.mul_le_mul so.most so.most)⟩
theorem Lk.mid {ss : List (List Stp)} {i0 j0 : Int} {ks ls : List IP} {q : IP} {t : List Stp} (F : Lk ss i0 j0 ks (ls ++ [q])) (n : q ∉ ks) : Lm ss i0 j0 (ks ++ [q]) ls q t [] := by
  have same : ∀ r, r ∈ ks ++ (ls ++ [q]) → r ∈ (ks ++ [q]) ++ ls := fun r h => by
    rcases List.mem_append.mp h with h | h
    · exact List.mem_append_left _ (List.mem_append_left _ h)
    · rcases List.mem_append.mp h with h | h
      · exact List.mem_append_right _ h
      · exact List.mem_append_left _ (List.mem_append_right _ h)
  have back : ∀ r, r ∈ (ks ++ [q]) ++ ls → r ∈ ks ++ (ls ++ [q]) := fun r h => by
    rcases List.mem_append.mp h with h | h
    · rcases List.mem_append.mp h with h | h
      · exact List.mem_append_left _ h
      · exact List.mem_append_right _ (List.mem_append_right _ h)
    · exact List.mem_append_right _ (List.mem_append_left _ h)
  refine ⟨?_, List.mem_append_right _ List.mem_cons_self, fun r h => F.inn r (back r h), same _ F.sub, fun r h => F.rch r (back r h), ?_, fun r h ne => ?_, fun x m => nomatch m⟩
  · exact List.nodup_append.mpr ⟨F.nd, List.nodup_cons.mpr ⟨List.not_mem_nil, List.nodup_nil⟩, fun p hp r hr e => n (by rw [← List.mem_singleton.mp hr, ← e]; exact hp)⟩
  · have := F.few
    rw [List.length_append, List.length_singleton] at *
    rw [List.length_nil]
    omega
  · rcases List.mem_append.mp h with h | h
    · refine (F.shut r h).more fun u hu => ?_
      obtain ⟨v, mv, e⟩ := List.mem_map.mp hu
      exact List.mem_map.mpr ⟨v, same v mv, e⟩
    · exact absurd (List.mem_singleton.mp h) ne
theorem Lm.put {ss : List (List Stp)} {i0 j0 : Int} {ks ls : List IP} {i j : Nat} {s t d : List Stp} {x y : Stp} (M : Lm ss i0 j0 ks ls ((j : Int), (i : Int)) t d) (es : ss[i]? = some s) (et : ss[j]? = some t) (mx : x ∈ s) (my : y ∈ t) (ev : evOf x = evOf y) (u : ∀ z ∈ t, evOf x = evOf z → z = y) (ox : StpOk ss.length x) (oy : StpOk ss.length y) :
    Lm ss i0 j0 ks (ls ++ [(y.2.2, x.2.2)]) ((j : Int), (i : Int)) t (d ++ [x]) := by
  have up : ∀ r, r ∈ ks ++ ls → r ∈ ks ++ (ls ++ [((y.2.2, x.2.2) : IP)]) := fun r h => by
    rw [← List.append_assoc]
    exact List.mem_append_left _ h
  have upA : ∀ r, r ∈ AllP ks ls → r ∈ AllP ks (ls ++ [((y.2.2, x.2.2) : IP)]) := fun r h => by
    obtain ⟨v, mv, e⟩ := List.mem_map.mp h
    exact List.mem_map.mpr ⟨v, up v mv, e⟩
  have new : ∀ r, r ∈ ks ++ (ls ++ [((y.2.2, x.2.2) : IP)]) → r ∈ ks ++ ls ∨ r = (y.2.2, x.2.2) := fun r h => by
    rw [← List.append_assoc] at h
    rcases List.mem_append.mp h with h | h
    · exact .inl h
    · exact .inr (List.mem_singleton.mp h)
  refine ⟨M.nd, M.mq, fun r h => ?_, up _ M.sub, fun r h => ?_, ?_, fun r h ne => (M.shut r h ne).more upA, fun w hw => ?_⟩
  · rcases new r h with h | h
    · exact M.inn r h
    · rw [h]
      exact ⟨⟨oy.lo, oy.hi⟩, ox.lo, ox.hi⟩
  · rcases new r h with h | h
    · exact M.rch r h
    · rw [h]
      exact .step (M.rch _ (List.mem_append_left _ M.mq)) es et mx my ev
  · have := M.few
    rw [List.length_append, List.length_append, List.length_singleton, List.length_singleton]
    omega
  · rcases List.mem_append.mp hw with z | z
    · obtain ⟨y', my', ev', k⟩ := M.here w z
      exact ⟨y', my', ev', fun z mz ez => upA _ (k z mz ez)⟩
    · rw [List.mem_singleton.mp z]
      refine ⟨y, my, ev, fun z mz ez => ?_⟩
      rw [u z mz ez]
      exact in_all (q := ((y.2.2, x.2.2) : IP)).mpr (List.mem_append_right _ (List.mem_append_right _ List.mem_cons_self))
theorem Lm.end_ {ss : List (List Stp)} {i0 j0 : Int} {ks ls : List IP} {i j : Nat} {s t : List Stp} (M : Lm ss i0 j0 ks ls ((j : Int), (i : Int)) t s) (es : ss[i]? = some s) (et : ss[j]? = some t) (few : s.length ≤ 24) : Lk ss i0 j0 ks ls := by
  refine ⟨M.nd, M.inn, M.sub, M.rch, by have := M.few; omega, fun r h => ?_⟩
  by_cases e : r = ((j : Int), (i : Int))
  · subst e
    intro i' j' s' t' eq e1 e2 x mx
    have h1 : i = i' := by have := congrArg Prod.fst eq; simp only [swp] at this; omega
    have h2 : j = j' := by have := congrArg Prod.snd eq; simp only [swp] at this; omega
    subst h1
    subst h2
    rw [es] at e1
    rw [et] at e2
    cases e1
    cases e2
    exact M.here x mx
  · exact M.shut r h e
theorem Lm.bey {ss : List (List Stp)} {i0 j0 : Int} {ks ls : List IP} {i j : Nat} {s t d : List Stp} {x : Stp} (M : Lm ss i0 j0 ks ls ((j : Int), (i : Int)) t d) (es : ss[i]? = some s) (et : ss[j]? = some t) (mx : x ∈ s) (n : ∀ y ∈ t, evOf x ≠ evOf y) : Bey ss j0 i0 :=
  ⟨i, j, s, t, x, M.rch _ (List.mem_append_left _ M.mq), es, et, mx, n⟩
def knD (ks : List IP) : List (List L2.Key × V) := ks.map fun q => (pK q, V.bl true)
theorem knD_keys (ks : List IP) : (knD ks).map Prod.fst = ks.map pK := by
  unfold knD
  rw [List.map_map]
  rfl
theorem knD_put {ks : List IP} {q : IP} (n : q ∉ ks) : putK (knD ks) (pK q) (V.bl true) = knD (ks ++ [q]) := by
  have e : putK (knD ks) (pK q) (V.bl true) = knD ks ++ [(pK q, .bl true)] := putK_new fun p m e2 => n (by
    obtain ⟨r, mr, er⟩ := List.mem_map.mp m
    rw [← er] at e2
    rw [← pK_inj e2]
    exact mr)
  rw [e]
  unfold knD
  rw [List.map_append]
  rfl
theorem PairsAt.drop {H : Hp} {as : List Addr} {a : Addr} {fs : List IP} {q : IP} (h : PairsAt H (as ++ [a]) (fs ++ [q])) : PairsAt H as fs ∧ H a = some (.tup [.int q.1, .int q.2]) := by
  have l : as.length = fs.length := by
    have z := h.1
    rw [List.length_append, List.length_append, List.length_singleton, List.length_singleton] at z
    omega
  refine ⟨⟨l, fun k b r e1 e2 => h.2 k b r ?_ ?_⟩, h.2 as.length a q ?_ ?_⟩
  · rw [List.getElem?_append_left (List.getElem?_eq_some_iff.mp e1).1]
    exact e1
  · rw [List.getElem?_append_left (List.getElem?_eq_some_iff.mp e2).1]
    exact e2
  · rw [List.getElem?_append_right (Nat.le_refl _), Nat.sub_self]
    rfl
  · rw [l, List.getElem?_append_right (Nat.le_refl _), Nat.sub_self]
    rfl
theorem rd_any {H H' : Hp} {d e : Addr} {u w : HO} {od : Obj} (keep : ∀ x o, H x = some o → x ≠ d → H' x = some o) (hd : H d = some u) (hd' : H' d = some (.frz od u)) (he : H e = some w) : Rd H' e w := by
  by_cases ed : e = d
  · rw [ed, hd] at he
    cases he
    rw [ed]
    exact .inr ⟨od, hd'⟩
  · exact .inl (keep _ _ he ed)
def spAll : Sp := fun vs H Q _ => ∃ (m : Addr) (ss : List (List Stp)) (i j : Int), vs = [.ref m, .int i, .int j] ∧ MovesAt H m ss ∧ KOk ss ∧ PIn ss.length (i, j) ∧
  ∀ (b : Bool) (H' : Hp), Same H H' → (b = true ↔ ¬ Bey ss j i) → Q (.bl b) H'
section
variable {P : Program} {w : World} {K : PySem.W.Frag} {mg : Str → Option Value} {base : Heap}
abbrev nAl : List Str := ["_law_tables", "_law_first", "_law_second", "_law_known", "_law_left", "_law_pair", "_law_here", "_law_there", "_law_event"]
theorem scAl : FnScope nAl ["_law_tables", "_law_first", "_law_second"] (defScope sAllow) := ⟨rfl, rfl, rfl, by decide +kernel, rfl, by decide +kernel, by decide +kernel⟩
theorem ok_all {f : Addr} {fd : FuncData} (F : Fun K "_law_allows" "_law_allows" sAllow f fd) (G : Gs mg) : FnOk P w K mg base CX0 1 f fd ["_law_tables", "_law_first", "_law_second"] spAll := by
  refine F.ok scAl (fun vs H Q E h => ?_) (fun cdv A outer s H vs Q E hr h => ?_)
  · obtain ⟨m, ss, i, j, rfl, _⟩ := h
    rfl
  · obtain ⟨m, ss, i0, j0, rfl, hm, so, pin, k⟩ := h
    have hu := hr.units
    have hu1 : (A.deeper (envOfC "_law_allows" (defScope sAllow) s.heap.objs.size f cdv)).units + 1 < cLine := by omega
    have hu0 : (A.deeper (envOfC "_law_allows" (defScope sAllow) s.heap.objs.size f cdv)).units < cLine := by omega
    refine ⟨_, (pss_cons (ps_par (i := 3) (j := 4) rfl scAl.nd rfl rfl (by decide) rfl rfl (pa_cons pe_dnewT (pa_cons (pe_lst (pa_cons (pe_tup (pa_cons (pv 1) (pa_cons (pv 2) pa_nil))) pa_nil)) pa_nil)) (by rfl)) (pss_cons (ps_while PassesOwn.never (pt_cmpR (op_neL hu0) (pv 4) (pe_lst pa_nil) (nomark _)) (pss_cons (ps_set (i := 5) scAl.nd rfl (Or.inl rfl) (pe_bm0 PySem.F.plainAttrs_list PySem.F.slot_list_pop PySem.F.type_list_pop mt_pop (pv 4))) (pss_one (ps_if (pt_cmp (pc_dnotin hu1 (pv 5) (pv 3))) (pss_cons (ps_dput hu1 (pv 3) (pv 5) pe_bl (by rfl)) (pss_cons (ps_par (i := 6) (j := 7) rfl scAl.nd rfl rfl (by decide) rfl rfl (pa_cons (pe_ix (r := rIxL K) ix_list (pv 0) (pe_ix ix_tup (pv 5) pe_int (fun _ _ => rfl)) (fun _ _ => rfl)) (pa_cons (pe_ix (r := rIxL K) ix_list (pv 0) (pe_ix ix_tup (pv 5) pe_int (fun _ _ => rfl)) (fun _ _ => rfl)) pa_nil)) (by rfl)) (pss_one (ps_lock (ps_for PassesOwn.never rfl (pi_keys (pv 7)) (pg_name (i := 8) scAl.nd rfl (Or.inl rfl)) (pss_cons (ps_if (pt_cmp (pc_dnotin hu1 (pv 8) (pv 6))) (pss_one (ps_ret pe_bl)) pss_nil) (pss_one (ps_expr (pe_bm PySem.F.plainAttrs_list PySem.F.slot_list_append PySem.F.type_list_append mt_append (pv 4) (pa_cons (pe_tup (pa_cons (pe_dget hu1 (pv 6) (pv 8) (fun _ _ => rfl)) (pa_cons (pe_dget hu1 (pv 7) (pv 8) (fun _ _ => rfl)) pa_nil))) pa_nil)))))))))) pss_nil)))) (pss_one (ps_ret pe_bl)))), ?_⟩
    refine fun kd hkd => ⟨_, rfl, _, rfl, by show 2 ≤ sizeLine; decide, fun q0 hq0 => ⟨by show 1 ≤ sizeLine; decide, fun lo hlo => ⟨_, _, rfl, ?_⟩⟩⟩
    have s1 := same_new (o := .dT []) hkd
    have s2 := s1.trans (same_new (o := .tup [V.int i0, .int j0]) hq0)
    have s3 := s2.trans (same_new (o := .lst [V.ref q0]) hlo)
    have flo : H lo = none := none_of s2 hlo
    have b3 : (upd (upd (upd H kd (.dT [])) q0 (.tup [V.int i0, .int j0])) lo (.lst [V.ref q0])) lo = some (.lst ([q0].map V.ref)) := upd_same
    have d3 : (upd (upd (upd H kd (.dT [])) q0 (.tup [V.int i0, .int j0])) lo (.lst [V.ref q0])) kd = some (.dT (knD [])) := same_new hlo _ _ (same_new hq0 _ _ upd_same)
    have P0 : PairsAt (upd (upd (upd H kd (.dT [])) q0 (.tup [V.int i0, .int j0])) lo (.lst [V.ref q0])) [q0] [(i0, j0)] := ⟨rfl, fun kk a q ea eq => by
      have h1 := List.mem_singleton.mp (List.mem_of_getElem? ea)
      have h2 := List.mem_singleton.mp (List.mem_of_getElem? eq)
      rw [h1, h2]
      exact same_new hlo _ _ upd_same⟩
    have F0 : Lk ss i0 j0 [] [(i0, j0)] := ⟨List.nodup_nil, fun q m => by rw [List.mem_singleton.mp m]; exact pin, List.mem_cons_self, fun q m => by rw [List.mem_singleton.mp m]; exact .base, Nat.le_refl _, fun q m => nomatch m⟩
    generalize upd (upd (upd H kd (.dT [])) q0 (.tup [V.int i0, .int j0])) lo (.lst [V.ref q0]) = H3 at s3 b3 d3 P0 ⊢
    generalize [q0] = as0 at b3 P0
    refine ⟨fun μ σ Hw => ∃ (ks ls : List IP) (as : List Addr) (o5 o6 o7 o8 : Option V), μ = (ss.length * ss.length - ks.length) * 26 + ls.length ∧ σ = [some (.ref m), some (.int i0), some (.int j0), some (.ref kd), some (.ref lo), o5, o6, o7, o8] ∧ Same H Hw ∧ Hw lo = some (.lst (as.map V.ref)) ∧ Hw kd = some (.dT (knD ks)) ∧ PairsAt Hw as ls ∧ Lk ss i0 j0 ks ls,
      ⟨_, [], _, as0, none, none, none, none, rfl, rfl, s3, b3, d3, P0, F0⟩, fun μ σ Hw ⟨ks, ls, as, o5, o6, o7, o8, eμ, eσ, sw, fw, dw, PA, F⟩ => ?_⟩
    subst eμ
    subst eσ
    refine ⟨_, rfl, by show 0 ≤ sizeLine; decide, fun el hel => ?_⟩
    have se := same_new (o := .lst []) hel
    have sw2 := sw.trans se
    have fw2 := se _ _ fw
    have dw2 := se _ _ dw
    have PA2 := PA.to (Tup.of se)
    have le_ : (upd Hw el (.lst [])) el = some (.lst []) := upd_same
    generalize upd Hw el (.lst []) = Hx at sw2 fw2 dw2 PA2 le_ ⊢
    refine ⟨lo, el, _, rfl, rfl, fw2, le_, _, rfl, ?_⟩
    rcases List.eq_nil_or_concat ls with rfl | ⟨ls', q, rfl⟩
    · have e0 : as = [] := List.length_eq_zero_iff.mp PA.1
      subst e0
      exact iteF (k true _ sw2 ⟨fun _ => F.done, fun _ => rfl⟩)
    · rw [List.concat_eq_append] at PA2 F ⊢
      have lpa := PA2.1
      rcases List.eq_nil_or_concat as with rfl | ⟨as', a, rfl⟩
      · rw [List.length_append] at lpa
        cases lpa
      rw [List.concat_eq_append] at PA2 fw2 ⊢
      obtain ⟨PA3, ha⟩ := PA2.drop
      have ne : (!((as' ++ [a]).map V.ref).isEmpty) = true := by rw [List.map_append]; cases as'.map V.ref <;> rfl
      rw [ne]
      refine iteT ⟨fun σ' H' => ∃ μ', μ' < (ss.length * ss.length - ks.length) * 26 + (ls' ++ [q]).length ∧ ∃ (ks ls : List IP) (as : List Addr) (o5 o6 o7 o8 : Option V), μ' = (ss.length * ss.length - ks.length) * 26 + ls.length ∧ σ' = [some (.ref m), some (.int i0), some (.int j0), some (.ref kd), some (.ref lo), o5, o6, o7, o8] ∧ Same H H' ∧ H' lo = some (.lst (as.map V.ref)) ∧ H' kd = some (.dT (knD ks)) ∧ PairsAt H' as ls ∧ Lk ss i0 j0 ks ls, fun σ' H' h => h, ?_⟩
      refine ⟨_, rfl, .inl ⟨rfl, _, SqL.of fw2⟩, lo, _, .ref a, rfl, rfl, fw2, ?_, ?_⟩
      · rw [List.map_append, List.length_append, List.length_map]
        show _[as'.length + 1 - 1]? = _
        rw [Nat.add_sub_cancel, List.getElem?_append_right (by rw [List.length_map]; exact Nat.le_refl _), List.length_map, Nat.sub_self]
        rfl
      have dl : ((as' ++ [a]).map V.ref).dropLast = as'.map V.ref := by rw [List.map_append]; exact List.dropLast_concat
      rw [dl]
      have kl : kd ≠ lo := fun z => by rw [z, fw2] at dw2; cases dw2
      have tpl : Tup Hx (upd Hx lo (.lst (as'.map V.ref))) := Tup.at_ fw2 fun xs z => nomatch z
      have fw3 : (upd Hx lo (.lst (as'.map V.ref))) lo = some (.lst (as'.map V.ref)) := upd_same
      have dw3 : (upd Hx lo (.lst (as'.map V.ref))) kd = some (.dT (knD ks)) := by
        rw [upd_ne kl]
        exact dw2
      have sw3 : Same H (upd Hx lo (.lst (as'.map V.ref))) := fun b o e => by
        rw [upd_ne (ne_of_none e flo)]
        exact sw2 _ _ e
      have PA4 := PA3.to tpl
      have ha4 := tpl _ _ ha
      generalize upd Hx lo (.lst (as'.map V.ref)) = Hy at fw3 dw3 sw3 PA4 ha4 ⊢
      refine ⟨_, rfl, _, rfl, kd, _, rfl, .inr ⟨knD ks, pK q, a, .inl dw3, rfl, ha4, rfl⟩, _, rfl, ?_⟩
      rw [valV_in (knD_keys ks)]
      by_cases mk : q ∈ ks
      · rw [decide_eq_true mk]
        exact iteF ⟨_, by rw [List.length_append, List.length_singleton]; omega, ks, ls', as', _, _, _, _, rfl, rfl, sw3, fw3, dw3, PA4, F.known mk⟩
      rw [decide_eq_false mk]
      have klen : ks.length ≤ 1600 := (F.most so).2
      refine iteT ⟨_, rfl, _, rfl, kd, _, rfl, .inr ⟨knD ks, pK q, a, dw3, rfl, ha4, small_lt (m := 1600) (by unfold knD; rw [List.length_map]; exact klen), rfl⟩, ?_⟩
      rw [knD_put mk]
      have tp5 : Tup Hy (upd Hy kd (.dT (knD (ks ++ [q])))) := Tup.at_ dw3 fun xs z => nomatch z
      have fw5 : (upd Hy kd (.dT (knD (ks ++ [q])))) lo = some (.lst (as'.map V.ref)) := by
        rw [upd_ne (Ne.symm kl)]
        exact fw3
      have dw5 : (upd Hy kd (.dT (knD (ks ++ [q])))) kd = some (.dT (knD (ks ++ [q]))) := upd_same
      have sw5 : Same H (upd Hy kd (.dT (knD (ks ++ [q])))) := fun b o e => by
        rw [upd_ne (ne_of_none e hkd)]
        exact sw3 _ _ e
      have PA5 := PA4.to tp5
      have ha5 := tp5 _ _ ha4
      generalize upd Hy kd (.dT (knD (ks ++ [q]))) = Hz at fw5 dw5 sw5 PA5 ha5 ⊢
      have inq := F.inn q (List.mem_append_right _ (List.mem_append_right _ List.mem_cons_self))
      obtain ⟨qj, qi⟩ := q
      obtain ⟨⟨n2, n3⟩, n0, n1⟩ := inq
      obtain ⟨i, ei⟩ := Int.eq_ofNat_of_zero_le n0
      obtain ⟨j, ej⟩ := Int.eq_ofNat_of_zero_le n2
      dsimp only at ei ej n1 n3
      subst ei
      subst ej
      have li : i < ss.length := by omega
      have lj : j < ss.length := by omega
      obtain ⟨bs, hm1, hm2, hm3⟩ := hm.same sw5
      obtain ⟨bs0, g1, g2, g3⟩ := hm
      have eb : bs0 = bs := by
        have z := sw5 _ _ g1
        rw [hm1] at z
        have z2 : bs.map V.ref = bs0.map V.ref := HO.lst.inj (Option.some.inj z)
        exact (List.map_inj_right (fun a b e => V.ref.inj e)).mp z2.symm
      subst eb
      obtain ⟨st, es⟩ : ∃ st, ss[i]? = some st := ⟨ss[i], List.getElem?_eq_getElem li⟩
      obtain ⟨tt, et⟩ : ∃ tt, ss[j]? = some tt := ⟨ss[j], List.getElem?_eq_getElem lj⟩
      obtain ⟨d, ed⟩ : ∃ d, bs0[i]? = some d := ⟨bs0[i]'(by omega), List.getElem?_eq_getElem _⟩
      obtain ⟨e, ee⟩ : ∃ d, bs0[j]? = some d := ⟨bs0[j]'(by omega), List.getElem?_eq_getElem _⟩
      have hd := hm3 i d st ed es
      have he := hm3 j e tt ee et
      have hdH := g3 i d st ed es
      have heH := g3 j e tt ee et
      have sto := so.all st (List.mem_of_getElem? es)
      have tto := so.all tt (List.mem_of_getElem? et)
      have eatd : atI (bs0.map V.ref) (i : Int) = some (.ref d) := atI_nat (by rw [List.getElem?_map, ed]; rfl)
      have eate : atI (bs0.map V.ref) (j : Int) = some (.ref e) := atI_nat (by rw [List.getElem?_map, ee]; rfl)
      refine ⟨_, rfl, _, rfl, a, _, 0, _, rfl, rfl, SqT.of ha5, rfl, m, _, _, _, rfl, rfl, SqL.of hm1, eate, _, rfl, _, rfl, a, _, 1, _, rfl, rfl, SqT.of ha5, rfl, m, _, _, _, rfl, rfl, SqL.of hm1, eatd, _, _, rfl, ?_⟩
      refine ⟨d, _, hd, trivial, fun od => ?_⟩
      have fd_ : lo ≠ d := fun z => by rw [z, hd] at fw5; cases fw5
      have sd : kd ≠ d := fun z => by rw [z, hdH] at hkd; cases hkd
      have tp6 : Tup Hz (upd Hz d (.frz od (.dT (st.map mvOf)))) := Tup.at_ hd fun xs z => nomatch z
      refine ⟨_, rfl, d, od, rfl, .inr ⟨st.map mvOf, upd_same, for_it walk_keysT (fun g σ H4 => ∃ (ls2 : List IP) (as2 : List Addr) (o8 : Option V), σ = [some (.ref m), some (.int i0), some (.int j0), some (.ref kd), some (.ref lo), some (.ref a), some (.ref e), some (.ref d), o8] ∧ H4 d = some (.frz od (.dT (st.map mvOf))) ∧ (∀ x o, H x = some o → x ≠ d → H4 x = some o) ∧ H4 lo = some (.lst (as2.map V.ref)) ∧ H4 kd = some (.dT (knD (ks ++ [((j : Int), (i : Int))]))) ∧ PairsAt H4 as2 ls2 ∧ ls2.length ≤ ls'.length + g ∧ Lm ss i0 j0 (ks ++ [((j : Int), (i : Int))]) ls2 ((j : Int), (i : Int)) tt (st.take g)) ?_ (fun g σ H4 _ ⟨_, _, _, _, h, _⟩ => h) ?_ ?_⟩⟩
      · refine ⟨ls', as', _, rfl, upd_same, fun x o e ne => ?_, by rw [upd_ne fd_]; exact fw5, by rw [upd_ne sd]; exact dw5, PA5.to tp6, Nat.le_refl _, F.mid mk⟩
        rw [upd_ne ne]
        exact sw5 _ _ e
      · rintro g v σ H4 H5 lg ⟨ls2, as2, p8, rfl, h4, b4, f4, d4, A4, l4, M⟩ ⟨rfl, kk, vv, q, ekv, rfl, hq⟩
        rw [List.getElem?_map] at ekv
        obtain ⟨x, ex, e2⟩ := Option.map_eq_some_iff.mp ekv
        cases e2
        have mx := List.mem_of_getElem? ex
        have xo := sto.all x mx
        have tk : st.take (g + 1) = st.take g ++ [x] := by rw [List.take_succ, ex]; rfl
        have rde : Rd H5 e (.dT (tt.map mvOf)) := rd_any b4 hdH h4 heH
        refine ⟨_, rfl, _, rfl, e, _, rfl, .inr ⟨_, evK (evOf x), q, rde, rfl, hq, rfl⟩, _, rfl, ?_⟩
        rcases mv_val tto.asc (evOf x) with ⟨ev, no⟩ | ⟨y, my, ev, evv, uq⟩
        · rw [ev]
          refine iteT ⟨h4, k false _ (fun b o eb => ?_) ⟨fun z => (nomatch z), fun z => absurd (M.bey es et mx no) z⟩⟩
          by_cases bd : b = d
          · rw [bd, hdH] at eb
            rw [bd, upd_same]
            exact eb
          · rw [upd_ne bd]
            exact b4 b o eb bd
        · rw [evv]
          have evx : valV (st.map mvOf) (evK (evOf x)) = some (.int x.2.2) := by
            rcases mv_val sto.asc (evOf x) with ⟨_, no⟩ | ⟨z, mz, ez, evz, uz⟩
            · exact absurd rfl (no x mx)
            · rw [evz, uz x mx rfl]
          refine iteF ⟨_, rfl, .inl ⟨rfl, _, SqL.of f4⟩, _, rfl, _, rfl, e, _, rfl, .inr ⟨_, evK (evOf x), q, rde, rfl, hq, evv.symm⟩, _, rfl, _, rfl, d, _, rfl, .inr ⟨_, evK (evOf x), q, .inr ⟨od, h4⟩, rfl, hq, evx.symm⟩, by show 2 ≤ sizeLine; decide, fun pr hpr => ?_⟩
          have s6 := same_new (o := .tup [V.int y.2.2, .int x.2.2]) hpr
          have hp6 : (upd H5 pr (.tup [V.int y.2.2, .int x.2.2])) pr = some (.tup [V.int y.2.2, .int x.2.2]) := upd_same
          have h6 := s6 _ _ h4
          have b6 : ∀ y' o, H y' = some o → y' ≠ d → (upd H5 pr (.tup [V.int y.2.2, .int x.2.2])) y' = some o := fun y' o e ne => s6 _ _ (b4 y' o e ne)
          have f6 := s6 _ _ f4
          have d6 := s6 _ _ d4
          have A6 := A4.to (Tup.of s6)
          generalize upd H5 pr (.tup [V.int y.2.2, .int x.2.2]) = H6 at hp6 h6 b6 f6 d6 A6 ⊢
          have mfew := M.few
          have mk2 := (M.most so).2
          have ltk : (st.take g).length ≤ 24 := Nat.le_trans (by rw [List.length_take]; exact Nat.min_le_right _ _) sto.few
          refine ⟨lo, _, _, rfl, rfl, f6, small_lt (m := 50000) (by rw [List.length_map, A6.1]; omega), ?_⟩
          have tpA : Tup H6 (upd H6 lo (.lst (as2.map V.ref ++ [.ref pr]))) := Tup.at_ f6 fun xs z => nomatch z
          refine ⟨ls2 ++ [(y.2.2, x.2.2)], as2 ++ [pr], _, rfl, by rw [upd_ne (Ne.symm fd_)]; exact h6, fun y' o e ne => ?_, by rw [upd_same, List.map_append]; rfl, by rw [upd_ne kl]; exact d6, (A6.put hp6).to tpA, by rw [List.length_append, List.length_singleton]; omega, ?_⟩
          · rw [upd_ne (ne_of_none e flo)]
            exact b6 y' o e ne
          · rw [tk]
            exact M.put es et mx my ev uq xo (tto.all y my)
      · rintro σ H4 ⟨ls2, as2, p8, rfl, h4, b4, f4, d4, A4, l4, M⟩
        have lk1 := (M.most so).1
        rw [List.length_append, List.length_singleton] at lk1
        rw [List.length_map] at l4
        have sfew := sto.few
        rw [List.length_map, List.take_length] at M
        have tp4 : Tup H4 (upd H4 d (.dT (st.map mvOf))) := Tup.at_ h4 fun xs z => nomatch z
        refine ⟨h4, _, ?_, _, ls2, as2, _, _, _, _, rfl, rfl, fun y o eo => ?_, by rw [upd_ne fd_]; exact f4, by rw [upd_ne sd]; exact d4, A4.to tp4, M.end_ es et sto.few⟩
        · simp only [List.length_append, List.length_singleton]
          omega
        · by_cases yd : y = d
          · rw [yd, hdH] at eo
            rw [yd, upd_same]
            exact eo
          · rw [upd_ne yd]
            exact b4 y o eo yd
end
end My

-- ===== K5T =====
set_option Elab.async false
set_option linter.all false
set_option maxRecDepth 100000
set_option maxHeartbeats 4000000
namespace My
open PySem L2 PyProof.Rows PySem.Spec Kd TL StX ClX
abbrev sKall : Stmt := inClass sKind 12
abbrev sKalike : Stmt := inClass sKind 13
def spKall (C : Addr) : Sp := fun vs H Q _ => ∃ (v : V) (ss : List (List Stp)) (i j : Int), vs = [v, .int i, .int j] ∧ KindAt C H v ss ∧ KOk ss ∧ PIn ss.length (i, j) ∧
  ∀ (b : Bool) (H' : Hp), Same H H' → (b = true ↔ ¬ Bey ss j i) → Q (.bl b) H'
def spKalike (C : Addr) : Sp := fun vs H Q _ => ∃ (v : V) (ss : List (List Stp)) (i j : Int), vs = [v, .int i, .int j] ∧ KindAt C H v ss ∧ KOk ss ∧ PIn ss.length (i, j) ∧
  ∀ (b : Bool) (H' : Hp), Same H H' → (b = true ↔ ¬ Bey ss j i ∧ ¬ Bey ss i j) → Q (.bl b) H'
section
variable {P : Program} {w : World} {K : PySem.W.Frag} {mg : Str → Option Value} {base : Heap} {C : Addr}
theorem scKa : FnScope ["self", "one", "other"] ["self", "one", "other"] (defScope sKall) := ⟨rfl, rfl, rfl, by decide +kernel, rfl, by decide +kernel, by decide +kernel⟩
theorem scKb : FnScope ["self", "one", "other"] ["self", "one", "other"] (defScope sKalike) := ⟨rfl, rfl, rfl, by decide +kernel, rfl, by decide +kernel, by decide +kernel⟩
theorem ok_kall {f fB : Addr} {fd fdB : FuncData} (F : Fun K "allows" "Kind.allows" sKall f fd) (cl : Cls K C) (n2 : NoAttr K C "moves")
    (GB : FnOk P w K mg base CX0 1 fB fdB ["mine", "one", "theirs", "other"] spBey) (mB : mg "first_beyond" = some (.ref fB)) (kB : PySem.W.keepIn K (.ref fB) = true) (bB : Binds K fdB ["mine", "one", "theirs", "other"] []) :
    FnOk P w K mg base CX0 2 f fd ["self", "one", "other"] (spKall C) := by
  refine F.ok scKa (fun vs H Q E h => ?_) (fun cdv A outer s H vs Q E hr h => ?_)
  · obtain ⟨v, ss, i, j, rfl, _⟩ := h
    rfl
  · obtain ⟨v, ss, i, j, rfl, hk, so, pin, k⟩ := h
    refine ⟨_, pss_one (ps_ret (pe_cmp (pc_isN (pe_call GB hr (by rfl) mB kB bB .nil pass0 (pa_cons (pe_fld (pv 0) rfl) (pa_cons (pv 2) (pa_cons (pe_fld (pv 0) rfl) (pa_cons (pv 1) pa_nil)))))))), ?_⟩
    obtain ⟨o, dx, a, m, rfl, ho, ht, hm⟩ := hk
    refine ⟨_, rfl, o, C, dx, _, _, rfl, ho, cl, n2, rfl, _, rfl, _, rfl, o, C, dx, _, _, rfl, ho, cl, n2, rfl, _, rfl, m, ss, j, i, rfl, hm, so, ⟨pin.2, pin.1⟩, fun H' s nb => ?_, fun b vs H' s _ y => ?_⟩
    · exact k true H' s ⟨fun _ => nb, fun _ => rfl⟩
    · exact k false H' s ⟨fun z => (nomatch z), fun z => absurd y z⟩
theorem ok_kalike {f gA : Addr} {fd fdA : FuncData} (F : Fun K "alike" "Kind.alike" sKalike f fd) (cl : Cls K C) (hm : Meth K C "allows" gA)
    (GA : FnOk P w K mg base CX0 2 gA fdA ["self", "one", "other"] (spKall C)) (bA : Binds K fdA ["self", "one", "other"] []) :
    FnOk P w K mg base CX0 3 f fd ["self", "one", "other"] (spKalike C) := by
  refine F.ok scKb (fun vs H Q E h => ?_) (fun cdv A outer s H vs Q E hr h => ?_)
  · obtain ⟨v, ss, i, j, rfl, _⟩ := h
    rfl
  · obtain ⟨v, ss, i, j, rfl, hk, so, pin, k⟩ := h
    refine ⟨_, pss_one (ps_ret (pe_and (pe_meth (pl := _) (pv 0) cl hm GA hr bA .nil pass0 (pa_cons (pv 1) (pa_cons (pv 2) pa_nil))) (pe_one (pe_meth (pl := _) (pv 0) cl hm GA hr bA .nil pass0 (pa_cons (pv 2) (pa_cons (pv 1) pa_nil)))))), ?_⟩
    obtain ⟨o, dx, a, m, ev, ho, ht, hmv⟩ := id hk
    subst ev
    refine ⟨_, rfl, o, dx, _, rfl, ho, rfl, _, rfl, _, rfl, .ref o, ss, i, j, rfl, hk, so, pin, fun b H' s e => ⟨b, rfl, ?_⟩⟩
    cases b with
    | false =>
      refine iteF (k false H' s ⟨fun z => (nomatch z), fun z => ?_⟩)
      exact e.mpr z.1
    | true =>
      refine iteT ⟨_, rfl, o, dx, _, rfl, s _ _ ho, rfl, _, rfl, _, rfl, .ref o, ss, j, i, rfl, hk.same s, so, ⟨pin.2, pin.1⟩, fun b H2 s2 e2 => k b H2 (s.trans s2) ⟨fun z => ⟨e.mp rfl, e2.mp z⟩, fun z => e2.mpr z.2⟩⟩
end
end My

-- ===== K5M2 =====
set_option Elab.async false
set_option linter.all false
set_option maxRecDepth 100000
set_option maxHeartbeats 4000000
namespace My
open PySem L2 PyProof.Rows PySem.Spec Kd TL
abbrev sMenu : Stmt := top 29
abbrev sLStates : Stmt := top 30
theorem wrd_w : ∀ z ∈ (["a", "b", "get", "put1", "0", "zzzzzzzzzzzz", "read", "a1"] : List Str), Wrd z := by
  unfold Wrd
  decide +kernel
theorem wrd_s : ∀ z ∈ (["ok", "no", "a", "0", "full", "12"] : List Str), Wrd z := by
  unfold Wrd
  decide +kernel
/-- a menu in a list: its pairs rising -/
structure MenuAt (H : Hp) (r : Addr) (S : List (Addr × List Key)) (es : List (Str × Str)) : Prop where
  lst : H r = some (.lst (S.map fun q => V.ref q.1))
  at_ : ∀ q ∈ S, H q.1 = some (.tup (q.2.map kV))
  key : S.map Prod.snd = es.map evK
  asc : es.Pairwise evLt
  wrd : ∀ e ∈ es, Wrd e.1 ∧ Wrd e.2
  few : es.length ≤ 5
theorem MenuAt.save {H H' : Hp} {r p c : Addr} {S : List (Addr × List Key)} {es : List (Str × Str)} {ks : List Int} {w n : Int} (M : MenuAt H r S es) (F : FeedAt H p c ks w n) (h1 : r ≠ p) (h2 : r ≠ c) (s : Save p c H H') : MenuAt H' r S es :=
  ⟨s _ _ M.lst h1 h2, fun q m => Save.tup F s _ _ (M.at_ q m), M.key, M.asc, M.wrd, M.few⟩
def spMenu : Sp := fun vs H Q _ => ∃ (p c : Addr) (ks : List Int) (w n many : Int), vs = [.ref p, .int many] ∧ FeedAt H p c ks w n ∧ n < 800000 ∧ 1 ≤ many ∧ many ≤ 5 ∧
  ∀ (r : Addr) (S : List (Addr × List Key)) (es : List (Str × Str)) (ks' : List Int) (n' : Int) (H' : Hp), MenuAt H' r S es → r ≠ p → r ≠ c → FeedAt H' p c ks' w n' → n' ≤ n + 10 → Save p c H H' → Q (.ref r) H'
section
variable {P : Program} {w : World} {K : PySem.W.Frag} {mg : Str → Option Value} {base : Heap}
abbrev nMe : List Str := ["_law_feed_here", "_law_many", "_law_words", "_law_said", "_law_found", "_law_k"]
theorem scMe : FnScope nMe ["_law_feed_here", "_law_many"] (defScope sMenu) := ⟨rfl, rfl, rfl, by decide +kernel, rfl, by decide +kernel, by decide +kernel⟩
theorem ok_menu {f fP : Addr} {fd fdP : FuncData} (F : Fun K "_law_menu" "_law_menu" sMenu f fd) (G : Gs mg)
    (GP : FnOk P w K mg base CX0 2 fP fdP ["_law_feed_here", "_law_some"] spPick) (mP : mg "_law_pick" = some (.ref fP)) (kP : PySem.W.keepIn K (.ref fP) = true) (bP : Binds K fdP ["_law_feed_here", "_law_some"] []) :
    FnOk P w K mg base CX0 3 f fd ["_law_feed_here", "_law_many"] spMenu := by
  refine F.ok scMe (fun vs H Q E h => ?_) (fun cdv A outer s H vs Q E hr h => ?_)
  · obtain ⟨p, c, ks, y, n, m, rfl, _⟩ := h
    rfl
  · obtain ⟨p, c, ks, y, n, m, rfl, FA, hn, m0, m1, k⟩ := h
    have hu := hr.units
    have hu1 : (A.deeper (envOfC "_law_menu" (defScope sMenu) s.heap.objs.size f cdv)).units + 1 < cLine := by omega
    refine ⟨_, pss_cons (ps_set (i := 2) scMe.nd rfl (Or.inl rfl) (pe_lst (pa_cons pe_str (pa_cons pe_str (pa_cons pe_str (pa_cons pe_str (pa_cons pe_str (pa_cons pe_str (pa_cons pe_str (pa_cons pe_str pa_nil))))))))))
      (pss_cons (ps_par (i := 3) (j := 4) rfl scMe.nd rfl rfl (by decide) rfl rfl (pa_cons (pe_lst (pa_cons pe_str (pa_cons pe_str (pa_cons pe_str (pa_cons pe_str (pa_cons pe_str (pa_cons pe_str pa_nil))))))) (pa_cons pe_dnewT pa_nil)) (by rfl))
      (pss_cons (ps_for PassesOwn.never rfl (pi_range1 (by rfl) G.range (pa_cons (pv 1) pa_nil)) (pg_name (i := 5) scMe.nd rfl (Or.inl rfl))
        (pss_one (ps_dput hu1 (pv 4) (pe_tup (pa_cons (pe_call GP hr (by rfl) mP kP bP .nil pass0 (pa_cons (pv 0) (pa_cons (pv 2) pa_nil))) (pa_cons (pe_call GP hr (by rfl) mP kP bP .nil pass0 (pa_cons (pv 0) (pa_cons (pv 3) pa_nil))) pa_nil))) pe_bl (by rfl))))
      (pss_one (ps_ret (pe_callB (cr_sortD rfl hu) (by rfl) G.sorted PyProof.Rows.boot_sorted (pa_cons (pv 4) pa_nil)))))), ?_⟩
    have n0 := FA.n0
    refine ⟨by show 8 ≤ sizeLine; decide, fun wl hwl => ⟨by show 6 ≤ sizeLine; decide, fun sl hsl md hmd => ⟨_, _, rfl, ?_⟩⟩⟩
    have s1 := same_new (o := .lst [V.str "a", .str "b", .str "get", .str "put1", .str "0", .str "zzzzzzzzzzzz", .str "read", .str "a1"]) hwl
    have s2 := s1.trans (same_new (o := .lst [V.str "ok", .str "no", .str "a", .str "0", .str "full", .str "12"]) hsl)
    have s3 := s2.trans (same_new (o := .dT []) hmd)
    have fmd : H md = none := none_of s2 hmd
    have aw : (upd (upd (upd H wl (.lst [V.str "a", .str "b", .str "get", .str "put1", .str "0", .str "zzzzzzzzzzzz", .str "read", .str "a1"])) sl (.lst [V.str "ok", .str "no", .str "a", .str "0", .str "full", .str "12"])) md (.dT [])) wl = some (.lst ((["a", "b", "get", "put1", "0", "zzzzzzzzzzzz", "read", "a1"] : List Str).map V.str)) := same_new hmd _ _ (same_new hsl _ _ upd_same)
    have asl : (upd (upd (upd H wl (.lst [V.str "a", .str "b", .str "get", .str "put1", .str "0", .str "zzzzzzzzzzzz", .str "read", .str "a1"])) sl (.lst [V.str "ok", .str "no", .str "a", .str "0", .str "full", .str "12"])) md (.dT [])) sl = some (.lst ((["ok", "no", "a", "0", "full", "12"] : List Str).map V.str)) := same_new hmd _ _ upd_same
    have amd : (upd (upd (upd H wl (.lst [V.str "a", .str "b", .str "get", .str "put1", .str "0", .str "zzzzzzzzzzzz", .str "read", .str "a1"])) sl (.lst [V.str "ok", .str "no", .str "a", .str "0", .str "full", .str "12"])) md (.dT [])) md = some (.dT []) := upd_same
    generalize upd (upd (upd H wl (.lst [V.str "a", .str "b", .str "get", .str "put1", .str "0", .str "zzzzzzzzzzzz", .str "read", .str "a1"])) sl (.lst [V.str "ok", .str "no", .str "a", .str "0", .str "full", .str "12"])) md (.dT []) = H0 at s3 aw asl amd ⊢
    have FA0 := FA.same s3
    have fwl : H wl = none := hwl
    have fsl : H sl = none := none_of s1 hsl
    have wp : wl ≠ p := Ne.symm (ne_of_none FA.ob fwl)
    have wc : wl ≠ c := Ne.symm (ne_of_none FA.cs fwl)
    have sp_ : sl ≠ p := Ne.symm (ne_of_none FA.ob fsl)
    have sc_ : sl ≠ c := Ne.symm (ne_of_none FA.cs fsl)
    have mp : md ≠ p := Ne.symm (ne_of_none FA.ob fmd)
    have mc : md ≠ c := Ne.symm (ne_of_none FA.cs fmd)
    have wm : wl ≠ md := fun z => by rw [z, amd] at aw; cases aw
    have sm : sl ≠ md := fun z => by rw [z, amd] at asl; cases asl
    refine ⟨_, rfl, m, rfl, by omega, by omega, for_range (lo := 0) (n := m.toNat) (fun j σ H2 => ∃ o5 ks2 n2 kvs, σ = [some (.ref p), some (.int m), some (.ref wl), some (.ref sl), some (.ref md), o5] ∧ Menu kvs ∧ kvs.length ≤ j ∧ FeedAt H2 p c ks2 y n2 ∧ n2 ≤ n + 2 * (j : Int) ∧ Save p c H H2 ∧ H2 wl = some (.lst ((["a", "b", "get", "put1", "0", "zzzzzzzzzzzz", "read", "a1"] : List Str).map V.str)) ∧ H2 sl = some (.lst ((["ok", "no", "a", "0", "full", "12"] : List Str).map V.str)) ∧ H2 md = some (.dT kvs))
      ⟨none, ks, n, [], rfl, ⟨List.nodup_nil, fun p m => nomatch m⟩, Nat.le_refl _, FA0, by omega, Save.of s3, aw, asl, amd⟩ ?_ ?_⟩
    · rintro j σ H2 hj ⟨o5, ks2, n2, kvs, rfl, M, kl, FA2, le2, sv2, w2, l2, d2⟩
      refine ⟨_, rfl, _, rfl, _, rfl, p, c, wl, ks2, _, y, n2, rfl, FA2, by omega, w2, wp, wc, by decide, by decide, fun v1 ks3 H3 mv1 FA3 sv3 => ?_⟩
      obtain ⟨z1, mz1, rfl⟩ := List.mem_map.mp mv1
      have l3 := sv3 _ _ l2 sp_ sc_
      refine ⟨_, rfl, _, rfl, p, c, sl, ks3, _, y, n2 + 1, rfl, FA3, by omega, l3, sp_, sc_, by decide, by decide, fun v2 ks4 H4 mv2 FA4 sv4 => ?_⟩
      obtain ⟨z2, mz2, rfl⟩ := List.mem_map.mp mv2
      refine ⟨by show 2 ≤ sizeLine; decide, fun b hb => ?_⟩
      have sb := same_new (o := .tup [V.str z1, .str z2]) hb
      have d5 := sb _ _ (sv4 _ _ (sv3 _ _ d2 mp mc) mp mc)
      have w5 := sb _ _ (sv4 _ _ (sv3 _ _ w2 wp wc) wp wc)
      have l5 := sb _ _ (sv4 _ _ l3 sp_ sc_)
      have put := M.put (e := (z1, z2)) (v := .bl true) (wrd_w _ mz1) (wrd_s _ mz2)
      refine ⟨md, _, rfl, DPut.t (k := evK (z1, z2)) d5 upd_same (small_lt (m := 30) (by omega)), ⟨_, ks4, n2 + 1 + 1, _, rfl, put.1, by omega, (FA4.same sb).wr mp mc, by omega, (((sv2.trans sv3).trans sv4).trans (Save.of sb)).wr fmd, ?_, ?_, upd_same⟩⟩
      · rw [upd_ne wm]
        exact w5
      · rw [upd_ne sm]
        exact l5
    · rintro σ H2 ⟨o5, ks2, n2, kvs, rfl, M, kl, FA2, le2, sv2, w2, l2, d2⟩
      refine ⟨_, rfl, md, kvs, rfl, d2, by omega, ?_, ?_, fun L q keys tups hq => ?_⟩
      · intro d hd d' hd'
        obtain ⟨r, m1, rfl⟩ := List.mem_map.mp hd
        obtain ⟨r', m2, rfl⟩ := List.mem_map.mp hd'
        obtain ⟨x, ex, _⟩ := M.ev r m1
        obtain ⟨x', ex', _⟩ := M.ev r' m2
        rw [ex, ex']
        rfl
      · refine .inl fun d hd => ?_
        obtain ⟨r, m1, rfl⟩ := List.mem_map.mp hd
        obtain ⟨x, ex, _⟩ := M.ev r m1
        rw [ex]
        exact ⟨_, _, rfl⟩
      have keyL : ∀ r ∈ L, ∃ e : Str × Str, r.2 = evK e ∧ Wrd e.1 ∧ Wrd e.2 := fun r mr => by
        have z : r.2 ∈ kvs.map Prod.fst := by rw [← keys]; exact List.mem_map.mpr ⟨r, mr, rfl⟩
        obtain ⟨s, ms, es⟩ := List.mem_map.mp z
        rw [← es]
        exact M.ev s ms
      obtain ⟨es, e1, e2, e3⟩ := sorted_asc L (fun r mr => let ⟨e, h, _⟩ := keyL r mr; ⟨e, h⟩) (by rw [keys]; exact M.nd)
      have e4 : ∀ e ∈ es, Wrd e.1 ∧ Wrd e.2 := fun e he => by
        obtain ⟨r, mr, er⟩ := List.mem_map.mp (e3 e he)
        obtain ⟨e', h1, h2⟩ := keyL r mr
        rw [h1] at er
        rw [← evK_inj er]
        exact h2
      have lL : L.length = kvs.length := by
        have z := congrArg List.length keys
        rwa [List.length_map, List.length_map] at z
      have lS : (L.mergeSort (PySem.W.dataLe false fun q : Addr × List Key => tD q.2)).length = L.length := List.length_mergeSort _
      have memL : ∀ r ∈ L.mergeSort (PySem.W.dataLe false fun q : Addr × List Key => tD q.2), H2 r.1 = some (.tup (r.2.map kV)) := fun r mr => tups r ((List.mergeSort_perm _ _).mem_iff.mp mr)
      generalize L.mergeSort (PySem.W.dataLe false fun q : Addr × List Key => tD q.2) = S at e1 memL lS ⊢
      have les : es.length = S.length := by
        have z := congrArg List.length e1
        rw [List.length_map, List.length_map] at z
        exact z.symm
      have sq := same_new (o := .lst (S.map fun q => V.ref q.1)) hq
      exact k q S es ks2 n2 _ ⟨upd_same, fun r mr => sq _ _ (memL r mr), e1, e2, e4, by omega⟩ (Ne.symm (ne_of_none FA2.ob hq)) (Ne.symm (ne_of_none FA2.cs hq)) (FA2.same sq) (by omega) (sv2.trans (Save.of sq))
end
end My

-- ===== K5S =====
set_option Elab.async false
set_option linter.all false
set_option maxRecDepth 100000
set_option maxHeartbeats 4000000
namespace My
open PySem L2 PyProof.Rows PySem.Spec Kd TL
def spLst : Sp := fun vs H Q _ => ∃ (p c r : Addr) (S : List (Addr × List Key)) (es : List (Str × Str)) (ks : List Int) (w n many share : Int), vs = [.ref p, .int many, .ref r, .int share] ∧ FeedAt H p c ks w n ∧ n < 800000 ∧ 1 ≤ many ∧ many ≤ 4 ∧ MenuAt H r S es ∧ r ≠ p ∧ r ≠ c ∧
  ∀ (a : Addr) (ss : List (List Stp)) (ks' : List Int) (n' : Int) (H' : Hp), TD H' (.ref a) (statesD ss) → (ss.length : Int) = many → (∀ st ∈ ss, StOk many.toNat st ∧ ∀ x ∈ st, evOf x ∈ es) → FeedAt H' p c ks' w n' → n' ≤ n + 100 → Save p c H H' → Q (.ref a) H'
section
variable {P : Program} {w : World} {K : PySem.W.Frag} {mg : Str → Option Value} {base : Heap}
abbrev nLs : List Str := ["_law_feed_here", "_law_many", "_law_menu_here", "_law_share", "_law_found", "_law_k", "_law_state", "_law_operation", "_law_answer"]
theorem scLs : FnScope nLs ["_law_feed_here", "_law_many", "_law_menu_here", "_law_share"] (defScope sLStates) := ⟨rfl, rfl, rfl, by decide +kernel, rfl, by decide +kernel, by decide +kernel⟩
theorem ok_lst {f fD : Addr} {fd fdD : FuncData} (F : Fun K "_law_states" "_law_states" sLStates f fd) (G : Gs mg)
    (GD : FnOk P w K mg base CX0 1 fD fdD ["_law_feed_here", "_law_many"] spDigit) (mD : mg "_law_digit" = some (.ref fD)) (kD : PySem.W.keepIn K (.ref fD) = true) (bD : Binds K fdD ["_law_feed_here", "_law_many"] []) :
    FnOk P w K mg base CX0 2 f fd ["_law_feed_here", "_law_many", "_law_menu_here", "_law_share"] spLst := by
  refine F.ok scLs (fun vs H Q E h => ?_) (fun cdv A outer s H vs Q E hr h => ?_)
  · obtain ⟨p, c, r, S, es, ks, y, n, many, share, rfl, _⟩ := h
    rfl
  · obtain ⟨p, c, r, S, es, ks, y, n, many, share, rfl, FA, hn, m0, m1, M, rp, rc, k⟩ := h
    refine ⟨_, (pss_cons (ps_set (i := 4) scLs.nd rfl (Or.inl rfl) (pe_lst pa_nil)) (pss_cons (ps_for PassesOwn.never rfl (pi_range1 (by rfl) G.range (pa_cons (pv 1) pa_nil)) (pg_name (i := 5) scLs.nd rfl (Or.inl rfl)) (pss_cons (ps_set (i := 6) scLs.nd rfl (Or.inl rfl) (pe_lst pa_nil)) (pss_cons (ps_for PassesOwn.never rfl (pi_list (pv 2)) (pg_tup (by rfl) (pgs_cons (pg_name (i := 7) scLs.nd rfl (Or.inl rfl)) (pgs_cons (pg_name (i := 8) scLs.nd rfl (Or.inl rfl)) pgs_nil))) (pss_one (ps_if (pt_cmpR op_lt (pe_call GD hr (by rfl) mD kD bD .nil pass0 (pa_cons (pv 0) (pa_cons pe_int pa_nil))) (pv 3) (nomark _)) (pss_one (ps_expr (pe_bm PySem.F.plainAttrs_list PySem.F.slot_list_append PySem.F.type_list_append mt_append (pv 6) (pa_cons (pe_tup (pa_cons (pv 7) (pa_cons (pv 8) (pa_cons (pe_call GD hr (by rfl) mD kD bD .nil pass0 (pa_cons (pv 0) (pa_cons (pv 1) pa_nil))) pa_nil)))) pa_nil)))) pss_nil))) (pss_one (ps_expr (pe_bm PySem.F.plainAttrs_list PySem.F.slot_list_append PySem.F.type_list_append mt_append (pv 4) (pa_cons (pe_callTy call_tuple_of (by rfl) G.tuple (by decide +kernel) (pa_cons (pv 6) pa_nil)) pa_nil))))))) (pss_one (ps_ret (pe_callTy call_tuple_of (by rfl) G.tuple (by decide +kernel) (pa_cons (pv 4) pa_nil)))))), ?_⟩
    have n0 := FA.n0
    have l_es : es.length = S.length := by
      have z := congrArg List.length M.key
      rw [List.length_map, List.length_map] at z
      exact z.symm
    have few := M.few
    refine ⟨by show 0 ≤ sizeLine; decide, fun fo hfo => ?_⟩
    have fop : fo ≠ p := Ne.symm (ne_of_none FA.ob hfo)
    have foc : fo ≠ c := Ne.symm (ne_of_none FA.cs hfo)
    refine ⟨_, rfl, many, rfl, by omega, by omega, for_range (lo := 0) (n := many.toNat) (fun j σ H4 => ∃ (o5 o6 o7 o8 : Option V) (ks' : List Int) (n' : Int) (vs : List V) (ss : List (List Stp)), σ = [some (.ref p), some (.int many), some (.ref r), some (.int share), some (.ref fo), o5, o6, o7, o8] ∧ FeedAt H4 p c ks' y n' ∧ n' ≤ n + 10 * (j : Int) ∧ Save p c H H4 ∧ H4 fo = some (.lst vs) ∧ TDs H4 vs (ss.map stateD) ∧ ss.length = j ∧ ∀ st ∈ ss, StOk many.toNat st ∧ ∀ x ∈ st, evOf x ∈ es)
      ⟨none, none, none, none, ks, n, [], [], rfl, FA.wr fop foc, by omega, (Save.refl p c H).wr hfo, upd_same, .nil, rfl, fun st m => nomatch m⟩ ?_ ?_⟩
    · rintro j σ H4 hj ⟨o5, o6, o7, o8, ks4, n4, vs, ss, rfl, F4, le4, sv4, f4, t4, sl, so⟩
      refine ⟨by show 0 ≤ sizeLine; decide, fun DD hDD => ?_⟩
      have np : DD ≠ p := Ne.symm (ne_of_none F4.ob hDD)
      have nc : DD ≠ c := Ne.symm (ne_of_none F4.cs hDD)
      have nf : DD ≠ fo := Ne.symm (ne_of_none f4 hDD)
      have s5 := same_new (o := .lst []) hDD
      have M5 := (M.save FA rp rc sv4).save F4 rp rc (Save.of (p := p) (c := c) s5)
      have dd0 : H DD = none := by
        cases e : H DD with
        | none => rfl
        | some o => rw [sv4 _ _ e np nc] at hDD; cases hDD
      have F5 := F4.wr (o := .lst []) np nc
      have sv5 := sv4.wr (o := .lst []) dd0
      have f5 := s5 _ _ f4
      have t5 := t4.to (Tup.of s5)
      have d5 : (upd H4 DD (.lst [])) DD = some (.lst []) := upd_same
      generalize upd H4 DD (.lst []) = H5 at M5 F5 sv5 f5 t5 d5 ⊢
      refine ⟨_, rfl, r, rfl, ⟨_, SqL.of M5.lst⟩, for_list (K := K) (a := r) (xs := S.map fun q => V.ref q.1) (fun i σ H8 => ∃ (o7 o8 : Option V) (ks8 : List Int) (n8 : Int) (vs2 : List V) (st : List Stp), σ = [some (.ref p), some (.int many), some (.ref r), some (.int share), some (.ref fo), some (.int (0 + (j : Int))), some (.ref DD), o7, o8] ∧ FeedAt H8 p c ks8 y n8 ∧ n8 ≤ n4 + 2 * (i : Int) ∧ MenuAt H8 r S es ∧ H8 DD = some (.lst vs2) ∧ TDs H8 vs2 (st.map stepD) ∧ (st.map evOf).Sublist (es.take i) ∧ (∀ x ∈ st, StpOk many.toNat x) ∧ ∀ b o, H5 b = some o → b ≠ DD → b ≠ p → b ≠ c → H8 b = some o)
        ⟨o7, o8, ks4, n4, [], [], rfl, F5, by omega, M5, d5, .nil, by simp, (fun x m => nomatch m), fun b o e _ _ _ => e⟩ (fun i σ H8 _ ⟨_, _, _, _, _, _, _, _, _, h, _⟩ => SqL.of h.lst) ?_ ?_⟩
      · rintro i x σ H8 ex ⟨p7, p8, ks8, n8, vs2, st, rfl, F8, le8, M8, d8, t8, sub8, ok8, kp8⟩
        rw [List.getElem?_map] at ex
        obtain ⟨⟨b, key⟩, eT, rfl⟩ := Option.map_eq_some_iff.mp ex
        have lt : i < S.length := (List.getElem?_eq_some_iff.mp eT).1
        have hb8 := M8.at_ _ (List.mem_of_getElem? eT)
        obtain ⟨e, ee, rfl⟩ : ∃ e, es[i]? = some e ∧ key = evK e := by
          have z : (S.map Prod.snd)[i]? = some key := by rw [List.getElem?_map, eT]; rfl
          rw [M.key, List.getElem?_map] at z
          obtain ⟨e, h1, h2⟩ := Option.map_eq_some_iff.mp z
          exact ⟨e, h1, h2.symm⟩
        have vl := t8.len
        have sl8 := sub8.length_le
        rw [List.length_map] at vl sl8
        rw [List.length_take] at sl8
        refine ⟨b, [.str e.1, .str e.2], rfl, SqT.of hb8, rfl, _, _, rfl, _, _, rfl, rfl, ?_⟩
        refine ⟨_, rfl, p, c, ks8, y, n8, 4, rfl, F8, by omega, by omega, by omega, fun d ks9 H9 d0 d3 F9 sv9 => ⟨_, rfl, _, _, rfl, rfl, _, rfl, ?_⟩⟩
        have M9 := M8.save F8 rp rc sv9
        have d9 := sv9 _ _ d8 np nc
        have t9 := t8.to (Save.tup F8 sv9)
        have kp9 : ∀ b o, H5 b = some o → b ≠ DD → b ≠ p → b ≠ c → H9 b = some o := fun b o e a1 a2 a3 => sv9 _ _ (kp8 b o e a1 a2 a3) a2 a3
        by_cases pos : d < share
        · rw [decide_eq_true pos]
          refine iteT ⟨_, rfl, .inl ⟨rfl, _, SqL.of d9⟩, _, rfl, _, rfl, _, rfl, _, rfl, p, c, ks9, y, n8 + 1, many, rfl, F9, by omega, by omega, by omega, fun d2 ksa Ha d20 d21 Fa sva => ⟨by show 3 ≤ sizeLine; decide, fun b2 hb2 => ?_⟩⟩
          have sn := same_new (o := .tup [V.str e.1, .str e.2, .int d2]) hb2
          have da := sn _ _ (sva _ _ d9 np nc)
          have at2 : (upd Ha b2 (.tup [V.str e.1, .str e.2, .int d2])) b2 = some (.tup [V.str e.1, .str e.2, .int d2]) := upd_same
          have Ma := (M9.save F9 rp rc sva).save Fa rp rc (Save.of (p := p) (c := c) sn)
          have ta := (t9.to (Save.tup F9 sva)).to (Tup.of sn)
          have Fb := Fa.same sn
          have kpa : ∀ b o, H5 b = some o → b ≠ DD → b ≠ p → b ≠ c → (upd Ha b2 (.tup [V.str e.1, .str e.2, .int d2])) b = some o := fun b o e a1 a2 a3 => sn _ _ (sva _ _ (kp9 b o e a1 a2 a3) a2 a3)
          generalize upd Ha b2 (.tup [V.str e.1, .str e.2, .int d2]) = Hb at da at2 Ma ta Fb kpa ⊢
          have tp : Tup Hb (upd Hb DD (.lst (vs2 ++ [.ref b2]))) := Tup.at_ da fun xs z => nomatch z
          have em : e ∈ es := List.mem_of_getElem? ee
          have rD : r ≠ DD := fun z => by
            have z1 := M5.lst
            rw [z, d5] at z1
            have z2 := HO.lst.inj (Option.some.inj z1)
            have z3 := congrArg List.length z2
            rw [List.length_map, List.length_nil] at z3
            omega
          refine ⟨DD, vs2, _, rfl, rfl, da, small_lt (m := 24) (by omega), _, _, ksa, n8 + 1 + 1, vs2 ++ [.ref b2], st ++ [(e.1, e.2, d2)], rfl, Fb.wr np nc, by omega, ⟨by rw [upd_ne rD]; exact Ma.lst, fun q m => tp _ _ (Ma.at_ q m), M.key, M.asc, M.wrd, M.few⟩, upd_same, ?_, ?_, fun x mx => ?_, fun b' o e' a1 a2 a3 => by rw [upd_ne a1]; exact kpa b' o e' a1 a2 a3⟩
          · rw [List.map_append]
            exact TDs.snoc (.tup (tp _ _ at2) (.cons (.str _) (.cons (.str _) (.cons (.int _) .nil)))) (ta.to tp)
          · rw [List.map_append, List.take_succ, ee, Option.toList_some]
            exact sub8.append (List.Sublist.refl [e])
          · rcases List.mem_append.mp mx with q | q
            · exact ok8 x q
            · rw [List.mem_singleton.mp q]
              refine ⟨(M.wrd e em).1, (M.wrd e em).2, d20, ?_⟩
              rw [Int.toNat_of_nonneg (by omega)]
              exact d21
        · rw [decide_eq_false pos]
          refine iteF ⟨_, _, ks9, n8 + 1, vs2, st, rfl, F9, by omega, M9, d9, t9, ?_, ok8, kp9⟩
          rw [List.take_succ]
          exact sub8.trans (List.sublist_append_left _ _)
      · rintro σ H8 ⟨p7, p8, ks8, n8, vs2, st, rfl, F8, le8, M8, d8, t8, sub8, ok8, kp8⟩
        rw [List.length_map] at le8 sub8
        have sub9 := sub8.trans (List.take_sublist _ _)
        have sl9 := sub9.length_le
        have vl := t8.len
        rw [List.length_map] at vl sl9
        have f8 := kp8 _ _ f5 (Ne.symm nf) fop foc
        have vl6 := t5.len
        rw [List.length_map] at vl6
        have tup8 : Tup H5 H8 := fun a xs e => kp8 _ _ e (fun z => by rw [z, d5] at e; cases e) (fun z => by rw [z, F5.ob] at e; cases e) (fun z => by rw [z, F5.cs] at e; cases e)
        refine ⟨_, rfl, .inl ⟨rfl, _, SqL.of f8⟩, _, rfl, DD, vs2, rfl, .inl ⟨SqL.of d8, fun b hb => ?_⟩⟩
        have sb := same_new (o := .tup vs2) hb
        have f9 := sb _ _ f8
        have tp : Tup (upd H8 b (.tup vs2)) (upd (upd H8 b (.tup vs2)) fo (.lst (vs ++ [.ref b]))) := Tup.at_ f9 fun xs z => nomatch z
        have tn : Tup H8 (upd H8 b (.tup vs2)) := Tup.of sb
        refine ⟨fo, vs, _, rfl, rfl, f9, small_lt (m := 40) (by omega), ⟨_, _, _, _, ks8, n8, vs ++ [.ref b], ss ++ [st], rfl, (F8.same sb).wr fop foc, by omega, fun b' o e a1 a2 => ?_, upd_same, ?_, by rw [List.length_append, sl]; rfl, ?_⟩⟩
        · rw [upd_ne (fun z => by rw [z, hfo] at e; cases e)]
          exact sb _ _ (kp8 _ _ (sv5 _ _ e a1 a2) (fun z => by rw [z, dd0] at e; cases e) a1 a2)
        · rw [List.map_append]
          exact TDs.snoc (.tup (tp _ _ upd_same) ((t8.to tn).to tp)) (((t5.to tup8).to tn).to tp)
        · intro st' ms
          rcases List.mem_append.mp ms with q | q
          · exact so st' q
          · rw [List.mem_singleton.mp q]
            exact ⟨⟨ok8, List.Pairwise.sublist sub9 M.asc, by omega⟩, fun x mx => sub9.subset (List.mem_map.mpr ⟨x, mx, rfl⟩)⟩
    · rintro σ H4 ⟨o5, o6, o7, o8, ks4, n4, vs, ss, rfl, F4, le4, sv4, f4, t4, sl, so⟩
      refine ⟨_, rfl, fo, vs, rfl, .inl ⟨SqL.of f4, fun b hb => k b ss ks4 n4 _ (.tup upd_same (t4.to (Tup.new hb))) (by omega) so (F4.same (same_new hb)) (by omega) (sv4.trans (Save.of (same_new hb)))⟩⟩
end
end My

-- ===== K5X =====
set_option Elab.async false
set_option linter.all false
set_option maxRecDepth 100000
set_option maxHeartbeats 4000000
namespace My
open PySem L2 PyProof.Rows PySem.Spec Kd TL
theorem PE.wk {X : Cx} {e : Expr} {t u : TE} (h : PE X e t) (k : ∀ σ H Q, u σ H Q → t σ H Q) : PE X e u := ⟨fun pins s σ H Q I q => h.run pins s σ H Q I (k σ H Q q)⟩
abbrev rTupOf (K : PySem.W.Frag) : List V → Hp → VK → Prop := fun xs H Q => ∃ p ys, xs = [.ref p] ∧ ((SqL K H p ys ∧ ∀ l, H l = none → Q (.ref l) (upd H l (.tup ys))) ∨ (SqT K H p ys ∧ Q (.ref p) H))
def uP : TE := fun σ H Q => ∃ (p c Dc : Addr) (ks : List Int) (y n sz k : Int) (L : List Int), σ[0]? = some (some (.ref p)) ∧ σ[6]? = some (some (.int k)) ∧ σ[11]? = some (some (.ref Dc)) ∧ FeedAt H p c ks y n ∧ n < 900000 ∧ H Dc = some (.lst (L.map V.int)) ∧ Dc ≠ p ∧ Dc ≠ c ∧ L.length ≤ 100 ∧ (∀ g ∈ L, 0 ≤ g ∧ g < sz) ∧ 0 ≤ k ∧ k < sz ∧
  ∀ (g : Int) (ks' : List Int) (H' : Hp), 0 ≤ g → g < sz → FeedAt H' p c ks' y (n + 1) → Save p c H H' → Q (.int g) H'
/-- lists of steps in a list -/
structure LsAt (H0 H : Hp) (fo : Addr) (L : List (Addr × List Stp)) (sz : Nat) (es : List (Str × Str)) : Prop where
  lst : H fo = some (.lst (L.map fun q => V.ref q.1))
  nd : (L.map Prod.fst).Nodup
  nf : fo ∉ L.map Prod.fst
  fr : ∀ q ∈ L, H0 q.1 = none
  at_ : ∀ q ∈ L, ∃ vs, H q.1 = some (.lst vs) ∧ TDs H vs (q.2.map stepD)
  ok : ∀ q ∈ L, StOk sz q.2 ∧ ∀ x ∈ q.2, evOf x ∈ es
theorem LsAt.save {H0 H H' : Hp} {p c fo : Addr} {L : List (Addr × List Stp)} {sz : Nat} {es : List (Str × Str)} {ks ks0 : List Int} {w n w0 n0 : Int} (h : LsAt H0 H fo L sz es) (F0 : FeedAt H0 p c ks0 w0 n0) (ff : H0 fo = none) (F : FeedAt H p c ks w n) (s : Save p c H H') : LsAt H0 H' fo L sz es :=
  ⟨s _ _ h.lst (Ne.symm (ne_of_none F0.ob ff)) (Ne.symm (ne_of_none F0.cs ff)), h.nd, h.nf, h.fr, fun q m => by
    obtain ⟨vs, e1, e2⟩ := h.at_ q m
    exact ⟨vs, s _ _ e1 (Ne.symm (ne_of_none F0.ob (h.fr q m))) (Ne.symm (ne_of_none F0.cs (h.fr q m))), e2.to (Save.tup F s)⟩, h.ok⟩
theorem LsAt.keep {H0 H H' : Hp} {D fo : Addr} {L : List (Addr × List Stp)} {sz : Nat} {es : List (Str × Str)} (h : LsAt H0 H fo L sz es) (n1 : fo ≠ D) (n2 : D ∉ L.map Prod.fst) (k : ∀ b o, H b = some o → b ≠ D → H' b = some o) (t : Tup H H') : LsAt H0 H' fo L sz es :=
  ⟨k _ _ h.lst n1, h.nd, h.nf, h.fr, fun q m => by
    obtain ⟨vs, e1, e2⟩ := h.at_ q m
    exact ⟨vs, k _ _ e1 (fun z => n2 (List.mem_map.mpr ⟨q, m, z⟩)), e2.to t⟩, h.ok⟩
theorem LsAt.put {H0 H : Hp} {D fo : Addr} {L : List (Addr × List Stp)} {sz : Nat} {es : List (Str × Str)} {vs : List V} {st : List Stp} (h : LsAt H0 H fo L sz es) (n2 : D ∉ L.map Prod.fst) (nD : D ≠ fo) (fD : H0 D = none) (e : H D = some (.lst vs)) (t : TDs H vs (st.map stepD)) (so : StOk sz st ∧ ∀ x ∈ st, evOf x ∈ es) :
    LsAt H0 (upd H fo (.lst (L.map (fun q => V.ref q.1) ++ [.ref D]))) fo (L ++ [(D, st)]) sz es := by
  have tp : Tup H (upd H fo (.lst (L.map (fun q => V.ref q.1) ++ [.ref D]))) := Tup.at_ h.lst fun xs z => nomatch z
  refine ⟨by rw [upd_same, List.map_append]; rfl, ?_, ?_, fun q m => ?_, fun q m => ?_, fun q m => ?_⟩
  · rw [List.map_append]
    exact List.nodup_append.mpr ⟨h.nd, by simp, fun a ha b hb => by rw [List.mem_singleton.mp hb]; exact fun z => n2 (by have z : a = D := z; rw [← z]; exact ha)⟩
  · rw [List.map_append]
    intro m
    rcases List.mem_append.mp m with m | m
    · exact h.nf m
    · exact nD (List.mem_singleton.mp m).symm
  · rcases List.mem_append.mp m with m | m
    · exact h.fr q m
    · rw [List.mem_singleton.mp m]
      exact fD
  · rcases List.mem_append.mp m with m | m
    · obtain ⟨vs', e1, e2⟩ := h.at_ q m
      exact ⟨vs', by rw [upd_ne (fun z => h.nf (List.mem_map.mpr ⟨q, m, z⟩))]; exact e1, e2.to tp⟩
    · rw [List.mem_singleton.mp m]
      exact ⟨vs, by rw [upd_ne nD]; exact e, t.to tp⟩
  · rcases List.mem_append.mp m with m | m
    · exact h.ok q m
    · rw [List.mem_singleton.mp m]
      exact so
theorem TDs.erase {H : Hp} : ∀ {vs : List V} {st : List Stp} (k : Nat), TDs H vs (st.map stepD) → TDs H (vs.eraseIdx k) ((st.eraseIdx k).map stepD)
  | _, [], _, h => by rw [List.map_nil] at h; cases h; exact .nil
  | _, x :: st, 0, h => by
    rw [List.map_cons] at h
    cases h with
    | cons a t => exact t
  | _, x :: st, k + 1, h => by
    rw [List.map_cons] at h
    cases h with
    | cons a t => exact .cons a (TDs.erase k t)
theorem StOk.erase {n : Nat} {st : List Stp} (h : StOk n st) (k : Nat) : StOk n (st.eraseIdx k) :=
  ⟨fun x m => h.all x (List.mem_of_mem_eraseIdx m), h.asc.sublist ((List.eraseIdx_sublist st k).map evOf), Nat.le_trans (List.eraseIdx_sublist st k).length_le h.few⟩
def cutL (b : Addr) (k : Nat) (L : List (Addr × List Stp)) : List (Addr × List Stp) := L.map fun q => if q.1 = b then (q.1, q.2.eraseIdx k) else q
theorem cutL_fst (b : Addr) (k : Nat) (L : List (Addr × List Stp)) : (cutL b k L).map Prod.fst = L.map Prod.fst := by
  unfold cutL
  rw [List.map_map]
  refine List.map_congr_left fun q _ => ?_
  show (if q.1 = b then (q.1, q.2.eraseIdx k) else q).1 = q.1
  split <;> rfl
theorem LsAt.cut {H0 H : Hp} {fo b : Addr} {L : List (Addr × List Stp)} {sz : Nat} {es : List (Str × Str)} {vs : List V} (h : LsAt H0 H fo L sz es) (k : Nat) (mb : b ∈ L.map Prod.fst) (e : H b = some (.lst vs)) : LsAt H0 (upd H b (.lst (vs.eraseIdx k))) fo (cutL b k L) sz es := by
  have tp : Tup H (upd H b (.lst (vs.eraseIdx k))) := Tup.at_ e fun xs z => nomatch z
  have bf : fo ≠ b := fun z => h.nf (by rw [z]; exact mb)
  have fm : (cutL b k L).map (fun q => V.ref q.1) = L.map fun q => V.ref q.1 := by
    have z := congrArg (List.map V.ref) (cutL_fst b k L)
    rwa [List.map_map, List.map_map] at z
  have mem : ∀ q ∈ cutL b k L, ∃ r ∈ L, q = if r.1 = b then (r.1, r.2.eraseIdx k) else r := fun q m => by
    obtain ⟨r, mr, er⟩ := List.mem_map.mp m
    exact ⟨r, mr, er.symm⟩
  refine ⟨by rw [upd_ne bf, fm]; exact h.lst, by rw [cutL_fst]; exact h.nd, by rw [cutL_fst]; exact h.nf, fun q m => ?_, fun q m => ?_, fun q m => ?_⟩
  · obtain ⟨r, mr, rfl⟩ := mem q m
    have z := h.fr r mr
    split <;> exact z
  · obtain ⟨r, mr, rfl⟩ := mem q m
    obtain ⟨vs', e1, e2⟩ := h.at_ r mr
    split
    · rename_i hb
      rw [hb, e] at e1
      cases e1
      exact ⟨_, by show (upd H b _) r.1 = _; rw [hb, upd_same], (TDs.erase k e2).to tp⟩
    · rename_i hb
      exact ⟨vs', by rw [upd_ne hb]; exact e1, e2.to tp⟩
  · obtain ⟨r, mr, rfl⟩ := mem q m
    obtain ⟨o1, o2⟩ := h.ok r mr
    split
    · exact ⟨o1.erase k, fun x mx => o2 x (List.mem_of_mem_eraseIdx mx)⟩
    · exact ⟨o1, o2⟩
def spDrawn : Sp := fun vs H Q _ => ∃ (p c : Addr) (ks : List Int) (w n : Int), vs = [.ref p] ∧ FeedAt H p c ks w n ∧ n < 700000 ∧
  ∀ (a : Addr) (ss : List (List Stp)) (ks' : List Int) (n' : Int) (H' : Hp), TD H' (.ref a) (statesD ss) → KOk ss → FeedAt H' p c ks' w n' → n' ≤ n + 2000 → Save p c H H' → Q (.ref a) H'
section
variable {P : Program} {w : World} {K : PySem.W.Frag} {mg : Str → Option Value} {base : Heap}
abbrev nDn : List Str := ["_law_feed_here", "_law_size", "_law_classes", "_law_menu_here", "_law_plain", "_law_found", "_law_k", "_law_state", "_law_operation", "_law_answer", "_law_then", "_law_copies", "_law_j"]
theorem scDn : FnScope nDn ["_law_feed_here"] (defScope sDrawn) := ⟨rfl, rfl, rfl, by decide +kernel, rfl, by decide +kernel, by decide +kernel⟩
theorem ok_drawn {f fP fD fM fS : Addr} {fd fdP fdD fdM fdS : FuncData} (F : Fun K "_law_drawn" "_law_drawn" sDrawn f fd) (G : Gs mg)
    (GP : FnOk P w K mg base CX0 2 fP fdP ["_law_feed_here", "_law_some"] spPick) (mP : mg "_law_pick" = some (.ref fP)) (kP : PySem.W.keepIn K (.ref fP) = true) (bP : Binds K fdP ["_law_feed_here", "_law_some"] [])
    (GD : FnOk P w K mg base CX0 1 fD fdD ["_law_feed_here", "_law_many"] spDigit) (mD : mg "_law_digit" = some (.ref fD)) (kD : PySem.W.keepIn K (.ref fD) = true) (bD : Binds K fdD ["_law_feed_here", "_law_many"] [])
    (GM : FnOk P w K mg base CX0 3 fM fdM ["_law_feed_here", "_law_many"] spMenu) (mM : mg "_law_menu" = some (.ref fM)) (kM : PySem.W.keepIn K (.ref fM) = true) (bM : Binds K fdM ["_law_feed_here", "_law_many"] [])
    (GS : FnOk P w K mg base CX0 2 fS fdS ["_law_feed_here", "_law_many", "_law_menu_here", "_law_share"] spLst) (mS : mg "_law_states" = some (.ref fS)) (kS : PySem.W.keepIn K (.ref fS) = true) (bS : Binds K fdS ["_law_feed_here", "_law_many", "_law_menu_here", "_law_share"] []) :
    FnOk P w K mg base CX0 4 f fd ["_law_feed_here"] spDrawn := by
  refine F.ok scDn (fun vs H Q E h => ?_) (fun cdv A outer s H vs Q E hr h => ?_)
  · obtain ⟨p, c, ks, y, n, rfl, _⟩ := h
    rfl
  · obtain ⟨p, c, ks, y, n, rfl, FA, hn, k⟩ := h
    have hu := hr.units
    have hu0 : (A.deeper (envOfC "_law_drawn" (defScope sDrawn) s.heap.objs.size f cdv)).units < cLine := by omega
    have hr1 := hr.mono (show 1 ≤ 3 by omega)
    have hr2 := hr.mono (show 2 ≤ 3 by omega)
    have hr3 := hr
    refine ⟨_, (pss_cons (ps_asg (pe_tup (pa_cons (pe_call GP hr2 (by rfl) mP kP bP .nil pass0 (pa_cons (pv 0) (pa_cons (pe_lst (pa_cons pe_int (pa_cons pe_int (pa_cons pe_int (pa_cons pe_int (pa_cons pe_int (pa_cons pe_int pa_nil))))))) pa_nil))) (pa_cons (pe_op op_add pe_int (pe_call GD hr1 (by rfl) mD kD bD .nil pass0 (pa_cons (pv 0) (pa_cons pe_int pa_nil)))) pa_nil))) (pg_tup (by rfl) (pgs_cons (pg_name (i := 1) scDn.nd rfl (Or.inl rfl)) (pgs_cons (pg_name (i := 2) scDn.nd rfl (Or.inr rfl)) pgs_nil)))) (pss_cons (ps_set (i := 3) scDn.nd rfl (Or.inl rfl) (pe_call GM hr3 (by rfl) mM kM bM .nil pass0 (pa_cons (pv 0) (pa_cons (pe_call GP hr2 (by rfl) mP kP bP .nil pass0 (pa_cons (pv 0) (pa_cons (pe_lst (pa_cons pe_int (pa_cons pe_int (pa_cons pe_int (pa_cons pe_int pa_nil))))) pa_nil))) pa_nil)))) (pss_cons (ps_set (i := 4) scDn.nd rfl (Or.inl rfl) (pe_call GS hr2 (by rfl) mS kS bS .nil pass0 (pa_cons (pv 0) (pa_cons (pv 2) (pa_cons (pv 3) (pa_cons (pe_op op_add pe_int (pe_call GD hr1 (by rfl) mD kD bD .nil pass0 (pa_cons (pv 0) (pa_cons pe_int pa_nil)))) pa_nil)))))) (pss_cons (ps_set (i := 5) scDn.nd rfl (Or.inl rfl) (pe_lst pa_nil)) (pss_cons (ps_for PassesOwn.never rfl (pi_range1 (by rfl) G.range (pa_cons (pv 1) pa_nil)) (pg_name (i := 6) scDn.nd rfl (Or.inl rfl)) (pss_cons (ps_set (i := 7) scDn.nd rfl (Or.inl rfl) (pe_lst pa_nil)) (pss_cons (ps_for PassesOwn.never rfl (pi_tup (pe_ix (r := rIxT K) ix_tup (pv 4) (pe_op op_mod (pv 6) (pv 2)) (fun _ _ => rfl))) (pg_tup (by rfl) (pgs_cons (pg_name (i := 8) scDn.nd rfl (Or.inl rfl)) (pgs_cons (pg_name (i := 9) scDn.nd rfl (Or.inl rfl)) (pgs_cons (pg_name (i := 10) scDn.nd rfl (Or.inr rfl)) pgs_nil)))) (pss_cons (ps_setLc (i := 11) (own := [("_law_j", 12)]) (g := gName 12) rfl scDn.nd rfl rfl (sw_true rfl rfl rfl (by decide +kernel)) (pi_range1 (by rfl) G.range (pa_cons (pv 1) pa_nil)) (blkOk_by (N := nDn) (sc := defScope sDrawn) (by decide +kernel)) (fun _ _ _ _ _ => pg_name (i := 12) scDn.nd rfl (Or.inl rfl)) (fun _ _ _ _ _ => pts_one (pt_cmpR op_eq (pe_op op_mod (pv 12) (pv 2)) (pv 10) (nomark _))) (fun _ _ _ _ _ => pv 12)) (pss_one (ps_expr (pe_bm PySem.F.plainAttrs_list PySem.F.slot_list_append PySem.F.type_list_append mt_append (pv 7) (pa_cons (pe_tup (pa_cons (pv 8) (pa_cons (pv 9) (pa_cons (PE.wk (u := uP) (pe_call GP hr2 (by rfl) mP kP bP .nil pass0 (pa_cons (pv 0) (pa_cons (pe_ifExp (pt_cmpR (op_neL hu0) (pv 11) (pe_lst pa_nil) (nomark _)) (pv 11) (pe_lst (pa_cons (pv 6) pa_nil))) pa_nil))) (fun σ H Q ⟨p, c, Dc, ks, y, n, sz, k, L, e0, e6, e11, FA, hn, hD, np, nc, ll, hL, k0, k1, q⟩ => by
          refine ⟨_, e0, _, e11, by show 0 ≤ sizeLine; decide, fun el hel => ?_⟩
          have s1 := same_new (o := .lst []) hel
          have FA1 := FA.same s1
          have D1 := s1 _ _ hD
          refine ⟨Dc, el, _, rfl, rfl, D1, upd_same, _, rfl, ?_⟩
          cases L with
          | nil =>
            refine iteF ⟨_, e6, by show 1 ≤ sizeLine; decide, fun l hl => ?_⟩
            have s2 := same_new (o := .lst [V.int k]) hl
            refine ⟨p, c, l, ks, _, y, n, rfl, FA1.same s2, by omega, upd_same, Ne.symm (ne_of_none FA1.ob hl), Ne.symm (ne_of_none FA1.cs hl), by show 1 ≤ 1; decide, by show 1 ≤ 100; decide, fun v ks1 H1 mv FA2 sv1 => ?_⟩
            rw [List.mem_singleton.mp mv]
            exact q k ks1 H1 k0 k1 FA2 ((Save.of (s1.trans s2)).trans sv1)
          | cons g L =>
            refine iteT ⟨_, e11, p, c, Dc, ks, _, y, n, rfl, FA1, by omega, D1, np, nc, by rw [List.length_map]; exact Nat.succ_le_succ (Nat.zero_le _), by rw [List.length_map]; exact ll, fun v ks1 H1 mv FA2 sv1 => ?_⟩
            obtain ⟨g', mg', rfl⟩ := List.mem_map.mp mv
            obtain ⟨g0, g1⟩ := hL g' mg'
            exact q g' ks1 H1 g0 g1 FA2 ((Save.of s1).trans sv1))) pa_nil)))) pa_nil)))))) (pss_one (ps_expr (pe_bm PySem.F.plainAttrs_list PySem.F.slot_list_append PySem.F.type_list_append mt_append (pv 5) (pa_cons (pv 7) pa_nil))))))) (pss_cons (ps_for PassesOwn.never rfl (pi_range1 (by rfl) G.range (pa_cons (pe_call GD hr1 (by rfl) mD kD bD .nil pass0 (pa_cons (pv 0) (pa_cons pe_int pa_nil))) pa_nil)) (pg_name (i := 6) scDn.nd rfl (Or.inl rfl)) (pss_cons (ps_set (i := 7) scDn.nd rfl (Or.inl rfl) (pe_call GP hr2 (by rfl) mP kP bP .nil pass0 (pa_cons (pv 0) (pa_cons (pv 5) pa_nil)))) (pss_one (ps_if (pt_cmpR (op_neL hu0) (pv 7) (pe_lst pa_nil) (nomark _)) (pss_one (ps_expr (pe_bm PySem.F.plainAttrs_list PySem.F.slot_list_pop PySem.F.type_list_pop mt_popAt (pv 7) (pa_cons (pe_call GD hr1 (by rfl) mD kD bD .nil pass0 (pa_cons (pv 0) (pa_cons (pe_callB (r := rLenQ K) call_len_seq (by rfl) G.len PySem.boot_len (pa_cons (pv 7) pa_nil)) pa_nil))) pa_nil)))) pss_nil)))) (pss_one (ps_ret (pe_callTy call_tuple_of (by rfl) G.tuple (by decide +kernel) (pa_cons (pe_lc (own := [("_law_state", 7)]) (g := gName 7) (tt := tYes) rfl scDn.nd (pi_list (pv 5)) (blkOk_by (N := nDn) (sc := defScope sDrawn) (by decide +kernel)) (fun _ _ _ _ _ => pg_name (i := 7) scDn.nd rfl (Or.inl rfl)) (fun _ _ _ _ _ => pts_nil) (fun _ _ _ _ _ => (pe_callTy (T := "tuple") (r := rTupOf K) call_tuple_of (by rfl) G.tuple (by decide +kernel) (pa_cons (pv 7) pa_nil)))) pa_nil)))))))))), ?_⟩
    have n0 := FA.n0
    refine ⟨_, rfl, by show 6 ≤ sizeLine; decide, fun l hl => ?_⟩
    have s1 := same_new (o := .lst [V.int 2, .int 4, .int 6, .int 9, .int 12, .int 40]) hl
    refine ⟨p, c, l, ks, _, y, n, rfl, FA.same s1, by omega, upd_same, Ne.symm (ne_of_none FA.ob hl), Ne.symm (ne_of_none FA.cs hl), by show 1 ≤ 6; decide, by show 6 ≤ 100; decide, fun v ks1 H1 mv FA1 sv1 => ?_⟩
    obtain ⟨sz, rfl, z1, z40⟩ : ∃ i : Int, v = .int i ∧ 1 ≤ i ∧ i ≤ 40 := by
      simp only [List.mem_cons, List.not_mem_nil, or_false] at mv
      rcases mv with rfl | rfl | rfl | rfl | rfl | rfl <;> exact ⟨_, rfl, by decide, by decide⟩
    refine ⟨_, rfl, p, c, ks1, y, n + 1, 4, rfl, FA1, by omega, by decide, by decide, fun d ks2 H2 d0 d4 FA2 sv2 => ⟨1, d, rfl, rfl, by show 2 ≤ sizeLine; decide, fun t ht => ⟨t, _, rfl, SqT.of upd_same, rfl, _, _, rfl, _, _, rfl, rfl, ?_⟩⟩⟩
    have st := same_new (o := .tup [V.int sz, .int (1 + d)]) ht
    have svA := (((Save.of (p := p) (c := c) s1).trans sv1).trans sv2).trans (Save.of st)
    have FA3 := FA2.same st
    generalize upd H2 t (.tup [V.int sz, .int (1 + d)]) = H3 at svA FA3 ⊢
    -- the menu
    refine ⟨_, rfl, _, rfl, by show 4 ≤ sizeLine; decide, fun l2 hl2 => ?_⟩
    have s4 := same_new (o := .lst [V.int 1, .int 2, .int 3, .int 5]) hl2
    refine ⟨p, c, l2, ks2, _, y, n + 1 + 1, rfl, FA3.same s4, by omega, upd_same, Ne.symm (ne_of_none FA3.ob hl2), Ne.symm (ne_of_none FA3.cs hl2), by show 1 ≤ 4; decide, by show 4 ≤ 100; decide, fun v ks4 H4 mv4 FA4 sv4 => ?_⟩
    obtain ⟨mny, rfl, y1, y5⟩ : ∃ i : Int, v = .int i ∧ 1 ≤ i ∧ i ≤ 5 := by
      simp only [List.mem_cons, List.not_mem_nil, or_false] at mv4
      rcases mv4 with rfl | rfl | rfl | rfl <;> exact ⟨_, rfl, by decide, by decide⟩
    refine ⟨p, c, ks4, y, n + 1 + 1 + 1, mny, rfl, FA4, by omega, y1, y5, fun r S es ks5 n5 H5 M5 rp rc FA5 le5 sv5 => ?_⟩
    have svB := ((svA.trans (Save.of (p := p) (c := c) s4)).trans sv4).trans sv5
    -- the plain machine
    refine ⟨_, rfl, _, rfl, _, rfl, _, rfl, p, c, ks5, y, n5, 4 - 2, rfl, FA5, by omega, by decide, by decide, fun d2 ks6 H6 e0 e2 FA6 sv6 => ⟨2, d2, rfl, rfl, ?_⟩⟩
    refine ⟨p, c, r, S, es, ks6, y, n5 + 1, 1 + d, 2 + d2, rfl, FA6, by omega, by omega, by omega, M5.save FA5 rp rc sv6, rp, rc, fun pl ps ks7 n7 H7 tpl lps ops FA7 le7 sv7 => ?_⟩
    have svC := (svB.trans sv6).trans sv7
    have few := M5.few
    -- the lists
    refine ⟨by show 0 ≤ sizeLine; decide, fun fo hfo => ?_⟩
    have ffo : H fo = none := by
      cases e : H fo with
      | none => rfl
      | some o => rw [svC _ _ e (Ne.symm (ne_of_none FA7.ob hfo)) (Ne.symm (ne_of_none FA7.cs hfo))] at hfo; cases hfo
    have fop : fo ≠ p := Ne.symm (ne_of_none FA7.ob hfo)
    have foc : fo ≠ c := Ne.symm (ne_of_none FA7.cs hfo)
    have s8 := same_new (o := .lst []) hfo
    have L0 : LsAt H (upd H7 fo (.lst [])) fo [] sz.toNat es := ⟨upd_same, List.nodup_nil, (fun m => nomatch m), (fun q m => nomatch m), (fun q m => nomatch m), fun q m => nomatch m⟩
    have FA8 := FA7.same s8
    have sv8 := svC.wr (o := .lst []) ffo
    have tp8 := tpl.to (Tup.of s8)
    generalize upd H7 fo (.lst []) = H8 at L0 FA8 sv8 tp8 ⊢
    have szn : ((sz.toNat : Nat) : Int) = sz := Int.toNat_of_nonneg (by omega)
    refine ⟨_, rfl, sz, rfl, by omega, by omega, for_range (lo := 0) (n := sz.toNat) (fun j σ H4 => ∃ (o6 o7 o8 o9 o10 o11 o12 : Option V) (ks' : List Int) (n' : Int) (L : List (Addr × List Stp)), σ = [some (.ref p), some (.int sz), some (.int (1 + d)), some (.ref r), some (.ref pl), some (.ref fo), o6, o7, o8, o9, o10, o11, o12] ∧ FeedAt H4 p c ks' y n' ∧ n' ≤ n7 + 24 * (j : Int) ∧ Save p c H H4 ∧ TD H4 (.ref pl) (statesD ps) ∧ LsAt H H4 fo L sz.toNat es ∧ L.length = j)
      ⟨none, none, none, none, none, none, none, ks7, n7, [], rfl, FA8, by omega, sv8, tp8, L0, rfl⟩ ?_ ?_⟩
    · rintro j σ H9 hj ⟨o6, o7, o8, o9, o10, o11, o12, ks9, n9, L, rfl, F9, le9, sv9, tp9, L9, lL⟩
      refine ⟨by show 0 ≤ sizeLine; decide, fun DD hDD => ?_⟩
      have np : DD ≠ p := Ne.symm (ne_of_none F9.ob hDD)
      have nc : DD ≠ c := Ne.symm (ne_of_none F9.cs hDD)
      have nf : DD ≠ fo := Ne.symm (ne_of_none L9.lst hDD)
      have sa := same_new (o := .lst []) hDD
      have dd0 : H DD = none := by
        cases e : H DD with
        | none => rfl
        | some o => rw [sv9 _ _ e np nc] at hDD; cases hDD
      have nL : DD ∉ L.map Prod.fst := fun m => by
        obtain ⟨q, mq, eq⟩ := List.mem_map.mp m
        obtain ⟨vs, e1, _⟩ := L9.at_ q mq
        rw [eq, hDD] at e1
        cases e1
      have La : LsAt H (upd H9 DD (.lst [])) fo L sz.toNat es := L9.keep (Ne.symm nf) nL (fun b o e ne => by rw [upd_ne ne]; exact e) (Tup.of sa)
      have Fa := F9.wr (o := .lst []) np nc
      have sva := sv9.wr (o := .lst []) dd0
      have tpa := tp9.to (Tup.of sa)
      have da : (upd H9 DD (.lst [])) DD = some (.lst []) := upd_same
      generalize upd H9 DD (.lst []) = Ha at La Fa sva tpa da ⊢
      -- the plain state
      obtain ⟨xs, hpl, hxs⟩ := tpa.tup_of
      have lxs : xs.length = ps.length := by
        have z := hxs.len
        rwa [List.length_map] at z
      have m0 := Int.emod_nonneg (0 + (j : Int)) (show 1 + d ≠ 0 by omega)
      have m1 := Int.emod_lt_of_pos (0 + (j : Int)) (show 0 < 1 + d by omega)
      obtain ⟨i, ei⟩ := Int.eq_ofNat_of_zero_le m0
      have li : i < xs.length := by omega
      obtain ⟨v, ev⟩ : ∃ v, xs[i]? = some v := ⟨xs[i], List.getElem?_eq_getElem li⟩
      obtain ⟨dv, edv, tv⟩ := hxs.get ev
      rw [List.getElem?_map] at edv
      obtain ⟨st0, est, rfl⟩ := Option.map_eq_some_iff.mp edv
      obtain ⟨b, ys, rfl, hb, hys⟩ : ∃ b ys, v = .ref b ∧ Ha b = some (.tup ys) ∧ TDs Ha ys (st0.map stepD) := by
        unfold stateD at tv
        cases tv with
        | tup e t => exact ⟨_, _, rfl, e, t⟩
      obtain ⟨so0, ev0⟩ := ops st0 (List.mem_of_getElem? est)
      have eat : atI xs ((0 + (j : Int)) % (1 + d)) = some (.ref b) := by rw [ei]; exact atI_nat ev
      have ylen : ys.length = st0.length := by
        have z := hys.len
        rwa [List.length_map] at z
      have sfew := so0.few
      refine ⟨_, rfl, _, rfl, _, rfl, _, _, rfl, rfl, by omega, pl, xs, _, _, rfl, rfl, SqT.of hpl, eat, b, rfl, ⟨_, SqT.of hb⟩, for_tup (K := K) (a := b) (xs := ys) (fun g σ Hb => ∃ (o8 o9 o10 o11 o12 : Option V) (ksb : List Int) (nb : Int) (vs : List V) (st : List Stp), σ = [some (.ref p), some (.int sz), some (.int (1 + d)), some (.ref r), some (.ref pl), some (.ref fo), some (.int (0 + (j : Int))), some (.ref DD), o8, o9, o10, o11, o12] ∧ FeedAt Hb p c ksb y nb ∧ nb ≤ n9 + (g : Int) ∧ Hb DD = some (.lst vs) ∧ TDs Hb vs (st.map stepD) ∧ st.map evOf = (st0.take g).map evOf ∧ (∀ x ∈ st, StpOk sz.toNat x) ∧ (∀ b o, Ha b = some o → b ≠ DD → b ≠ p → b ≠ c → Hb b = some o) ∧ Tup Ha Hb)
        ⟨_, _, _, _, _, ks9, n9, [], [], rfl, Fa, by omega, da, .nil, rfl, (fun x m => nomatch m), fun b o e _ _ _ => e, Tup.refl _⟩ (fun g σ Hb _ ⟨_, _, _, _, _, _, _, _, _, _, _, _, _, _, _, _, _, t⟩ => SqT.of (t _ _ hb)) ?_ ?_⟩
      · rintro g v σ Hb ex ⟨p8, p9, p10, p11, p12, ksb, nb, vs, st, rfl, Fb, leb, db, tb, evb, okb, kpb, tpb⟩
        obtain ⟨dv, edv, tv⟩ := hys.get ex
        rw [List.getElem?_map] at edv
        obtain ⟨x, exx, rfl⟩ := Option.map_eq_some_iff.mp edv
        obtain ⟨q, rfl, hq⟩ := step_of tv
        have lg := (List.getElem?_eq_some_iff.mp exx).1
        have xo := so0.all x (List.mem_of_getElem? exx)
        have hqb := tpb _ _ hq
        have vl := tb.len
        have sl8 := congrArg List.length evb
        rw [List.length_map, List.length_map, List.length_take] at sl8
        rw [List.length_map] at vl
        refine ⟨q, [.str x.1, .str x.2.1, .int x.2.2], rfl, SqT.of hqb, rfl, _, _, rfl, _, _, rfl, _, _, rfl, rfl, ?_⟩
        refine ⟨_, rfl, sz, rfl, by omega, by omega, fun Dc hDc => lc_range (lo := 0) (n := sz.toNat) (fun i' Hc => ∃ L : List Int, Hc Dc = some (.lst (L.map V.int)) ∧ L.length ≤ i' ∧ (∀ g ∈ L, 0 ≤ g ∧ g < sz) ∧ ∀ b o, Hb b = some o → Hc b = some o) ⟨[], upd_same, Nat.le_refl _, (fun g m => nomatch m), same_new hDc⟩ (fun i' Hc hi' ⟨Lc, hc1, hc2, hc3, hc4⟩ => ?_) (fun Hc ⟨Lc, hc1, hc2, hc3, hc4⟩ => ?_)⟩
        · refine ⟨rfl, _, rfl, _, rfl, _, _, rfl, rfl, by omega, _, rfl, rfl, _, rfl, ?_⟩
          cases decide (V.int ((0 + (i' : Int)) % (1 + d)) = V.int x.2.2) with
          | false => exact iteF ⟨Lc, hc1, by omega, hc3, hc4⟩
          | true =>
            refine iteT ⟨_, rfl, _, hc1, small_lt (m := 40) (by rw [List.length_map]; omega), Lc ++ [0 + (i' : Int)], by rw [upd_same, List.map_append]; rfl, by rw [List.length_append, List.length_singleton]; omega, fun g mg => ?_, fun b o e => ?_⟩
            · rcases List.mem_append.mp mg with z | z
              · exact hc3 g z
              · rw [List.mem_singleton.mp z]
                omega
            · rw [upd_ne (ne_of_none e hDc)]
              exact hc4 b o e
        · have Fc := Fb.same hc4
          have dc := hc4 _ _ db
          have cp : Dc ≠ p := Ne.symm (ne_of_none Fb.ob hDc)
          have cc : Dc ≠ c := Ne.symm (ne_of_none Fb.cs hDc)
          refine ⟨_, rfl, .inl ⟨rfl, _, SqL.of dc⟩, _, rfl, _, rfl, p, c, Dc, ksb, y, nb, sz, 0 + (j : Int), Lc, rfl, rfl, rfl, Fc, by omega, hc1, cp, cc, by omega, hc3, by omega, by omega, fun g2 ksd Hd g0 g1 Fd svd => ⟨by show 3 ≤ sizeLine; decide, fun b2 hb2 => ?_⟩⟩
          have sn := same_new (o := .tup [V.str x.1, .str x.2.1, .int g2]) hb2
          have de := sn _ _ (svd _ _ dc np nc)
          have at2 : (upd Hd b2 (.tup [V.str x.1, .str x.2.1, .int g2])) b2 = some (.tup [V.str x.1, .str x.2.1, .int g2]) := upd_same
          have te := ((tb.to (Tup.of hc4)).to (Save.tup Fc svd)).to (Tup.of sn)
          have Fe := Fd.same sn
          have kpe : ∀ b o, Ha b = some o → b ≠ DD → b ≠ p → b ≠ c → (upd Hd b2 (.tup [V.str x.1, .str x.2.1, .int g2])) b = some o := fun b o e a1 a2 a3 => sn _ _ (svd _ _ (hc4 _ _ (kpb b o e a1 a2 a3)) a2 a3)
          have tpe : Tup Ha (upd Hd b2 (.tup [V.str x.1, .str x.2.1, .int g2])) := ((tpb.trans (Tup.of hc4)).trans (Save.tup Fc svd)).trans (Tup.of sn)
          generalize upd Hd b2 (.tup [V.str x.1, .str x.2.1, .int g2]) = He at de at2 te Fe kpe tpe ⊢
          have tp : Tup He (upd He DD (.lst (vs ++ [.ref b2]))) := Tup.at_ de fun xs z => nomatch z
          refine ⟨DD, vs, _, rfl, rfl, de, small_lt (m := 24) (by omega), _, _, _, _, _, ksd, nb + 1, vs ++ [.ref b2], st ++ [(x.1, x.2.1, g2)], rfl, Fe.wr np nc, by omega, upd_same, ?_, ?_, fun z mz => ?_, fun b' o e' a1 a2 a3 => by rw [upd_ne a1]; exact kpe b' o e' a1 a2 a3, tpe.trans tp⟩
          · rw [List.map_append]
            exact TDs.snoc (.tup (tp _ _ at2) (.cons (.str _) (.cons (.str _) (.cons (.int _) .nil)))) (te.to tp)
          · rw [List.take_succ, exx, Option.toList_some, List.map_append, List.map_append, evb]
            rfl
          · rcases List.mem_append.mp mz with q | q
            · exact okb z q
            · rw [List.mem_singleton.mp q]
              exact ⟨xo.w1, xo.w2, g0, by rw [szn]; exact g1⟩
      · rintro σ Hb ⟨p8, p9, p10, p11, p12, ksb, nb, vs, st, rfl, Fb, leb, db, tb, evb, okb, kpb, tpb⟩
        rw [ylen, List.take_length] at evb
        rw [ylen] at leb
        have lst : st.length = st0.length := by
          have z := congrArg List.length evb
          rwa [List.length_map, List.length_map] at z
        have Lb : LsAt H Hb fo L sz.toNat es := ⟨kpb _ _ La.lst (Ne.symm nf) fop foc, La.nd, La.nf, La.fr, fun q m => by
          obtain ⟨vs, e1, e2⟩ := La.at_ q m
          exact ⟨vs, kpb _ _ e1 (fun z => nL (List.mem_map.mpr ⟨q, m, z⟩)) (Ne.symm (ne_of_none FA.ob (La.fr q m))) (Ne.symm (ne_of_none FA.cs (La.fr q m))), e2.to tpb⟩, La.ok⟩
        have sok : StOk sz.toNat st ∧ ∀ x ∈ st, evOf x ∈ es := ⟨⟨okb, by rw [evb]; exact so0.asc, by omega⟩, fun x mx => by
          have z : evOf x ∈ st0.map evOf := by rw [← evb]; exact List.mem_map.mpr ⟨x, mx, rfl⟩
          obtain ⟨x0, mx0, e0⟩ := List.mem_map.mp z
          rw [← e0]
          exact ev0 x0 mx0⟩
        refine ⟨_, rfl, .inl ⟨rfl, _, SqL.of Lb.lst⟩, _, rfl, fo, _, _, rfl, rfl, Lb.lst, small_lt (m := 40) (by rw [List.length_map]; omega), ?_⟩
        have tp : Tup Hb (upd Hb fo (.lst (L.map (fun q => V.ref q.1) ++ [.ref DD]))) := Tup.at_ Lb.lst fun xs z => nomatch z
        refine ⟨_, _, _, _, _, _, _, ksb, nb, L ++ [(DD, st)], rfl, Fb.wr fop foc, by omega, fun b' o e a1 a2 => ?_, (tpa.to tpb).to tp, Lb.put nL nf dd0 db tb sok, by rw [List.length_append, lL]; rfl⟩
        rw [upd_ne (ne_of_none e ffo)]
        exact kpb _ _ (sva _ _ e a1 a2) (ne_of_none e dd0) a1 a2
    · rintro σ H9 ⟨o6, o7, o8, o9, o10, o11, o12, ks9, n9, L, rfl, F9, le9, sv9, tp9, L9, lL⟩
      -- some steps less
      refine ⟨_, rfl, p, c, ks9, y, n9, 4, rfl, F9, by omega, by decide, by decide, fun tm ksa Ha t0 t4 Fa sva => ⟨tm, rfl, by omega, by omega, for_range (lo := 0) (n := tm.toNat) (fun j σ Hb => ∃ (o6 o7 : Option V) (ksb : List Int) (nb : Int) (L : List (Addr × List Stp)), σ = [some (.ref p), some (.int sz), some (.int (1 + d)), some (.ref r), some (.ref pl), some (.ref fo), o6, o7, o8, o9, o10, o11, o12] ∧ FeedAt Hb p c ksb y nb ∧ nb ≤ n9 + 1 + 2 * (j : Int) ∧ Save p c H Hb ∧ LsAt H Hb fo L sz.toNat es ∧ L.length = sz.toNat)
        ⟨_, _, ksa, n9 + 1, L, rfl, Fa, by omega, sv9.trans sva, L9.save FA ffo F9 sva, lL⟩ ?_ ?_⟩⟩
      · rintro j σ Hb hj ⟨p6, p7, ksb, nb, Lb, rfl, Fb, leb, svb, Lb1, lLb⟩
        have lm : (Lb.map fun q => V.ref q.1).length = sz.toNat := by rw [List.length_map]; exact lLb
        refine ⟨_, rfl, _, rfl, p, c, fo, ksb, _, y, nb, rfl, Fb, by omega, Lb1.lst, fop, foc, by rw [lm]; omega, by rw [lm]; omega, fun v ksc Hc mv Fc svc => ?_⟩
        obtain ⟨q, mq, rfl⟩ := List.mem_map.mp mv
        have Lc := Lb1.save FA ffo Fb svc
        refine ⟨_, rfl, by show 0 ≤ sizeLine; decide, fun el hel => ?_⟩
        have se := same_new (o := .lst []) hel
        have Ld : LsAt H (upd Hc el (.lst [])) fo Lb sz.toNat es := Lc.save FA ffo Fc (Save.of se)
        have Fd := Fc.same se
        have svd := (svb.trans svc).trans (Save.of (p := p) (c := c) se)
        have ee : (upd Hc el (.lst [])) el = some (.lst []) := upd_same
        generalize upd Hc el (.lst []) = Hd at Ld Fd svd ee ⊢
        obtain ⟨vs, hvs, tvs⟩ := Ld.at_ q mq
        refine ⟨q.1, el, vs, rfl, rfl, hvs, ee, _, rfl, ?_⟩
        cases hc : vs with
        | nil => exact iteF ⟨_, _, ksc, nb + 1, Lb, rfl, Fd, by omega, svd, Ld, lLb⟩
        | cons v0 vr =>
          have vl := tvs.len
          rw [List.length_map] at vl
          have sfew := (Ld.ok q mq).1.few
          have l1 : 1 ≤ vs.length := by rw [hc]; exact Nat.succ_le_succ (Nat.zero_le _)
          have fq := Ld.fr q mq
          have qp : q.1 ≠ p := Ne.symm (ne_of_none FA.ob fq)
          have qc : q.1 ≠ c := Ne.symm (ne_of_none FA.cs fq)
          refine iteT ⟨_, rfl, .inl ⟨rfl, _, SqL.of hvs⟩, _, rfl, _, rfl, q.1, _, rfl, .inl (SqL.of hvs), p, c, ksc, y, nb + 1, _, rfl, Fd, by omega, by omega, by omega, fun g ksd He g0 g1 Fe sve => ?_⟩
          have Le := Ld.save FA ffo Fd sve
          obtain ⟨vs2, hv2, _⟩ := Le.at_ q mq
          have ev2 : vs2 = vs := by
            have z := sve _ _ hvs qp qc
            rw [hv2] at z
            exact HO.lst.inj (Option.some.inj z)
          subst ev2
          have lg : g.toNat < vs2.length := by omega
          refine ⟨q.1, vs2, g, g.toNat, vs2[g.toNat], rfl, rfl, hv2, by omega, by omega, seqIndex_of g0 g1, List.getElem?_eq_getElem lg, ?_⟩
          refine ⟨_, _, ksd, nb + 1 + 1, cutL q.1 g.toNat Lb, rfl, Fe.wr qp qc, by omega, (svd.trans sve).wr fq, Le.cut g.toNat (List.mem_map.mpr ⟨q, mq, rfl⟩) hv2, by unfold cutL; rw [List.length_map]; exact lLb⟩
      · rintro σ Hb ⟨p6, p7, ksb, nb, Lb, rfl, Fb, leb, svb, Lb1, lLb⟩
        refine ⟨_, rfl, fo, rfl, ⟨_, SqL.of Lb1.lst⟩, fun D hD => lc_list (K := K) (a := fo) (xs := Lb.map fun q => V.ref q.1) (fun i Hc => ∃ vs, Hc D = some (.lst vs) ∧ TDs Hc vs (((Lb.map Prod.snd).take i).map stateD) ∧ ∀ b o, Hb b = some o → Hc b = some o) ⟨[], upd_same, by rw [List.take_zero]; exact .nil, same_new hD⟩ (fun i Hc _ ⟨_, _, _, t⟩ => SqL.of (t _ _ Lb1.lst)) (fun i x Hc ex ⟨vs, e1, e2, e3⟩ => ?_) fun Hc ⟨vs, e1, e2, e3⟩ => ?_⟩
        · rw [List.getElem?_map] at ex
          obtain ⟨q, eq, rfl⟩ := Option.map_eq_some_iff.mp ex
          obtain ⟨us, hus, tus⟩ := Lb1.at_ q (List.mem_of_getElem? eq)
          have lq := (List.getElem?_eq_some_iff.mp eq).1
          have vl := e2.len
          rw [List.length_map, List.length_take] at vl
          refine ⟨rfl, _, rfl, q.1, us, rfl, .inl ⟨SqL.of (e3 _ _ hus), fun t ht => ?_⟩⟩
          have st := same_new (o := .tup us) ht
          have f1 := st _ _ e1
          have tp : Tup (upd Hc t (.tup us)) (upd (upd Hc t (.tup us)) D (.lst (vs ++ [.ref t]))) := Tup.at_ f1 fun xs z => nomatch z
          refine ⟨vs, f1, small_lt (m := 40) (by omega), vs ++ [.ref t], upd_same, ?_, fun b o e => ?_⟩
          · rw [List.take_succ, List.getElem?_map, eq, List.map_append]
            exact TDs.snoc (.tup (tp _ _ upd_same) (((tus.to (Tup.of e3)).to (Tup.of st)).to tp)) ((e2.to (Tup.of st)).to tp)
          · rw [upd_ne (ne_of_none e hD)]
            exact st _ _ (e3 _ _ e)
        · have lmm : (Lb.map fun q => V.ref q.1).length = (Lb.map Prod.snd).length := by rw [List.length_map, List.length_map]
          rw [lmm, List.take_length] at e2
          refine ⟨D, vs, rfl, .inl ⟨SqL.of e1, fun t ht => ?_⟩⟩
          have st := same_new (o := .tup vs) ht
          have sall := fun b o (e : Hb b = some o) => st _ _ (e3 b o e)
          have lsn : (Lb.map Prod.snd).length = sz.toNat := by rw [List.length_map]; exact lLb
          refine k t (Lb.map Prod.snd) ksb nb _ (.tup upd_same (e2.to (Tup.of st))) ⟨by omega, by omega, fun su ms => ?_, es, by omega, fun su ms => ?_⟩ (Fb.same sall) (by omega) (svb.trans (Save.of sall))
          · obtain ⟨q, mq, rfl⟩ := List.mem_map.mp ms
            rw [lsn]
            exact (Lb1.ok q mq).1
          · obtain ⟨q, mq, rfl⟩ := List.mem_map.mp ms
            exact (Lb1.ok q mq).2
end
end My

-- ===== KX4 =====
set_option Elab.async false
set_option linter.all false
set_option maxRecDepth 100000
set_option maxHeartbeats 4000000
namespace Kd
open PySem L2 PyProof.Rows PySem.Spec PySem.W
/-! ### a tuple times 0 or 1 -/
theorem tuple_mul1 (l : Addr) (items : Array Value) (n : Nat) (dd : Option Addr) (sl : Array (Option Value)) (u : Tok) (c1 : (items.isEmpty || (1 : Int) == 1) = true) :
    Meets (Builtin.«tuple.__mul__» ⟨[.ref l, .int 1 u], []⟩) (fun _ R s => s.heap.get? l = some { cls := .type "tuple", dict := dd, data := .seq items n, slots := sl } ∧ R (.ok (.ret (Value.ref l))) s) :=
  .of_wp fun prog w A R s h => by
    obtain ⟨hp, g, d, tk, os⟩ := s
    obtain ⟨hl, h⟩ := h
    have f1 := AutoSeq1.idx_int
    have c0 : (decide ((1 : Int) < -(2 ^ 63)) || decide ((1 : Int) ≥ 2 ^ 63)) = false := by decide
    wp_walk using wpAny_loadPart' hl
    repeat (first
      | (refine wpAny_ite_false (decide_eq_false (by rw [c0]; exact Bool.false_ne_true)) ?_; wp_walk using wpAny_loadPart' hl)
      | (refine wpAny_ite_true (decide_eq_true (by rw [c1])) ?_; wp_walk using wpAny_loadPart' hl))
    exact ⟨_, rfl, h⟩
theorem tuple_mul0 (l : Addr) (items : Array Value) (n : Nat) (dd : Option Addr) (sl : Array (Option Value)) (u : Tok) (c1 : (items.isEmpty || (0 : Int) == 1) = false) :
    Meets (Builtin.«tuple.__mul__» ⟨[.ref l, .int 0 u], []⟩) (fun _ R s => s.heap.get? l = some { cls := .type "tuple", dict := dd, data := .seq items n, slots := sl } ∧
      R (.ok (.ret (Value.ref s.heap.objs.size))) { s with heap := s.heap.push { cls := Value.type "tuple", data := Data.seq #[] }, toks := s.toks }) :=
  .of_wp fun prog w A R s h => by
    obtain ⟨hp, g, d, tk, os⟩ := s
    obtain ⟨hl, h⟩ := h
    have f1 := AutoSeq1.idx_int
    have c0 : (decide ((0 : Int) < -(2 ^ 63)) || decide ((0 : Int) ≥ 2 ^ 63)) = false := by decide
    have c2 : (decide ((0 : Int) ≤ 0) || items.isEmpty) = true := by rfl
    wp_walk using wpAny_loadPart' hl
    repeat (first
      | (refine wpAny_ite_false (decide_eq_false (by rw [c0]; exact Bool.false_ne_true)) ?_; wp_walk using wpAny_loadPart' hl)
      | (refine wpAny_ite_false (decide_eq_false (by rw [c1]; exact Bool.false_ne_true)) ?_; wp_walk using wpAny_loadPart' hl)
      | (refine wpAny_ite_true (decide_eq_true (by rw [c2])) ?_; wp_walk using wpAny_loadPart' hl))
    exact ⟨_, rfl, h⟩
def rRep01 : R2 := fun x y H Q => ∃ (l : Addr) (b : Bool) (xs : List V), x = .ref l ∧ y = .int (if b then 1 else 0) ∧ H l = some (.tup xs) ∧ xs ≠ [] ∧ ∀ r H', Same H H' → H' r = some (.tup (if b then xs else [])) → Q (.ref r) H'
theorem op_rep01 {X : Cx} : OpR X (binaryOp .Mult) rRep01 := by
  intro pins s σ H x y v u Q I rx ry h
  obtain ⟨l, b, xs, rfl, rfl, hT, hne, q⟩ := h
  cases rx
  obtain ⟨t, rfl⟩ := ry
  obtain ⟨its, r, ⟨⟨cls, dd, data, sl⟩, ho, hc, n, hd⟩, hs⟩ := I.tuple (SqT.of hT)
  simp only at hc hd
  subst hc hd
  have hle : its.length = xs.length := r.length.symm
  have hn : its ≠ [] := fun e => hne (by
    rw [e] at hle
    exact List.eq_nil_of_length_eq_zero hle.symm)
  have hi : its.toArray.isEmpty = false := by
    cases its with
    | nil => exact absurd rfl hn
    | cons a b => rfl
  cases b with
  | true =>
    refine wpAny_binaryOp_repeat_ref (T := "tuple") (U := "int") (by decide) ⟨_, ho, rfl⟩ (fun s' => typeIs_int s' 1 t) noFill_tuple_mul F.fills_int_mul F.slot_int_rmul repeat_tuple F.slot_int_index.lookup
      (call_meets F.slot_int_rmul (typeIs_int s 1 t) F.entry_int_rmul (F.args_int_rmul_2 _ _) (int_rmul_tuple 1 t l its.toArray n dd sl)
        ⟨ho, rfl, ⟨_, ho, rfl⟩, call_meets F.slot_tuple_mul ⟨_, ho, rfl⟩ F.entry_tuple_mul (F.args_tuple_mul_2 _ _) (tuple_mul1 l its.toArray n dd sl t (by rw [hi]; rfl)) ⟨ho, ?_⟩⟩)
    exact ⟨.ref l, H, I, rfl, q l H (Same.refl H) hT⟩
  | false =>
    refine wpAny_binaryOp_repeat_ref (T := "tuple") (U := "int") (by decide) ⟨_, ho, rfl⟩ (fun s' => typeIs_int s' 0 t) noFill_tuple_mul F.fills_int_mul F.slot_int_rmul repeat_tuple F.slot_int_index.lookup
      (call_meets F.slot_int_rmul (typeIs_int s 0 t) F.entry_int_rmul (F.args_int_rmul_2 _ _) (int_rmul_tuple 0 t l its.toArray n dd sl)
        ⟨ho, rfl, ⟨_, ho, rfl⟩, call_meets F.slot_tuple_mul ⟨_, ho, rfl⟩ F.entry_tuple_mul (F.args_tuple_mul_2 _ _) (tuple_mul0 l its.toArray n dd sl t (by rw [hi]; rfl)) ⟨ho, ?_⟩⟩)
    have hf := I.hok.fresh (Nat.le_refl s.heap.objs.size)
    refine ⟨.ref s.heap.objs.size, _, I.laid (t' := s.toks) (o := .tup []) (fun b ob q => Heap.get?_push_of_some _ q) (Nat.le_refl _) ?_, rfl, q _ _ (fun c o e => ?_) upd_same⟩
    · exact ⟨Nat.zero_le _, [], .nil, IsTup.new _ _⟩
    · rw [upd_ne (ne_of_none e hf)]
      exact e
end Kd

-- ===== K5Y0 =====
set_option Elab.async false
set_option linter.all false
set_option maxRecDepth 100000
set_option maxHeartbeats 4000000
namespace My
open PySem L2 PyProof.Rows PySem.Spec Kd TL
abbrev sRings : Stmt := top 33
def rgS (t : Int) (b : Bool) : List Stp := ("on", "ok", t) :: if b = true then [("put", "ok", t)] else []
def rgE : List (Str × Str) := [("on", "ok"), ("put", "ok")]
theorem rg_wrd : Wrd "on" ∧ Wrd "put" ∧ Wrd "ok" := by
  unfold Wrd
  decide +kernel
theorem rg_lt : evLt ("on", "ok") ("put", "ok") := .inl (by decide +kernel)
theorem rg_ok {t : Int} {n : Nat} (h0 : 0 ≤ t) (h1 : t < (n : Int)) (b : Bool) : StOk n (rgS t b) ∧ ∀ x ∈ rgS t b, evOf x ∈ rgE := by
  obtain ⟨w1, w2, w3⟩ := rg_wrd
  unfold rgS
  cases b with
  | false =>
    refine ⟨⟨fun x m => ?_, List.pairwise_singleton _ _, by show 1 ≤ 24; decide⟩, fun x m => ?_⟩
    · rw [List.mem_singleton.mp m]
      exact ⟨w1, w3, h0, h1⟩
    · rw [List.mem_singleton.mp m]
      exact List.mem_cons_self
  | true =>
    refine ⟨⟨fun x m => ?_, List.pairwise_cons.mpr ⟨fun e m => ?_, List.pairwise_singleton _ _⟩, by show 2 ≤ 24; decide⟩, fun x m => ?_⟩
    · rcases List.mem_cons.mp m with rfl | m
      · exact ⟨w1, w3, h0, h1⟩
      · rw [List.mem_singleton.mp m]
        exact ⟨w2, w3, h0, h1⟩
    · rw [List.mem_singleton.mp m]
      exact rg_lt
    · rcases List.mem_cons.mp m with rfl | m
      · exact List.mem_cons_self
      · rw [List.mem_singleton.mp m]
        exact List.mem_cons_of_mem _ List.mem_cons_self
theorem rg_td {H : Hp} {t1 t3 r : Addr} {t : Int} {b : Bool} (h1 : H t1 = some (.tup [.str "on", .str "ok", .int t])) (h3 : H t3 = some (.tup [.str "put", .str "ok", .int t])) (hr : H r = some (.tup ([.ref t1] ++ if b = true then [V.ref t3] else []))) : TD H (.ref r) (stateD (rgS t b)) := by
  have a1 : TD H (.ref t1) (stepD ("on", "ok", t)) := .tup h1 (.cons (.str _) (.cons (.str _) (.cons (.int _) .nil)))
  have a3 : TD H (.ref t3) (stepD ("put", "ok", t)) := .tup h3 (.cons (.str _) (.cons (.str _) (.cons (.int _) .nil)))
  unfold stateD rgS
  cases b with
  | false => exact .tup hr (.cons a1 .nil)
  | true => exact .tup hr (.cons a1 (.cons a3 .nil))
theorem Same_tupk {H H' H2 : Hp} {a : Addr} {xs : List V} (s : L2.Same H H') (t : Tup H' H2) (h : H a = some (.tup xs)) : H2 a = some (.tup xs) := t _ _ (s _ _ h)
def spRings : Sp := fun vs H Q _ => ∃ (p c : Addr) (ks : List Int) (w n : Int), vs = [.ref p] ∧ FeedAt H p c ks w n ∧ n < 800000 ∧
  ∀ (t a : Addr) (i j : Int) (ss : List (List Stp)) (ks' : List Int) (H' : Hp), H' t = some (.tup [.ref a, .int i, .int j]) → TD H' (.ref a) (statesD ss) → KOk ss → PIn ss.length (i, j) → FeedAt H' p c ks' w (n + 5) → Save p c H H' → Q (.ref t) H'
section
variable {P : Program} {w : World} {K : PySem.W.Frag} {mg : Str → Option Value} {base : Heap}
abbrev nRg : List Str := ["_law_feed_here", "_law_long", "_law_wide", "_law_hole", "_law_spot", "_law_found", "_law_k", "_law_then"]
theorem scRg : FnScope nRg ["_law_feed_here"] (defScope sRings) := ⟨rfl, rfl, rfl, by decide +kernel, rfl, by decide +kernel, by decide +kernel⟩
theorem ok_rings {f fP fD : Addr} {fd fdP fdD : FuncData} (F : Fun K "_law_rings" "_law_rings" sRings f fd) (G : Gs mg)
    (GP : FnOk P w K mg base CX0 2 fP fdP ["_law_feed_here", "_law_some"] spPick) (mP : mg "_law_pick" = some (.ref fP)) (kP : PySem.W.keepIn K (.ref fP) = true) (bP : Binds K fdP ["_law_feed_here", "_law_some"] [])
    (GD : FnOk P w K mg base CX0 1 fD fdD ["_law_feed_here", "_law_many"] spDigit) (mD : mg "_law_digit" = some (.ref fD)) (kD : PySem.W.keepIn K (.ref fD) = true) (bD : Binds K fdD ["_law_feed_here", "_law_many"] []) :
    FnOk P w K mg base CX0 3 f fd ["_law_feed_here"] spRings := by
  refine F.ok scRg (fun vs H Q E h => ?_) (fun cdv A outer s H vs Q E hr h => ?_)
  · obtain ⟨p, c, ks, y, n, rfl, _⟩ := h
    rfl
  · obtain ⟨p, c, ks, y, n, rfl, FA, hn, k⟩ := h
    have hr1 := hr.mono (show 1 ≤ 2 by omega)
    refine ⟨_, (pss_cons (ps_asg (pe_call GP hr (by rfl) mP kP bP .nil pass0 (pa_cons (pv 0) (pa_cons (pe_lst (pa_cons (pe_tup (pa_cons pe_int (pa_cons pe_int pa_nil))) (pa_cons (pe_tup (pa_cons pe_int (pa_cons pe_int pa_nil))) (pa_cons (pe_tup (pa_cons pe_int (pa_cons pe_int pa_nil))) (pa_cons (pe_tup (pa_cons pe_int (pa_cons pe_int pa_nil))) (pa_cons (pe_tup (pa_cons pe_int (pa_cons pe_int pa_nil))) (pa_cons (pe_tup (pa_cons pe_int (pa_cons pe_int pa_nil))) pa_nil))))))) pa_nil))) (pg_tup (by rfl) (pgs_cons (pg_name (i := 1) scRg.nd rfl (Or.inl rfl)) (pgs_cons (pg_name (i := 2) scRg.nd rfl (Or.inl rfl)) pgs_nil)))) (pss_cons (ps_par3 (i := 3) (j := 4) (l := 5) rfl scRg.nd rfl rfl rfl (by decide) (by decide) (by decide) rfl rfl rfl (pa_cons (pe_call GD hr1 (by rfl) mD kD bD .nil pass0 (pa_cons (pv 0) (pa_cons (pe_op op_add (pv 1) pe_int) pa_nil))) (pa_cons (pe_call GD hr1 (by rfl) mD kD bD .nil pass0 (pa_cons (pv 0) (pa_cons (pv 2) pa_nil))) (pa_cons (pe_lst pa_nil) pa_nil))) (by rfl)) (pss_cons (ps_for PassesOwn.never rfl (pi_range1 (by rfl) G.range (pa_cons (pv 1) pa_nil)) (pg_name (i := 6) scRg.nd rfl (Or.inl rfl)) (pss_cons (ps_set (i := 7) scRg.nd rfl (Or.inl rfl) (pe_op op_mod (pe_op op_add (pv 6) pe_int) (pv 1))) (pss_one (ps_expr (pe_bm PySem.F.plainAttrs_list PySem.F.slot_list_append PySem.F.type_list_append mt_append (pv 5) (pa_cons (pe_op Kd.op_catA (pe_tup (pa_cons (pe_tup (pa_cons pe_str (pa_cons pe_str (pa_cons (pv 7) pa_nil)))) pa_nil)) (pe_op op_rep01 (pe_tup (pa_cons (pe_tup (pa_cons pe_str (pa_cons pe_str (pa_cons (pv 7) pa_nil)))) pa_nil)) (pe_callTy call_int1 (by rfl) G.int (by decide +kernel) (pa_cons (pe_cmpR op_ne (pv 6) (pv 3) (nomark _)) pa_nil)))) pa_nil)))))) (pss_cons (ps_for PassesOwn.never rfl (pi_range1 (by rfl) G.range (pa_cons (pv 2) pa_nil)) (pg_name (i := 6) scRg.nd rfl (Or.inl rfl)) (pss_cons (ps_set (i := 7) scRg.nd rfl (Or.inl rfl) (pe_op op_add (pv 1) (pe_op op_mod (pe_op op_add (pv 6) pe_int) (pv 2)))) (pss_one (ps_expr (pe_bm PySem.F.plainAttrs_list PySem.F.slot_list_append PySem.F.type_list_append mt_append (pv 5) (pa_cons (pe_op Kd.op_catA (pe_tup (pa_cons (pe_tup (pa_cons pe_str (pa_cons pe_str (pa_cons (pv 7) pa_nil)))) pa_nil)) (pe_op op_rep01 (pe_tup (pa_cons (pe_tup (pa_cons pe_str (pa_cons pe_str (pa_cons (pv 7) pa_nil)))) pa_nil)) (pe_callTy call_int1 (by rfl) G.int (by decide +kernel) (pa_cons (pe_cmpR op_eq (pv 6) (pv 4) (nomark _)) pa_nil)))) pa_nil)))))) (pss_one (ps_ret (pe_tup (pa_cons (pe_callTy call_tuple_of (by rfl) G.tuple (by decide +kernel) (pa_cons (pv 5) pa_nil)) (pa_cons (pe_call GD hr1 (by rfl) mD kD bD .nil pass0 (pa_cons (pv 0) (pa_cons (pv 1) pa_nil))) (pa_cons (pe_op op_add (pv 1) (pe_call GD hr1 (by rfl) mD kD bD .nil pass0 (pa_cons (pv 0) (pa_cons (pv 2) pa_nil)))) pa_nil)))))))))), ?_⟩
    have n0 := FA.n0
    refine ⟨_, rfl, by show 2 ≤ sizeLine; decide, fun b1 h1 => ⟨by show 2 ≤ sizeLine; decide, fun b2 h2 => ⟨by show 2 ≤ sizeLine; decide, fun b3 h3 => ⟨by show 2 ≤ sizeLine; decide, fun b4 h4 => ⟨by show 2 ≤ sizeLine; decide, fun b5 h5 => ⟨by show 2 ≤ sizeLine; decide, fun b6 h6 => ⟨by show 6 ≤ sizeLine; decide, fun l hl => ?_⟩⟩⟩⟩⟩⟩⟩
    obtain ⟨Hl, eHl, sl, hll, lp, lc, prs⟩ : ∃ Hl : Hp, Hl = upd (upd (upd (upd (upd (upd (upd H b1 (.tup [V.int 3, .int 4])) b2 (.tup [V.int 4, .int 3])) b3 (.tup [V.int 4, .int 6])) b4 (.tup [V.int 5, .int 7])) b5 (.tup [V.int 11, .int 13])) b6 (.tup [V.int 19, .int 21])) l (.lst [V.ref b1, .ref b2, .ref b3, .ref b4, .ref b5, .ref b6]) ∧ L2.Same H Hl ∧ Hl l = some (.lst [V.ref b1, .ref b2, .ref b3, .ref b4, .ref b5, .ref b6]) ∧ l ≠ p ∧ l ≠ c ∧ ∀ v ∈ [V.ref b1, .ref b2, .ref b3, .ref b4, .ref b5, .ref b6], ∃ (b : Addr) (lg wd : Int), v = .ref b ∧ Hl b = some (.tup [.int lg, .int wd]) ∧ 3 ≤ lg ∧ 3 ≤ wd ∧ lg + wd ≤ 40 := by
      refine ⟨_, rfl, ?_, upd_same, ?_, ?_, fun v mv => ?_⟩
      · exact (((((same_new h1).trans (same_new h2)).trans (same_new h3)).trans (same_new h4)).trans (same_new h5)).trans (same_new h6) |>.trans (same_new hl)
      · exact Ne.symm (ne_of_none ((((((FA.same (same_new h1)).same (same_new h2)).same (same_new h3)).same (same_new h4)).same (same_new h5)).same (same_new h6)).ob hl)
      · exact Ne.symm (ne_of_none ((((((FA.same (same_new h1)).same (same_new h2)).same (same_new h3)).same (same_new h4)).same (same_new h5)).same (same_new h6)).cs hl)
      · simp only [List.mem_cons, List.not_mem_nil, or_false] at mv
        rcases mv with rfl | rfl | rfl | rfl | rfl | rfl
        · exact ⟨b1, 3, 4, rfl, same_new hl _ _ (same_new h6 _ _ (same_new h5 _ _ (same_new h4 _ _ (same_new h3 _ _ (same_new h2 _ _ upd_same))))), by decide, by decide, by decide⟩
        · exact ⟨b2, 4, 3, rfl, same_new hl _ _ (same_new h6 _ _ (same_new h5 _ _ (same_new h4 _ _ (same_new h3 _ _ upd_same)))), by decide, by decide, by decide⟩
        · exact ⟨b3, 4, 6, rfl, same_new hl _ _ (same_new h6 _ _ (same_new h5 _ _ (same_new h4 _ _ upd_same))), by decide, by decide, by decide⟩
        · exact ⟨b4, 5, 7, rfl, same_new hl _ _ (same_new h6 _ _ (same_new h5 _ _ upd_same)), by decide, by decide, by decide⟩
        · exact ⟨b5, 11, 13, rfl, same_new hl _ _ (same_new h6 _ _ upd_same), by decide, by decide, by decide⟩
        · exact ⟨b6, 19, 21, rfl, same_new hl _ _ upd_same, by decide, by decide, by decide⟩
    rw [← eHl]
    refine ⟨p, c, l, ks, _, y, n, rfl, FA.same sl, by omega, hll, lp, lc, by show 1 ≤ 6; decide, by show 6 ≤ 100; decide, fun v ks1 H1 mv FA1 sv1 => ?_⟩
    obtain ⟨b, lg, wd, rfl, hb, lg3, wd3, l40⟩ := prs v mv
    have hb1 := Save.tup (FA.same sl) sv1 _ _ hb
    refine ⟨b, _, rfl, SqT.of hb1, rfl, _, _, rfl, _, _, rfl, rfl, ?_⟩
    refine ⟨_, rfl, _, rfl, lg, 1, rfl, rfl, p, c, ks1, y, n + 1, lg + 1, rfl, FA1, by omega, by omega, by omega, fun hole ks2 H2 ho0 ho1 FA2 sv2 => ?_⟩
    refine ⟨_, rfl, _, rfl, p, c, ks2, y, n + 1 + 1, wd, rfl, FA2, by omega, by omega, by omega, fun spot ks3 H3 sp0 sp1 FA3 sv3 => ⟨by show 0 ≤ sizeLine; decide, fun fo hfo => ⟨_, _, _, rfl, ?_⟩⟩⟩
    have svA := (((Save.of (p := p) (c := c) sl).trans sv1).trans sv2).trans sv3
    have fop : fo ≠ p := Ne.symm (ne_of_none FA3.ob hfo)
    have foc : fo ≠ c := Ne.symm (ne_of_none FA3.cs hfo)
    have ffo : H fo = none := by
      cases e : H fo with
      | none => rfl
      | some o => rw [svA _ _ e fop foc] at hfo; cases hfo
    have s45 := same_new (o := .lst []) hfo
    have f0 : (upd H3 fo (.lst [])) fo = some (.lst []) := upd_same
    have F0 := FA3.same s45
    have sv0 := svA.trans (Save.of (p := p) (c := c) s45)
    generalize upd H3 fo (.lst []) = H0 at f0 F0 sv0 ⊢
    refine ⟨_, rfl, lg, rfl, by omega, by omega, for_range (lo := 0) (n := lg.toNat) (fun j σ H4 => ∃ (o6 o7 : Option V) (ks4 : List Int) (vs : List V) (ss : List (List Stp)), σ = [some (.ref p), some (.int lg), some (.int wd), some (.int hole), some (.int spot), some (.ref fo), o6, o7] ∧ FeedAt H4 p c ks4 y (n + 3) ∧ Save p c H H4 ∧ H4 fo = some (.lst vs) ∧ TDs H4 vs (ss.map stateD) ∧ ss.length = j ∧ ∀ st ∈ ss, StOk (lg + wd).toNat st ∧ ∀ x ∈ st, evOf x ∈ rgE)
      ⟨none, none, ks3, [], [], rfl, by rw [show n + 3 = n + 1 + 1 + 1 by omega]; exact F0, sv0, f0, .nil, rfl, fun st m => nomatch m⟩ ?_ ?_⟩
    · rintro j σ H4 hj ⟨o6, o7, ks4, vs, ss, rfl, F4, sv4, f4, t4', sl4, so⟩
      have sl := sl4
      have m0 := Int.emod_nonneg (0 + (j : Int) + 1) (show lg ≠ 0 by omega)
      have m1 := Int.emod_lt_of_pos (0 + (j : Int) + 1) (show 0 < lg by omega)
      refine ⟨_, rfl, _, _, rfl, rfl, _, rfl, _, _, rfl, rfl, by omega, ?_⟩
      refine ⟨_, rfl, .inl ⟨rfl, _, SqL.of f4⟩, _, rfl, by show 3 ≤ sizeLine; decide, fun t1 h1 => ⟨by show 1 ≤ sizeLine; decide, fun t2 h2 => ⟨_, rfl, by show 3 ≤ sizeLine; decide, fun t3 h3 => ⟨by show 1 ≤ sizeLine; decide, fun t4 h4 => ?_⟩⟩⟩⟩
      have u1 := same_new (o := .tup [V.str "on", .str "ok", .int ((0 + (j : Int) + 1) % lg)]) h1
      have u2 := same_new (o := .tup [V.ref t1]) h2
      have u3 := same_new (o := .tup [V.str "put", .str "ok", .int ((0 + (j : Int) + 1) % lg)]) h3
      have u4 := same_new (o := .tup [V.ref t3]) h4
      have g1 := u4 _ _ (u3 _ _ (u2 _ _ (upd_same (H := H4) (a := t1) (o := .tup [V.str "on", .str "ok", .int ((0 + (j : Int) + 1) % lg)]))))
      have g2 := u4 _ _ (u3 _ _ (upd_same (H := upd H4 t1 (.tup [V.str "on", .str "ok", .int ((0 + (j : Int) + 1) % lg)])) (a := t2) (o := .tup [V.ref t1])))
      have g3 := u4 _ _ (upd_same (H := upd (upd H4 t1 (.tup [V.str "on", .str "ok", .int ((0 + (j : Int) + 1) % lg)])) t2 (.tup [V.ref t1])) (a := t3) (o := .tup [V.str "put", .str "ok", .int ((0 + (j : Int) + 1) % lg)]))
      have g4 := upd_same (H := upd (upd (upd H4 t1 (.tup [V.str "on", .str "ok", .int ((0 + (j : Int) + 1) % lg)])) t2 (.tup [V.ref t1])) t3 (.tup [V.str "put", .str "ok", .int ((0 + (j : Int) + 1) % lg)])) (a := t4) (o := .tup [V.ref t3])
      have u := ((u1.trans u2).trans u3).trans u4
      generalize upd (upd (upd (upd H4 t1 (.tup [V.str "on", .str "ok", .int ((0 + (j : Int) + 1) % lg)])) t2 (.tup [V.ref t1])) t3 (.tup [V.str "put", .str "ok", .int ((0 + (j : Int) + 1) % lg)])) t4 (.tup [V.ref t3]) = H5 at g1 g2 g3 g4 u ⊢
      refine ⟨_, rfl, _, rfl, rfl, .inr ⟨_, rfl, t4, !decide (V.int (0 + (j : Int)) = V.int hole), [.ref t3], rfl, rfl, g4, (fun z => nomatch z), fun r H6 s6 hr6 => ?_⟩⟩
      have sz6 : (if (!decide (V.int (0 + (j : Int)) = V.int hole)) = true then [V.ref t3] else []).length ≤ 1 := by split <;> simp
      refine ⟨t2, r, [.ref t1], _, rfl, rfl, s6 _ _ g2, hr6, small_len (m := 2) (by rw [List.length_singleton]; omega), fun r2 H7 s7 hr7 => ?_⟩
      have s57 := s6.trans s7
      have s47 := u.trans s57
      have vl := t4'.len
      rw [List.length_map] at vl
      have f7 := s47 _ _ f4
      refine ⟨fo, vs, _, rfl, rfl, f7, small_lt (m := 40) (by omega), ?_⟩
      have tp : Tup H7 (upd H7 fo (.lst (vs ++ [.ref r2]))) := Tup.at_ f7 fun xs z => nomatch z
      have th0 : 0 ≤ ((0 + (j : Int) + 1) % lg) ∧ ((0 + (j : Int) + 1) % lg) < (((lg + wd).toNat : Nat) : Int) := ⟨by omega, by omega⟩
      refine ⟨_, _, ks4, vs ++ [.ref r2], ss ++ [rgS (((0 + (j : Int) + 1) % lg)) (!decide (V.int (0 + (j : Int)) = V.int hole))], rfl, (F4.same s47).wr fop foc, fun b' o e a1 a2 => ?_, upd_same, ?_, by rw [List.length_append, sl]; first | rfl | (show _ + 1 = _; omega), fun st ms => ?_⟩
      · rw [upd_ne (ne_of_none e ffo)]
        exact s47 _ _ (sv4 _ _ e a1 a2)
      · rw [List.map_append]
        exact TDs.snoc (rg_td (Same_tupk s57 tp g1) (Same_tupk s57 tp g3) (tp _ _ hr7)) ((t4'.to (Tup.of s47)).to tp)
      · rcases List.mem_append.mp ms with z | z
        · exact so st z
        · rw [List.mem_singleton.mp z]
          exact rg_ok th0.1 th0.2 _
    · rintro σ H9 ⟨o6, o7, ks9, vs9, ss9, rfl, F9, sv9, f9, t9, sl9, so9⟩
      refine ⟨_, rfl, wd, rfl, by omega, by omega, for_range (lo := 0) (n := wd.toNat) (fun j σ H4 => ∃ (o6 o7 : Option V) (ks4 : List Int) (vs : List V) (ss : List (List Stp)), σ = [some (.ref p), some (.int lg), some (.int wd), some (.int hole), some (.int spot), some (.ref fo), o6, o7] ∧ FeedAt H4 p c ks4 y (n + 3) ∧ Save p c H H4 ∧ H4 fo = some (.lst vs) ∧ TDs H4 vs (ss.map stateD) ∧ ss.length = lg.toNat + j ∧ ∀ st ∈ ss, StOk (lg + wd).toNat st ∧ ∀ x ∈ st, evOf x ∈ rgE)
        ⟨_, _, ks9, vs9, ss9, rfl, F9, sv9, f9, t9, sl9, so9⟩ ?_ ?_⟩
      · rintro j σ H4 hj ⟨o6, o7, ks4, vs, ss, rfl, F4, sv4, f4, t4', sl4, so⟩
        have sl := sl4
        have m0 := Int.emod_nonneg (0 + (j : Int) + 1) (show wd ≠ 0 by omega)
        have m1 := Int.emod_lt_of_pos (0 + (j : Int) + 1) (show 0 < wd by omega)
        refine ⟨_, rfl, _, rfl, _, _, rfl, rfl, _, rfl, _, _, rfl, rfl, by omega, _, _, rfl, rfl, ?_⟩
        refine ⟨_, rfl, .inl ⟨rfl, _, SqL.of f4⟩, _, rfl, by show 3 ≤ sizeLine; decide, fun t1 h1 => ⟨by show 1 ≤ sizeLine; decide, fun t2 h2 => ⟨_, rfl, by show 3 ≤ sizeLine; decide, fun t3 h3 => ⟨by show 1 ≤ sizeLine; decide, fun t4 h4 => ?_⟩⟩⟩⟩
        have u1 := same_new (o := .tup [V.str "on", .str "ok", .int (lg + (0 + (j : Int) + 1) % wd)]) h1
        have u2 := same_new (o := .tup [V.ref t1]) h2
        have u3 := same_new (o := .tup [V.str "put", .str "ok", .int (lg + (0 + (j : Int) + 1) % wd)]) h3
        have u4 := same_new (o := .tup [V.ref t3]) h4
        have g1 := u4 _ _ (u3 _ _ (u2 _ _ (upd_same (H := H4) (a := t1) (o := .tup [V.str "on", .str "ok", .int (lg + (0 + (j : Int) + 1) % wd)]))))
        have g2 := u4 _ _ (u3 _ _ (upd_same (H := upd H4 t1 (.tup [V.str "on", .str "ok", .int (lg + (0 + (j : Int) + 1) % wd)])) (a := t2) (o := .tup [V.ref t1])))
        have g3 := u4 _ _ (upd_same (H := upd (upd H4 t1 (.tup [V.str "on", .str "ok", .int (lg + (0 + (j : Int) + 1) % wd)])) t2 (.tup [V.ref t1])) (a := t3) (o := .tup [V.str "put", .str "ok", .int (lg + (0 + (j : Int) + 1) % wd)]))
        have g4 := upd_same (H := upd (upd (upd H4 t1 (.tup [V.str "on", .str "ok", .int (lg + (0 + (j : Int) + 1) % wd)])) t2 (.tup [V.ref t1])) t3 (.tup [V.str "put", .str "ok", .int (lg + (0 + (j : Int) + 1) % wd)])) (a := t4) (o := .tup [V.ref t3])
        have u := ((u1.trans u2).trans u3).trans u4
        generalize upd (upd (upd (upd H4 t1 (.tup [V.str "on", .str "ok", .int (lg + (0 + (j : Int) + 1) % wd)])) t2 (.tup [V.ref t1])) t3 (.tup [V.str "put", .str "ok", .int (lg + (0 + (j : Int) + 1) % wd)])) t4 (.tup [V.ref t3]) = H5 at g1 g2 g3 g4 u ⊢
        refine ⟨_, rfl, _, rfl, rfl, .inr ⟨_, rfl, t4, decide (V.int (0 + (j : Int)) = V.int spot), [.ref t3], rfl, rfl, g4, (fun z => nomatch z), fun r H6 s6 hr6 => ?_⟩⟩
        have sz6 : (if (decide (V.int (0 + (j : Int)) = V.int spot)) = true then [V.ref t3] else []).length ≤ 1 := by split <;> simp
        refine ⟨t2, r, [.ref t1], _, rfl, rfl, s6 _ _ g2, hr6, small_len (m := 2) (by rw [List.length_singleton]; omega), fun r2 H7 s7 hr7 => ?_⟩
        have s57 := s6.trans s7
        have s47 := u.trans s57
        have vl := t4'.len
        rw [List.length_map] at vl
        have f7 := s47 _ _ f4
        refine ⟨fo, vs, _, rfl, rfl, f7, small_lt (m := 40) (by omega), ?_⟩
        have tp : Tup H7 (upd H7 fo (.lst (vs ++ [.ref r2]))) := Tup.at_ f7 fun xs z => nomatch z
        have th0 : 0 ≤ (lg + (0 + (j : Int) + 1) % wd) ∧ (lg + (0 + (j : Int) + 1) % wd) < (((lg + wd).toNat : Nat) : Int) := ⟨by omega, by omega⟩
        refine ⟨_, _, ks4, vs ++ [.ref r2], ss ++ [rgS ((lg + (0 + (j : Int) + 1) % wd)) (decide (V.int (0 + (j : Int)) = V.int spot))], rfl, (F4.same s47).wr fop foc, fun b' o e a1 a2 => ?_, upd_same, ?_, by rw [List.length_append, sl]; first | rfl | (show _ + 1 = _; omega), fun st ms => ?_⟩
        · rw [upd_ne (ne_of_none e ffo)]
          exact s47 _ _ (sv4 _ _ e a1 a2)
        · rw [List.map_append]
          exact TDs.snoc (rg_td (Same_tupk s57 tp g1) (Same_tupk s57 tp g3) (tp _ _ hr7)) ((t4'.to (Tup.of s47)).to tp)
        · rcases List.mem_append.mp ms with z | z
          · exact so st z
          · rw [List.mem_singleton.mp z]
            exact rg_ok th0.1 th0.2 _
      · rintro σ H4 ⟨o6, o7, ks4, vs, ss, rfl, F4, sv4, f4, t4', sl4, so⟩
        refine ⟨_, rfl, fo, vs, rfl, .inl ⟨SqL.of f4, fun a ha => ?_⟩⟩
        have sa := same_new (o := .tup vs) ha
        have td : TD (upd H4 a (.tup vs)) (.ref a) (statesD ss) := .tup upd_same (t4'.to (Tup.of sa))
        have F5 := F4.same sa
        have sv5 := sv4.trans (Save.of (p := p) (c := c) sa)
        generalize upd H4 a (.tup vs) = H5 at td F5 sv5 ⊢
        refine ⟨_, rfl, _, rfl, p, c, ks4, y, n + 3, lg, rfl, F5, by omega, by omega, by omega, fun i ks6 H6 i0 i1 F6 sv6 => ?_⟩
        refine ⟨_, rfl, _, rfl, _, rfl, p, c, ks6, y, n + 3 + 1, wd, rfl, F6, by omega, by omega, by omega, fun j ks7 H7 j0 j1 F7 sv7 => ⟨lg, j, rfl, rfl, by show 3 ≤ sizeLine; decide, fun t2 ht2 => ?_⟩⟩
        have s8 := same_new (o := .tup [V.ref a, .int i, .int (lg + j)]) ht2
        have N : ss.length = (lg + wd).toNat := by omega
        refine k t2 a i (lg + j) ss ks7 _ upd_same (((td.to (Save.tup F5 sv6)).to (Save.tup F6 sv7)).to (Tup.of s8)) ⟨by omega, by omega, fun st ms => by rw [N]; exact (so st ms).1, rgE, by decide, fun st ms => (so st ms).2⟩ ⟨⟨i0, by rw [N]; show i < _; omega⟩, by show 0 ≤ lg + j; omega, by rw [N]; show lg + j < _; omega⟩ ?_ (((sv5.trans sv6).trans sv7).trans (Save.of s8))
        rw [show n + 5 = n + 3 + 1 + 1 by omega]
        exact F7.same s8
end
end My

-- ===== K5W =====
set_option Elab.async false
set_option linter.all false
set_option maxRecDepth 100000
set_option maxHeartbeats 4000000
namespace My
open PySem L2 PyProof.Rows PySem.Spec Kd TL
/-! ### the law's tables -/
abbrev rDictT : List V → Hp → VK → Prop := fun xs H Q => ∃ (a : Addr) (all : List (Addr × List L2.Key × V)), xs = [.ref a] ∧ H a = some (.lst (all.map fun q => V.ref q.1)) ∧ (∀ q ∈ all, PairAt H q) ∧ all.length ≤ 1000 ∧
    ∀ p, H p = none → Q (.ref p) (upd H p (.dT (pour [] all)))
abbrev teIn (K : PySem.W.Frag) (j l : Nat) : TE := tCB rDictT (tCons (tLc (iTup K (tVar j)) (gName l) tYes (tTup (tCons (L2.tSl (rSlT K) (tVar l) tNoPart (tPart (tC (V.int 2)))) (tCons (tOp (rIxT K) (tVar l) (tC (V.int 2))) tNil))) [l]) tNil)
abbrev teTab (K : PySem.W.Frag) (i j l : Nat) : TE := tLc (iTup K (tVar i)) (gName j) tYes (teIn K j l) [j]
def alls (AL : List (Addr × Stp)) : List (Addr × List L2.Key × V) := AL.map fun q => (q.1, evK (evOf q.2), V.int q.2.2.2)
theorem pour_mv : ∀ (AL : List (Addr × Stp)) (done : List Stp), ((done ++ AL.map Prod.snd).map evOf).Pairwise evLt → pour (done.map mvOf) (alls AL) = (done ++ AL.map Prod.snd).map mvOf
  | [], done, _ => by rw [List.map_nil, List.append_nil]; rfl
  | q :: AL, done, pw => by
    have e : pour (done.map mvOf) (alls (q :: AL)) = pour (putK (done.map mvOf) (evK (evOf q.2)) (V.int q.2.2.2)) (alls AL) := rfl
    have n : putK (done.map mvOf) (evK (evOf q.2)) (V.int q.2.2.2) = (done ++ [q.2]).map mvOf := by
      rw [putK_new]
      · rw [List.map_append]
        rfl
      · intro p m e2
        obtain ⟨x, mx, rfl⟩ := List.mem_map.mp m
        have e3 : evOf x = evOf q.2 := evK_inj e2
        rw [List.map_append, List.pairwise_append] at pw
        have lt := pw.2.2 _ (List.mem_map.mpr ⟨x, mx, rfl⟩) (evOf q.2) (by rw [List.map_cons, List.map_cons]; exact List.mem_cons_self)
        rw [e3] at lt
        rcases lt with lt | ⟨_, lt⟩ <;> exact absurd lt (List.lt_irrefl _)
    have e4 : done ++ (q :: AL).map Prod.snd = (done ++ [q.2]) ++ AL.map Prod.snd := by rw [List.map_cons, List.append_assoc]; rfl
    rw [e, n, e4]
    exact pour_mv AL (done ++ [q.2]) (by rw [← e4]; exact pw)
theorem set_get {σ : L2.St} {i : Nat} {x : Option V} (h : i < σ.length) : (σ.set i x)[i]? = some x := by
  rw [List.getElem?_set_self h]
theorem tabs_rd {K : PySem.W.Frag} {i j l : Nat} {σ : L2.St} {H : Hp} {Q : VK} {a : Addr} {ss : List (List Stp)} (lj : j < σ.length) (ll : l < σ.length) (jl : j ≠ l) (ei : σ[i]? = some (some (.ref a))) (ht : TD H (.ref a) (statesD ss)) (so : KOk ss)
    (k : ∀ m H', Same H H' → H m = none → MovesAt H' m ss → Q (.ref m) H') : teTab K i j l σ H Q := by
  obtain ⟨xs, ha, hxs⟩ := ht.tup_of
  have len : xs.length = ss.length := by
    have z := hxs.len
    rwa [List.length_map] at z
  have l2 := so.most
  refine ⟨_, ei, a, rfl, ⟨_, SqT.of ha⟩, fun D hD => lc_tup (K := K) (a := a) (xs := xs) (fun i H2 => Same H H2 ∧ ∃ bs : List Addr, H2 D = some (.lst (bs.map V.ref)) ∧ bs.length = i ∧ ∀ (j : Nat) (b : Addr) (st : List Stp), bs[j]? = some b → ss[j]? = some st → H2 b = some (.dT (st.map mvOf)))
    ⟨same_new hD, [], upd_same, rfl, fun j b st e => by simp at e⟩ (fun i H2 _ ⟨s2, _⟩ => SqT.of (s2 _ _ ha)) (fun i x H2 ex ⟨s2, bs, d2, bl, hbs⟩ => ?_) fun H2 ⟨s2, bs, d2, bl, hbs⟩ => ?_⟩
  · obtain ⟨d, ed, td⟩ := hxs.get ex
    rw [List.getElem?_map] at ed
    obtain ⟨st, ey, rfl⟩ := Option.map_eq_some_iff.mp ed
    obtain ⟨b, ys, rfl, hb, hy⟩ := td.ref_of
    have lt : i < ss.length := (List.getElem?_eq_some_iff.mp ey).1
    have sto := so.all st (List.mem_of_getElem? ey)
    have ylen : ys.length = st.length := by
      have z := hy.len
      rwa [List.length_map] at z
    have sfew := sto.few
    have hb2 := s2 _ _ hb
    refine ⟨by show ((σ.set j none).set j (some (.ref b))).set j none = σ.set j none; rw [List.set_set, List.set_set], ?_⟩
    refine ⟨_, set_get (by rw [show wipe σ [j] = σ.set j none from rfl, List.length_set]; exact lj), b, rfl, ⟨_, SqT.of hb2⟩, fun D2 hD2 => lc_tup (K := K) (a := b) (xs := ys) (fun g H3 => Same H2 H3 ∧ ∃ AL : List (Addr × Stp), H3 D2 = some (.lst ((alls AL).map fun q => V.ref q.1)) ∧ AL.map Prod.snd = st.take g ∧ ∀ q ∈ alls AL, PairAt H3 q)
      ⟨same_new hD2, [], upd_same, by rw [List.take_zero]; rfl, fun q m => nomatch m⟩ (fun g H3 _ ⟨s3, _⟩ => SqT.of (s3 _ _ hb2)) (fun g x H3 ex3 ⟨s3, AL, d3, l3, q3⟩ => ?_) fun H3 ⟨s3, AL, d3, l3, q3⟩ => ?_⟩
    · obtain ⟨dv, edv, tv⟩ := hy.get ex3
      rw [List.getElem?_map] at edv
      obtain ⟨z, ez, rfl⟩ := Option.map_eq_some_iff.mp edv
      obtain ⟨b3, rfl, hz⟩ := step_of tv
      have hz3 := s3 _ _ (s2 _ _ hz)
      have lg := (List.getElem?_eq_some_iff.mp ez).1
      have lA := congrArg List.length l3
      rw [List.length_map, List.length_take] at lA
      have getl : ((wipe (((wipe σ [j]).set j (some (V.ref b)))) [l]).set l (some (V.ref b3)))[l]? = some (some (V.ref b3)) := set_get (by
        show l < ((((σ.set j none).set j (some (V.ref b))).set l none)).length
        rw [List.length_set, List.length_set, List.length_set]
        exact ll)
      refine ⟨by show (((((σ.set j none).set j (some (.ref b))).set l none).set l (some (.ref b3))).set l none) = (((σ.set j none).set j (some (.ref b))).set l none); rw [List.set_set, List.set_set], ?_⟩
      refine ⟨_, getl, 2, rfl, b3, _, rfl, SqT.of hz3, (fun z => absurd (show HT.sIx 3 3 (some 2) = 3 from z.2) (by decide)), fun p hp => ?_⟩
      have sp_ := same_new (o := .tup (cutV [V.str z.1, V.str z.2.1, V.int z.2.2] none (some 2))) hp
      have hp1 : (upd H3 p (.tup (cutV [V.str z.1, V.str z.2.1, V.int z.2.2] none (some 2)))) p = some (.tup ((evK (evOf z)).map kV)) := upd_same
      generalize upd H3 p (.tup (cutV [V.str z.1, V.str z.2.1, V.int z.2.2] none (some 2))) = H4 at sp_ hp1 ⊢
      refine ⟨_, getl, b3, _, 2, _, rfl, rfl, SqT.of (sp_ _ _ hz3), rfl, by show 2 ≤ sizeLine; decide, fun t ht' => ?_⟩
      have st_ := same_new (o := .tup [V.ref p, .int z.2.2]) ht'
      have hp2 := st_ _ _ hp1
      have ht2 : (upd H4 t (.tup [V.ref p, .int z.2.2])) t = some (.tup [V.ref p, .int z.2.2]) := upd_same
      have s34 := sp_.trans st_
      generalize upd H4 t (.tup [V.ref p, .int z.2.2]) = H5 at st_ hp2 ht2 s34 ⊢
      have d5 := s34 _ _ d3
      have tp : Tup H5 (upd H5 D2 (.lst ((alls AL).map (fun q => V.ref q.1) ++ [.ref t]))) := Tup.at_ d5 fun xs z => nomatch z
      refine ⟨_, d5, small_lt (m := 24) (by unfold alls; rw [List.length_map, List.length_map]; omega), same_at (s3.trans s34) hD2, AL ++ [(t, z)], ?_, ?_, fun q mq => ?_⟩
      · rw [upd_same]
        unfold alls
        rw [List.map_append, List.map_append]
        rfl
      · rw [List.map_append, l3, List.take_succ, ez]
        rfl
      · unfold alls at mq
        rw [List.map_append] at mq
        rcases List.mem_append.mp mq with m | m
        · obtain ⟨kb, h1, h2⟩ := q3 q m
          exact ⟨kb, tp _ _ (s34 _ _ h1), tp _ _ (s34 _ _ h2)⟩
        · rw [List.mem_singleton.mp m]
          exact ⟨p, tp _ _ ht2, tp _ _ hp2⟩
    · rw [ylen, List.take_length] at l3
      have lA := congrArg List.length l3
      rw [List.length_map] at lA
      refine ⟨D2, alls AL, rfl, d3, q3, by unfold alls; rw [List.length_map]; omega, fun t ht' => ?_⟩
      have epour : pour [] (alls AL) = st.map mvOf := by
        have z := pour_mv AL [] (by rw [List.nil_append, l3]; exact sto.asc)
        rw [List.nil_append, l3] at z
        exact z
      rw [epour]
      have s4 := same_new (o := .dT (st.map mvOf)) ht'
      have s24 := s3.trans s4
      refine ⟨_, s24 _ _ d2, by rw [List.length_map]; exact small_lt (m := 40) (by omega), same_at (s2.trans s24) hD, bs ++ [t], by rw [upd_same, List.map_append]; rfl, by rw [List.length_append, bl]; rfl, fun j c sj ec es => ?_⟩
      have at_ : (upd H3 t (.dT (st.map mvOf))) c = some (.dT (sj.map mvOf)) := by
        rcases Nat.lt_or_ge j bs.length with l | g
        · rw [List.getElem?_append_left l] at ec
          exact s24 _ _ (hbs j c sj ec es)
        · rw [List.getElem?_append_right g] at ec
          have ej : j - bs.length = 0 := by
            have z := (List.getElem?_eq_some_iff.mp ec).1
            simp at z
            omega
          have ej2 : j = i := by omega
          rw [ej] at ec
          have e2 : t = c := Option.some.inj ec
          rw [ej2, ey] at es
          rw [← Option.some.inj es, ← e2]
          exact upd_same
      rw [upd_ne fun z => by rw [z, s24 _ _ d2] at at_; cases at_]
      exact at_
  · exact k D H2 s2 hD ⟨bs, d2, by rw [bl, len], hbs⟩
end My

-- ===== K5V =====
set_option Elab.async false
set_option linter.all false
set_option maxRecDepth 100000
set_option maxHeartbeats 4000000
namespace My
open PySem L2 PyProof.Rows PySem.Spec Kd TL StX
abbrev sRingsR : Stmt := top 34
def boolsD (l : List Bool) : PyData := .list (l.map PyData.bool)
theorem bools3 : ∀ a b : Bool, (boolsD [a, b, a && b]).showable = true ∧ (boolsD [a, b, a && b]).depth ≤ 60 ∧ (boolsD [a, b, a && b]).shown.length ≤ sizeLine := by decide +kernel
theorem bools4 : ∀ a b : Bool, (boolsD [a, b, a && b, a && b]).showable = true ∧ (boolsD [a, b, a && b, a && b]).depth ≤ 60 ∧ (boolsD [a, b, a && b, a && b]).shown.length ≤ sizeLine := by decide +kernel
theorem bl_same {p : Prop} {a b : Bool} (h1 : a = true ↔ p) (h2 : b = true ↔ p) : a = b := by
  cases a <;> cases b
  · rfl
  · exact absurd (h1.mpr (h2.mp rfl)) Bool.false_ne_true
  · exact absurd (h2.mpr (h1.mp rfl)) Bool.false_ne_true
  · rfl
theorem bl_and {p q : Prop} {a b c : Bool} (h1 : a = true ↔ p) (h2 : b = true ↔ q) (h3 : c = true ↔ p ∧ q) : c = (a && b) := by
  refine bl_same (p := p ∧ q) h3 ?_
  rw [Bool.and_eq_true, h1, h2]
theorem moves_off {p c m : Addr} {H : Hp} {ss : List (List Stp)} {ks : List Int} {y n : Int} (h : MovesAt H m ss) (so : KOk ss) (F : FeedAt H p c ks y n) : m ≠ p ∧ m ≠ c := by
  obtain ⟨bs, h1, h2, h3⟩ := h
  have one := so.one
  obtain ⟨b, bs, rfl⟩ : ∃ b r, bs = b :: r := by
    cases bs with
    | nil => simp at h2; omega
    | cons b r => exact ⟨b, r, rfl⟩
  refine ⟨fun z => ?_, fun z => ?_⟩
  · rw [z, F.ob] at h1
    have e := HO.lst.inj (Option.some.inj h1)
    rw [List.map_cons] at e
    injection e with _ e
    cases bs with
    | nil => cases e
    | cons b2 r => injection e with e _; cases e
  · rw [z, F.cs] at h1
    have e := HO.lst.inj (Option.some.inj h1)
    cases ks with
    | nil => cases e
    | cons i r => injection e with e _; cases e
theorem moves_save {p c m : Addr} {H H' : Hp} {ss : List (List Stp)} {ks : List Int} {y n : Int} (h : MovesAt H m ss) (so : KOk ss) (F : FeedAt H p c ks y n) (sv : Save p c H H') : MovesAt H' m ss := by
  obtain ⟨np, nc⟩ := moves_off h so F
  obtain ⟨bs, h1, h2, h3⟩ := h
  exact ⟨bs, sv _ _ h1 np nc, h2, fun i b' st e1 e2 => by
    have e := h3 i b' st e1 e2
    exact sv _ _ e (fun z => by rw [z, F.ob] at e; cases e) (fun z => by rw [z, F.cs] at e; cases e)⟩
theorem kind_save {C p c : Addr} {H H' : Hp} {v : V} {ss : List (List Stp)} {ks : List Int} {y n : Int} (h : KindAt C H v ss) (so : KOk ss) (F : FeedAt H p c ks y n) (sv : Save p c H H') : KindAt C H' v ss := by
  obtain ⟨o, dx, a, m, rfl, ho, ht, mv⟩ := h
  exact ⟨o, dx, a, m, rfl, sv _ _ ho (fun z => by rw [z, F.ob] at ho; cases ho) (fun z => by rw [z, F.cs] at ho; cases ho), ht.to (Save.tup F sv), moves_save mv so F sv⟩
def uR (K : PySem.W.Frag) : TE := fun σ H Q => ∃ (a : Addr) (xs : List V), σ[3]? = some (some (.ref a)) ∧ H a = some (.tup xs) ∧ ∀ n : Int, 0 ≤ n → n ≤ 25 → Q (.int n) H
/-- names given: one, other; other, one -/
def kga {α : Type} : List α → List α → List α
  | [s], [a, b] => [s, a, b]
  | _, _ => []
def kgb {α : Type} : List α → List α → List α
  | [s], [o, n] => [s, n, o]
  | _, _ => []
structure KOf (P : Program) (w : World) (K : PySem.W.Frag) (mg : Str → Option Value) (base : Heap) (C : Addr) : Prop where
  nm : mg "Kind" = some (.ref C)
  cr : ∃ mc, ClX.CRead K C mc ∧ ∃ p g fd, ClX.CMet K C mc "of" p g ∧ FnOk P w K mg base CX0 7 g fd ["cls", "states"] (spOf C) ∧ Binds K fd ["cls", "states"] []
theorem fnR_of {P : Program} {w : World} {K : PySem.W.Frag} {mg : Str → Option Value} {base : Heap} {CX : CXT} {k : Nat} {f : Addr} {fd : FuncData} {ps : List Str} {sp : Sp} (F : FnOk P w K mg base CX k f fd ps sp) (hb : Binds K fd ps []) : FnR P w K mg base CX k f sp :=
  (F.raw hb .nil).imp fun vs H Q E h => by rw [List.append_nil]; exact h
def lcP : Stmt → Scope
  | .FunctionDef _ _ [_, .Assign _ (.Tuple [_, .ListComp _ _ sc _] _ _) _, _, _] .. => sc
  | _ => { kind := .function, names := [], isGenerator := false, isCoroutine := false }
def lcL : Stmt → Scope
  | .FunctionDef _ _ [_, .For _ _ [_, _, _, .Assign _ (.ListComp _ _ sc _) _, _] _ _, _] .. => sc
  | _ => { kind := .function, names := [], isGenerator := false, isCoroutine := false }
def spRr : Sp := fun vs H Q _ => ∃ (p c : Addr) (ks : List Int) (w n : Int), vs = [.ref p] ∧ FeedAt H p c ks w n ∧ n < 700000 ∧ ∀ (ks' : List Int) (H' : Hp), FeedAt H' p c ks' w (n + 5) → Q (.bl true) H'
def spLaw (K : PySem.W.Frag) : Sp := fun vs H Q _ => ∃ (a : Addr) (ns : List Int), vs = [.ref a] ∧ SqL K H a (ns.map V.int) ∧ ns.length ≤ 63 ∧ Bits ns ∧ ∀ H', Q (.bl true) H'
section
variable {P : Program} {w : World} {K : PySem.W.Frag} {mg : Str → Option Value} {base : Heap} {C : Addr}
abbrev nRr : List Str := ["_law_feed_here", "_law_states_here", "_law_a", "_law_b", "_law_made", "_law_tables", "_law_there", "_law_back", "_law_state", "_law_step"]
theorem scRr : FnScope nRr ["_law_feed_here"] (defScope sRingsR) := ⟨rfl, rfl, rfl, by decide +kernel, rfl, by decide +kernel, by decide +kernel⟩
theorem ok_rr {f fG fL gA gB : Addr} {fd fdG fdL fdA fdB : FuncData} (F : Fun K "_law_rings_right" "_law_rings_right" sRingsR f fd) (T : KOf P w K mg base C) (cl : Cls K C) (mdict : mg "dict" = none) (mrepr : mg "repr" = none)
    (GG : FnOk P w K mg base CX0 3 fG fdG ["_law_feed_here"] spRings) (mG : mg "_law_rings" = some (.ref fG)) (kG : PySem.W.keepIn K (.ref fG) = true) (bG : Binds K fdG ["_law_feed_here"] [])
    (GL : FnOk P w K mg base CX0 1 fL fdL ["_law_tables", "_law_first", "_law_second"] spAll) (mL : mg "_law_allows" = some (.ref fL)) (kL : PySem.W.keepIn K (.ref fL) = true) (bL : Binds K fdL ["_law_tables", "_law_first", "_law_second"] [])
    (hmA : Meth K C "allows" gA) (GA : FnOk P w K mg base CX0 2 gA fdA ["self", "one", "other"] (spKall C)) (bA : Binds K fdA ["self", "one", "other"] [])
    (hmB : Meth K C "alike" gB) (GB : FnOk P w K mg base CX0 3 gB fdB ["self", "one", "other"] (spKalike C)) (bB : Binds K fdB ["self", "one", "other"] []) :
    FnG true (fun A => A.guards = some []) P w K mg base CX0 8 f fd ["_law_feed_here"] spRr := by
  obtain ⟨mc, cr, p1, g1, fd1, m1, G1, b1⟩ := T.cr
  have R1 := fnR_of G1 b1
  refine okG F scRr (fun vs H Q E h => ?_) (fun cdv A outer s H vs Q E hh hgA hr h => ?_)
  · obtain ⟨p, c, ks, y, n, rfl, _⟩ := h
    rfl
  · obtain ⟨p, c, ks, y, n, rfl, FA, hn, k⟩ := h
    have hR : Room 7 (A.deeper (envOfC "_law_rings_right" (defScope sRingsR) s.heap.objs.size f cdv)) := ⟨hh rfl, hr.dp, hr.un⟩
    have hG : (A.deeper (envOfC "_law_rings_right" (defScope sRingsR) s.heap.objs.size f cdv)).guards = some [] := hgA
    have hu := hR.units
    have hu200 : (A.deeper (envOfC "_law_rings_right" (defScope sRingsR) s.heap.objs.size f cdv)).units + 200 < cLine := by have := hR.un; omega
    have hR3 := hR.mono (show 3 ≤ 7 by omega)
    have hR2 := hR.mono (show 2 ≤ 7 by omega)
    have hR1 := hR.mono (show 1 ≤ 7 by omega)
    refine ⟨_, PSs.nox (pss_cons (ps_asg (pe_call GG hR3 (by rfl) mG kG bG .nil pass0 (pa_cons (pv 0) pa_nil)) (pg_tup (by rfl) (pgs_cons (pg_name (i := 1) scRr.nd rfl (Or.inl rfl)) (pgs_cons (pg_name (i := 2) scRr.nd rfl (Or.inl rfl)) (pgs_cons (pg_name (i := 3) scRr.nd rfl (Or.inl rfl)) pgs_nil))))) (pss_cons (ps_par (i := 4) (j := 5) rfl scRr.nd rfl rfl (by decide) rfl rfl (pa_cons (ClX.pe_cmeth (pl := _) (pe_glob (v := .ref C) (by rfl) T.nm rfl) cr m1 R1 hR pass0 (pa_cons (pv 1) pa_nil)) (pa_cons (pe_lc (own := [("_law_state", 8)]) (g := gName 8) (tt := tYes) (te := teIn K 8 9) rfl scRr.nd (pi_tup (pv 1)) (blkOk_by (N := nRr) (sc := defScope sRingsR) (by decide +kernel)) (fun _ _ _ _ _ => pg_name (i := 8) scRr.nd rfl (Or.inl rfl)) (fun _ _ _ _ _ => pts_nil) (fun _ _ _ _ _ => pe_callTy (T := "dict") (r := rDictT) (call_dictT rfl hu200) (by rfl) mdict (by decide +kernel) (pa_cons (pe_lc (own := [("_law_step", 9)]) (g := gName 9) (tt := tYes) (te := tTup (tCons (L2.tSl (rSlT K) (tVar 9) tNoPart (tPart (tC (V.int 2)))) (tCons (tOp (rIxT K) (tVar 9) (tC (V.int 2))) tNil))) rfl scRr.nd (pi_tup (pv 8)) (blkOk_by (N := nRr) (sc := (relS (lcP sRingsR) (defScope sRingsR))) (by decide +kernel)) (fun _ _ _ _ _ => pg_name (i := 9) scRr.nd rfl (Or.inl rfl)) (fun _ _ _ _ _ => pts_nil) (fun _ _ _ _ _ => pe_tup (pa_cons (pe_slice (r := rSlT K) sl_tup (pv 9) po_none (po_some pe_int)) (pa_cons (pe_ix (r := rIxT K) ix_tup (pv 9) pe_int (fun _ _ => rfl)) pa_nil)))) pa_nil))) pa_nil)) (by rfl)) (pss_cons (ps_par (i := 6) (j := 7) rfl scRr.nd rfl rfl (by decide) rfl rfl (pa_cons (pe_call GL hR1 (by rfl) mL kL bL .nil pass0 (pa_cons (pv 5) (pa_cons (pv 2) (pa_cons (pv 3) pa_nil)))) (pa_cons (pe_call GL hR1 (by rfl) mL kL bL .nil pass0 (pa_cons (pv 5) (pa_cons (pv 3) (pa_cons (pv 2) pa_nil)))) pa_nil)) (by rfl)) (pss_one (ps_ret (pe_cmpR op_eq (pe_callB (call_reprD (F := fun _ => True) hG hu) (by rfl) mrepr boot_repr (pa_cons (pe_lstL (pa_cons (pe_meth (pl := _) (pv 4) cl hmA GA hR2 bA .nil pass0 (pa_cons (pv 2) (pa_cons (pv 3) pa_nil))) (pa_cons (pe_meth (pl := _) (pv 4) cl hmA GA hR2 bA .nil pass0 (pa_cons (pv 3) (pa_cons (pv 2) pa_nil))) (pa_cons (pe_meth (pl := _) (pv 4) cl hmB GB hR3 bB .nil pass0 (pa_cons (pv 2) (pa_cons (pv 3) pa_nil))) pa_nil)))) pa_nil)) (pe_callB (call_reprD (F := fun _ => True) hG hu) (by rfl) mrepr boot_repr (pa_cons (pe_lstL (pa_cons (pv 6) (pa_cons (pv 7) (pa_cons (pe_and (pv 6) (pe_one (pv 7))) pa_nil)))) pa_nil)) (nomark _))))))), ?_⟩
    refine ⟨_, rfl, p, c, ks, y, n, rfl, FA, by omega, fun t a i j ss ks1 H1 ht tD so pin FA1 sv1 => ?_⟩
    refine ⟨t, _, rfl, SqT.of ht, rfl, _, _, rfl, _, _, rfl, _, _, rfl, rfl, ?_⟩
    refine ⟨rfl, _, rfl, a, ss, rfl, tD, so, fun v H2 s2 hk => ?_⟩
    refine tabs_rd (by show 8 < 10; decide) (by show 9 < 10; decide) (by decide) rfl (tD.to (Tup.of s2)) so fun m H3 s3 nm mv => ⟨_, _, rfl, ?_⟩
    have hk3 := hk.same s3
    refine ⟨_, rfl, _, rfl, _, rfl, m, ss, i, j, rfl, mv, so, pin, fun b1 H4 s4 e1 => ?_⟩
    refine ⟨_, rfl, _, rfl, _, rfl, m, ss, j, i, rfl, mv.same s4, so, ⟨pin.2, pin.1⟩, fun b2 H5 s5 e2 => ⟨_, _, rfl, ?_⟩⟩
    have s35 := s4.trans s5
    have hk5 := hk3.same s35
    obtain ⟨o, dx, am, mm, ev, ho, htm, hmv⟩ := id hk5
    subst ev
    refine ⟨_, rfl, o, dx, _, rfl, ho, rfl, _, rfl, _, rfl, .ref o, ss, i, j, rfl, hk5, so, pin, fun c1 H6 s6 f1 => ?_⟩
    have q1 := bl_same f1 e1
    subst q1
    refine ⟨_, rfl, o, dx, _, rfl, s6 _ _ ho, rfl, _, rfl, _, rfl, .ref o, ss, j, i, rfl, hk5.same s6, so, ⟨pin.2, pin.1⟩, fun c2 H7 s7 f2 => ?_⟩
    have q2 := bl_same f2 e2
    subst q2
    have s67 := s6.trans s7
    refine ⟨_, rfl, o, dx, _, rfl, s67 _ _ ho, rfl, _, rfl, _, rfl, .ref o, ss, i, j, rfl, hk5.same s67, so, pin, fun c3 H8 s8 f3 => ?_⟩
    have q3 := bl_and e1 e2 f3
    subst q3
    refine ⟨by show 3 ≤ sizeLine; decide, fun l1 hl1 big1 => ?_⟩
    have t1 := same_new (o := .lst [V.bl c1, .bl c2, .bl (c1 && c2)]) hl1
    have th := bools3 c1 c2
    refine ⟨.ref l1, boolsD [c1, c2, c1 && c2], rfl, .lst big1 trivial upd_same (.cons (.bl _) (.cons (.bl _) (.cons (.bl _) .nil))), th.1, th.2.1, th.2.2, ?_⟩
    refine ⟨_, rfl, _, rfl, _, rfl, c1, rfl, ?_⟩
    have fin : ∀ (l2 : Addr) (H9 : Hp), H9 = upd (upd H8 l1 (.lst [V.bl c1, .bl c2, .bl (c1 && c2)])) l2 (.lst [V.bl c1, .bl c2, .bl (c1 && c2)]) → (upd H8 l1 (.lst [V.bl c1, .bl c2, .bl (c1 && c2)])) l2 = none → FeedAt H9 p c ks1 y (n + 5) := fun l2 H9 e n2 => by
      rw [e]
      exact FA1.same ((((s2.trans s3).trans s35).trans (s67.trans s8)).trans (t1.trans (same_new n2)))
    cases c1 with
    | false =>
      refine iteF ⟨by show 3 ≤ sizeLine; decide, fun l2 hl2 big2 => ?_⟩
      refine ⟨.ref l2, boolsD [false, c2, false && c2], rfl, .lst big2 trivial upd_same (.cons (.bl _) (.cons (.bl _) (.cons (.bl _) .nil))), th.1, th.2.1, th.2.2, rfl, ?_⟩
      rw [decide_eq_true rfl]
      exact k ks1 _ (fin l2 _ rfl hl2)
    | true =>
      refine iteT ⟨_, rfl, by show 3 ≤ sizeLine; decide, fun l2 hl2 big2 => ?_⟩
      refine ⟨.ref l2, boolsD [true, c2, true && c2], rfl, .lst big2 trivial upd_same (.cons (.bl _) (.cons (.bl _) (.cons (.bl _) .nil))), th.1, th.2.1, th.2.2, rfl, ?_⟩
      rw [decide_eq_true rfl]
      exact k ks1 _ (fin l2 _ rfl hl2)

abbrev nLw : List Str := ["_law_script", "_law_feed_here", "_law_turn", "_law_states_here", "_law_made", "_law_tables", "_law_k", "_law_a", "_law_b", "_law_there", "_law_back", "_law_told", "_law_state", "_law_step"]
theorem scLw : FnScope nLw ["_law_script"] (defScope sLaw) := ⟨rfl, rfl, rfl, by decide +kernel, rfl, by decide +kernel, by decide +kernel⟩
theorem ok_law {f fF fD fW fR fL gA gB : Addr} {fd fdF fdD fdW fdR fdL fdA fdB : FuncData} (F : Fun K "law" "law" sLaw f fd) (T : KOf P w K mg base C) (cl : Cls K C) (mdict : mg "dict" = none) (mrepr : mg "repr" = none) (mlen : mg "len" = none) (mrange : mg "range" = none)
    (GF : FnOk P w K mg base CX0 1 fF fdF ["_law_script"] (spFeed K)) (mF : mg "_law_feed" = some (.ref fF)) (kF : PySem.W.keepIn K (.ref fF) = true) (bF : Binds K fdF ["_law_script"] [])
    (GD : FnOk P w K mg base CX0 1 fD fdD ["_law_feed_here", "_law_many"] spDigit) (mD : mg "_law_digit" = some (.ref fD)) (kD : PySem.W.keepIn K (.ref fD) = true) (bD : Binds K fdD ["_law_feed_here", "_law_many"] [])
    (GW : FnOk P w K mg base CX0 4 fW fdW ["_law_feed_here"] spDrawn) (mW : mg "_law_drawn" = some (.ref fW)) (kW : PySem.W.keepIn K (.ref fW) = true) (bW : Binds K fdW ["_law_feed_here"] [])
    (GR : FnG true (fun A => A.guards = some []) P w K mg base CX0 8 fR fdR ["_law_feed_here"] spRr) (mR : mg "_law_rings_right" = some (.ref fR)) (kR : PySem.W.keepIn K (.ref fR) = true) (bR : Binds K fdR ["_law_feed_here"] [])
    (GL : FnOk P w K mg base CX0 1 fL fdL ["_law_tables", "_law_first", "_law_second"] spAll) (mL : mg "_law_allows" = some (.ref fL)) (kL : PySem.W.keepIn K (.ref fL) = true) (bL : Binds K fdL ["_law_tables", "_law_first", "_law_second"] [])
    (hmA : Meth K C "allows" gA) (GA : FnOk P w K mg base CX0 2 gA fdA ["self", "one", "other"] (spKall C)) (bA : Binds K fdA ["self", "one", "other"] []) (kbA : KBinds K fdA ["self", "one", "other"] ["one", "other"] kga kga)
    (hmB : Meth K C "alike" gB) (GB : FnOk P w K mg base CX0 3 gB fdB ["self", "one", "other"] (spKalike C)) (bB : Binds K fdB ["self", "one", "other"] []) (kbB : KBinds K fdB ["self", "one", "other"] ["other", "one"] kgb kgb) :
    FnG true (fun A => A.guards = some []) P w K mg base CX0 9 f fd ["_law_script"] (spLaw K) := by
  obtain ⟨mc, cr, p1, g1, fd1, m1, G1, b1⟩ := T.cr
  have R1 := fnR_of G1 b1
  refine okG F scLw (fun vs H Q E h => ?_) (fun cdv A outer s H vs Q E hh hgA hr h => ?_)
  · obtain ⟨a, ns, rfl, _⟩ := h
    rfl
  · obtain ⟨a, ns, rfl, hS, hlen, hbits, k⟩ := h
    have hR : Room 8 (A.deeper (envOfC "law" (defScope sLaw) s.heap.objs.size f cdv)) := ⟨hh rfl, hr.dp, hr.un⟩
    have hA : (A.deeper (envOfC "law" (defScope sLaw) s.heap.objs.size f cdv)).handled = none := hh rfl
    have hG : (A.deeper (envOfC "law" (defScope sLaw) s.heap.objs.size f cdv)).guards = some [] := hgA
    have hu := hR.units
    have hu200 : (A.deeper (envOfC "law" (defScope sLaw) s.heap.objs.size f cdv)).units + 200 < cLine := by have := hR.un; omega
    have hR4 := hR.mono (show 4 ≤ 8 by omega)
    have hR3 := hR.mono (show 3 ≤ 8 by omega)
    have hR2 := hR.mono (show 2 ≤ 8 by omega)
    have hR1 := hR.mono (show 1 ≤ 8 by omega)
    have hR := hR.mono (show 7 ≤ 8 by omega)
    refine ⟨_, PSs.nox (pss_cons (ps_set (i := 1) scLw.nd rfl (Or.inl rfl) (pe_call GF hR1 (by rfl) mF kF bF .nil pass0 (pa_cons (pv 0) pa_nil))) (pss_cons (ps_for PassesOwn.never rfl (pi_range1 (by rfl) mrange (pa_cons pe_int pa_nil)) (pg_name (i := 2) scLw.nd rfl (Or.inl rfl)) (pss_cons (ps_if (pt_not (pt_val (pe_callG GR (fun _ => hA) hG hr (by rfl) mR kR bR pass0 (pa_cons (pv 1) pa_nil)))) (pss_one (ps_ret pe_bl)) pss_nil) (pss_cons (ps_set (i := 3) scLw.nd rfl (Or.inl rfl) (pe_call GW hR4 (by rfl) mW kW bW .nil pass0 (pa_cons (pv 1) pa_nil))) (pss_cons (ps_set (i := 4) scLw.nd rfl (Or.inl rfl) (ClX.pe_cmeth (pl := _) (pe_glob (v := .ref C) (by rfl) T.nm rfl) cr m1 R1 hR pass0 (pa_cons (pv 3) pa_nil))) (pss_cons (ps_setLc (i := 5) (own := [("_law_state", 12)]) (g := gName 12) (tt := tYes) (te := teIn K 12 13) rfl scLw.nd rfl rfl (sw_true rfl rfl rfl (by decide +kernel)) (pi_tup (pv 3)) (blkOk_by (N := nLw) (sc := defScope sLaw) (by decide +kernel)) (fun _ _ _ _ _ => pg_name (i := 12) scLw.nd rfl (Or.inl rfl)) (fun _ _ _ _ _ => pts_nil) (fun _ _ _ _ _ => pe_callTy (T := "dict") (r := rDictT) (call_dictT rfl hu200) (by rfl) mdict (by decide +kernel) (pa_cons (pe_lc (own := [("_law_step", 13)]) (g := gName 13) (tt := tYes) (te := tTup (tCons (L2.tSl (rSlT K) (tVar 13) tNoPart (tPart (tC (V.int 2)))) (tCons (tOp (rIxT K) (tVar 13) (tC (V.int 2))) tNil))) rfl scLw.nd (pi_tup (pv 12)) (blkOk_by (N := nLw) (sc := (relS (lcL sLaw) (defScope sLaw))) (by decide +kernel)) (fun _ _ _ _ _ => pg_name (i := 13) scLw.nd rfl (Or.inl rfl)) (fun _ _ _ _ _ => pts_nil) (fun _ _ _ _ _ => pe_tup (pa_cons (pe_slice (r := rSlT K) sl_tup (pv 13) po_none (po_some pe_int)) (pa_cons (pe_ix (r := rIxT K) ix_tup (pv 13) pe_int (fun _ _ => rfl)) pa_nil)))) pa_nil))) (pss_one (ps_for PassesOwn.never rfl (pi_range1 (by rfl) mrange (pa_cons (PE.wk (u := uR K) (pe_ifExp (pt_cmpR op_lt (pe_callB (r := rLenQ K) call_len_seq (by rfl) mlen PySem.boot_len (pa_cons (pv 3) pa_nil)) pe_int (nomark _)) pe_int pe_int) (fun σ H Q ⟨a, xs, e3, ha, q⟩ => by
          refine ⟨_, e3, a, xs, rfl, .inr (SqT.of ha), _, _, rfl, rfl, _, rfl, ?_⟩
          cases decide ((xs.length : Int) < 13) with
          | true => exact iteT (q 25 (by decide) (by decide))
          | false => exact iteF (q 8 (by decide) (by decide)))) pa_nil)) (pg_name (i := 6) scLw.nd rfl (Or.inl rfl)) (pss_cons (ps_par (i := 7) (j := 8) rfl scLw.nd rfl rfl (by decide) rfl rfl (pa_cons (pe_call GD hR1 (by rfl) mD kD bD .nil pass0 (pa_cons (pv 1) (pa_cons (pe_callB (r := rLenQ K) call_len_seq (by rfl) mlen PySem.boot_len (pa_cons (pv 3) pa_nil)) pa_nil))) (pa_cons (pe_call GD hR1 (by rfl) mD kD bD .nil pass0 (pa_cons (pv 1) (pa_cons (pe_callB (r := rLenQ K) call_len_seq (by rfl) mlen PySem.boot_len (pa_cons (pv 3) pa_nil)) pa_nil))) pa_nil)) (by rfl)) (pss_cons (ps_par (i := 9) (j := 10) rfl scLw.nd rfl rfl (by decide) rfl rfl (pa_cons (pe_call GL hR1 (by rfl) mL kL bL .nil pass0 (pa_cons (pv 5) (pa_cons (pv 7) (pa_cons (pv 8) pa_nil)))) (pa_cons (pe_call GL hR1 (by rfl) mL kL bL .nil pass0 (pa_cons (pv 5) (pa_cons (pv 8) (pa_cons (pv 7) pa_nil)))) pa_nil)) (by rfl)) (pss_cons (ps_set (i := 11) scLw.nd rfl (Or.inl rfl) (pe_lstL (pa_cons (pe_meth (pl := _) (pv 4) cl hmA GA hR2 bA .nil pass0 (pa_cons (pv 7) (pa_cons (pv 8) pa_nil))) (pa_cons (pe_methK (pl := _) (pv 4) cl hmA GA hR2 kbA pass0 (pk_cons (pv 8) (pk_cons (pv 7) pk_nil))) (pa_cons (pe_meth (pl := _) (pv 4) cl hmB GB hR3 bB .nil pass0 (pa_cons (pv 7) (pa_cons (pv 8) pa_nil))) (pa_cons (pe_methK (pl := _) (pv 4) cl hmB GB hR3 kbB pass0 (pk_cons (pv 7) (pk_cons (pv 8) pk_nil))) pa_nil)))))) (pss_cons (ps_if (pt_cmpR op_ne (pe_callB (call_reprD (F := fun _ => True) hG hu) (by rfl) mrepr boot_repr (pa_cons (pv 11) pa_nil)) (pe_callB (call_reprD (F := fun _ => True) hG hu) (by rfl) mrepr boot_repr (pa_cons (pe_lstL (pa_cons (pv 9) (pa_cons (pv 10) (pa_cons (pe_and (pv 9) (pe_one (pv 10))) (pa_cons (pe_and (pv 9) (pe_one (pv 10))) pa_nil))))) pa_nil)) (nomark _)) (pss_one (ps_ret pe_bl)) pss_nil) (pss_one (ps_if (PW.pt (pw_or (pt_cmpR op_notBl (pe_meth (pl := _) (pv 4) cl hmA GA hR2 bA .nil pass0 (pa_cons (pv 7) (pa_cons (pv 7) pa_nil))) pe_bl (by rfl)) (pw_or1 (pt_cmpR op_notBl (pe_meth (pl := _) (pv 4) cl hmB GB hR3 bB .nil pass0 (pa_cons (pv 8) (pa_cons (pv 8) pa_nil))) pe_bl (by rfl))))) (pss_one (ps_ret pe_bl)) pss_nil))))))))))))) (pss_one (ps_ret pe_bl)))), ?_⟩
    refine ⟨_, rfl, a, ns, rfl, hS, hlen, hbits, fun p c ks y H1 _ _ _ FA => ?_⟩
    refine ⟨4, rfl, by decide, by decide, for_range (lo := 0) (n := 4) (fun m σ H2 => ∃ (o2 o3 o4 o5 o6 o7 o8 o9 o10 o11 : Option V) (ks' : List Int) (n' : Int), σ = [some (.ref a), some (.ref p), o2, o3, o4, o5, o6, o7, o8, o9, o10, o11, none, none] ∧ FeedAt H2 p c ks' y n' ∧ n' ≤ 3000 * (m : Int)) ⟨none, none, none, none, none, none, none, none, none, none, ks, 0, rfl, FA, by omega⟩ ?_ ?_⟩
    · rintro m σ H2 hm ⟨o2, o3, o4, o5, o6, o7, o8, o9, o10, o11, ks1, n1, rfl, FA1, le1⟩
      refine ⟨_, rfl, p, c, ks1, y, n1, rfl, FA1, by omega, fun ks2 H3 FA2 => ⟨_, rfl, iteF ?_⟩⟩
      refine ⟨_, rfl, p, c, ks2, y, n1 + 5, rfl, FA2, by omega, fun D ss ks3 n3 H4 tD so FA3 le3 sv3 => ?_⟩
      refine ⟨rfl, _, rfl, D, ss, rfl, tD, so, fun v H5 s5 hk => ?_⟩
      change tAsg (teTab K 3 12 13) (gName 5) _ _ _
      unfold tAsg
      refine tabs_rd (K := K) (i := 3) (j := 12) (l := 13) (a := D) (ss := ss) ?_ ?_ (by decide) ?_ (tD.to (Tup.of s5)) so fun tm H6 s6 nm mv => ?_
      · show 12 < 14
        decide
      · show 13 < 14
        decide
      · rfl
      have s56 := s5.trans s6
      have tD6 := tD.to (Tup.of s56)
      have hk6 := hk.same s6
      have F6 := FA3.same s56
      obtain ⟨o, dx, am, mm, ev, ho, htm, hmv⟩ := id hk6
      subst ev
      obtain ⟨D', xs6, eD, hD6, hx6⟩ := TD.ref_of (ds := ss.map stateD) tD6
      obtain rfl : D = D' := V.ref.inj eD
      have lx : xs6.length = ss.length := by rw [hx6.len, List.length_map]
      have one := so.one
      have most := so.most
      refine ⟨D, xs6, rfl, hD6, fun r r0 r25 => ⟨r, rfl, by omega, by omega, for_range (lo := 0) (n := r.toNat) (fun g σ H7 => ∃ (o6 o7 o8 o9 o10 o11 : Option V) (ks' : List Int) (n' : Int), σ = [some (.ref a), some (.ref p), some (.int (0 + (m : Int))), some (.ref D), some (.ref o), some (.ref tm), o6, o7, o8, o9, o10, o11, none, none] ∧ FeedAt H7 p c ks' y n' ∧ n' ≤ n3 + 2 * (g : Int) ∧ H7 D = some (.tup xs6) ∧ KindAt C H7 (.ref o) ss ∧ MovesAt H7 tm ss)
        ⟨_, _, _, _, _, _, ks3, n3, rfl, F6, by omega, hD6, hk6, mv⟩ ?_ ?_⟩⟩
      · rintro g σ H7 hg ⟨p6, p7, p8, p9, p10, p11, ks4, n4, rfl, F7, le4, hD7, hk7, mv7⟩
        have Dp : D ≠ p := fun z => by rw [z, F7.ob] at hD7; cases hD7
        have Dc : D ≠ c := fun z => by rw [z, F7.cs] at hD7; cases hD7
        refine ⟨_, rfl, _, rfl, D, _, rfl, .inr (SqT.of hD7), p, c, ks4, y, n4, _, rfl, F7, by omega, by omega, by omega, fun i ks5 H8 i0 i1 F8 sv8 => ?_⟩
        have hD8 := sv8 _ _ hD7 Dp Dc
        refine ⟨_, rfl, _, rfl, D, _, rfl, .inr (SqT.of hD8), p, c, ks5, y, n4 + 1, _, rfl, F8, by omega, by omega, by omega, fun j ks6 H9 j0 j1 F9 sv9 => ⟨_, _, rfl, ?_⟩⟩
        have hD9 := sv9 _ _ hD8 Dp Dc
        have hk9 := kind_save (kind_save hk7 so F7 sv8) so F8 sv9
        have mv9 := moves_save (moves_save mv7 so F7 sv8) so F8 sv9
        have pin : PIn ss.length (i, j) := ⟨⟨i0, by omega⟩, j0, by show j < _; omega⟩
        have pinr : PIn ss.length (j, i) := ⟨pin.2, pin.1⟩
        refine ⟨_, rfl, _, rfl, _, rfl, tm, ss, i, j, rfl, mv9, so, pin, fun b1 Ha sa e1 => ?_⟩
        refine ⟨_, rfl, _, rfl, _, rfl, tm, ss, j, i, rfl, mv9.same sa, so, pinr, fun b2 Hb sb e2 => ⟨_, _, rfl, ?_⟩⟩
        have sab := sa.trans sb
        have hkb := hk9.same sab
        obtain ⟨o', dx', am', mm', ev', hob, _, _⟩ := id hkb
        obtain rfl : o = o' := V.ref.inj ev'
        -- what is told
        refine ⟨_, rfl, o, dx', _, rfl, hob, rfl, _, rfl, _, rfl, .ref o, ss, i, j, rfl, hkb, so, pin, fun c1 Hc sc f1 => ?_⟩
        have q1 := bl_same f1 e1
        subst q1
        refine ⟨_, rfl, o, dx', _, rfl, sc _ _ hob, rfl, _, rfl, _, rfl, .ref o, ss, j, i, rfl, hkb.same sc, so, pinr, fun c2 Hd sd f2 => ?_⟩
        have q2 := bl_same f2 e2
        subst q2
        have scd := sc.trans sd
        refine ⟨_, rfl, o, dx', _, rfl, scd _ _ hob, rfl, _, rfl, _, rfl, .ref o, ss, i, j, rfl, hkb.same scd, so, pin, fun c3 He se f3 => ?_⟩
        have q3 := bl_and e1 e2 f3
        subst q3
        have sce := scd.trans se
        refine ⟨_, rfl, o, dx', _, rfl, sce _ _ hob, rfl, _, rfl, _, rfl, .ref o, ss, j, i, rfl, hkb.same sce, so, pinr, fun c4 Hf sf f4 => ?_⟩
        have q4 := bl_and e1 e2 ⟨fun z => ⟨(f4.mp z).2, (f4.mp z).1⟩, fun z => f4.mpr ⟨z.2, z.1⟩⟩
        subst q4
        have scf := sce.trans sf
        refine ⟨by show 4 ≤ sizeLine; decide, fun l1 hl1 big1 => ?_⟩
        have t1 := same_new (o := .lst [V.bl c1, .bl c2, .bl (c1 && c2), .bl (c1 && c2)]) hl1
        have at1 : (upd Hf l1 (.lst [V.bl c1, .bl c2, .bl (c1 && c2), .bl (c1 && c2)])) l1 = some (.lst [V.bl c1, .bl c2, .bl (c1 && c2), .bl (c1 && c2)]) := upd_same
        have th := bools4 c1 c2
        have scg := scf.trans t1
        generalize upd Hf l1 (.lst [V.bl c1, .bl c2, .bl (c1 && c2), .bl (c1 && c2)]) = Hg at t1 at1 scg ⊢
        refine ⟨_, rfl, .ref l1, boolsD [c1, c2, c1 && c2, c1 && c2], rfl, .lst big1 trivial at1 (.cons (.bl _) (.cons (.bl _) (.cons (.bl _) (.cons (.bl _) .nil)))), th.1, th.2.1, th.2.2, ?_⟩
        refine ⟨_, rfl, _, rfl, _, rfl, c1, rfl, ?_⟩
        have F9g := F9.same (sab.trans scg)
        have hDg := scg _ _ (sab _ _ hD9)
        have hkg := hkb.same scg
        have mvg := mv9.same (sab.trans scg)
        have hog := scg _ _ hob
        cases c1 with
        | false =>
          refine iteF ⟨_, rfl, false, rfl, iteF ⟨by show 4 ≤ sizeLine; decide, fun l2 hl2 big2 => ?_⟩⟩
          have t2 := same_new (o := .lst [V.bl false, .bl c2, .bl false, .bl false]) hl2
          refine ⟨.ref l2, boolsD [false, c2, false && c2, false && c2], rfl, .lst big2 trivial upd_same (.cons (.bl _) (.cons (.bl _) (.cons (.bl _) (.cons (.bl _) .nil)))), th.1, th.2.1, th.2.2, rfl, _, rfl, ?_⟩
          rw [decide_eq_true rfl]
          refine iteF ?_
          have hkh := hkg.same t2
          have hoh := t2 _ _ hog
          have F9h := F9g.same t2
          have hDh := t2 _ _ hDg
          have mvh := mvg.same t2
          generalize upd Hg l2 (.lst [V.bl false, .bl c2, .bl false, .bl false]) = Hh at t2 hkh hoh F9h hDh mvh ⊢
          refine ⟨_, rfl, o, dx', _, rfl, hoh, rfl, _, rfl, _, rfl, .ref o, ss, i, i, rfl, hkh, so, ⟨pin.1, pin.1⟩, fun d1 Hi si g1 => ?_⟩
          have z1 : d1 = true := g1.mpr (bey_self so)
          subst z1
          refine ⟨true, true, rfl, rfl, _, rfl, ?_⟩
          refine iteF ?_
          refine ⟨_, rfl, o, dx', _, rfl, si _ _ hoh, rfl, _, rfl, _, rfl, .ref o, ss, j, j, rfl, hkh.same si, so, ⟨pin.2, pin.2⟩, fun d2 Hj sj g2 => ?_⟩
          have z2 : d2 = true := g2.mpr ⟨bey_self so, bey_self so⟩
          subst z2
          refine ⟨true, true, rfl, rfl, _, rfl, ?_⟩
          refine iteF ?_
          have sij := si.trans sj
          exact ⟨_, _, _, _, _, _, ks6, n4 + 1 + 1, rfl, F9h.same sij, by omega, sij _ _ hDh, hkh.same sij, mvh.same sij⟩
        | true =>
          refine iteT ⟨_, rfl, _, rfl, true, rfl, iteT ⟨_, rfl, by show 4 ≤ sizeLine; decide, fun l2 hl2 big2 => ?_⟩⟩
          have t2 := same_new (o := .lst [V.bl true, .bl c2, .bl c2, .bl c2]) hl2
          refine ⟨.ref l2, boolsD [true, c2, true && c2, true && c2], rfl, .lst big2 trivial upd_same (.cons (.bl _) (.cons (.bl _) (.cons (.bl _) (.cons (.bl _) .nil)))), th.1, th.2.1, th.2.2, rfl, _, rfl, ?_⟩
          rw [decide_eq_true rfl]
          refine iteF ?_
          have hkh := hkg.same t2
          have hoh := t2 _ _ hog
          have F9h := F9g.same t2
          have hDh := t2 _ _ hDg
          have mvh := mvg.same t2
          generalize upd Hg l2 (.lst [V.bl true, .bl c2, .bl c2, .bl c2]) = Hh at t2 hkh hoh F9h hDh mvh ⊢
          refine ⟨_, rfl, o, dx', _, rfl, hoh, rfl, _, rfl, _, rfl, .ref o, ss, i, i, rfl, hkh, so, ⟨pin.1, pin.1⟩, fun d1 Hi si g1 => ?_⟩
          have z1 : d1 = true := g1.mpr (bey_self so)
          subst z1
          refine ⟨true, true, rfl, rfl, _, rfl, ?_⟩
          refine iteF ?_
          refine ⟨_, rfl, o, dx', _, rfl, si _ _ hoh, rfl, _, rfl, _, rfl, .ref o, ss, j, j, rfl, hkh.same si, so, ⟨pin.2, pin.2⟩, fun d2 Hj sj g2 => ?_⟩
          have z2 : d2 = true := g2.mpr ⟨bey_self so, bey_self so⟩
          subst z2
          refine ⟨true, true, rfl, rfl, _, rfl, ?_⟩
          refine iteF ?_
          have sij := si.trans sj
          exact ⟨_, _, _, _, _, _, ks6, n4 + 1 + 1, rfl, F9h.same sij, by omega, sij _ _ hDh, hkh.same sij, mvh.same sij⟩
      · rintro σ H7 ⟨p6, p7, p8, p9, p10, p11, ks4, n4, rfl, F7, le4, hD7, hk7, mv7⟩
        exact ⟨_, _, _, _, _, _, _, _, _, _, ks4, n4, rfl, F7, by omega⟩
    · rintro σ H2 ⟨o2, o3, o4, o5, o6, o7, o8, o9, o10, o11, ks1, n1, rfl, FA1, le1⟩
      exact k _

end
end My

-- ===== K5Z =====
set_option Elab.async false
set_option linter.all false
set_option maxRecDepth 100000
set_option maxHeartbeats 4000000
namespace My
open PySem L2 PyProof.Rows PySem.Spec Kd StX ClX TL
theorem kga_rel {vs zs : List V} {us ws : List Value} (r : Vals vs us) (z : Vals zs ws) : Vals (kga vs zs) (kga us ws) := by
  match vs, us, r with
  | [], _, .nil => exact .nil
  | [_], _, .cons a .nil =>
    match zs, ws, z with
    | [], _, .nil => exact .nil
    | [_], _, .cons _ .nil => exact .nil
    | [_, _], _, .cons b (.cons c .nil) => exact .cons a (.cons b (.cons c .nil))
    | _ :: _ :: _ :: _, _, .cons _ (.cons _ (.cons _ _)) => exact .nil
  | _ :: _ :: _, _, .cons _ (.cons _ _) => exact .nil
theorem kgb_rel {vs zs : List V} {us ws : List Value} (r : Vals vs us) (z : Vals zs ws) : Vals (kgb vs zs) (kgb us ws) := by
  match vs, us, r with
  | [], _, .nil => exact .nil
  | [_], _, .cons a .nil =>
    match zs, ws, z with
    | [], _, .nil => exact .nil
    | [_], _, .cons _ .nil => exact .nil
    | [_, _], _, .cons b (.cons c .nil) => exact .cons a (.cons c (.cons b .nil))
    | _ :: _ :: _ :: _, _, .cons _ (.cons _ (.cons _ _)) => exact .nil
  | _ :: _ :: _, _, .cons _ (.cons _ _) => exact .nil
set_option linter.unusedVariables false in
theorem all_mk {P : Program} {w : World} {K : PySem.W.Frag} {h : Heap} {mg : Str → Option Value} {fa C p1 fM fR fW fB fS fA fE fF fD fK fb1 fb2 fb3 fb4 fb5 fb6 fL fi fo fr fv : Addr} {rest1 : List Value} {t1 t2 t3 t4 : Tok} (X : K.In h) (G : h.Ns mainGlobals mg) (hfa : mg "law" = some (.ref fa))
    {oc_M kV_M doc_M pm_M cd_M ct_M : Value} {od_M an_M : Option Addr} {sl_M : Array (Option Value)} {oc_R kV_R doc_R pm_R cd_R ct_R : Value} {od_R an_R : Option Addr} {sl_R : Array (Option Value)} {oc_W kV_W doc_W pm_W cd_W ct_W : Value} {od_W an_W : Option Addr} {sl_W : Array (Option Value)} {oc_B kV_B doc_B pm_B cd_B ct_B : Value} {od_B an_B : Option Addr} {sl_B : Array (Option Value)} {oc_S kV_S doc_S pm_S cd_S ct_S : Value} {od_S an_S : Option Addr} {sl_S : Array (Option Value)} {oc_A kV_A doc_A pm_A cd_A ct_A : Value} {od_A an_A : Option Addr} {sl_A : Array (Option Value)} {oc_E kV_E doc_E pm_E cd_E ct_E : Value} {od_E an_E : Option Addr} {sl_E : Array (Option Value)} {oc_F kV_F doc_F pm_F cd_F ct_F : Value} {od_F an_F : Option Addr} {sl_F : Array (Option Value)} {oc_D kV_D doc_D pm_D cd_D ct_D : Value} {od_D an_D : Option Addr} {sl_D : Array (Option Value)} {oc_K kV_K doc_K pm_K cd_K ct_K : Value} {od_K an_K : Option Addr} {sl_K : Array (Option Value)} {oc_b1 kV_b1 doc_b1 pm_b1 cd_b1 ct_b1 : Value} {od_b1 an_b1 : Option Addr} {sl_b1 : Array (Option Value)} {oc_b2 kV_b2 doc_b2 pm_b2 cd_b2 ct_b2 : Value} {od_b2 an_b2 : Option Addr} {sl_b2 : Array (Option Value)} {oc_b3 kV_b3 doc_b3 pm_b3 cd_b3 ct_b3 : Value} {od_b3 an_b3 : Option Addr} {sl_b3 : Array (Option Value)} {oc_b4 kV_b4 doc_b4 pm_b4 cd_b4 ct_b4 : Value} {od_b4 an_b4 : Option Addr} {sl_b4 : Array (Option Value)} {oc_b5 kV_b5 doc_b5 pm_b5 cd_b5 ct_b5 : Value} {od_b5 an_b5 : Option Addr} {sl_b5 : Array (Option Value)} {oc_b6 kV_b6 doc_b6 pm_b6 cd_b6 ct_b6 : Value} {od_b6 an_b6 : Option Addr} {sl_b6 : Array (Option Value)} {oc_L kV_L doc_L pm_L cd_L ct_L : Value} {od_L an_L : Option Addr} {sl_L : Array (Option Value)} {oc_i kV_i doc_i pm_i cd_i ct_i : Value} {od_i an_i : Option Addr} {sl_i : Array (Option Value)} {oc_o kV_o doc_o pm_o cd_o ct_o : Value} {od_o an_o : Option Addr} {sl_o : Array (Option Value)} {oc_r kV_r doc_r pm_r cd_r ct_r : Value} {od_r an_r : Option Addr} {sl_r : Array (Option Value)} {oc_v kV_v doc_v pm_v cd_v ct_v : Value} {od_v an_v : Option Addr} {sl_v : Array (Option Value)}
    (aC : PySem.W.nsIn K mainGlobals "Kind" = some (some (.ref C)))
    (clpg : PySem.W.plainGet K C Str.empty = true)
    (clhd : PySem.W.hasDictIn K C = true)
    (clpo : PySem.W.plainOver K C = true)
    (clsa : PySem.W.findIn K (.ref C) "__setattr__" = some (some (.builtin "object.__setattr__")))
    (n1 : PySem.W.findIn K (.ref C) "states" = some none)
    (n2 : PySem.W.findIn K (.ref C) "moves" = some none)
    (rd : PySem.W.readsIn K C (.type "type") = true)
    (ga : PySem.W.specialIn K (.ref C) "__getattribute__" = some (some (.builtin "type.__getattribute__")))
    (m_of : PySem.W.findCls K (.ref C) (.type "type") "of" = some (.get (.builtin "classmethod.__get__") (.ref p1) .none (.ref C)))
    (r_of : PySem.W.recIn K p1 "classmethod" = some (.ref fo :: rest1))
    (f_of : PySem.W.fnIn K fo = true)
    (mk1 : PySem.W.makesIn K C = true)
    (mk2 : PySem.W.findIn K (.ref C) "__init__" = some (some (.ref fi)))
    (mk3 : PySem.W.isFn K (.ref fi) = true)
    (mk4 : PySem.W.keepIn K (.ref C) = true)
    (rc1 : PySem.W.findIn K (.ref C) "allows" = some (some (.ref fr)))
    (rc2 : PySem.W.isFn K (.ref fr) = true)
    (rd1 : PySem.W.findIn K (.ref C) "alike" = some (some (.ref fv)))
    (rd2 : PySem.W.isFn K (.ref fv) = true)
    (a_M : PySem.W.nsIn K mainGlobals "moves_of" = some (some (.ref fM)))
    (l_M : K.lookup fM = some ⟨oc_M, od_M, .func (PySem.W.fnOf "moves_of" "moves_of" (defArgs sMoves) (defBody sMoves) (defScope sMoves) .none kV_M doc_M pm_M an_M cd_M ct_M), sl_M⟩)
    (e_M : PySem.W.codeIn K cd_M "moves_of" = true)
    (k_M : PySem.W.keepIn K (.ref fM) = true)
    (a_R : PySem.W.nsIn K mainGlobals "first_beyond" = some (some (.ref fR)))
    (l_R : K.lookup fR = some ⟨oc_R, od_R, .func (PySem.W.fnOf "first_beyond" "first_beyond" (defArgs sBeyond) (defBody sBeyond) (defScope sBeyond) .none kV_R doc_R pm_R an_R cd_R ct_R), sl_R⟩)
    (e_R : PySem.W.codeIn K cd_R "first_beyond" = true)
    (k_R : PySem.W.keepIn K (.ref fR) = true)
    (a_W : PySem.W.nsIn K mainGlobals "is_word" = some (some (.ref fW)))
    (l_W : K.lookup fW = some ⟨oc_W, od_W, .func (PySem.W.fnOf "is_word" "is_word" (defArgs sWord) (defBody sWord) (defScope sWord) .none kV_W doc_W pm_W an_W cd_W ct_W), sl_W⟩)
    (e_W : PySem.W.codeIn K cd_W "is_word" = true)
    (k_W : PySem.W.keepIn K (.ref fW) = true)
    (a_B : PySem.W.nsIn K mainGlobals "is_number" = some (some (.ref fB)))
    (l_B : K.lookup fB = some ⟨oc_B, od_B, .func (PySem.W.fnOf "is_number" "is_number" (defArgs sNumber) (defBody sNumber) (defScope sNumber) .none kV_B doc_B pm_B an_B cd_B ct_B), sl_B⟩)
    (e_B : PySem.W.codeIn K cd_B "is_number" = true)
    (k_B : PySem.W.keepIn K (.ref fB) = true)
    (a_S : PySem.W.nsIn K mainGlobals "is_states" = some (some (.ref fS)))
    (l_S : K.lookup fS = some ⟨oc_S, od_S, .func (PySem.W.fnOf "is_states" "is_states" (defArgs sStates) (defBody sStates) (defScope sStates) .none kV_S doc_S pm_S an_S cd_S ct_S), sl_S⟩)
    (e_S : PySem.W.codeIn K cd_S "is_states" = true)
    (k_S : PySem.W.keepIn K (.ref fS) = true)
    (a_A : PySem.W.nsIn K mainGlobals "_is_state" = some (some (.ref fA)))
    (l_A : K.lookup fA = some ⟨oc_A, od_A, .func (PySem.W.fnOf "_is_state" "_is_state" (defArgs sState) (defBody sState) (defScope sState) .none kV_A doc_A pm_A an_A cd_A ct_A), sl_A⟩)
    (e_A : PySem.W.codeIn K cd_A "_is_state" = true)
    (k_A : PySem.W.keepIn K (.ref fA) = true)
    (a_E : PySem.W.nsIn K mainGlobals "_is_step" = some (some (.ref fE)))
    (l_E : K.lookup fE = some ⟨oc_E, od_E, .func (PySem.W.fnOf "_is_step" "_is_step" (defArgs sStep) (defBody sStep) (defScope sStep) .none kV_E doc_E pm_E an_E cd_E ct_E), sl_E⟩)
    (e_E : PySem.W.codeIn K cd_E "_is_step" = true)
    (k_E : PySem.W.keepIn K (.ref fE) = true)
    (a_F : PySem.W.nsIn K mainGlobals "_law_feed" = some (some (.ref fF)))
    (l_F : K.lookup fF = some ⟨oc_F, od_F, .func (PySem.W.fnOf "_law_feed" "_law_feed" (defArgs sFeed) (defBody sFeed) (defScope sFeed) .none kV_F doc_F pm_F an_F cd_F ct_F), sl_F⟩)
    (e_F : PySem.W.codeIn K cd_F "_law_feed" = true)
    (k_F : PySem.W.keepIn K (.ref fF) = true)
    (a_D : PySem.W.nsIn K mainGlobals "_law_digit" = some (some (.ref fD)))
    (l_D : K.lookup fD = some ⟨oc_D, od_D, .func (PySem.W.fnOf "_law_digit" "_law_digit" (defArgs sDigit) (defBody sDigit) (defScope sDigit) .none kV_D doc_D pm_D an_D cd_D ct_D), sl_D⟩)
    (e_D : PySem.W.codeIn K cd_D "_law_digit" = true)
    (k_D : PySem.W.keepIn K (.ref fD) = true)
    (a_K : PySem.W.nsIn K mainGlobals "_law_pick" = some (some (.ref fK)))
    (l_K : K.lookup fK = some ⟨oc_K, od_K, .func (PySem.W.fnOf "_law_pick" "_law_pick" (defArgs sPick) (defBody sPick) (defScope sPick) .none kV_K doc_K pm_K an_K cd_K ct_K), sl_K⟩)
    (e_K : PySem.W.codeIn K cd_K "_law_pick" = true)
    (k_K : PySem.W.keepIn K (.ref fK) = true)
    (a_b1 : PySem.W.nsIn K mainGlobals "_law_menu" = some (some (.ref fb1)))
    (l_b1 : K.lookup fb1 = some ⟨oc_b1, od_b1, .func (PySem.W.fnOf "_law_menu" "_law_menu" (defArgs sMenu) (defBody sMenu) (defScope sMenu) .none kV_b1 doc_b1 pm_b1 an_b1 cd_b1 ct_b1), sl_b1⟩)
    (e_b1 : PySem.W.codeIn K cd_b1 "_law_menu" = true)
    (k_b1 : PySem.W.keepIn K (.ref fb1) = true)
    (a_b2 : PySem.W.nsIn K mainGlobals "_law_states" = some (some (.ref fb2)))
    (l_b2 : K.lookup fb2 = some ⟨oc_b2, od_b2, .func (PySem.W.fnOf "_law_states" "_law_states" (defArgs sLStates) (defBody sLStates) (defScope sLStates) .none kV_b2 doc_b2 pm_b2 an_b2 cd_b2 ct_b2), sl_b2⟩)
    (e_b2 : PySem.W.codeIn K cd_b2 "_law_states" = true)
    (k_b2 : PySem.W.keepIn K (.ref fb2) = true)
    (a_b3 : PySem.W.nsIn K mainGlobals "_law_drawn" = some (some (.ref fb3)))
    (l_b3 : K.lookup fb3 = some ⟨oc_b3, od_b3, .func (PySem.W.fnOf "_law_drawn" "_law_drawn" (defArgs sDrawn) (defBody sDrawn) (defScope sDrawn) .none kV_b3 doc_b3 pm_b3 an_b3 cd_b3 ct_b3), sl_b3⟩)
    (e_b3 : PySem.W.codeIn K cd_b3 "_law_drawn" = true)
    (k_b3 : PySem.W.keepIn K (.ref fb3) = true)
    (a_b4 : PySem.W.nsIn K mainGlobals "_law_allows" = some (some (.ref fb4)))
    (l_b4 : K.lookup fb4 = some ⟨oc_b4, od_b4, .func (PySem.W.fnOf "_law_allows" "_law_allows" (defArgs sAllow) (defBody sAllow) (defScope sAllow) .none kV_b4 doc_b4 pm_b4 an_b4 cd_b4 ct_b4), sl_b4⟩)
    (e_b4 : PySem.W.codeIn K cd_b4 "_law_allows" = true)
    (k_b4 : PySem.W.keepIn K (.ref fb4) = true)
    (a_b5 : PySem.W.nsIn K mainGlobals "_law_rings" = some (some (.ref fb5)))
    (l_b5 : K.lookup fb5 = some ⟨oc_b5, od_b5, .func (PySem.W.fnOf "_law_rings" "_law_rings" (defArgs sRings) (defBody sRings) (defScope sRings) .none kV_b5 doc_b5 pm_b5 an_b5 cd_b5 ct_b5), sl_b5⟩)
    (e_b5 : PySem.W.codeIn K cd_b5 "_law_rings" = true)
    (k_b5 : PySem.W.keepIn K (.ref fb5) = true)
    (a_b6 : PySem.W.nsIn K mainGlobals "_law_rings_right" = some (some (.ref fb6)))
    (l_b6 : K.lookup fb6 = some ⟨oc_b6, od_b6, .func (PySem.W.fnOf "_law_rings_right" "_law_rings_right" (defArgs sRingsR) (defBody sRingsR) (defScope sRingsR) .none kV_b6 doc_b6 pm_b6 an_b6 cd_b6 ct_b6), sl_b6⟩)
    (e_b6 : PySem.W.codeIn K cd_b6 "_law_rings_right" = true)
    (k_b6 : PySem.W.keepIn K (.ref fb6) = true)
    (a_L : PySem.W.nsIn K mainGlobals "law" = some (some (.ref fL)))
    (l_L : K.lookup fL = some ⟨oc_L, od_L, .func (PySem.W.fnOf "law" "law" (defArgs sLaw) (defBody sLaw) (defScope sLaw) .none kV_L doc_L pm_L an_L cd_L ct_L), sl_L⟩)
    (e_L : PySem.W.codeIn K cd_L "law" = true)
    (k_L : PySem.W.keepIn K (.ref fL) = true)
    (l_i : K.lookup fi = some ⟨oc_i, od_i, .func (PySem.W.fnOf "__init__" "Kind.__init__" (defArgs sInit) (defBody sInit) (defScope sInit) .none kV_i doc_i pm_i an_i cd_i ct_i), sl_i⟩)
    (e_i : PySem.W.codeIn K cd_i "Kind.__init__" = true)
    (k_i : PySem.W.keepIn K (.ref fi) = true)
    (l_o : K.lookup fo = some ⟨oc_o, od_o, .func (PySem.W.fnOf "of" "Kind.of" (defArgs sOf) (defBody sOf) (defScope sOf) .none kV_o doc_o pm_o an_o cd_o ct_o), sl_o⟩)
    (e_o : PySem.W.codeIn K cd_o "Kind.of" = true)
    (k_o : PySem.W.keepIn K (.ref fo) = true)
    (l_r : K.lookup fr = some ⟨oc_r, od_r, .func (PySem.W.fnOf "allows" "Kind.allows" (defArgs sKall) (defBody sKall) (defScope sKall) .none kV_r doc_r pm_r an_r cd_r ct_r), sl_r⟩)
    (e_r : PySem.W.codeIn K cd_r "Kind.allows" = true)
    (k_r : PySem.W.keepIn K (.ref fr) = true)
    (l_v : K.lookup fv = some ⟨oc_v, od_v, .func (PySem.W.fnOf "alike" "Kind.alike" (defArgs sKalike) (defBody sKalike) (defScope sKalike) .none kV_v doc_v pm_v an_v cd_v ct_v), sl_v⟩)
    (e_v : PySem.W.codeIn K cd_v "Kind.alike" = true)
    (k_v : PySem.W.keepIn K (.ref fv) = true)
    (z_isinstance : PySem.W.nsIn K mainGlobals "isinstance" = some none)
    (z_str : PySem.W.nsIn K mainGlobals "str" = some none)
    (z_int : PySem.W.nsIn K mainGlobals "int" = some none)
    (z_bool : PySem.W.nsIn K mainGlobals "bool" = some none)
    (z_tuple : PySem.W.nsIn K mainGlobals "tuple" = some none)
    (z_len : PySem.W.nsIn K mainGlobals "len" = some none)
    (z_all : PySem.W.nsIn K mainGlobals "all" = some none)
    (z_set : PySem.W.nsIn K mainGlobals "set" = some none)
    (z_sorted : PySem.W.nsIn K mainGlobals "sorted" = some none)
    (z_range : PySem.W.nsIn K mainGlobals "range" = some none)
    (z_repr : PySem.W.nsIn K mainGlobals "repr" = some none)
    (z_enumerate : PySem.W.nsIn K mainGlobals "enumerate" = some none)
    (z_list : PySem.W.nsIn K mainGlobals "list" = some none)
    (z_min : PySem.W.nsIn K mainGlobals "min" = some none)
    (z_dict : PySem.W.nsIn K mainGlobals "dict" = some none)
    (v_MOST_STATES : PySem.W.nsIn K mainGlobals "MOST_STATES" = some (some (.int 40 t1)))
    (v_MOST_EVENTS : PySem.W.nsIn K mainGlobals "MOST_EVENTS" = some (some (.int 24 t2)))
    (v_MOST_LETTERS : PySem.W.nsIn K mainGlobals "MOST_LETTERS" = some (some (.int 12 t3)))
    (v_LETTERS : PySem.W.nsIn K mainGlobals "LETTERS" = some (some (.str LETS t4))) :
    ∃ fd : FuncData, (∀ (s : Shared) (v : Value), BindsTo s fd ⟨[v], []⟩ [("_law_script", v)]) ∧ ∀ base : Heap, K.In base → base.Ns mainGlobals mg → FnG true (fun A => A.guards = some []) P w K mg base CX0 9 fa fd ["_law_script"] (spLaw K) := by
  have e := hfa.symm.trans (PySem.W.mg_of X G a_L)
  cases e
  have nn : ∀ {n : Str}, PySem.W.nsIn K mainGlobals n = some none → mg n = none := fun {n} e => PySem.W.mg_none_of X G e
  have g : Gs mg := ⟨nn z_isinstance, nn z_str, nn z_int, nn z_bool, nn z_tuple, nn z_len, nn z_all, nn z_set, nn z_sorted, nn z_range, nn z_repr, nn z_enumerate, nn z_list, nn z_min, ⟨t1, PySem.W.mg_of X G v_MOST_STATES⟩, ⟨t2, PySem.W.mg_of X G v_MOST_EVENTS⟩, ⟨t3, PySem.W.mg_of X G v_MOST_LETTERS⟩, ⟨t4, PySem.W.mg_of X G v_LETTERS⟩⟩
  have cl : Cls K C := ⟨clpg, clhd, clpo, clsa⟩
  have M : Mk K C fi := ⟨mk1, mk2, mk3, mk4⟩
  have FM := fun_mk (st := sMoves) l_M e_M k_M
  have bM := FM.binds (ps := ["states"]) fun _ _ _ _ _ _ us hl => match us, hl with | [_], _ => rfl
  have mM := PySem.W.mg_of X G a_M
  have FR := fun_mk (st := sBeyond) l_R e_R k_R
  have bR := FR.binds (ps := ["mine", "one", "theirs", "other"]) fun _ _ _ _ _ _ us hl => match us, hl with | [_, _, _, _], _ => rfl
  have mR := PySem.W.mg_of X G a_R
  have FW := fun_mk (st := sWord) l_W e_W k_W
  have bW := FW.binds (ps := ["thing"]) fun _ _ _ _ _ _ us hl => match us, hl with | [_], _ => rfl
  have mW := PySem.W.mg_of X G a_W
  have FB := fun_mk (st := sNumber) l_B e_B k_B
  have bB := FB.binds (ps := ["thing"]) fun _ _ _ _ _ _ us hl => match us, hl with | [_], _ => rfl
  have mB := PySem.W.mg_of X G a_B
  have FS := fun_mk (st := sStates) l_S e_S k_S
  have bS := FS.binds (ps := ["thing"]) fun _ _ _ _ _ _ us hl => match us, hl with | [_], _ => rfl
  have mS := PySem.W.mg_of X G a_S
  have FA := fun_mk (st := sState) l_A e_A k_A
  have bA := FA.binds (ps := ["thing", "many"]) fun _ _ _ _ _ _ us hl => match us, hl with | [_, _], _ => rfl
  have mA := PySem.W.mg_of X G a_A
  have FE := fun_mk (st := sStep) l_E e_E k_E
  have bE := FE.binds (ps := ["thing", "many"]) fun _ _ _ _ _ _ us hl => match us, hl with | [_, _], _ => rfl
  have mE := PySem.W.mg_of X G a_E
  have FF := fun_mk (st := sFeed) l_F e_F k_F
  have bF := FF.binds (ps := ["_law_script"]) fun _ _ _ _ _ _ us hl => match us, hl with | [_], _ => rfl
  have mF := PySem.W.mg_of X G a_F
  have FD := fun_mk (st := sDigit) l_D e_D k_D
  have bD := FD.binds (ps := ["_law_feed_here", "_law_many"]) fun _ _ _ _ _ _ us hl => match us, hl with | [_, _], _ => rfl
  have mD := PySem.W.mg_of X G a_D
  have FK := fun_mk (st := sPick) l_K e_K k_K
  have bK := FK.binds (ps := ["_law_feed_here", "_law_some"]) fun _ _ _ _ _ _ us hl => match us, hl with | [_, _], _ => rfl
  have mK := PySem.W.mg_of X G a_K
  have Fb1 := fun_mk (st := sMenu) l_b1 e_b1 k_b1
  have bb1 := Fb1.binds (ps := ["_law_feed_here", "_law_many"]) fun _ _ _ _ _ _ us hl => match us, hl with | [_, _], _ => rfl
  have mb1 := PySem.W.mg_of X G a_b1
  have Fb2 := fun_mk (st := sLStates) l_b2 e_b2 k_b2
  have bb2 := Fb2.binds (ps := ["_law_feed_here", "_law_many", "_law_menu_here", "_law_share"]) fun _ _ _ _ _ _ us hl => match us, hl with | [_, _, _, _], _ => rfl
  have mb2 := PySem.W.mg_of X G a_b2
  have Fb3 := fun_mk (st := sDrawn) l_b3 e_b3 k_b3
  have bb3 := Fb3.binds (ps := ["_law_feed_here"]) fun _ _ _ _ _ _ us hl => match us, hl with | [_], _ => rfl
  have mb3 := PySem.W.mg_of X G a_b3
  have Fb4 := fun_mk (st := sAllow) l_b4 e_b4 k_b4
  have bb4 := Fb4.binds (ps := ["_law_tables", "_law_first", "_law_second"]) fun _ _ _ _ _ _ us hl => match us, hl with | [_, _, _], _ => rfl
  have mb4 := PySem.W.mg_of X G a_b4
  have Fb5 := fun_mk (st := sRings) l_b5 e_b5 k_b5
  have bb5 := Fb5.binds (ps := ["_law_feed_here"]) fun _ _ _ _ _ _ us hl => match us, hl with | [_], _ => rfl
  have mb5 := PySem.W.mg_of X G a_b5
  have Fb6 := fun_mk (st := sRingsR) l_b6 e_b6 k_b6
  have bb6 := Fb6.binds (ps := ["_law_feed_here"]) fun _ _ _ _ _ _ us hl => match us, hl with | [_], _ => rfl
  have mb6 := PySem.W.mg_of X G a_b6
  have FL := fun_mk (st := sLaw) l_L e_L k_L
  have Fi := fun_mk (st := sInit) l_i e_i k_i
  have Fo := fun_mk (st := sOf) l_o e_o k_o
  have bo := Fo.binds (ps := ["cls", "states"]) fun _ _ _ _ _ _ us hl => match us, hl with | [_, _], _ => rfl
  have Fr := fun_mk (st := sKall) l_r e_r k_r
  have br := Fr.binds (ps := ["self", "one", "other"]) fun _ _ _ _ _ _ us hl => match us, hl with | [_, _, _], _ => rfl
  have Fv := fun_mk (st := sKalike) l_v e_v k_v
  have bv := Fv.binds (ps := ["self", "one", "other"]) fun _ _ _ _ _ _ us hl => match us, hl with | [_, _, _], _ => rfl
  refine ⟨PySem.W.fnOf "law" "law" (defArgs sLaw) (defBody sLaw) (defScope sLaw) .none kV_L doc_L pm_L an_L cd_L ct_L, fun s v => .of_eq rfl, fun base _ _ => ?_⟩
  have mC := PySem.W.mg_of X G aC
  have oF := ok_feed (P := P) (w := w) (mg := mg) (base := base) FF g.list
  have oD := ok_digit (P := P) (w := w) (mg := mg) (base := base) FD
  have oW := ok_word (P := P) (w := w) (mg := mg) (base := base) FW g
  have oB := ok_number (P := P) (w := w) (mg := mg) (base := base) FB g
  have oE := ok_step (P := P) (w := w) (mg := mg) (base := base) FE g oW mW k_W bW oB mB k_B bB
  have oA := ok_state (P := P) (w := w) (mg := mg) (base := base) FA g oE mE k_E bE
  have oS := ok_states (P := P) (w := w) (mg := mg) (base := base) FS g oA mA k_A bA
  have oM := ok_moves (P := P) (w := w) (mg := mg) (base := base) FM
  have oi := ok_init (P := P) (w := w) (mg := mg) (base := base) Fi cl n1 n2 oS mS k_S bS oM mM k_M bM
  have oo := ok_of (P := P) (w := w) (mg := mg) (base := base) Fo g M oi
  have oR := ok_beyond (P := P) (w := w) (mg := mg) (base := base) FR g
  have hmA : Meth K C "allows" fr := ⟨rc1, rc2, k_r⟩
  have hmB : Meth K C "alike" fv := ⟨rd1, rd2, k_v⟩
  have orr := ok_kall (P := P) (w := w) (mg := mg) (base := base) Fr cl n2 oR mR k_R bR
  have ov := ok_kalike (P := P) (w := w) (mg := mg) (base := base) Fv cl hmA orr br
  have kbA : KBinds K (PySem.W.fnOf "allows" "Kind.allows" (defArgs sKall) (defBody sKall) (defScope sKall) .none kV_r doc_r pm_r an_r cd_r ct_r) ["self", "one", "other"] ["one", "other"] kga kga := by
    refine ⟨fun s us ws _ hl => ?_, fun r z => kga_rel r z⟩
    match us, ws, hl with
    | [s0], [a, b], _ => exact .of_eq rfl
  have kbB : KBinds K (PySem.W.fnOf "alike" "Kind.alike" (defArgs sKalike) (defBody sKalike) (defScope sKalike) .none kV_v doc_v pm_v an_v cd_v ct_v) ["self", "one", "other"] ["other", "one"] kgb kgb := by
    refine ⟨fun s us ws _ hl => ?_, fun r z => kgb_rel r z⟩
    match us, ws, hl with
    | [s0], [a, b], _ => exact .of_eq rfl
  have oK := ok_pick (P := P) (w := w) (mg := mg) (base := base) FK g.len oD mD k_D bD
  have ob1 := ok_menu (P := P) (w := w) (mg := mg) (base := base) Fb1 g oK mK k_K bK
  have ob2 := ok_lst (P := P) (w := w) (mg := mg) (base := base) Fb2 g oD mD k_D bD
  have ob3 := ok_drawn (P := P) (w := w) (mg := mg) (base := base) Fb3 g oK mK k_K bK oD mD k_D bD ob1 mb1 k_b1 bb1 ob2 mb2 k_b2 bb2
  have ob4 := ok_all (P := P) (w := w) (mg := mg) (base := base) Fb4 g
  have ob5 := ok_rings (P := P) (w := w) (mg := mg) (base := base) Fb5 g oK mK k_K bK oD mD k_D bD
  have T : KOf P w K mg base C := ⟨mC, ⟨.type "type", ⟨rd, ga⟩, p1, fo, _, ⟨m_of, ⟨rest1, r_of⟩, f_of⟩, oo, bo⟩⟩
  have ob6 := ok_rr (P := P) (w := w) (mg := mg) (base := base) Fb6 T cl (nn z_dict) (nn z_repr) ob5 mb5 k_b5 bb5 ob4 mb4 k_b4 bb4 hmA orr br hmB ov bv
  exact ok_law FL T cl (nn z_dict) (nn z_repr) g.len (nn z_range) oF mF k_F bF oD mD k_D bD ob3 mb3 k_b3 bb3 ob6 mb6 k_b6 bb6 ob4 mb4 k_b4 bb4 hmA orr br kbA hmB ov bv kbB
end My
-- ===== end =====
open PySem PySem.W PyProof.Rows
set_option maxRecDepth 100000
set_option maxHeartbeats 0
open_top head05 for PySem.Challenge.rw_mustwait_k05_allows_and_alike
set_option maxRecDepth 100000 in
set_option maxHeartbeats 0 in
theorem PySem.Challenge.cw_mustwait_k05_allows_and_alike_holds : PySem.Challenge.rw_mustwait_k05_allows_and_alike.Holds :=
  head05 (by
  k_fill
  refine My.walk_ofG (l := PySem.Challenge.rw_mustwait_k05_allows_and_alike) (n := 63) (k := 9) (x := "_law_script") (sp := My.spLaw) rfl (by decide) rfl ⟨rfl, by decide, by decide⟩ (fun w h Y => PySem.W.kIn_of Y) ?F (fun K H a ns hl hb _ hS => ⟨a, ns, rfl, hS, hl, hb, fun _ => rfl⟩)
  case F =>
    intro w mg fa h KX G hmg
    refine' My.all_mk KX G hmg ?aC ?clpg ?clhd ?clpo ?clsa ?n1 ?n2 ?rd ?ga ?m_of ?r_of ?f_of ?mk1 ?mk2 ?mk3 ?mk4 ?rc1 ?rc2 ?rd1 ?rd2 ?a_M ?l_M ?e_M ?k_M ?a_R ?l_R ?e_R ?k_R ?a_W ?l_W ?e_W ?k_W ?a_B ?l_B ?e_B ?k_B ?a_S ?l_S ?e_S ?k_S ?a_A ?l_A ?e_A ?k_A ?a_E ?l_E ?e_E ?k_E ?a_F ?l_F ?e_F ?k_F ?a_D ?l_D ?e_D ?k_D ?a_K ?l_K ?e_K ?k_K ?a_b1 ?l_b1 ?e_b1 ?k_b1 ?a_b2 ?l_b2 ?e_b2 ?k_b2 ?a_b3 ?l_b3 ?e_b3 ?k_b3 ?a_b4 ?l_b4 ?e_b4 ?k_b4 ?a_b5 ?l_b5 ?e_b5 ?k_b5 ?a_b6 ?l_b6 ?e_b6 ?k_b6 ?a_L ?l_L ?e_L ?k_L ?l_i ?e_i ?k_i ?l_o ?e_o ?k_o ?l_r ?e_r ?k_r ?l_v ?e_v ?k_v ?z_isinstance ?z_str ?z_int ?z_bool ?z_tuple ?z_len ?z_all ?z_set ?z_sorted ?z_range ?z_repr ?z_enumerate ?z_list ?z_min ?z_dict ?v_MOST_STATES ?v_MOST_EVENTS ?v_MOST_LETTERS ?v_LETTERS
    (case aC => k_is)
    (case clpg => k_is)
    (case clhd => k_is)
    (case clpo => k_is)
    (case clsa => k_is)
    (case n1 => k_is)
    (case n2 => k_is)
    (case rd => k_is)
    (case ga => k_is)
    (case m_of => k_is)
    (case r_of => k_is)
    (case f_of => k_is)
    (case mk1 => k_is)
    (case mk2 => k_is)
    (case mk3 => k_is)
    (case mk4 => k_is)
    (case rc1 => k_is)
    (case rc2 => k_is)
    (case rd1 => k_is)
    (case rd2 => k_is)
    (case a_M => k_is)
    (case l_M => k_is)
    (case e_M => k_is)
    (case k_M => k_is)
    (case a_R => k_is)
    (case l_R => k_is)
    (case e_R => k_is)
    (case k_R => k_is)
    (case a_W => k_is)
    (case l_W => k_is)
    (case e_W => k_is)
    (case k_W => k_is)
    (case a_B => k_is)
    (case l_B => k_is)
    (case e_B => k_is)
    (case k_B => k_is)
    (case a_S => k_is)
    (case l_S => k_is)
    (case e_S => k_is)
    (case k_S => k_is)
    (case a_A => k_is)
    (case l_A => k_is)
    (case e_A => k_is)
    (case k_A => k_is)
    (case a_E => k_is)
    (case l_E => k_is)
    (case e_E => k_is)
    (case k_E => k_is)
    (case a_F => k_is)
    (case l_F => k_is)
    (case e_F => k_is)
    (case k_F => k_is)
    (case a_D => k_is)
    (case l_D => k_is)
    (case e_D => k_is)
    (case k_D => k_is)
    (case a_K => k_is)
    (case l_K => k_is)
    (case e_K => k_is)
    (case k_K => k_is)
    (case a_b1 => k_is)
    (case l_b1 => k_is)
    (case e_b1 => k_is)
    (case k_b1 => k_is)
    (case a_b2 => k_is)
    (case l_b2 => k_is)
    (case e_b2 => k_is)
    (case k_b2 => k_is)
    (case a_b3 => k_is)
    (case l_b3 => k_is)
    (case e_b3 => k_is)
    (case k_b3 => k_is)
    (case a_b4 => k_is)
    (case l_b4 => k_is)
    (case e_b4 => k_is)
    (case k_b4 => k_is)
    (case a_b5 => k_is)
    (case l_b5 => k_is)
    (case e_b5 => k_is)
    (case k_b5 => k_is)
    (case a_b6 => k_is)
    (case l_b6 => k_is)
    (case e_b6 => k_is)
    (case k_b6 => k_is)
    (case a_L => k_is)
    (case l_L => k_is)
    (case e_L => k_is)
    (case k_L => k_is)
    (case l_i => k_is)
    (case e_i => k_is)
    (case k_i => k_is)
    (case l_o => k_is)
    (case e_o => k_is)
    (case k_o => k_is)
    (case l_r => k_is)
    (case e_r => k_is)
    (case k_r => k_is)
    (case l_v => k_is)
    (case e_v => k_is)
    (case k_v => k_is)
    (case z_isinstance => k_is)
    (case z_str => k_is)
    (case z_int => k_is)
    (case z_bool => k_is)
    (case z_tuple => k_is)
    (case z_len => k_is)
    (case z_all => k_is)
    (case z_set => k_is)
    (case z_sorted => k_is)
    (case z_range => k_is)
    (case z_repr => k_is)
    (case z_enumerate => k_is)
    (case z_list => k_is)
    (case z_min => k_is)
    (case z_dict => k_is)
    (case v_MOST_STATES => k_is)
    (case v_MOST_EVENTS => k_is)
    (case v_MOST_LETTERS => k_is)
    (case v_LETTERS => k_is))
#print axioms PySem.Challenge.cw_mustwait_k05_allows_and_alike_holds
