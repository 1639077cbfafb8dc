import PyProof.Rows.All
import Wide.All
import OpenK.AllK
import Wide.FinOn
import HandS.ForMost
import HandS.Wide
import HandS.Style
import HandS.EndBits
import KE.KExcTry
import KE.KExcStr
import HandS.ForExc
import HandS.ExcValue
import HandS.IsInst
import HandS.ExcIs
import HandS.Conv
import PyProof.ReprLen
import PyProof.ReprReads
import PyProof.ReprRoads
import HandS.WordsExc
import HandS.HotCalls
import HandS.DeepEq
import HandS.Words
import PySem.Challenge.RW_mustwait_k01_errors
set_option Elab.async false
set_option linter.all false
set_option maxRecDepth 100000
set_option maxHeartbeats 4000000
-- ===== K01A =====
namespace My
open PySem L2
def top (i : Nat) : Stmt := PySem.Challenge.pw_mustwait_k01_errors.main.body.getD i (.Pass ⟨0, 0, 0, 0⟩)
abbrev sFeed : Stmt := top 13
abbrev sDigit : Stmt := top 14

/-- bits of the script's numbers -/
def Bits (ks : List Int) : Prop := ∀ k ∈ ks, Builtin.Int.intBits k ≤ 1048576
/-- a feed at p: its numbers at c, the mixed number, how many draws there were -/
structure FeedAt (H : Hp) (p c : Addr) (ks : List Int) (w n : Int) : Prop where
  ob : H p = some (.lst [.ref c, .int w, .int n])
  cs : H c = some (.lst (ks.map V.int))
  bits : Bits ks
  len : ks.length ≤ 62
  w0 : 0 ≤ w
  w1 : w < 2147483648
  n0 : 0 ≤ n
theorem FeedAt.ne {H : Hp} {p c : Addr} {ks : List Int} {w n : Int} (F : FeedAt H p c ks w n) : c ≠ p := by
  intro e
  have h1 := F.ob
  have h2 := F.cs
  rw [e, h1] at h2
  have h3 := HO.lst.inj (Option.some.inj h2)
  cases ks with
  | nil => cases h3
  | cons k r =>
    injection h3 with h4 _
    cases h4
/-- all that was tracked is as it was, but for these two -/
def Save (p c : Addr) (H H' : Hp) : Prop := ∀ b o, H b = some o → b ≠ p → b ≠ c → H' b = some o
theorem Save.refl (p c : Addr) (H : Hp) : Save p c H H := fun _ _ h _ _ => h
theorem Save.trans {p c : Addr} {H H1 H2 : Hp} (a : Save p c H H1) (b : Save p c H1 H2) : Save p c H H2 := fun x o h h1 h2 => b x o (a x o h h1 h2) h1 h2
theorem Save.of {p c : Addr} {H H1 : Hp} (a : Same H H1) : Save p c H H1 := fun x o h _ _ => a x o h

/-- _law_feed(script): a new feed -/
def spFeed (K : PySem.W.Frag) : Sp := fun vs H Q _ => ∃ (a : Addr) (ns : List Int), vs = [.ref a] ∧ SqL K H a (ns.map V.int) ∧ ns.length ≤ 63 ∧ Bits ns ∧
  ∀ (p c : Addr) (ks : List Int) (w : Int) (H' : Hp), Same H H' → H p = none → H c = none → FeedAt H' p c ks w 0 → Q (.ref p) H'
/-- _law_digit(feed, many): a number below many -/
def spDigit : Sp := fun vs H Q _ => ∃ (p c : Addr) (ks : List Int) (w n m : Int), vs = [.ref p, .int m] ∧ FeedAt H p c ks w n ∧ n < 1000000 ∧ 0 < m ∧ m < 1000000 ∧
  ∀ (i : Int) (ks' : List Int) (H' : Hp), 0 ≤ i → i < m → FeedAt H' p c ks' w (n + 1) → Save p c H H' → Q (.int i) H'

theorem cut62 (xs : List V) : cutV xs none (some (62 : Int)) = xs.take 62 := by
  unfold cutV HT.sIx
  simp [List.take_eq_take_min]
theorem lay_ints : ∀ ks : List Int, PyData.canLayAll0 (ks.map PyData.int) = true
  | [] => by simp only [List.map_nil, PyData.canLayAll0]
  | k :: r => by simp only [List.map_cons, PyData.canLayAll0, PyData.canLay0, lay_ints r, Bool.and_self]
theorem deep_ints : ∀ ks : List Int, PyData.depthAll (ks.map PyData.int) ≤ 1
  | [] => by simp only [List.map_nil, PyData.depthAll]; omega
  | k :: r => by
    have ih := deep_ints r
    simp only [List.map_cons, PyData.depthAll, PyData.depth]
    omega
theorem shaped_ints (ks : List Int) : SeqAt.shaped (.list (ks.map PyData.int)) = true := by
  have h := deep_ints ks
  unfold SeqAt.shaped
  rw [Bool.and_eq_true]
  refine ⟨by simp only [PyData.canLay0, lay_ints], decide_eq_true ?_⟩
  simp only [PyData.depth]
  omega
theorem dp_ints {K : PySem.W.Frag} {H : Hp} : ∀ ks : List Int, DpAll K H (ks.map V.int) (ks.map PyData.int)
  | [] => .nil
  | k :: r => .cons (.int k) (dp_ints r)
theorem some_ints : ∀ (ks : List Int) (z : Int), PyData.eqv (.list ((ks ++ [z]).map PyData.int)) (.list []) = false
  | [], z => by simp [PyData.eqv, PyData.eqvAll]
  | k :: r, z => by simp [PyData.eqv, PyData.eqvAll]
theorem bits_mono {i j : Int} (h0 : 0 ≤ i) (h : i ≤ j) : Builtin.Int.intBits i ≤ Builtin.Int.intBits j := by
  unfold Builtin.Int.intBits
  by_cases e : i = 0
  · subst e
    simp
  · have ej : ¬ j = 0 := by omega
    have e1 : (i == 0) = false := by simpa using e
    have e2 : (j == 0) = false := by simpa using ej
    rw [e1, e2]
    have h2 : i.natAbs ≤ j.natAbs := by omega
    have h3 : i.natAbs ≠ 0 := by omega
    have h4 : j.natAbs ≠ 0 := by omega
    have := (Nat.le_log2 h4).mpr (Nat.le_trans (Nat.log2_self_le h3) h2)
    simp
    exact this
section
variable {P : Program} {w : World} {K : PySem.W.Frag} {mg : Str → Option Value} {base : Heap}
theorem scF : FnScope ["_law_script", "_law_cells", "_law_whole", "_law_figure"] ["_law_script"] (defScope sFeed) := ⟨rfl, rfl, rfl, by decide +kernel, rfl, by decide +kernel, by decide +kernel⟩
theorem ok_feed {f : Addr} {fd : FuncData} (F : Fun K "_law_feed" "_law_feed" sFeed f fd) (mlist : mg "list" = none) : FnOk P w K mg base CX0 1 f fd ["_law_script"] (spFeed K) := by
  refine F.ok scF (fun vs H Q E h => ?_) (fun cdv A outer s H vs Q E hr h => ?_)
  · obtain ⟨a, ns, rfl, _⟩ := h
    rfl
  · obtain ⟨a, ns, rfl, hS, hlen, hbits, k⟩ := h
    refine ⟨_, pss_cons (ps_par (i := 1) (j := 2) rfl scF.nd rfl rfl (by decide) rfl rfl
        (pa_cons (pe_callTy call_list_of (by rfl) mlist (by decide +kernel) (pa_cons (pe_slice sl_list (pv 0) po_none (po_some pe_int)) pa_nil)) (pa_cons pe_int pa_nil)) (by rfl))
      (pss_cons (ps_for PassesOwn.never rfl (pi_list (pv 1)) (pg_name (i := 3) scF.nd rfl (Or.inl rfl))
        (pss_one (ps_set (i := 2) scF.nd rfl (Or.inl rfl)
          (pe_op op_mod (pe_op op_add (pe_op op_add (pe_op op_mul (pv 2) pe_int) (pe_op op_mod (pv 3) pe_int)) pe_int) pe_int))))
      (pss_one (ps_ret (pe_lst (pa_cons (pe_revL (pv 1)) (pa_cons (pv 2) (pa_cons pe_int pa_nil))))))), ?_⟩
    -- list(script[:62]), 40001
    refine ⟨_, rfl, 62, rfl, a, _, rfl, hS, fun q hq => ⟨q, _, rfl, .inl (SqL.of upd_same), fun l hl => ⟨_, _, rfl, ?_⟩⟩⟩
    have nlq : l ≠ q := fun e => by
      rw [e, upd_same] at hl
      cases hl
    have hl0 : H l = none := by
      rw [upd_ne nlq] at hl
      exact hl
    have s0 : Same H (upd (upd H q (.lst (cutV (ns.map V.int) none (some 62)))) l (.lst (cutV (ns.map V.int) none (some 62)))) := fun b o e => by
      rw [upd_ne (ne_of_none e hl0), upd_ne (ne_of_none e hq)]
      exact e
    have ecut : cutV (ns.map V.int) none (some 62) = (ns.take 62).map V.int := by rw [cut62, List.map_take]
    -- for figure in cells
    refine ⟨_, rfl, l, rfl, ⟨_, SqL.of upd_same⟩, for_list (K := K) (a := l) (xs := (ns.take 62).map V.int) (fun i σ H2 => ∃ (y : Int) (v : Option V), σ = [some (.ref a), some (.ref l), some (.int y), v] ∧ 0 ≤ y ∧ y < 2147483629 ∧ Same H H2 ∧ H2 l = some (.lst ((ns.take 62).map V.int)))
      ⟨40001, none, rfl, by decide, by decide, s0, by rw [upd_same, ecut]⟩ (fun i σ H2 _ ⟨_, _, _, _, _, _, e⟩ => SqL.of e) ?_ ?_⟩
    · rintro i x σ H2 hi ⟨y, v, rfl, y0, y1, s2, hc⟩
      obtain ⟨z, rfl⟩ : ∃ z, x = V.int z := by
        rw [List.getElem?_map] at hi
        cases e : (ns.take 62)[i]? with
        | none =>
          rw [e] at hi
          cases hi
        | some z =>
          rw [e] at hi
          exact ⟨z, (Option.some.inj hi).symm⟩
      refine ⟨_, rfl, _, _, rfl, rfl, .inl ⟨by omega, by omega⟩, _, rfl, _, _, rfl, rfl, (by show (0 : Int) < _; decide), _, _, rfl, rfl, _, _, rfl, rfl, _, _, rfl, rfl, (by show (0 : Int) < _; decide), ?_⟩
      exact ⟨_, _, rfl, Int.emod_nonneg _ (by decide), Int.emod_lt_of_pos _ (by decide), s2, hc⟩
    · rintro σ H2 ⟨y, v, rfl, y0, y1, s2, hc⟩
      refine ⟨_, rfl, l, _, rfl, SqL.of hc, fun c hcn => ⟨_, rfl, by show 3 ≤ sizeLine; decide, fun p hp => ?_⟩⟩
      have npc : p ≠ c := fun e => by
        rw [e, upd_same] at hp
        cases hp
      have hp0 : H2 p = none := by
        rw [upd_ne npc] at hp
        exact hp
      refine k p c (ns.take 62).reverse y _ (fun b o e => ?_) (s2.free hp0) (s2.free hcn) ⟨upd_same, ?_, ?_, ?_, y0, by omega, by decide⟩
      · rw [upd_ne (ne_of_none (s2 b o e) hp0), upd_ne (ne_of_none (s2 b o e) hcn)]
        exact s2 b o e
      · rw [upd_ne (Ne.symm npc), upd_same, List.map_reverse]
      · exact fun z hz => hbits z (List.mem_of_mem_take (List.mem_reverse.mp hz))
      · rw [List.length_reverse, List.length_take]
        omega
theorem scD : FnScope ["_law_feed_here", "_law_many", "_law_mix", "_law_figure"] ["_law_feed_here", "_law_many"] (defScope sDigit) := ⟨rfl, rfl, rfl, by decide +kernel, rfl, by decide +kernel, by decide +kernel⟩
theorem ok_digit {f : Addr} {fd : FuncData} (F : Fun K "_law_digit" "_law_digit" sDigit f fd) : FnOk P w K mg base CX0 1 f fd ["_law_feed_here", "_law_many"] spDigit := by
  refine F.ok scD (fun vs H Q E h => ?_) (fun cdv A outer s H vs Q E hr h => ?_)
  · obtain ⟨p, c, ks, y, n, m, rfl, _⟩ := h
    rfl
  · obtain ⟨p, c, ks, y, n, m, rfl, FA, hn, m0, m1, k⟩ := h
    have hu := hu_of hr
    have ncp := FA.ne
    have w0 := FA.w0
    have w1 := FA.w1
    have n0 := FA.n0
    refine ⟨_, pss_cons (ps_asg (pe_op op_add (pe_ix ix_list (pv 0) pe_int (fun _ _ => rfl)) pe_int) (pg_sub (pv 0) pe_int set_list))
      (pss_cons (ps_set (i := 2) scD.nd rfl (Or.inl rfl) (pe_op op_add (pe_ix ix_list (pv 0) pe_int (fun _ _ => rfl)) (pe_op op_mul (pe_op op_mul pe_int (pe_ix ix_list (pv 0) pe_int (fun _ _ => rfl))) (pe_ix ix_list (pv 0) pe_int (fun _ _ => rfl)))))
      (pss_cons (ps_if (pt_cmpR (op_neD hr.units) (pe_ix ix_list (pv 0) pe_int (fun _ _ => rfl)) (pe_lst pa_nil) (nomark _))
        (pss_cons (ps_set (i := 3) scD.nd rfl (Or.inl rfl) (pe_bm0 PySem.F.plainAttrs_list PySem.F.slot_list_pop PySem.F.type_list_pop mt_pop (pe_ix ix_list (pv 0) pe_int (fun _ _ => rfl))))
        (pss_cons (ps_if (pt_cmpR op_ge (pv 3) (pe_op op_pow pe_int pe_int) (nomark _))
          (pss_cons (ps_expr (pe_bm PySem.F.plainAttrs_list PySem.F.slot_list_append PySem.F.type_list_append mt_append (pe_ix ix_list (pv 0) pe_int (fun _ _ => rfl)) (pa_cons (pe_op op_fdivW (pv 3) (pv 1)) pa_nil)))
          (pss_one (ps_ret (pe_op op_mod (pv 3) (pv 1))))) pss_nil)
        (pss_one (ps_set (i := 2) scD.nd rfl (Or.inl rfl) (pe_op op_add (pv 2) (pv 3)))))) pss_nil)
      (pss_cons (ps_set (i := 2) scD.nd rfl (Or.inl rfl) (pe_op op_mod (pe_op op_mul (pe_op op_mod (pv 2) pe_int) pe_int) pe_int))
      (pss_cons (ps_set (i := 2) scD.nd rfl (Or.inl rfl) (pe_op op_mod (pe_op op_add (pe_op op_add (pe_op op_mul (pv 2) (pv 2)) (pe_op op_mul pe_int (pv 2))) pe_int) pe_int))
      (pss_one (ps_ret (pe_op op_mod (pe_op op_fdiv (pe_op op_mod (pe_op op_mul (pv 2) pe_int) pe_int) pe_int) (pv 1)))))))), ?_⟩
    -- feed[2] = feed[2] + 1
    refine ⟨_, rfl, p, _, 2, .int n, rfl, rfl, SqL.of FA.ob, rfl, _, _, rfl, rfl, _, rfl, p, _, _, 2, rfl, rfl, FA.ob, rfl, ?_⟩
    have hp1 : (upd H p (.lst ([V.ref c, .int y, .int n].set 2 (.int (n + 1))))) p = some (.lst [V.ref c, .int y, .int (n + 1)]) := upd_same
    have hc1 : (upd H p (.lst ([V.ref c, .int y, .int n].set 2 (.int (n + 1))))) c = some (.lst (ks.map V.int)) := by
      rw [upd_ne ncp]
      exact FA.cs
    have sv1 : Save p c H (upd H p (.lst ([V.ref c, .int y, .int n].set 2 (.int (n + 1))))) := fun b o e h1 _ => by
      rw [upd_ne h1]
      exact e
    generalize upd H p (.lst ([V.ref c, .int y, .int n].set 2 (.int (n + 1)))) = H1 at hp1 hc1 sv1 ⊢
    -- mix = feed[1] + 61843 * feed[2] * feed[2]
    refine ⟨_, rfl, p, _, 1, .int y, rfl, rfl, SqL.of hp1, rfl, _, rfl, p, _, 2, .int (n + 1), rfl, rfl, SqL.of hp1, rfl, _, _, rfl, rfl, .inl ⟨by decide, by decide⟩, _, rfl, p, _, 2, .int (n + 1), rfl, rfl, SqL.of hp1, rfl, _, _, rfl, rfl, .inl ⟨by omega, by omega⟩, _, _, rfl, rfl, ?_⟩
    generalize y + 61843 * (n + 1) * (n + 1) = mix
    -- if feed[0] != []
    refine ⟨_, rfl, p, _, 0, .ref c, rfl, rfl, SqL.of hp1, rfl, by show 0 ≤ sizeLine; decide, fun e he => ?_⟩
    refine ⟨.list (ks.map PyData.int), .list [], .lst (SqL.of (by rw [upd_ne (ne_of_none hc1 he)]; exact hc1)) (dp_ints ks), .lst (SqL.of upd_same) .nil, shaped_ints ks, by decide, _, rfl, ?_⟩
    have nce : c ≠ e := ne_of_none hc1 he
    have npe : p ≠ e := ne_of_none hp1 he
    have hp2 : (upd H1 e (.lst [])) p = some (.lst [V.ref c, .int y, .int (n + 1)]) := by
      rw [upd_ne npe]
      exact hp1
    have hc2 : (upd H1 e (.lst [])) c = some (.lst (ks.map V.int)) := by
      rw [upd_ne nce]
      exact hc1
    have sv2 : Save p c H (upd H1 e (.lst [])) := fun b o q h1 h2 => by
      have q1 := sv1 b o q h1 h2
      rw [upd_ne (ne_of_none q1 he)]
      exact q1
    generalize upd H1 e (.lst []) = H2 at hp2 hc2 sv2 ⊢
    have hbit := FA.bits
    have hlen := FA.len
    clear FA
    rcases List.eq_nil_or_concat ks with rfl | ⟨r, z, rfl⟩
    · have hb : (!PyData.eqv (.list (([] : List Int).map PyData.int)) (.list [])) = false := by decide
      rw [hb]
      refine iteF ?_
      refine ⟨_, rfl, _, _, rfl, rfl, (by show (0 : Int) < _; decide), _, _, rfl, rfl, .inl ⟨by omega, by omega⟩, _, _, rfl, rfl, (by show (0 : Int) < _; decide), ?_⟩
      have b0 := Int.emod_nonneg (mix % 2147483563 * 48271) (show (2147483647 : Int) ≠ 0 by decide)
      have b1 := Int.emod_lt_of_pos (mix % 2147483563 * 48271) (show (0 : Int) < 2147483647 by decide)
      generalize mix % 2147483563 * 48271 % 2147483647 = g at b0 b1 ⊢
      refine ⟨_, rfl, _, rfl, _, _, rfl, rfl, .inl ⟨by omega, by omega⟩, _, rfl, _, _, rfl, rfl, .inl ⟨by decide, by decide⟩, _, _, rfl, rfl, _, _, rfl, rfl, _, _, rfl, rfl, (by show (0 : Int) < _; decide), ?_⟩
      have d0 := Int.emod_nonneg (g * g + 39373 * g + 101) (show (2147483587 : Int) ≠ 0 by decide)
      have d1 := Int.emod_lt_of_pos (g * g + 39373 * g + 101) (show (0 : Int) < 2147483587 by decide)
      generalize (g * g + 39373 * g + 101) % 2147483587 = j at d0 d1 ⊢
      refine ⟨_, rfl, _, _, rfl, rfl, .inl ⟨by omega, by omega⟩, _, _, rfl, rfl, (by show (0 : Int) < _; decide), _, _, rfl, rfl, ⟨by decide, by decide⟩, _, rfl, _, _, rfl, rfl, m0, ?_⟩
      exact k _ [] H2 (Int.emod_nonneg _ (by omega)) (Int.emod_lt_of_pos _ m0) ⟨hp2, hc2, hbit, hlen, w0, w1, by omega⟩ sv2
    · rw [List.concat_eq_append] at hc2 hbit hlen ⊢
      have hb : (!PyData.eqv (.list ((r ++ [z]).map PyData.int)) (.list [])) = true := by rw [some_ints] <;> rfl
      rw [hb]
      refine iteT ?_
      rw [List.map_append] at hc2
      -- figure = feed[0].pop()
      have hc2' : H2 c = some (.lst (r.map V.int ++ [V.int z])) := hc2
      have hbr : Bits r := fun v hv => hbit v (List.mem_append_left _ hv)
      have hbz : Builtin.Int.intBits z ≤ 1048576 := hbit z (List.mem_append_right _ List.mem_cons_self)
      have hlr : r.length + 1 ≤ 62 := by
        rw [List.length_append] at hlen
        exact hlen
      refine ⟨_, rfl, p, _, 0, .ref c, rfl, rfl, SqL.of hp2, rfl, .inl ⟨rfl, _, SqL.of hc2'⟩, c, _, .int z, rfl, rfl, hc2', by simp, ?_⟩
      rw [List.dropLast_concat]
      have hp3 : (upd H2 c (.lst (r.map V.int))) p = some (.lst [V.ref c, .int y, .int (n + 1)]) := by
        rw [upd_ne (Ne.symm ncp)]
        exact hp2
      have hc3 : (upd H2 c (.lst (r.map V.int))) c = some (.lst (r.map V.int)) := upd_same
      have sv3 : Save p c H (upd H2 c (.lst (r.map V.int))) := fun b o q h1 h2 => by
        rw [upd_ne h2]
        exact sv2 b o q h1 h2
      generalize upd H2 c (.lst (r.map V.int)) = H3 at hp3 hc3 sv3 ⊢
      -- if figure >= 10 ** 18
      refine ⟨_, rfl, _, _, rfl, rfl, ⟨by decide, by decide, by decide⟩, _, _, rfl, rfl, _, rfl, ?_⟩
      by_cases big : (10 : Int) ^ ((18 : Int).toNat) ≤ z
      · rw [decide_eq_true big]
        refine iteT ?_
        have zb : (0 : Int) ≤ z := Int.le_trans (by decide) big
        -- feed[0].append(figure // many); return figure % many
        refine ⟨_, rfl, p, _, 0, .ref c, rfl, rfl, SqL.of hp3, rfl, .inl ⟨rfl, _, SqL.of hc3⟩, _, rfl, _, rfl, _, _, rfl, rfl, wide_div m0 (b := 30) (by omega) (by decide) (by decide), c, _, _, rfl, rfl, hc3, small1000 (by rw [List.length_map]; omega), ?_⟩
        refine ⟨_, rfl, _, rfl, _, _, rfl, rfl, m0, ?_⟩
        refine k _ (r ++ [z / m]) _ (Int.emod_nonneg _ (by omega)) (Int.emod_lt_of_pos _ m0) ⟨by rw [upd_ne (Ne.symm ncp)]; exact hp3, by rw [upd_same, List.map_append] <;> rfl, fun v hv => ?_, by rw [List.length_append]; exact hlr, w0, w1, by omega⟩ fun b o q h1 h2 => ?_
        · rcases List.mem_append.mp hv with hv | hv
          · exact hbr v hv
          · obtain rfl : v = z / m := by simpa using hv
            exact Nat.le_trans (bits_mono (Int.ediv_nonneg zb (by omega)) (Int.ediv_le_self _ zb)) hbz
        · rw [upd_ne h2]
          exact sv3 b o q h1 h2
      · rw [decide_eq_false big]
        refine iteF ?_
        refine ⟨_, rfl, _, rfl, _, _, rfl, rfl, ?_⟩
        refine ⟨_, rfl, _, _, rfl, rfl, (by show (0 : Int) < _; decide), _, _, rfl, rfl, .inl ⟨by omega, by omega⟩, _, _, rfl, rfl, (by show (0 : Int) < _; decide), ?_⟩
        have b0 := Int.emod_nonneg ((mix + z) % 2147483563 * 48271) (show (2147483647 : Int) ≠ 0 by decide)
        have b1 := Int.emod_lt_of_pos ((mix + z) % 2147483563 * 48271) (show (0 : Int) < 2147483647 by decide)
        generalize (mix + z) % 2147483563 * 48271 % 2147483647 = g at b0 b1 ⊢
        refine ⟨_, rfl, _, rfl, _, _, rfl, rfl, .inl ⟨by omega, by omega⟩, _, rfl, _, _, rfl, rfl, .inl ⟨by decide, by decide⟩, _, _, rfl, rfl, _, _, rfl, rfl, _, _, rfl, rfl, (by show (0 : Int) < _; decide), ?_⟩
        have d0 := Int.emod_nonneg (g * g + 39373 * g + 101) (show (2147483587 : Int) ≠ 0 by decide)
        have d1 := Int.emod_lt_of_pos (g * g + 39373 * g + 101) (show (0 : Int) < 2147483587 by decide)
        generalize (g * g + 39373 * g + 101) % 2147483587 = j at d0 d1 ⊢
        refine ⟨_, rfl, _, _, rfl, rfl, .inl ⟨by omega, by omega⟩, _, _, rfl, rfl, (by show (0 : Int) < _; decide), _, _, rfl, rfl, ⟨by decide, by decide⟩, _, rfl, _, _, rfl, rfl, m0, ?_⟩
        exact k _ r H3 (Int.emod_nonneg _ (by omega)) (Int.emod_lt_of_pos _ m0) ⟨hp3, hc3, hbr, by omega, w0, w1, by omega⟩ sv3
end
end My
-- ===== KwExc =====
namespace My
open PySem PySem.W PySem.Calls PyProof.Rows PySem.PX
section
variable {prog : Program} {w : World} {M : Model} {A : Around} {E : Value → Shared → Prop} {R : Result → Shared → Prop} {h : Heap} {g : Array GenState} {d : Drawn} {t : Nat} {os : OsState}
variable {nm q : Str} {C N : Addr} {bs bm bmB : List Value} {hdct : Bool} {sn : List Str} {sub : List Value} {ab : Bool} {col : Option Bool} {dd : Option Addr} {k0 k1 k2 k3 k5 : Option Value} {B newId initId : String}
/-- the checks ahead of BaseException.__new__(C, n = v) -/
theorem kw_check_new (F : ExcBaseFacts B newId initId bmB) (hT : ∀ X : String, bm.contains (.type X) = bmB.contains (.type X)) {n : Str} {v : Value} {Q : Unit → Shared → Prop}
    (hC : h.get? C = some (excClassObj nm q C N bs bm hdct sn sub ab col dd k0 k1 k2 k3 k5 newId)) (hq : Q () ⟨h, g, d, t, os⟩) :
    wpAny M A (checkBuiltinCall newId ⟨[.ref C], [(n, v)]⟩) Q E ⟨h, g, d, t, os⟩ := by
  have has : (Value.ref C :: bm).contains (.type B) = true := by rw [List.contains_cons, hT, F.hasB, Bool.or_true]
  have star := F.noStar
  simp only [checkBuiltinCall, F.newKind, F.newSplit, F.newRow]
  repeat (first | refine wpAny_loadPart_at hC ?_ | (refine wpAny_isSubtype_exc hC ?_; rw [has]) | refine wpAny_staticBase_exc hC ?_ | refine wpAny_madeBy_exc hC ?_ | simp only [bne_self_eq_false, Bool.false_eq_true, if_false] | wp_step)
  exact hq
/-- BaseException.__new__(C, n = v): the keyword is passed over -/
theorem kw_new (F : ExcBaseFacts B newId initId bmB) (hT : ∀ X : String, bm.contains (.type X) = bmB.contains (.type X)) {n : Str} {v : Value}
    (hC : h.get? C = some (excClassObj nm q C N bs bm hdct sn sub ab col dd k0 k1 k2 k3 k5 newId))
    (hq : R (.ok (.ret (.ref (h.objs.size + 1)))) ⟨(h.push (kdv_tup [])).push (excO C h.objs.size), g, d, t, os⟩) :
    codeAny (model prog w) A (.builtin newId ⟨[.ref C], [(n, v)]⟩) R ⟨h, g, d, t, os⟩ := by
  have ends := F.ends
  have isB : (Value.ref C :: bm).contains (.type B) = true := by rw [List.contains_cons, hT, F.hasB, Bool.or_true]
  have isA : (Value.ref C :: bm).contains (.type "AttributeError") = false := by
    rw [List.contains_cons, hT, F.noAttr]
    rfl
  have isN : (Value.ref C :: bm).contains (.type "NameError") = false := by
    rw [List.contains_cons, hT, F.noName]
    rfl
  refine codeAny_builtinAt F.entry ?_
  unfold Builtin.«BaseException.__new__»
  refine PySem.wpAt_bind ?_
  show PySem.wpAt _ _ _ (stack >>= _) _ _ _
  refine PySem.wpAt_bind (PySem.wpAt_stack fun p below => PySem.wpAt_of_wpAny ?_)
  wp_walk
  refine PySem.wpAt_of_wpAny ?_
  rw [F.owner]
  repeat (first | with_reducible refine wpAny_madeHere_exc F.canon hC ?_ | with_reducible refine wpAny_loadPart_at hC ?_ | (with_reducible refine wpAny_isSubtype_exc hC ?_; first | rw [isB] | rw [isA] | rw [isN]) | wp_step)
  all_goals (show R _ _; rw [Heap.size_push]; exact hq)
theorem kw_type_call (F : ExcBaseFacts B newId initId bmB) (hT : ∀ X : String, bm.contains (.type X) = bmB.contains (.type X)) {n : Str} {v : Value} {fI : Addr} {Q : Fin → Shared → Prop}
    (hC : h.get? C = some (excClassObj nm q C N bs bm hdct sn sub ab col dd k0 k1 k2 k3 k5 newId))
    (hi : Looks (model prog w) h (typeLookup (.ref C) "__init__") (some (.ref fI))) (hb : ∀ self, Looks (model prog w) h (bindSpecial (.ref fI) self) (.ref fI, [self]))
    (hq : codeAny (model prog w) A (.call (.ref fI) ⟨[.ref (h.objs.size + 1)], [(n, v)]⟩)
      (fun r s' => match r with | .ok (.ret y) => y = .none ∧ Q (.done (.ret (.ref (h.objs.size + 1)))) s' | .ok _ => False | .error e => E e s')
      ⟨(h.push (kdv_tup [])).push (excO C h.objs.size), g, d, t, os⟩) :
    wpAny (model prog w) A (Builtin.«type.__call__» ⟨[.ref C], [(n, v)]⟩) Q E ⟨h, g, d, t, os⟩ := by
  repeat (first | with_reducible refine wpAny_loadPart_at hC ?_ | with_reducible refine wpAny_madeBy_exc hC ?_ | wp_step)
  refine codeAny_call_builtin_code (Code.quiet_builtin _ F.quiet) (kw_check_new F hT hC ?_)
  refine kw_new F hT hC ?_
  show wpAny _ _ _ _ _ _
  have k : ∀ b o, h.get? b = some o → ((h.push (kdv_tup [])).push (excO C h.objs.size)).get? b = some o := fun b o e => Heap.get?_push_of_some _ (Heap.get?_push_of_some _ e)
  have atC := k _ _ hC
  have atE : ((h.push (kdv_tup [])).push (excO C h.objs.size)).get? (h.objs.size + 1) = some (excO C h.objs.size) := by heap_get
  have isC : (Value.ref C :: bm).contains (.ref C) = true := by simp
  have i1 := hi.keeps k
  have b1 := (hb (.ref (h.objs.size + 1))).keeps k
  unfold isInstance
  repeat (first | with_reducible refine wpAny_loadPart_at atE ?_ | (with_reducible refine wpAny_isSubtype_exc atC ?_; rw [isC]) | wp_step)
  show wpAny _ _ (typeLookup (.ref C) _) _ _ _
  refine i1.at ?_
  refine wpAny_holding (wpAny_bind (b1.at ?_))
  refine wpAny_bind (wpAny_call (codeAny_mono hq fun r s' z => ?_))
  rcases r with e | (y | _ | _ | _) <;> first | exact z | exact z.elim | skip
  obtain ⟨rfl, z⟩ := z
  first
    | exact wpAny_pure (wpAny_pure z)
    | (wp_walk; exact z)
theorem kw_check_call {n : Str} {v : Value} {Q : Unit → Shared → Prop} (hC : h.get? C = some (excClassObj nm q C N bs bm hdct sn sub ab col dd k0 k1 k2 k3 k5 newId))
    (hq : Q () ⟨h, g, d, t, os⟩) : wpAny M A (checkBuiltinCall "type.__call__" ⟨[.ref C], [(n, v)]⟩) Q E ⟨h, g, d, t, os⟩ := by
  have f3 := tc_sub
  have isT : (⟨h, g, d, t, os⟩ : Shared).TypeIs (.ref C) "type" := ⟨_, hC, rfl⟩
  simp only [checkBuiltinCall, tc_kind, tc_split]
  repeat (any_goals (first | assumption | with_reducible refine wpAny_loadPart_at hC ?_ | with_reducible refine wpAny_onRaise ?_ | with_reducible refine wpAny_map ?_ | wp_step))
theorem kw_call_own (F : ExcBaseFacts B newId initId bmB) (hT : ∀ X : String, bm.contains (.type X) = bmB.contains (.type X)) {n : Str} {v : Value} {fI : Addr}
    (hC : h.get? C = some (excClassObj nm q C N bs bm hdct sn sub ab col dd k0 k1 k2 k3 k5 newId))
    (hi : Looks (model prog w) h (typeLookup (.ref C) "__init__") (some (.ref fI))) (hb : ∀ self, Looks (model prog w) h (bindSpecial (.ref fI) self) (.ref fI, [self]))
    (hq : codeAny (model prog w) (A.under (.builtin "type.__call__" ⟨[.ref C], [(n, v)]⟩)) (.call (.ref fI) ⟨[.ref (h.objs.size + 1)], [(n, v)]⟩) (InitBack (h.objs.size + 1) R)
      ⟨(h.push (kdv_tup [])).push (excO C h.objs.size), g, d, t, os⟩) :
    codeAny (model prog w) A (.call (.ref C) ⟨[], [(n, v)]⟩) R ⟨h, g, d, t, os⟩ := by
  have f1 := tc_lookup
  have f2 := tc_bind (.ref C)
  have isT : (⟨h, g, d, t, os⟩ : Shared).TypeIs (.ref C) "type" := ⟨_, hC, rfl⟩
  refine codeAny_of_tree ?_
  show wpAny _ _ (callAny (.ref C) _) _ _ _
  repeat (any_goals (first | assumption | with_reducible refine wpAny_loadPart_at hC ?_ | wp_step))
  refine ⟨rfl, ?_⟩
  refine codeAny_call_builtin_at (Code.quiet_builtin _ (by decide +kernel)) entry_typeCall (kw_check_call hC (kw_type_call F hT hC hi hb ?_))
  refine codeAny_mono hq fun r s' z => ?_
  rcases r with e | (y | _ | _ | _) <;> exact z
end
section
variable {prog : Program} {w : World} {A : Around} {E : Value → Shared → Prop} {s : Shared} {K : Frag} {C L : Addr} {h₀ : Heap} {m : Str → Option Value} {news : List (Addr × Obj)} {B newId initId : String} {bmB : List Value}
/-- C(n = v), an exception class of the program's with an own __init__ -/
theorem kw_call_exc {n : Str} {v : Value} {fI : Addr} {Q : Value → Shared → Prop} (F : Fr h₀ L s.heap m) (X₀ : K.In h₀) (N : News h₀ L s.heap news) (FB : ExcBaseFacts B newId initId bmB) (hi : findIn K (.ref C) "__init__" = some (some (.ref fI)))
    (q : excInitIn K C bmB newId = true) (hf : isFn K (.ref fI) = true)
    (k : ∀ e t h', Fr h₀ L h' m → News h₀ L h' ((e, excObj C t none .none) :: (t, excTup []) :: news) → AllNe e news → AllNe t news → e ≠ t →
      codeAny (model prog w) (A.under (.builtin "type.__call__" ⟨[.ref C], [(n, v)]⟩)) (.call (.ref fI) ⟨[.ref e], [(n, v)]⟩) (InitBack e fun r s' => match r with | .ok (.ret y) => Q y s' | .ok _ => False | .error x => E x s') { s with heap := h' }) :
    wpAny (model prog w) A (call (.ref C) [] [(n, v)]) Q E s := by
  have XH := X₀.keeps F.keep
  obtain ⟨nm, N', qn, bs, bm, hdct, sn, sub, ab, col, dd, k0, k1, k2, k3, k5, hC, hT⟩ := excInit_of XH q
  obtain ⟨oI, hoI, hcI⟩ : ∃ oI, s.heap.get? fI = some oI ∧ oI.cls = .type "function" := by
    obtain ⟨o, ho, hc⟩ := Option.map_eq_some_iff.mp (show (K.lookup fI).map (·.cls) = some (.type "function") from beq_iff_eq.mp hf)
    exact ⟨o, XH _ _ ho, hc⟩
  have hi' : Looks (model prog w) s.heap (typeLookup (.ref C) "__init__") (some (.ref fI)) := looks_findIn XH hi
  obtain ⟨F2, N2, ne, nt⟩ := exc_two (o1 := excTup []) (o2 := excObj C s.heap.objs.size none .none) F N rfl rfl
  obtain ⟨hh, g, d, tk, os⟩ := s
  refine wpAny_call (kw_call_own FB hT hC hi' (fun self => exc_bind hoI hcI self) (codeAny_mono (k _ _ _ F2 N2 ne nt (Nat.succ_ne_self _)) fun r s' z => ?_))
  rcases r with x | (y | _ | _ | _) <;> first | exact z | exact z.elim
end
/-- a def that is called with one argument by place and one by name -/
theorem kw_code {prog : Program} {w : World} {A A₀ : Around} {s : Shared} {K : Frag} {h₀ base : Heap} {L : Addr} {m : Str → Option Value} {news : List (Addr × Obj)} {p : Program} {loose : List Str} {mean : ExcName → Option Value} {mg mb : Str → Option Value}
    {env : Env} {outer : List Env} {R : Result → Shared → Prop} {name qual x0 n : Str} {a v : Value} {params : Arguments} {body : List Stmt} {scope : Scope} {dV kV doc pm cdv ct oc : Value} {an od : Option Addr} {osl : Array (Option Value)} {f : Addr}
    (B : Below A₀ base outer h₀) (F : Fr h₀ L s.heap m) (X₀ : K.In h₀) (N : News h₀ L s.heap news) (T : Top p loose mean mg mb h₀) (hA : A.frames = some (env :: outer)) (hf : env.frame = some L) (hke : env.scope.kind = .function)
    (ho : K.lookup f = some ⟨oc, od, .func (fnOf name qual params body scope dV kV doc pm an cdv ct), osl⟩) (hcd : codeIn K cdv qual = true) (hroom : A.depth < recursionLimit)
    (_hp : (params.args.map (·.arg)).head? = some x0)
    (hbind : BindsTo s (fnOf name qual params body scope dV kV doc pm an cdv ct) ⟨[a], [(n, v)]⟩ [(x0, a), (n, v)]) (hl0 : scope.names.lookup x0 = some .local) (hl1 : scope.names.lookup n = some .local)
    (k : ∀ g L' h₁, Fr h₀ L g m → Fr g L' h₁ (fun y => [(x0, a), (n, v)].reverse.lookup y) → News g L' h₁ news → Below A base (env :: outer) g → K.In g → Top p loose mean mg mb g →
      wpAny (model prog w) (A.deeper (envOf qual scope L' f cdv)) (execs body (envOf qual scope L' f cdv))
        (fun fl s' => LeaveK h₀ L m g R (match fl with | .ret v => v | _ => .none) s')
        (fun e s' => wpAny (model prog w) (A.deeper (envOf qual scope L' f cdv)) (leaving (envOf qual scope L' f cdv) e) (fun _ s'' => R (.error e) s'') (fun e' s'' => R (.error e') s'') s')
        { s with heap := h₁, toks := s.toks + 2 })
    (hco : scope.isCoroutine = false) (hgen : scope.isGenerator = false) (hk : scope.kind = .function)
    (hcell : ∀ x ∈ scope.names, x.2 ≠ .cell) : codeAny (model prog w) A (.call (.ref f) ⟨[a], [(n, v)]⟩) R s :=
  code_def B F X₀ N T hA hf hke ho hcd hroom hbind (fun y hy => by
    rcases List.mem_cons.mp hy with rfl | hy
    · exact hl0
    · rcases List.mem_cons.mp hy with rfl | hy
      · exact hl1
      · cases hy) k hco hgen hk hcell
end My
-- ===== K01E =====
namespace PySem
namespace MyX
open PySem.W PySem.Calls PyProof.Rows PySem.HandSPX Builtin Builtin.ObjectAttr
/-- the classes behind an error of the package's: its base, and Python's own -/
abbrev bmS (S : Addr) : List Value := [.ref S, .type "Exception", .type "BaseException", .type "object"]
abbrev bmE : List Value := [.type "Exception", .type "BaseException", .type "object"]
theorem bm_has (S : Addr) (X : String) : (bmS S).contains (.type X) = bmE.contains (.type X) := by
  show ((Value.type X == Value.ref S) || bmE.contains (.type X)) = bmE.contains (.type X)
  have h : (Value.type X == Value.ref S) = false := by rfl
  rw [h, Bool.false_or]
theorem bm_pass (C S : Addr) (self : Value) : refuseLoop self "__setattr__" (.ref C :: bmS S) = pure () := by
  rw [refuseLoop_ref, refuseLoop_ref]
  exact F.store_Exception.passes self
section
variable {prog : Program} {w : World} {A : Around} {R : Result → Shared → Prop} {hp : Heap} {g : Array GenState} {d : Drawn} {t : Nat} {os : OsState}
/-- object.__setattr__ at an error that has no dict as yet -/
theorem own_osa {K : Frag} {name : Str} {tk : Tok} {v : Value} {x C S : Addr} {fv : Array Value} {cd : ClassData}
    (X : K.In hp) (hx : hp.get? x = some { cls := .ref C, data := .fields fv }) (hcd : clsIn K C = some cd) (hm : cd.mro = .ref C :: bmS S) (hh : cd.hasDict = true) (ha : findIn K (.ref C) name = some none)
    (hq : ∀ h' tk' dx, (∀ b o, b ≠ x → hp.get? b = some o → h'.get? b = some o) → hp.objs.size ≤ dx → dx ≠ x → h'.get? x = some { cls := .ref C, dict := some dx, data := .fields fv } →
      h'.Ns1 dx (fun y => if y = name then some v else none) → R (.ok (.ret .none)) ⟨h', g, d, tk', os⟩) :
    codeAny (model prog w) A (.call (.builtin "object.__setattr__") ⟨[.ref x, .str name tk, v], []⟩) R ⟨hp, g, d, t, os⟩ := by
  have at0 : InstAt hp x { cls := .ref C, data := .fields fv } C none := ⟨hx, rfl, rfl, trivial⟩
  have SF := F.store_object
  have full : cd.mro.isEmpty = false := by rw [hm] <;> rfl
  have isO : cd.mro.contains (.type "object") = true := by
    rw [hm]
    show ((Value.type "object" == Value.ref C) || (bmS S).contains (.type "object")) = true
    rw [bm_has]
    have h : bmE.contains (.type "object") = true := by decide +kernel
    rw [h, Bool.or_true]
  have far : x ≠ hp.objs.size := Nat.ne_of_lt (Heap.lt_size hx)
  have sub : Looks (model prog w) hp (isInstance (.ref x) (.type "object")) true := at0.type.andThen (looks_mroIn X (by unfold mroIn; rw [hcd, Option.bind_some, if_neg (by rw [full]; decide), isO]))
  refine codeAny_call_builtin SF.slot.plain SF.entry (@check_slot (model prog w) _ _ ⟨hp, g, d, t, os⟩ "object.__setattr__" "object" "__setattr__" (.ref x) [.str name tk, v] [] _ SF.kind SF.split sub (SF.args (.ref x) (.str name tk) v) ?_)
  have mro : Looks (model prog w) hp (mroOf (.ref C)) cd.mro := (looks_clsIn X hcd).andThen .now
  have none' : Looks (model prog w) hp (storeTaker? none) none := .now
  have cls : Looks (model prog w) hp (classData C) cd := looks_clsIn X hcd
  rw [osa_eq, refuse_eq]
  refine wpAny_bind (wpAny_bind (at0.type.at (wpAny_bind (mro.at ?_))))
  rw [hm, bm_pass]
  refine wpAny_pure (wpAny_bind (at0.type.at (wpAny_bind ((looks_findIn X ha).at (wpAny_bind (none'.at ?_))))))
  show wpAny _ _ (storeInOwnDict (.ref x) (.ref C) (.str name tk) name v false) _ _ _
  obtain ⟨nm, bs, mr, ns, qn, hd, sn, sb, ab, col, del⟩ := cd
  dsimp only at hh
  subst hh
  unfold storeInOwnDict ownDictForStores
  repeat (first | with_reducible refine store_in_new ?_ ?_ | with_reducible refine wpAny_loadPart_at hx ?_ | with_reducible refine cls.at ?_ | wp_step)
  · exact ⟨_, #[], _, (Heap.get?_update_ne _ _ _ _ far.symm).trans (Heap.get?_push_at rfl rfl), rfl, fun e he => absurd he (by simp), fun _ => rfl⟩
  · intro h' tk' hn' hs
    have hx1 : (hp.push { cls := .type "dict", data := .dict #[] }).get? x = some { cls := .ref C, data := .fields fv } := Heap.get?_push_of_some _ hx
    refine hq h' tk' hp.objs.size (fun b o hb ho => ?_) (Nat.le_refl _) far.symm ?_ hn'
    · exact (hs.2 b (Nat.ne_of_lt (Heap.lt_size ho))).trans ((Heap.get?_update_ne _ _ _ _ hb).trans (Heap.get?_push_of_some _ ho))
    · exact (hs.2 x far).trans (Heap.get?_update_self _ hx1 rfl)
end
/-- __init__(self, fld): self.fld = fld, as it stands at fI -/
structure InitFn (K : Frag) (fI : Addr) (fld : Str) : Prop where
  ex : ∃ (qual : Str) (ps : Arguments) (q1 q2 q3 q4 : Pos) (sc : Scope) (oc : Value) (od : Option Addr) (doc pm : Value) (an : Option Addr) (cdv ct : Value) (osl : Array (Option Value)) (fd : FuncData),
    fd = fnOf "__init__" qual ps [.Assign [.Attribute (.Name "self" q1) fld q2] (.Name fld q3) q4] sc .none .none doc pm an cdv ct ∧ K.lookup fI = some ⟨oc, od, .func fd, osl⟩ ∧ codeIn K cdv qual = true ∧
    (∀ (s : Shared) (x : Addr) (v : Value), BindsTo s fd ⟨[.ref x, v], []⟩ [(("self" : Str), .ref x), (fld, v)]) ∧ (∀ (s : Shared) (x : Addr) (v : Value), BindsTo s fd ⟨[.ref x], [(fld, v)]⟩ [(("self" : Str), .ref x), (fld, v)]) ∧
    (sc.names.lookup ("self" : Str) = some NameKind.local ∧ sc.names.lookup fld = some NameKind.local) ∧ (∀ (L a : Addr) (cd : Value), (envOfC qual sc L a cd).kindOf ("self" : Str) = some NameKind.local ∧ (envOfC qual sc L a cd).kindOf fld = some NameKind.local) ∧
    (∀ (L a : Addr) (cd v : Value) (x : Addr), bindL (envOfC qual sc L a cd).kindOf [(("self" : Str), .ref x), (fld, v)] (fun _ => none) ("self" : Str) = some (.ref x) ∧ bindL (envOfC qual sc L a cd).kindOf [(("self" : Str), .ref x), (fld, v)] (fun _ => none) fld = some v) ∧
    (sc.kind = .function ∧ sc.isCoroutine = false ∧ sc.isGenerator = false) ∧ (("self" : Str) == "__debug__") = false ∧ (fld == ("__debug__" : Str)) = false
/-- an error class of the package's with an own __init__ -/
structure ErrTxt (K : Frag) (mg : Str → Option Value) (nm fld : Str) (C S fI : Addr) : Prop where
  gC : mg nm = some (.ref C)
  cls : ∃ nm q N bs sn sub ab col dd k0 k1 k2 k3 k5, K.lookup C = some (excClassObj nm q C N bs (bmS S) true sn sub ab col dd k0 k1 k2 k3 k5 "Exception.__new__")
  sa : findIn K (.ref C) "__setattr__" = some (some (.builtin "object.__setattr__"))
  ga : findIn K (.ref C) "__getattribute__" = some (some (.builtin "BaseException.__getattribute__"))
  gg : findIn K (.ref C) "__getattr__" = some none
  noF : findIn K (.ref C) fld = some none
  iC : findIn K (.ref C) "__init__" = some (some (.ref fI))
  tC : typeIn K (.ref fI) = some (.type "function")
  kC : keepIn K (.ref C) = true
  exC : subIn K (.ref C) (.type "BaseException") = some true
  tyC : typeIn K (.ref C) = some (.type "type")
  hdC : hasDictIn K C = true
  fn : InitFn K fI fld
/-- what __init__ leaves of a fresh error at x -/
structure Inited (h h' : Heap) (x C dx t1 : Addr) (fld : Str) (v : Value) : Prop where
  keep : ∀ b o, b ≠ x → h.get? b = some o → h'.get? b = some o
  obj : h'.get? x = some { cls := .ref C, dict := some dx, data := .fields #[.ref t1, .none, .none, .none, .bool false, .none] }
  dbig : h.objs.size ≤ dx
  dne : dx ≠ x
  ns : h'.Ns1 dx (fun y => if y = fld then some v else none)
theorem ld_here {M : Model} {s : Shared} {name : Str} {scope : Scope} {L a : Addr} {cd : Value} {m : Str → Option Value} {x : Str} {pos : Pos} {v : Value} {Q : Value → Shared → Prop} {A : Around} {E : Value → Shared → Prop}
    (hn : s.heap.Ns L m) (hv : m x = some v) (hk : scope.kind = .function) (hl : (envOfC name scope L a cd).kindOf x = some .local) (hd : (x == ("__debug__" : Str)) = false) (h : Q v s) :
    wpAny M A (eval (.Name x pos) (envOfC name scope L a cd)) Q E s := wpAny_Name (wpAny_loadName_local hk hl hn hv h) hd
section
variable {prog : Program} {w : World} {A : Around} {R : Result → Shared → Prop} {s : Shared} {K : Frag} {mg : Str → Option Value} {nm fld : Str} {C S fI : Addr}
theorem init_run (T : ErrTxt K mg nm fld C S fI) {x t0 : Addr} {v : Value} {args : Args} (ha : args = ⟨[.ref x, v], []⟩ ∨ args = ⟨[.ref x], [(fld, v)]⟩) (X : K.In s.heap) (hlim : s.heap.NoLimit) (hx : s.heap.get? x = some (excO C t0)) (hroom : A.depth < recursionLimit)
    (hq : ∀ h' tk dx, Inited s.heap h' x C dx t0 fld v → R (.ok (.ret .none)) { s with heap := h', toks := tk }) :
    codeAny (model prog w) A (.call (.ref fI) args) R s := by
  obtain ⟨qual, ps, q1, q2, q3, q4, sc, oc, od, doc, pm, an, cdv, ct, osl, fd, efd, ho, hcd, bP, bK, ⟨l1, l2⟩, kd, bl, ⟨sk, sco, sge⟩, db1, db2⟩ := T.fn.ex
  subst efd
  obtain ⟨nm', q, N, bs, sn, sub, ab, col, dd, k0, k1, k2, k3, k5, hC⟩ := T.cls
  have hcl : clsIn K C = some { name := nm', bases := bs, mro := .ref C :: bmS S, ns := N, qualname := q, hasDict := true, slotNames := sn, subclasses := sub, abstract := ab, collection := col, hasDel := false } := by unfold clsIn; rw [hC] <;> rfl
  refine Att.call_fn (binds := [(("self" : Str), .ref x), (fld, v)]) X hlim ho hcd hroom (by rcases ha with rfl | rfl; exact bP s x v; exact bK s x v) (by
    simp only [List.all_cons, List.all_nil, Bool.and_true, l1, l2]
    rfl) (fun s1 IC => ?_) sco sge sk
  obtain ⟨h1, tk1, rfl⟩ := IC.toInCall.same
  have k : ∀ b o, s.heap.get? b = some o → h1.get? b = some o := IC.toInCall.keep
  have hn := IC.toInCall.ns
  have X1 : K.In h1 := X.keeps k
  have hx1 := k _ _ hx
  show wpAny _ _ (execs _ _) _ _ _
  refine wpAny_execs_cons (plainObj_wpAny_Assign_Attribute ?_)
  refine ld_here (v := v) hn (bl _ _ _ _ _).2 sk (kd _ _ _).2 db2 (ld_here (v := .ref x) hn (bl _ _ _ _ _).1 sk (kd _ _ _).1 db1 ?_)
  refine set_plain X1 (ox := excO C t0) (od := none) ⟨hx1, rfl, rfl, trivial⟩ T.sa ?_
  refine own_osa X1 hx1 hcl rfl rfl T.noF (fun h3 tk3 dx k3 dn dne hx3 hn3 => ?_)
  show wpAny _ _ (execs _ _) _ _ _
  have z : s.heap.objs.size < h1.objs.size := hn.lt
  exact wpAny_execs_nil (hq h3 tk3 dx ⟨fun b o hb e => k3 b o hb (k b o e), hx3, Nat.le_of_lt (Nat.lt_of_lt_of_le z dn), dne, hn3⟩)
/-- a made error -/
structure OwnMade (h h' : Heap) (e C d : Addr) (fld : Str) (v : Value) : Prop where
  keep : ∀ b o, h.get? b = some o → h'.get? b = some o
  new : h.objs.size ≤ e
  obj : ∃ t1 : Addr, h'.get? e = some ({ cls := .ref C, dict := some d, data := .fields #[.ref t1, .none, .none, .none, .bool false, .none] } : Obj)
  dbig : h.objs.size ≤ d
  dne : d ≠ e
  ns : h'.Ns1 d (fun y => if y = fld then some v else none)
theorem made_of {hp h' : Heap} {us : List Value} {dx : Addr} {v : Value} (I : Inited ((hp.push (kdv_tup us)).push (excO C hp.objs.size)) h' (hp.objs.size + 1) C dx hp.objs.size fld v) : OwnMade hp h' (hp.objs.size + 1) C dx fld v := by
  obtain ⟨kp, hx, dn, dne, hns⟩ := I
  have k : ∀ b o, hp.get? b = some o → ((hp.push (kdv_tup us)).push (excO C hp.objs.size)).get? b = some o := fun b o e => Heap.get?_push_of_some _ (Heap.get?_push_of_some _ e)
  have z : hp.objs.size + 1 + 1 ≤ dx := by
    first
      | (simpa only [Heap.size_push] using dn)
      | exact dn
      | (have q := dn; rw [Heap.size_push, Heap.size_push] at q; exact q)
  exact ⟨fun b o e => kp b o (Nat.ne_of_lt (Nat.lt_succ_of_lt (Heap.lt_size e))) (k b o e), Nat.le_succ _, ⟨_, hx⟩, by omega, dne, hns⟩
theorem made_pos (T : ErrTxt K mg nm fld C S fI) {v : Value} (X : K.In s.heap) (hlim : s.heap.NoLimit) (hroom : A.depth + 1 < recursionLimit)
    (hq : ∀ h' tk e d, OwnMade s.heap h' e C d fld v → R (.ok (.ret (.ref e))) { s with heap := h', toks := tk }) :
    codeAny (model prog w) A (.call (.ref C) ⟨[v], []⟩) R s := by
  obtain ⟨nm', q, N, bs, sn, sub, ab, col, dd, k0, k1, k2, k3, k5, hC⟩ := T.cls
  obtain ⟨hp, g, dr, tk, os⟩ := s
  have k : ∀ b o, hp.get? b = some o → ((hp.push (kdv_tup [v])).push (excO C hp.objs.size)).get? b = some o := fun b o e => Heap.get?_push_of_some _ (Heap.get?_push_of_some _ e)
  have at1 : ((hp.push (kdv_tup [v])).push (excO C hp.objs.size)).get? (hp.objs.size + 1) = some (excO C hp.objs.size) := by heap_get
  refine HandSPX.call_own F.excBase_Exception (fun X => bm_has S X) (X _ _ hC) (looks_findIn X T.iC) (fun self => bind_fn X self T.tC) (by rw [sizeLine_eq]; exact (by decide : 1 ≤ 16777216)) ?_
  refine init_run (s := ⟨(hp.push (kdv_tup [v])).push (excO C hp.objs.size), g, dr, tk, os⟩) T (.inl rfl) (X.keeps k) (hlim.keeps k) at1 ?_ fun h' tk' dx I => ?_
  · show A.depth + 1 < recursionLimit
    exact hroom
  · exact ⟨rfl, hq h' tk' (hp.objs.size + 1) dx (made_of I)⟩
theorem made_kw (T : ErrTxt K mg nm fld C S fI) {v : Value} (X : K.In s.heap) (hlim : s.heap.NoLimit) (hroom : A.depth + 1 < recursionLimit)
    (hq : ∀ h' tk e d, OwnMade s.heap h' e C d fld v → R (.ok (.ret (.ref e))) { s with heap := h', toks := tk }) :
    codeAny (model prog w) A (.call (.ref C) ⟨[], [(fld, v)]⟩) R s := by
  obtain ⟨nm', q, N, bs, sn, sub, ab, col, dd, k0, k1, k2, k3, k5, hC⟩ := T.cls
  obtain ⟨hp, g, dr, tk, os⟩ := s
  have k : ∀ b o, hp.get? b = some o → ((hp.push (kdv_tup [])).push (excO C hp.objs.size)).get? b = some o := fun b o e => Heap.get?_push_of_some _ (Heap.get?_push_of_some _ e)
  have at1 : ((hp.push (kdv_tup [])).push (excO C hp.objs.size)).get? (hp.objs.size + 1) = some (excO C hp.objs.size) := by heap_get
  refine My.kw_call_own F.excBase_Exception (fun X => bm_has S X) (X _ _ hC) (looks_findIn X T.iC) (fun self => bind_fn X self T.tC) ?_
  refine init_run (s := ⟨(hp.push (kdv_tup [])).push (excO C hp.objs.size), g, dr, tk, os⟩) T (.inr rfl) (X.keeps k) (hlim.keeps k) at1 ?_ fun h' tk' dx I => ?_
  · show A.depth + 1 < recursionLimit
    exact hroom
  · exact ⟨rfl, hq h' tk' (hp.objs.size + 1) dx (made_of I)⟩
end
end MyX
end PySem
-- ===== K01R =====
namespace My
open PySem L2 PySem.MyX PyProof.Rows PySem.Spec
/-- an error of the class at C stands at a, its dict (if any) at d -/
def EO (C : Addr) (d : Option Addr) (a : Addr) : HO := .ext fun h => ∃ (oe : Obj) (vs : Array Value), h.get? a = some oe ∧ Zc (.ref C) d oe ∧ oe.data = .fields vs ∧ vs[1]? = some .none ∧ vs[2]? = some .none ∧ 4 < vs.size
theorem eo_ok {P : Program} {w : World} {H : Hp} {h : Heap} {a C : Addr} {d : Option Addr} {oe : Obj} {vs : Array Value} (e : h.get? a = some oe) (z : Zc (.ref C) d oe) (da : oe.data = .fields vs) (h1 : vs[1]? = some .none) (h2 : vs[2]? = some .none) (h5 : 4 < vs.size) : ObjOk P w H h a (EO C d a) :=
  ⟨⟨oe, vs, e, z, da, h1, h2, h5⟩, ⟨oe, e⟩, fun _ _ ⟨o, v, q, r⟩ k => ⟨o, v, k o q, r⟩⟩
theorem relO_one {v : V} {u : Value} (r : RelV v u) (n f : Str) : RelO (List.lookup f [(n, v)]) (if f = n then some u else none) := by
  by_cases e : f = n
  · subst e
    rw [if_pos rfl]
    have q : List.lookup f [(f, v)] = some v := by simp [List.lookup]
    rw [q]
    exact r
  · rw [if_neg e]
    have q : (f == n) = false := by simpa using e
    have q2 : List.lookup f [(n, v)] = none := by simp [List.lookup, q]
    rw [q2]
    trivial
section
variable {X : Cx}
/-- what a made error with one field leaves -/
theorem made_inv {pins : List (Addr × Obj)} {σ : L2.St} {H1 : Hp} {hp h' : Heap} {g : Array GenState} {dr : Drawn} {tk tk' : Nat} {os : OsState} {e C d : Addr} {fld : Str} {v : V} {u : Value} {Q : VK}
    (I1 : Inv X pins σ H1 ⟨hp, g, dr, tk, os⟩) (M : OwnMade hp h' e C d fld u) (rv : RelV v u)
    (q : ∀ a d, H1 a = none → H1 d = none → a ≠ d → Q (.ref a) (upd (upd H1 d (.xd [(fld, v)])) a (EO C (some d) a))) : EP X pins σ Q (.ref e) ⟨h', g, dr, tk', os⟩ := by
  obtain ⟨t1, hoe⟩ := M.obj
  have hns := M.ns
  have fe : H1 e = none := I1.hok.fresh M.new
  have fd : H1 d = none := I1.hok.fresh M.dbig
  obtain ⟨G, g1, g2⟩ := restrict h' fun b => decide (b ≠ e)
  have gk : ∀ b, b ≠ e → G.get? b = h'.get? b := fun b hb => g1 b (decide_eq_true hb)
  have ge : G.get? e = none := g2 e (by simp)
  have old : ∀ b o, hp.get? b = some o → G.get? b = some o := fun b o z => (gk b (Nat.ne_of_lt (Nat.lt_of_lt_of_le (Heap.lt_size z) M.new))).trans (M.keep b o z)
  have ob : ObjOk X.prog X.w (upd H1 d (.xd [(fld, v)])) G d (.xd [(fld, v)]) := ⟨_, hns.at (fun o z => (gk d M.dne).trans z), fun f => relO_one rv fld f⟩
  have J : Inv X pins σ (upd H1 d (.xd [(fld, v)])) ⟨G, g, dr, tk', os⟩ := I1.laid (t' := tk') old M.dbig ob
  have fe2 : (upd H1 d (.xd [(fld, v)])) e = none := by
    rw [upd_ne (Ne.symm M.dne)]
    exact fe
  have J2 : Inv X pins σ (upd (upd H1 d (.xd [(fld, v)])) e (EO C (some d) e)) ⟨h', g, dr, tk', os⟩ := J.laidN (h' := h') (t' := tk') (fun b o z => by
    by_cases hb : b = e
    · have z' : G.get? b = some o := z
      rw [hb, ge] at z'
      cases z'
    · exact (gk b hb).symm.trans z) ge fe2 (eo_ok hoe ⟨rfl, rfl⟩ rfl rfl rfl (show 4 < 6 by decide))
  exact ⟨.ref e, _, J2, rfl, q e d fe fd (Ne.symm M.dne)⟩
def tErr (C : Addr) (fld : Str) (ta : TA) : TE := fun σ H Q => ta σ H fun vs H1 => ∃ v, vs = [v] ∧ ∀ a d, H1 a = none → H1 d = none → a ≠ d → Q (.ref a) (upd (upd H1 d (.xd [(fld, v)])) a (EO C (some d) a))
/-- C(e), a new error with a field -/
theorem pe_errP {nm fld : Str} {C S fI : Addr} {e : Expr} {ta : TA} {p pos : Pos} {k : Nat} (T : ErrTxt X.K X.mg nm fld C S fI) (hr : Room k X.A) (ha : PA X [e] ta) (hg : Gl X nm)
    (hs : starEach [e] X.env = (false, eval e X.env) :: starEach [] X.env := by rfl) (hpl : (backTo pos (starEach [] X.env)).any (·.1) = false := by rfl) (hdb : (nm == ("__debug__" : Str)) = false := by decide) :
    PE X (.Call (.Name nm p) [e] [] pos) (tErr C fld ta) := by
  refine ⟨fun pins s σ H Q I h => ?_⟩
  refine wpAny_Call_Name_kw (ld_glob I hg T.gC ?_ hdb)
  refine PySem.W.callWith_K (h₀ := X.base) I.ok.mod.kin T.kC (thn (ha.run pos pins s σ H _ I h) fun us s1 hh => ?_) hs hpl
  obtain ⟨vs, H1, I1, r1, v, ev, q1⟩ := hh
  subst ev
  refine ⟨I1.kIn, ?_⟩
  cases r1 with
  | cons rv rn =>
    rename_i v' us'
    cases rn
    show wpAny _ _ (call (.ref C) [v']) _ _ _
    have hlim := I1.nolimit
    obtain ⟨hp, g, dr, tk, os⟩ := s1
    exact wpAny_call (made_pos T I1.kIn hlim (by have := hr.dp; omega) fun h' tk' e d M => made_inv I1 M rv q1)
/-- C(fld = e) -/
theorem pe_errK {nm fld : Str} {C S fI : Addr} {kw : Keyword} {ta : TA} {p pos : Pos} {k : Nat} (T : ErrTxt X.K X.mg nm fld C S fI) (hr : Room k X.A) (hkw : PK X [kw] ta) (hg : Gl X nm)
    (hall : (backToKw pos (keywordEach [kw] X.env)).all (·.1.isSome) = true := by rfl) (hks : (backToKw pos (keywordEach [kw] X.env)).filterMap (·.1) = [fld] := by rfl)
    (hpl : ((backTo pos (starEach [] X.env)).any (·.1) || (backToKw pos (keywordEach [kw] X.env)).any (·.1.isNone)) = false := by rfl) (hdb : (nm == ("__debug__" : Str)) = false := by decide) :
    PE X (.Call (.Name nm p) [] [kw] pos) (tErr C fld ta) := by
  refine ⟨fun pins s σ H Q I h => ?_⟩
  refine wpAny_Call_Name_kw (ld_glob I hg T.gC ?_ hdb)
  refine PySem.W.callWith_KW0 (h₀ := X.base) I.ok.mod.kin T.kC hall (thn (hkw.run pos pins s σ H _ I h) fun us s1 hh => ?_) hpl
  obtain ⟨vs, H1, I1, r1, v, ev, q1⟩ := hh
  subst ev
  refine ⟨I1.kIn, ?_⟩
  rw [hks]
  cases r1 with
  | cons rv rn =>
    rename_i v' us'
    cases rn
    show wpAny _ _ (call (.ref C) [] [(fld, v')]) _ _ _
    have hlim := I1.nolimit
    obtain ⟨hp, g, dr, tk, os⟩ := s1
    exact wpAny_call (made_kw T I1.kIn hlim (by have := hr.dp; omega) fun h' tk' e d M => made_inv I1 M rv q1)
/-- an error class without an __init__ of its own -/
structure ErrPlain (K : PySem.W.Frag) (mg : Str → Option Value) (nm : Str) (C : Addr) : Prop where
  gC : mg nm = some (.ref C)
  x : PySem.W.excIn K C bmE "Exception.__new__" = true
  kC : PySem.W.keepIn K (.ref C) = true
def tErr0 (C : Addr) : TE := fun _ H Q => ∀ a, H a = none → Q (.ref a) (upd H a (EO C none a))
/-- C() -/
theorem pe_err0 {nm : Str} {C : Addr} {p pos : Pos} (T : ErrPlain X.K X.mg nm C) (hg : Gl X nm) (hdb : (nm == ("__debug__" : Str)) = false := by decide) :
    PE X (.Call (.Name nm p) [] [] pos) (tErr0 C) := by
  refine ⟨fun pins s σ H Q I h => ?_⟩
  refine wpAny_Call_Name_kw (ld_glob I hg T.gC ?_ hdb)
  refine PySem.W.callWith_K0 I.kIn T.kC ?_
  show wpAny _ _ (call (.ref C) []) _ _ _
  obtain ⟨bm, N, nm', qn, bs, hdct, sn, sub, ab, col, dd, k0, k1, k2, k3, k5, mN, hC, hN, hni, Tl⟩ := exc_obj I.kIn T.x
  refine wpAny_call_exc_subT F.excBase_Exception Tl hC hN hni (fun h' a hm => ?_) (by show 0 ≤ sizeLine; exact Nat.zero_le _)
  have hn : H a = none := I.hok.gone hm.new
  obtain ⟨t, ht, _, _⟩ := hm.there
  exact ⟨.ref a, _, I.laidN hm.keeps hm.new hn (eo_ok ht ⟨rfl, rfl⟩ rfl rfl rfl (show 4 < 6 by decide)), rfl, h a hn⟩
end
end My
-- ===== K01I =====
namespace PySem
namespace MyX
open PySem.W PySem.Spec PySem.Calls PyProof.Rows
section
variable {prog : Program} {w : World} {A : Around} {E : Value → Shared → Prop} {s : Shared} {K : Frag} {x D : Addr} {ox : Obj} {od : Option Obj}
/-- what a class says, so that its errors tell their class -/
structure ClsTxt (K : Frag) (D : Addr) : Prop where
  ga : findIn K (.ref D) "__getattribute__" = some (some (.builtin "BaseException.__getattribute__"))
  gg : findIn K (.ref D) "__getattr__" = some none
  ex : subIn K (.ref D) (.type "BaseException") = some true
  hd : hasDictIn K D = true
  ac : findIn K (.ref D) "__class__" = some (some (.builtin "object.__class__"))
  gt : specialIn K (.builtin "object.__class__") "__get__" = some (some (.builtin "getset_descriptor.__get__"))
  tk : takesIn K (.builtin "object.__class__") = some true
  mo : mroIn K D (.type "object") = some true
theorem ClsTxt.found (T : ClsTxt K D) : findObj K D od "__class__" = some (.bind (.builtin "getset_descriptor.__get__") (.builtin "object.__class__")) := by
  obtain ⟨cd, hc, _⟩ := any_some T.hd
  unfold findObj
  rw [hc, Option.bind_some, T.ac, Option.bind_some]
  simp [T.gt, T.tk]
/-- e.__class__ of an error, with or without a dict of its own -/
theorem ClsTxt.told (T : ClsTxt K D) {Q : Option Value → Shared → Prop} (X : K.In s.heap) (I : InstAt s.heap x ox D od) (h : Q (some (.ref D)) { s with toks := s.toks + 1 }) : wpAny (model prog w) A (getAttr? (.ref x) "__class__") Q E s := by
  have found := T.found (od := od)
  obtain ⟨hp, g, d, t, os⟩ := s
  have ty := I.type (M := model prog w)
  have look1 := looks_findIn (M := model prog w) X T.ga
  have look2 := looks_findIn (M := model prog w) X T.gg
  have look3 := looks_find (M := model prog w) X I found
  have isE : Looks (model prog w) hp (isInstance (.ref x) (.type "BaseException")) true := ty.andThen (looks_subIn X T.ex)
  have n1 : (false && onTheHeap (Value.builtin "BaseException.__getattribute__")) = false := rfl
  have n2 : (onTheHeap (Value.ref D) && Value.builtin "BaseException.__getattribute__" == Value.builtin "object.__getattribute__") = false := by
    have z : (Value.builtin "BaseException.__getattribute__" == Value.builtin "object.__getattribute__") = false := by decide +kernel
    rw [z]
    rfl
  unfold getAttr? getAttrBy? getAttrBy
  refine wpAny_bind (wpAny_mkText (wpAny_bind (wpAny_attempt (wpAny_holding (wpAny_bind (ty.at (wpAny_bind (look1.at ?_))))))))
  show wpAny _ _ (if (onTheHeap (Value.ref D) && Value.builtin "BaseException.__getattribute__" == Value.builtin "object.__getattribute__") = true then _ else _) _ _ _
  rw [n2, if_neg Bool.false_ne_true]
  unfold getAttrByItsOwn hookBefore
  refine wpAny_bind ?_
  rw [if_pos (show onTheHeap (Value.ref D) = true from rfl)]
  refine look2.at ?_
  refine wpAny_bind (wpAny_attempt (wpAny_holding ?_))
  unfold callGetattribute
  rw [n1, if_neg Bool.false_ne_true]
  unfold boundAndCalled
  rw [PySem.F.excAttr_ValueError.ga.bind (.ref x)]
  refine wpAny_bind (wpAny_pure ?_)
  show wpAny _ _ (call (.builtin "BaseException.__getattribute__") [.ref x, .str "__class__" t]) _ _ _
  refine wpAny_call (codeAny_call_builtin PySem.F.excAttr_ValueError.ga.plain PySem.F.entry_bexc_ga ?_)
  refine @check_slot (model prog w) _ _ ⟨hp, g, d, t + 1, os⟩ "BaseException.__getattribute__" "BaseException" "__getattribute__" (.ref x) [.str "__class__" t] [] _ (by decide +kernel) (by decide +kernel) isE (PySem.F.args_bexc_ga (.ref x) (.str "__class__" t)) ?_
  unfold Builtin.«object.__getattribute__»
  refine wpAny_bind (wpAny_of_eq (a := ((Value.ref x : Value), [Value.str "__class__" t])) (by first | rfl | (simp only [slotArgs]; rfl)) ?_)
  refine wpAny_bind (wpAny_pure (wpAny_bind (ty.at (wpAny_bind (look3.at ?_)))))
  show wpAny _ _ (holding [Value.builtin "object.__class__"] (call (.builtin "getset_descriptor.__get__") [.builtin "object.__class__", .ref x, .ref D]) >>= ret) _ _ _
  refine wpAny_bind (wpAny_holding (wpAny_call (class_get (s := ⟨hp, g, d, t + 1, os⟩) (ox := ox) (od := od) X I T.mo ?_)))
  refine wpAny_pure ?_
  show wpAny _ _ (handedOut (.ref D)) _ _ _
  rw [handedOut_of (v := .ref D) rfl]
  first
    | exact wpAny_pure (wpAny_pure h)
    | exact wpAny_pure h
    | exact wpAny_pure (wpAny_bind (wpAny_pure (wpAny_pure h)))
theorem ClsTxt.kit (T : ClsTxt K D) : KitX K (.ref x) (.ref D) (fun h => InstAt h x ox D od) where
  ty := fun _ _ _ I => I.type
  it := fun _ _ X _ => by
    obtain ⟨cd, hc, _⟩ := any_some T.hd
    unfold clsIn at hc
    split at hc
    · rename_i c' d' cd' sl' ho
      intro A' Q' E' s' k q
      unfold isType loadHead
      exact wpAny_bind (wpAny_loadPart (k _ _ (X _ _ ho)) (wpAny_pure q))
    · cases hc
  ne := fun h tp dd its n sl X htp => by
    obtain ⟨cd, hc, _⟩ := any_some T.hd
    refine Bool.eq_false_iff.mpr fun q => ?_
    have e : D = tp := Value.ref.inj (beq_iff_eq.mp q)
    subst e
    unfold clsIn at hc
    split at hc
    · rename_i c' d' cd' sl' ho
      have z := (X _ _ ho).symm.trans htp
      cases z
    · cases hc
  ca := fun X I k => T.told X I k
end
end MyX
end PySem
namespace My
open PySem L2 PySem.MyX PyProof.Rows PySem.Spec
/-- an error that stands at a: its class, and where its dict is -/
def IsErr (H : Hp) (a C : Addr) : Prop := (H a = some (EO C none a)) ∨ ∃ d fs, H a = some (EO C (some d) a) ∧ H d = some (.xd fs)
section
variable {X : Cx} {pins : List (Addr × Obj)} {σ : L2.St} {H : Hp} {s : Shared}
theorem inst_of {a C : Addr} (I : Inv X pins σ H s) (h : IsErr H a C) : ∃ ox od, PySem.W.InstAt s.heap a ox C od := by
  rcases h with h | ⟨d, fs, h, hd⟩
  · obtain ⟨⟨oe, vs, ho, hz, da, _⟩, _, _⟩ := I.hok a _ h
    exact ⟨oe, none, ho, hz.1, by unfold PySem.W.notCls; rw [da] <;> rfl, by rw [hz.2]; trivial⟩
  · obtain ⟨⟨oe, vs, ho, hz, da, _⟩, _, _⟩ := I.hok a _ h
    obtain ⟨mA, hns, _⟩ := (show ObjOk X.prog X.w H s.heap d (.xd fs) from I.hok d _ hd)
    obtain ⟨od, hod, _⟩ := lookIn_ns hns
    exact ⟨oe, some od, ho, hz.1, by unfold PySem.W.notCls; rw [da] <;> rfl, by rw [hz.2]; exact hod⟩
/-- isinstance(e, c), e an error of the package's -/
def rIsErr (K : PySem.W.Frag) : List V → Hp → VK → Prop := fun xs H Q => ∃ (a C : Addr) (c : V) (u : Value) (b : Bool), xs = [.ref a, c] ∧ IsErr H a C ∧ ClsTxt K C ∧ ClsV c u ∧ PySem.W.kitOne K (.ref C) u = some b ∧ Q (.bl b) H
theorem call_isErr : CallR X (.builtin "isinstance") (rIsErr X.K) := by
  intro pins s σ H xs us Q I r h
  obtain ⟨a, C, c, u, b, rfl, hE, T, k, e, q⟩ := h
  obtain ⟨u1, u2, rfl, r1, r2⟩ := vals2 r
  cases r1
  have e2 := k.eq r2
  subst e2
  obtain ⟨ox, od, J⟩ := inst_of I hE
  exact PySem.W.kia_one (T.kit (od := od)) I.kIn J e (fun z => nomatch z) fun tk => ⟨.bl b, H, I.tok tk, rfl, q⟩
def rIsErrT (K : PySem.W.Frag) : List V → Hp → VK → Prop := fun xs H Q => ∃ (a C tp : Addr) (cs : List V) (us : List Value) (b : Bool), xs = [.ref a, .ref tp] ∧ IsErr H a C ∧ ClsTxt K C ∧ H tp = some (.tup cs) ∧ Paired ClsV cs us ∧ PySem.W.kitAny K (.ref C) us = some b ∧ Q (.bl b) H
theorem call_isErrT : CallR X (.builtin "isinstance") (rIsErrT X.K) := by
  intro pins s σ H xs us Q I r h
  obtain ⟨a, C, tp, cs, ws, b, rfl, hE, T, hT, k, e, q⟩ := h
  obtain ⟨u1, u2, rfl, r1, r2⟩ := vals2 r
  cases r1
  cases (show u2 = Value.ref tp from r2)
  obtain ⟨ox, od, J⟩ := inst_of I hE
  obtain ⟨_, its, rv, o, h1, h2, n, h3⟩ := (show ObjOk X.prog X.w H s.heap tp (.tup cs) from I.hok tp _ hT)
  have e3 := ClsV.all k rv
  subst e3
  obtain ⟨oc, od', dt, sl⟩ := o
  simp only at h2 h3
  subst h2 h3
  exact PySem.W.kia_tup (T.kit (od := od)) I.kIn J h1 e (fun z => nomatch z) fun tk => ⟨.bl b, H, I.tok tk, rfl, q⟩
/-- e.fld, e an error with this field -/
def tErrF (K : PySem.W.Frag) (mg : Str → Option Value) (fld : Str) (te : TE) : TE := fun σ H Q => te σ H fun x H1 => ∃ (a d C S fI : Addr) (nm : Str) (v : V), x = .ref a ∧ ErrTxt K mg nm fld C S fI ∧ H1 a = some (EO C (some d) a) ∧ H1 d = some (.xd [(fld, v)]) ∧ Q v H1
theorem pe_errF {fld : Str} {e : Expr} {te : TE} {pos : Pos} (he : PE X e te) (hb : attributeBase e fld X.env (eval e X.env) = eval e X.env := by rfl) : PE X (.Attribute e fld pos) (tErrF X.K X.mg fld te) := by
  refine ⟨fun pins s σ H Q I h => ?_⟩
  refine attr_of hb (thn (he.run pins s σ H _ I h) fun u s1 hh => ?_)
  obtain ⟨x, H1, I1, rx, a, d, C, S, fI, nm, v, rfl, T, ha, hd, q⟩ := hh
  cases (show u = Value.ref a from rx)
  obtain ⟨⟨oe, vs, ho, hz, da, _⟩, _, _⟩ := I1.hok a _ ha
  obtain ⟨mA, hns, hr⟩ := (show ObjOk X.prog X.w H1 s1.heap d (.xd [(fld, v)]) from I1.hok d _ hd)
  obtain ⟨od, hod, hl⟩ := lookIn_ns hns
  have l : List.lookup fld [(fld, v)] = some v := by simp [List.lookup]
  obtain ⟨u, hu, ru⟩ := RelO.some_of (v := v) (o := mA fld) (by rw [← l]; exact hr fld)
  have J : PySem.W.InstAt s1.heap a oe C (some od) := ⟨ho, hz.1, by unfold PySem.W.notCls; rw [da] <;> rfl, by rw [hz.2]; exact hod⟩
  exact HandSPX.exc_get I1.kIn J T.ga T.gg T.exC (PySem.W.findObj_own T.hdC T.noF rfl (by rw [hl, hu])) (handed_of ru) ⟨v, H1, I1.tok _, ru, q⟩
end
end My
-- ===== K01D =====
namespace My
open PySem L2 PySem.MyX PyProof.Rows PySem.Spec
/-! ### data, apart from two addresses -/
mutual
/-- v is the data d; F holds of where its objects stand -/
inductive Dq (F : Addr → Prop) (H : Hp) : V → PyData → Prop
  | non : Dq F H .non .none
  | bl (b : Bool) : Dq F H (.bl b) (.bool b)
  | int (i : Int) : Dq F H (.int i) (.int i)
  | str (x : Str) : Dq F H (.str x) (.str x)
  | lst {a : Addr} {xs : List V} {ds : List PyData} : sysModules < a → F a → H a = some (.lst xs) → DqAll F H xs ds → Dq F H (.ref a) (.list ds)
  | tup {a : Addr} {xs : List V} {ds : List PyData} : F a → H a = some (.tup xs) → DqAll F H xs ds → Dq F H (.ref a) (.tuple ds)
  | dct {a : Addr} {k : Str} {v : V} {d : PyData} : F a → H a = some (.dK [(Sum.inr k, v)]) → Dq F H v d → Dq F H (.ref a) (.dict [(.str k, d)])
inductive DqAll (F : Addr → Prop) (H : Hp) : List V → List PyData → Prop
  | nil : DqAll F H [] []
  | cons {v : V} {vs : List V} {d : PyData} {ds : List PyData} : Dq F H v d → DqAll F H vs ds → DqAll F H (v :: vs) (d :: ds)
end
mutual
/-- .. in another heap, where these objects stand, too; of less -/
theorem Dq.to {F F' : Addr → Prop} {H H' : Hp} (s : ∀ a o, F a → H a = some o → H' a = some o) (m : ∀ a, F a → F' a) : ∀ {v : V} {d : PyData}, Dq F H v d → Dq F' H' v d
  | _, _, .non => .non
  | _, _, .bl b => .bl b
  | _, _, .int i => .int i
  | _, _, .str x => .str x
  | _, _, .lst h1 h2 h4 h5 => .lst h1 (m _ h2) (s _ _ h2 h4) (DqAll.to s m h5)
  | _, _, .tup h2 h4 h5 => .tup (m _ h2) (s _ _ h2 h4) (DqAll.to s m h5)
  | _, _, .dct h2 h4 h5 => .dct (m _ h2) (s _ _ h2 h4) (Dq.to s m h5)
theorem DqAll.to {F F' : Addr → Prop} {H H' : Hp} (s : ∀ a o, F a → H a = some o → H' a = some o) (m : ∀ a, F a → F' a) : ∀ {vs : List V} {ds : List PyData}, DqAll F H vs ds → DqAll F' H' vs ds
  | _, _, .nil => .nil
  | _, _, .cons h1 h2 => .cons (Dq.to s m h1) (DqAll.to s m h2)
end
theorem DqAll.snoc {F : Addr → Prop} {H : Hp} {v : V} {d : PyData} (h : Dq F H v d) : ∀ {vs : List V} {ds : List PyData}, DqAll F H vs ds → DqAll F H (vs ++ [v]) (ds ++ [d])
  | _, _, .nil => .cons h .nil
  | _, _, .cons h1 h2 => .cons h1 (DqAll.snoc h h2)
section
variable {X : Cx} {pins : List (Addr × Obj)} {σ : L2.St} {H : Hp} {s : Shared} {F : Addr → Prop}
theorem modules_not {as bs : List Addr} (h1 : sysModules ∉ as) (h2 : sysModules ∉ bs) : sysModules ∉ as ++ bs := fun h => (List.mem_append.mp h).elim h1 h2
mutual
theorem Dq.reads (I : Inv X pins σ H s) : ∀ (d : PyData) (v : V) (u : Value), Dq F H v d → RelV v u → ∃ as, Reads s.heap u d as ∧ sysModules ∉ as
  | .none, _, _, h, r => by
    cases h
    cases r
    exact ⟨_, Reads.none, by simp⟩
  | .bool b, _, _, h, r => by
    cases h
    cases r
    exact ⟨_, Reads.bool b, by simp⟩
  | .int i, _, _, h, r => by
    cases h
    obtain ⟨t, rfl⟩ := r
    exact ⟨_, Reads.int i t, by simp⟩
  | .str x, _, _, h, r => by
    cases h
    obtain ⟨t, rfl⟩ := r
    exact ⟨_, Reads.str x t, by simp⟩
  | .list ds, _, _, h, r => by
    cases h with
    | lst big n1 ha hd =>
      rename_i a xs
      cases r
      obtain ⟨_, its, n, rv, ho⟩ := (show ObjOk X.prog X.w H s.heap a (.lst xs) from I.hok a _ ha)
      obtain ⟨as, hr, hn⟩ := DqAll.reads I ds _ its hd rv
      refine ⟨_, Reads.list ho rfl rfl (by simpa using hr), ?_⟩
      intro hm
      rcases List.mem_cons.mp hm with e | e
      · exact absurd big (by rw [← e]; exact Nat.lt_irrefl _)
      · exact hn e
  | .tuple ds, _, _, h, r => by
    cases h with
    | tup n1 ha hd =>
      rename_i a xs
      cases r
      obtain ⟨_, its, rv, o, ho, hc, n, hdt⟩ := (show ObjOk X.prog X.w H s.heap a (.tup xs) from I.hok a _ ha)
      obtain ⟨as, hr, hn⟩ := DqAll.reads I ds _ its hd rv
      exact ⟨_, Reads.tuple ho hc hdt (by simpa using hr), hn⟩
  | .dict [], _, _, h, _ => by cases h
  | .dict [(k, d)], _, _, h, r => by
    cases h with
    | dct n1 ha hd =>
      rename_i a k v
      cases r
      obtain ⟨_, low, vs, rel, o, es, ep, ho, hx, hdt, _, hp, _⟩ := (show ObjOk X.prog X.w H s.heap a (.dK [(Sum.inr k, v)]) from I.hok a _ ha)
      rcases vs with _ | ⟨⟨kk, u⟩, _ | ⟨_, _⟩⟩
      · cases rel
      · have r1 : (Sum.inr k = kk) ∧ RelV v u := by
          cases rel with
          | cons r1 rn => exact r1
        obtain ⟨e1, rv⟩ := r1
        subst e1
        generalize hl : es.toList = l at hp
        cases hp with
        | cons hk hv hrest =>
          cases hrest
          rename_i en
          obtain ⟨as, hr, hn⟩ := Dq.reads I d v u hd rv
          obtain ⟨t, hk'⟩ : ∃ t, en.key = Value.str k t := by
            have hk2 : keyIs (Sum.inr k) en.key = true := hk
            rcases keyIs_shape hk2 with ⟨i, t, q, _⟩ | ⟨y, t, q, z⟩
            · cases q
            · cases q
              exact ⟨t, z⟩
          refine ⟨_, Reads.dict (es := es) (as := []) (bs := as ++ []) ho hx.1 hdt ?_ ?_, ?_⟩
          · rw [hl]
            show ReadsAll s.heap [en.key] [PyData.str k] []
            rw [hk']
            exact .cons (as := []) (bs := []) (.str k t) .nil
          · rw [hl]
            show ReadsAll s.heap [en.val] [d] (as ++ [])
            rw [show en.val = u from hv]
            exact .cons hr .nil
          · intro hm
            have hm' : sysModules ∈ a :: (as ++ []) := by simpa using hm
            rcases List.mem_cons.mp hm' with e | e
            · rw [← e] at low
              exact absurd low (by simp)
            · exact hn (by simpa using e)
      · cases rel with
        | cons _ rn => cases rn
  | .dict (_ :: _ :: _), _, _, h, _ => by cases h
theorem DqAll.reads (I : Inv X pins σ H s) : ∀ (ds : List PyData) (vs : List V) (us : List Value), DqAll F H vs ds → Vals vs us → ∃ as, ReadsAll s.heap us ds as ∧ sysModules ∉ as
  | [], _, _, h, r => by
    cases h
    cases r
    exact ⟨_, ReadsAll.nil, by simp⟩
  | d :: ds, _, _, h, r => by
    cases h with
    | cons h1 h2 =>
      cases r with
      | cons r1 r2 =>
        obtain ⟨as, q1, n1⟩ := Dq.reads I d _ _ h1 r1
        obtain ⟨bs, q2, n2⟩ := DqAll.reads I ds _ _ h2 r2
        exact ⟨_, ReadsAll.cons q1 q2, modules_not n1 n2⟩
end
/-! ### repr of such data -/
def rReprD (F : Addr → Prop) : List V → Hp → VK → Prop := fun xs H Q => ∃ v d, xs = [v] ∧ Dq F H v d ∧ d.showable = true ∧ d.depth ≤ 60 ∧ d.shown.length ≤ sizeLine ∧ Q (.str d.shown) H
theorem call_reprD (hg : X.A.guards = some []) (hu : X.A.units + 64 < cLine) : CallR X (.builtin "repr") (rReprD F) := by
  intro pins s σ H xs us Q I r h
  obtain ⟨v, d, rfl, hd, hs, hdp, hz, q⟩ := h
  obtain ⟨u, rfl, rx⟩ := vals1 r
  obtain ⟨as, hr, hn⟩ := Dq.reads I d v u hd rx
  cases hd with
  | non =>
    cases (show u = Value.none from rx)
    exact P.repr_of_none ⟨.str _, H, I.tok _, ⟨_, rfl⟩, q⟩
  | bl b =>
    cases (show u = Value.bool b from rx)
    exact P.repr_of_bool ⟨.str _, H, I.tok _, ⟨_, rfl⟩, q⟩
  | int i =>
    obtain ⟨t, rfl⟩ := (show ∃ t, u = Value.int i t from rx)
    exact P.repr_of_int (by simpa [PyData.showable] using hs) ⟨.str _, H, I.tok _, ⟨_, rfl⟩, q⟩
  | str x =>
    obtain ⟨t, rfl⟩ := (show ∃ t, u = Value.str x t from rx)
    exact P.repr_of_str ⟨.str _, H, I.tok _, ⟨_, rfl⟩, q⟩ (by simpa only [PyData.shown] using hz)
  | lst _ _ _ _ =>
    cases rx
    exact repr_of_reads' hr hs (fun _ => hn) hg (by omega) (fun _ _ e => e) (fun h' t tk k => ⟨.str _, H, I.kept k, ⟨t, rfl⟩, q⟩) hz
  | tup _ _ _ =>
    cases rx
    exact repr_of_reads' hr hs (fun _ => hn) hg (by omega) (fun _ _ e => e) (fun h' t tk k => ⟨.str _, H, I.kept k, ⟨t, rfl⟩, q⟩) hz
  | dct _ _ _ =>
    cases rx
    exact repr_of_reads' hr hs (fun _ => hn) hg (by omega) (fun _ _ e => e) (fun h' t tk k => ⟨.str _, H, I.kept k, ⟨t, rfl⟩, q⟩) hz
end
end My
-- ===== K01T =====
namespace My
open PySem L2 PySem.MyX PyProof.Rows PySem.Spec
abbrev sThing : Stmt := top 16
/-! ### displays, told that the new object is none of the model's own -/
def tLstL (t : TA) : TE := fun σ H Q => t σ H fun xs H1 => xs.length ≤ sizeLine ∧ ∀ q, H1 q = none → sysModules < q → Q (.ref q) (upd H1 q (.lst xs))
theorem pe_lstL {X : Cx} {es : List Expr} {t : TA} {pos : Pos} (h : PA X es t) : PE X (.List es pos) (tLstL t) := by
  refine ⟨fun pins s σ H Q I hq => ?_⟩
  refine wpAny_List_spliced (thn (h.run pos pins s σ H _ I hq) fun us s1 hh => ?_)
  obtain ⟨xs, H1, I1, r, z, q⟩ := hh
  have big := I1.big
  exact ⟨by rw [← r.length]; exact z, .ref s1.heap.objs.size, _, I1.laid (t' := s1.toks) (o := .lst xs) (fun b u e => Heap.get?_push_of_some _ e) (Nat.le_refl _) ⟨z, us, 0, r, Heap.get?_push_size _ rfl⟩, rfl, q _ (I1.hok.fresh (Nat.le_refl _)) big⟩
/-! ### how long, how deep -/
def LB : Nat → Nat
  | 0 => 45
  | m + 1 => 3 * LB m + 20
def DB : Nat → Nat
  | 0 => 1
  | m + 1 => 3 * DB m + 2
theorem db_succ (j : Nat) : DB (j + 1) = 3 * DB j + 2 := rfl
structure Good (m : Nat) (d : PyData) : Prop where
  sh : d.showable = true
  dp : d.depth ≤ m + 1
  sz : d.shown.length ≤ LB m
theorem good_list {m : Nat} {d : PyData} (g : Good m d) : Good (m + 1) (.list [d]) where
  sh := by simp only [PyData.showable, PyData.showableAll, g.sh, Bool.and_true]
  dp := by
    have := g.dp
    simp only [PyData.depth, PyData.depthAll]
    omega
  sz := by
    have h1 := g.sz
    have h2 := listText_len_le [d.shown]
    simp only [PyData.shown, PyData.shownAll]
    simp only [List.map_cons, List.map_nil, List.sum_cons, List.sum_nil, List.length_cons, List.length_nil] at h2
    unfold LB
    omega
theorem good_dict {m : Nat} {d : PyData} (g : Good m d) : Good (m + 1) (.dict [(.str "place", d)]) where
  sh := by simp only [PyData.showable, PyData.showableKv, g.sh, Bool.and_true]
  dp := by
    have := g.dp
    simp only [PyData.depth, PyData.depthKv]
    omega
  sz := by
    have h1 := g.sz
    have h2 := dictText_len_le [reprText "place" ++ ": " ++ d.shown]
    have h3 : (reprText "place" ++ (": " : Str) ++ d.shown).length = 9 + d.shown.length := by
      rw [strLen_append, strLen_append]
      have : (reprText "place").length + (": " : Str).length = 9 := by decide +kernel
      omega
    simp only [PyData.shown, PyData.shownKv]
    simp only [List.map_cons, List.map_nil, List.sum_cons, List.sum_nil, List.length_cons, List.length_nil] at h2
    rw [h3] at h2
    unfold LB
    omega
theorem good_all {m : Nat} : ∀ {ds : List PyData}, (∀ d ∈ ds, Good m d) → PyData.showableAll ds = true ∧ PyData.depthAll ds ≤ m + 1 ∧ ((PyData.shownAll ds).map (·.length)).sum ≤ ds.length * LB m ∧ (PyData.shownAll ds).length = ds.length
  | [], _ => ⟨by simp only [PyData.showableAll], by simp only [PyData.depthAll]; omega, by simp [PyData.shownAll], by simp [PyData.shownAll]⟩
  | d :: r, h => by
    have g := h d List.mem_cons_self
    obtain ⟨h1, h2, h3, h4⟩ := good_all (ds := r) fun x hx => h x (List.mem_cons_of_mem _ hx)
    have := g.dp
    have := g.sz
    refine ⟨by simp only [PyData.showableAll, g.sh, h1, Bool.and_true], by simp only [PyData.depthAll]; omega, ?_, by simp only [PyData.shownAll, List.length_cons, h4]⟩
    simp only [PyData.shownAll, List.map_cons, List.sum_cons, List.length_cons]
    rw [Nat.succ_mul]
    omega
theorem good_tuple {m : Nat} {ds : List PyData} (h : ∀ d ∈ ds, Good m d) (hl : ds.length ≤ 3) : Good (m + 1) (.tuple ds) := by
  obtain ⟨h1, h2, h3, h4⟩ := good_all h
  refine ⟨by simp only [PyData.showable, h1], by simp only [PyData.depth]; omega, ?_⟩
  have h5 := tupleText_len_le (PyData.shownAll ds)
  simp only [PyData.shown]
  rw [h4] at h5
  have h6 : ds.length * LB m ≤ 3 * LB m := Nat.mul_le_mul_right _ hl
  unfold LB
  omega
theorem lb_mono (m : Nat) : 45 ≤ LB m := by
  induction m with
  | zero => exact Nat.le_refl _
  | succ m ih =>
    unfold LB
    omega
theorem good_leaf {m : Nat} {d : PyData} (h1 : d.showable = true) (h2 : d.depth ≤ 1) (h3 : d.shown.length ≤ 45) : Good m d := ⟨h1, by omega, Nat.le_trans h3 (lb_mono m)⟩
/-! ### the promise -/
def spThing (m : Nat) : Sp := fun vs H Q _ => ∃ (p c : Addr) (ks : List Int) (w n : Int), vs = [.ref p, .int (m : Int)] ∧ FeedAt H p c ks w n ∧ n + DB m ≤ 1000000 ∧
  ∀ (v : V) (d : PyData) (ks' : List Int) (n' : Int) (H' : Hp), Dq (fun a => H a = none) H' v d → Good m d → FeedAt H' p c ks' w n' → n' ≤ n + DB m → Save p c H H' → Q v H'
theorem FeedAt.upd {H : Hp} {p c q : Addr} {ks : List Int} {w n : Int} {o : HO} (F : FeedAt H p c ks w n) (h : H q = none) : FeedAt (upd H q o) p c ks w n :=
  ⟨by rw [upd_ne (ne_of_none F.ob h)]; exact F.ob, by rw [upd_ne (ne_of_none F.cs h)]; exact F.cs, F.bits, F.len, F.w0, F.w1, F.n0⟩
theorem Save.new {H : Hp} {p c q : Addr} {o : HO} (h : H q = none) : Save p c H (upd H q o) := fun b u e _ _ => by
  rw [upd_ne (ne_of_none e h)]
  exact e
/-- what stands nowhere behind stood nowhere ahead -/
theorem Save.fresh {H H1 : Hp} {p c q : Addr} {ks : List Int} {w n : Int} (s : Save p c H H1) (F : FeedAt H1 p c ks w n) (h : H1 q = none) : H q = none := by
  cases e : H q with
  | none => rfl
  | some o =>
    by_cases h1 : q = p
    · rw [h1, F.ob] at h
      cases h
    · by_cases h2 : q = c
      · rw [h2, F.cs] at h
        cases h
      · rw [s q o e h1 h2] at h
        cases h
theorem db_pos (m : Nat) : 1 ≤ DB m := by
  cases m with
  | zero => exact Nat.le_refl _
  | succ m =>
    unfold DB
    omega
def leafs (t : Addr) : List V := [.non, .bl true, .bl false, .int 0, .int (-7), .int ((10 : Int) ^ (39 : Int).toNat), .str "", .str "ok", .ref t]
theorem leaf_ok {F : Addr → Prop} {t : Addr} {H : Hp} {m : Nat} {i : Int} (ft : F t) (ht : H t = some (.tup [])) (i0 : 0 ≤ i) (i1 : i < 9) : ∃ v d, atI (leafs t) i = some v ∧ Dq F H v d ∧ Good m d := by
  have h : i = 0 ∨ i = 1 ∨ i = 2 ∨ i = 3 ∨ i = 4 ∨ i = 5 ∨ i = 6 ∨ i = 7 ∨ i = 8 := by omega
  rcases h with rfl | rfl | rfl | rfl | rfl | rfl | rfl | rfl | rfl
  · exact ⟨_, _, rfl, .non, good_leaf (by decide +kernel) (by decide +kernel) (by decide +kernel)⟩
  · exact ⟨_, _, rfl, .bl true, good_leaf (by decide +kernel) (by decide +kernel) (by decide +kernel)⟩
  · exact ⟨_, _, rfl, .bl false, good_leaf (by decide +kernel) (by decide +kernel) (by decide +kernel)⟩
  · exact ⟨_, _, rfl, .int 0, good_leaf (by decide +kernel) (by decide +kernel) (by decide +kernel)⟩
  · exact ⟨_, _, rfl, .int (-7), good_leaf (by decide +kernel) (by decide +kernel) (by decide +kernel)⟩
  · exact ⟨_, _, rfl, .int _, good_leaf (by decide +kernel) (by decide +kernel) (by decide +kernel)⟩
  · exact ⟨_, _, rfl, .str "", good_leaf (by decide +kernel) (by decide +kernel) (by decide +kernel)⟩
  · exact ⟨_, _, rfl, .str "ok", good_leaf (by decide +kernel) (by decide +kernel) (by decide +kernel)⟩
  · exact ⟨_, _, rfl, .tup ft ht .nil, good_leaf (by decide +kernel) (by decide +kernel) (by decide +kernel)⟩
section
variable {P : Program} {w : World} {K : PySem.W.Frag} {mg : Str → Option Value} {base : Heap}
theorem scT : FnScope ["_law_feed_here", "_law_deep", "_law_way", "_law_k"] ["_law_feed_here", "_law_deep"] (defScope sThing) := ⟨rfl, rfl, rfl, by decide +kernel, rfl, by decide +kernel, by decide +kernel⟩
theorem thing_step {f fD : Addr} {fd fdD : FuncData} {m k : Nat} {spG : Sp} (F : Fun K "_law_thing" "_law_thing" sThing f fd) (bF : Binds K fd ["_law_feed_here", "_law_deep"] []) (mF : mg "_law_thing" = some (.ref f))
    (GD : FnOk P w K mg base CX0 1 fD fdD ["_law_feed_here", "_law_many"] spDigit) (mD : mg "_law_digit" = some (.ref fD)) (kD : PySem.W.keepIn K (.ref fD) = true) (bD : Binds K fdD ["_law_feed_here", "_law_many"] [])
    (mt : mg "tuple" = none) (mr : mg "range" = none)
    (G : FnOk P w K mg base CX0 (k + 1) f fd ["_law_feed_here", "_law_deep"] spG) (hG : m = 0 ∨ ∃ j, m = j + 1 ∧ spG = spThing j) : FnOk P w K mg base CX0 (k + 2) f fd ["_law_feed_here", "_law_deep"] (spThing m) := by
  refine F.ok scT (fun vs H Q E h => ?_) (fun cdv A outer s H vs Q E hr h => ?_)
  · obtain ⟨p, c, ks, y, n, rfl, _⟩ := h
    rfl
  · obtain ⟨p, c, ks, y, n, rfl, FA, hn, q⟩ := h
    have hr1 : Room 1 _ := hr.mono (by omega)
    refine ⟨_, pss_cons (ps_set (i := 2) scT.nd rfl (Or.inl rfl) (pe_call GD hr1 rfl mD kD bD .nil pass0 (pa_cons (pv 0) (pa_cons (pe_ifExp (pt_cmpR op_gt (pv 1) pe_int (nomark _)) pe_int pe_int) pa_nil))))
      (pss_cons (ps_if (pt_cmpR op_lt (pv 2) pe_int (nomark _)) (pss_one (ps_ret (pe_ix ix_list (pe_lst (pa_cons pe_non (pa_cons pe_bl (pa_cons pe_bl (pa_cons pe_int (pa_cons (pe_un un_neg pe_int) (pa_cons (pe_op op_pow pe_int pe_int) (pa_cons pe_str (pa_cons pe_str (pa_cons (pe_tup pa_nil) pa_nil)))))))))) (pv 2) (fun _ _ => rfl)))) pss_nil)
      (pss_cons (ps_if (pt_cmpR op_eq (pv 2) pe_int (nomark _)) (pss_one (ps_ret (pe_lstL (pa_cons (pe_call G hr rfl mF F.kp bF .nil pass0 (pa_cons (pv 0) (pa_cons (pe_op op_sub (pv 1) pe_int) pa_nil))) pa_nil)))) pss_nil)
      (pss_cons (ps_if (pt_cmpR op_eq (pv 2) pe_int (nomark _)) (pss_one (ps_ret (pe_disp (pps_cons pe_str (pe_call G hr rfl mF F.kp bF .nil pass0 (pa_cons (pv 0) (pa_cons (pe_op op_sub (pv 1) pe_int) pa_nil))) pps_nil) (by rfl) (by rfl) (fun z => by cases z) (by decide)))) pss_nil)
      (pss_one (ps_ret (pe_callTy call_tuple_of (by rfl) mt (by decide +kernel) (pa_cons
        (pe_lc (own := [("_law_k", 3)]) (g := gName 3) (tt := tYes) (by rfl) scT.nd (pi_range1 (by rfl) mr (pa_cons (pe_call GD hr1 rfl mD kD bD .nil pass0 (pa_cons (pv 0) (pa_cons pe_int pa_nil))) pa_nil))
          (blkOk_by (own := [("_law_k", 3)]) (N := ["_law_feed_here", "_law_deep", "_law_way", "_law_k"]) (sc := defScope sThing) (by decide +kernel))
          (fun _ _ _ _ _ => pg_name (i := 3) scT.nd rfl (Or.inl rfl)) (fun _ _ _ _ _ => pts_nil)
          (fun _ _ _ _ _ => pe_call G hr rfl mF F.kp bF .nil pass0 (pa_cons (pv 0) (pa_cons (pe_op op_sub (pv 1) pe_int) pa_nil)))) pa_nil))))))), ?_⟩
    refine ⟨_, rfl, ?_⟩
    rcases hG with rfl | ⟨j, rfl, rfl⟩
    · have hn1 : n + 1 ≤ 1000000 := hn
      refine ⟨_, rfl, _, _, rfl, rfl, _, rfl, iteF ?_⟩
      refine ⟨p, c, ks, y, n, 9, rfl, FA, by omega, by decide, by decide, fun i ks1 H1 i0 i1 FA1 sv1 => ?_⟩
      refine ⟨_, rfl, _, _, rfl, rfl, _, rfl, ?_⟩
      refine ite2 (fun lt => ?_) (fun nlt => ?_)
      · -- a leaf
        refine ⟨_, rfl, _, _, rfl, rfl, ⟨by decide, by decide, by decide⟩, by show 0 ≤ sizeLine; decide, fun t ht => ⟨by show 9 ≤ sizeLine; decide, fun l hl => ⟨_, rfl, ?_⟩⟩⟩
        have ntp : t ≠ p := Ne.symm (ne_of_none FA1.ob ht)
        have ntc : t ≠ c := Ne.symm (ne_of_none FA1.cs ht)
        have ntl : t ≠ l := fun e => by
          rw [← e, upd_same] at hl
          cases hl
        obtain ⟨v, d, hv, hd, hg⟩ := leaf_ok (F := fun a => H a = none) (m := 0) (H := upd (upd H1 t (.tup [])) l (.lst (leafs t))) (sv1.fresh FA1 ht) (by rw [upd_ne ntl, upd_same]) i0 (of_decide_eq_true lt)
        exact ⟨l, _, _, v, rfl, rfl, SqL.of upd_same, hv, q v d ks1 _ _ hd hg ((FA1.upd ht).upd hl) (by have := db_pos 0; omega) (sv1.trans ((Save.new ht).trans (Save.new hl)))⟩
      · exact absurd (decide_eq_true i1) nlt
    · have hn1 : n + (3 * (DB j : Int) + 2) ≤ 1000000 := by
        have e := db_succ j
        omega
      have dj := db_pos j
      have e1 : (DB (j + 1) : Int) = 3 * (DB j : Int) + 2 := by
        have e := db_succ j
        omega
      refine ⟨_, rfl, _, _, rfl, rfl, _, rfl, ?_⟩
      rw [show decide ((0 : Int) < ((j + 1 : Nat) : Int)) = true from decide_eq_true (by omega)]
      refine iteT ?_
      refine ⟨p, c, ks, y, n, 13, rfl, FA, by omega, by decide, by decide, fun i ks1 H1 i0 i1 FA1 sv1 => ?_⟩
      refine ⟨_, rfl, _, _, rfl, rfl, _, rfl, ?_⟩
      refine ite2 (fun lt => ?_) (fun nlt => ?_)
      · -- a leaf
        refine ⟨_, rfl, _, _, rfl, rfl, ⟨by decide, by decide, by decide⟩, by show 0 ≤ sizeLine; decide, fun t ht => ⟨by show 9 ≤ sizeLine; decide, fun l hl => ⟨_, rfl, ?_⟩⟩⟩
        have ntp : t ≠ p := Ne.symm (ne_of_none FA1.ob ht)
        have ntc : t ≠ c := Ne.symm (ne_of_none FA1.cs ht)
        have ntl : t ≠ l := fun e => by
          rw [← e, upd_same] at hl
          cases hl
        obtain ⟨v, d, hv, hd, hg⟩ := leaf_ok (F := fun a => H a = none) (m := (j + 1)) (H := upd (upd H1 t (.tup [])) l (.lst (leafs t))) (sv1.fresh FA1 ht) (by rw [upd_ne ntl, upd_same]) i0 (of_decide_eq_true lt)
        exact ⟨l, _, _, v, rfl, rfl, SqL.of upd_same, hv, q v d ks1 _ _ hd hg ((FA1.upd ht).upd hl) (by have := db_pos (j + 1); omega) (sv1.trans ((Save.new ht).trans (Save.new hl)))⟩
      · have ej : (((j + 1 : Nat) : Int) - 1) = (j : Int) := by omega
        have eargs : [V.ref p, V.int (((j + 1 : Nat) : Int) - 1)] = [V.ref p, V.int (j : Int)] := by rw [ej]
        refine ⟨_, rfl, rfl, _, rfl, ?_⟩
        refine ite2 (fun e9 => ?_) (fun ne9 => ?_)
        · -- a list
          refine ⟨_, rfl, _, rfl, _, _, rfl, rfl, p, c, ks1, y, n + 1, eargs, FA1, by omega, fun v d ks2 n2 H2 hd hg FA2 le2 sv2 => ⟨by show 1 ≤ sizeLine; decide, fun l hl big => ?_⟩⟩
          have hl1 : H1 l = none := sv2.fresh FA2 hl
          refine q _ _ ks2 n2 _ (.lst big (sv1.fresh FA1 hl1) upd_same (.cons (hd.to (fun a o fa ha => ?_) fun a fa => sv1.fresh FA1 fa) .nil)) (good_list hg) (FA2.upd hl) (by omega) (sv1.trans (sv2.trans (Save.new hl)))
          rw [upd_ne (ne_of_none ha hl)]
          exact ha
        · refine ⟨_, rfl, rfl, _, rfl, ?_⟩
          refine ite2 (fun e10 => ?_) (fun ne10 => ?_)
          · -- a dict
            intro dd hdd
            refine ⟨_, rfl, _, rfl, _, _, rfl, rfl, p, c, ks1, y, n + 1, eargs, FA1.upd hdd, by omega, fun v d ks2 n2 H2 hd hg FA2 le2 sv2 => ?_⟩
            have ndp : dd ≠ p := Ne.symm (ne_of_none FA1.ob hdd)
            have ndc : dd ≠ c := Ne.symm (ne_of_none FA1.cs hdd)
            have hd2 : H2 dd = some (.dK []) := sv2 dd _ upd_same ndp ndc
            refine ⟨hd2, [(Sum.inr "place", v)], rfl, by show 1 ≤ 15; decide, ?_⟩
            have em : (mergeK ([] : List (Key × V)) [((Sum.inr "place" : Key), v)]) = [((Sum.inr "place" : Key), v)] := rfl
            rw [em]
            have far : ∀ a, (upd H1 dd (.dK [])) a = none → a ≠ dd := fun a h e => by
              rw [e, upd_same] at h
              cases h
            refine q _ _ ks2 n2 _ (.dct (sv1.fresh FA1 hdd) upd_same (hd.to (fun a o fa ha => ?_) fun a fa => sv1.fresh FA1 (by
              have z : (upd H1 dd (.dK [])) a = none := fa
              rw [upd_ne (far a fa)] at z
              exact z))) (good_dict hg) ?_ (by omega) fun b o e h1 h2 => ?_
            · rw [upd_ne (far a fa)]
              exact ha
            · exact ⟨by rw [upd_ne (Ne.symm ndp)]; exact FA2.ob, by rw [upd_ne (Ne.symm ndc)]; exact FA2.cs, FA2.bits, FA2.len, FA2.w0, FA2.w1, FA2.n0⟩
            · have e1 := sv1 b o e h1 h2
              have nb : b ≠ dd := ne_of_none e1 hdd
              rw [upd_ne nb]
              exact sv2 b o (by rw [upd_ne nb]; exact e1) h1 h2
          · -- a tuple
            refine ⟨_, rfl, p, c, ks1, y, n + 1, 4, rfl, FA1, by omega, by decide, by decide, fun r ks2 H2 r0 r1 FA2 sv2 => ?_⟩
            refine ⟨r, rfl, by omega, by omega, fun D hD => lc_range (lo := 0) (n := r.toNat) (fun i H3 => ∃ (acc : List V) (ds : List PyData) (ks3 : List Int) (n3 : Int), H3 D = some (.lst acc) ∧ acc.length = i ∧ ds.length = i ∧ DqAll (fun a => H2 a = none ∧ a ≠ D) H3 acc ds ∧ (∀ d ∈ ds, Good j d) ∧
              FeedAt H3 p c ks3 y n3 ∧ n3 ≤ n + 2 + (i : Int) * (DB j : Int) ∧ Save p c H2 H3) ?_ ?_ ?_⟩
            · exact ⟨[], [], ks2, n + 1 + 1, upd_same, rfl, rfl, .nil, (fun d h => nomatch h), FA2.upd hD, by omega, Save.new hD⟩
            · rintro ix H3 hix ⟨acc, ds, ks3, n3, hD3, la, ld, hacc, hgood, FA3, le3, sv3⟩
              have ndp : D ≠ p := Ne.symm (ne_of_none FA2.ob hD)
              have ndc : D ≠ c := Ne.symm (ne_of_none FA2.cs hD)
              have ix3 : ix ≤ 2 := by omega
              have b1 : (ix : Int) * (DB j : Int) ≤ 2 * (DB j : Int) := Int.mul_le_mul_of_nonneg_right (by omega) (by omega)
              refine ⟨rfl, _, rfl, _, rfl, _, _, rfl, rfl, p, c, ks3, y, n3, eargs, FA3, by omega, fun v d ks4 n4 H4 hd hg FA4 le4 sv4 => ?_⟩
              have hD4 := sv4 D _ hD3 ndp ndc
              refine ⟨acc, hD4, small1000 (by omega), acc ++ [v], ds ++ [d], ks4, n4, upd_same, by rw [List.length_append, la] <;> rfl, by rw [List.length_append, ld] <;> rfl, DqAll.snoc (hd.to (fun a o fa ha => ?_) fun a fa => ⟨sv3.fresh FA3 fa, fun e => by rw [e, hD3] at fa; cases fa⟩) (hacc.to (fun a o fa ha => ?_) fun a fa => fa), fun x hx => ?_,
                ⟨by rw [upd_ne (Ne.symm ndp)]; exact FA4.ob, by rw [upd_ne (Ne.symm ndc)]; exact FA4.cs, FA4.bits, FA4.len, FA4.w0, FA4.w1, FA4.n0⟩, ?_, fun b o e h1 h2 => ?_⟩
              · rw [upd_ne (fun e => by rw [e, hD3] at fa; cases fa)]
                exact ha
              · rw [upd_ne fa.2]
                exact sv4 a o ha (fun e => by rw [e, FA2.ob] at fa; cases fa.1) (fun e => by rw [e, FA2.cs] at fa; cases fa.1)
              · rcases List.mem_append.mp hx with hx | hx
                · exact hgood x hx
                · obtain rfl : x = d := by simpa using hx
                  exact hg
              · have e3 : ((ix + 1 : Nat) : Int) * (DB j : Int) = (ix : Int) * (DB j : Int) + (DB j : Int) := by
                  rw [show ((ix + 1 : Nat) : Int) = (ix : Int) + 1 by omega, Int.add_mul, Int.one_mul]
                omega
              · rw [upd_ne (ne_of_none e hD)]
                exact sv4 b o (sv3 b o e h1 h2) h1 h2
            · rintro H3 ⟨acc, ds, ks3, n3, hD3, la, ld, hacc, hgood, FA3, le3, sv3⟩
              refine ⟨D, acc, rfl, .inl ⟨SqL.of hD3, fun l hl => ?_⟩⟩
              have b1 : ((r.toNat : Nat) : Int) * (DB j : Int) ≤ 3 * (DB j : Int) := Int.mul_le_mul_of_nonneg_right (by omega) (by omega)
              refine q _ _ ks3 n3 _ (.tup (sv1.fresh FA1 (sv2.fresh FA2 (sv3.fresh FA3 hl))) upd_same (hacc.to (fun a o fa ha => ?_) fun a fa => sv1.fresh FA1 (sv2.fresh FA2 fa.1))) (good_tuple hgood (by omega)) (FA3.upd hl) (by omega) (sv1.trans (sv2.trans (sv3.trans (Save.new hl))))
              rw [upd_ne (ne_of_none ha hl)]
              exact ha
/-- _law_thing, so many turns deep -/
theorem ok_thing {f fD : Addr} {fd fdD : FuncData} (F : Fun K "_law_thing" "_law_thing" sThing f fd) (bF : Binds K fd ["_law_feed_here", "_law_deep"] []) (mF : mg "_law_thing" = some (.ref f))
    (GD : FnOk P w K mg base CX0 1 fD fdD ["_law_feed_here", "_law_many"] spDigit) (mD : mg "_law_digit" = some (.ref fD)) (kD : PySem.W.keepIn K (.ref fD) = true) (bD : Binds K fdD ["_law_feed_here", "_law_many"] [])
    (mt : mg "tuple" = none) (mr : mg "range" = none) : ∀ m : Nat, FnOk P w K mg base CX0 (m + 2) f fd ["_law_feed_here", "_law_deep"] (spThing m)
  | 0 => thing_step (k := 0) (spG := fun _ _ _ _ => False) F bF mF GD mD kD bD mt mr ⟨fun _ _ _ _ h => h.elim, fun _ _ _ _ _ _ _ _ _ _ _ _ _ h => h.elim⟩ (.inl rfl)
  | m + 1 => thing_step (k := m + 1) F bF mF GD mD kD bD mt mr (ok_thing F bF mF GD mD kD bD mt mr m) (.inr ⟨m, rfl, rfl⟩)
end
end My
-- ===== K01M =====
namespace My
open PySem L2 PySem.MyX PyProof.Rows PySem.Spec
abbrev sPos : Stmt := top 18
abbrev sName : Stmt := top 19
abbrev sKept : Stmt := top 20
/-- the field of the i-th class -/
def fldOf (i : Int) : Str := if i = 1 then "place" else if i = 2 then "operation" else if i = 6 then "holders" else if i = 7 then "most" else "number"
/-- an error of the i-th class, made with v, stands at a -/
def ErrIs (cs : Int → Addr) (H : Hp) (a : Addr) (i : Int) (v : V) : Prop :=
  ((i = 0 ∨ i = 8 ∨ i = 9) ∧ H a = some (EO (cs i) none a)) ∨ (1 ≤ i ∧ i ≤ 7 ∧ ∃ d, H a = some (EO (cs i) (some d) a) ∧ H d = some (.xd [(fldOf i, v)]))
theorem ErrIs.same {cs : Int → Addr} {H H' : Hp} {a : Addr} {i : Int} {v : V} (s : Same H H') (h : ErrIs cs H a i v) : ErrIs cs H' a i v := by
  rcases h with ⟨h1, h2⟩ | ⟨h1, h2, d, h3, h4⟩
  · exact .inl ⟨h1, s _ _ h2⟩
  · exact .inr ⟨h1, h2, d, s _ _ h3, s _ _ h4⟩
structure Txt (K : PySem.W.Frag) (mg : Str → Option Value) (cs is : Int → Addr) (S : Addr) : Prop where
  e1 : ErrTxt K mg "NoObject" "place" (cs 1) S (is 1)
  e2 : ErrTxt K mg "NoOperation" "operation" (cs 2) S (is 2)
  e3 : ErrTxt K mg "NotOpen" "number" (cs 3) S (is 3)
  e4 : ErrTxt K mg "IsWaiting" "number" (cs 4) S (is 4)
  e5 : ErrTxt K mg "Never" "number" (cs 5) S (is 5)
  e6 : ErrTxt K mg "Full" "holders" (cs 6) S (is 6)
  e7 : ErrTxt K mg "TooMany" "most" (cs 7) S (is 7)
  p0 : ErrPlain K mg "NoKind" (cs 0)
  p8 : ErrPlain K mg "InvalidText" (cs 8)
  p9 : ErrPlain K mg "InvalidCommand" (cs 9)
def spMake (cs : Int → Addr) : Sp := fun vs H Q _ => ∃ (i : Int) (v : V), vs = [.int i, v] ∧ 0 ≤ i ∧ i < 10 ∧ ∀ (a : Addr) (H' : Hp), Same H H' → ErrIs cs H' a i v → Q (.ref a) H'
theorem Same.two {H : Hp} {a d : Addr} {o u : HO} (ha : H a = none) (hd : H d = none) (n : a ≠ d) : Same H (upd (upd H d u) a o) := fun b x e => by
  rw [upd_ne (ne_of_none e ha), upd_ne (ne_of_none e hd)]
  exact e
theorem Same.new {H : Hp} {q : Addr} {o : HO} (h : H q = none) : Same H (upd H q o) := fun b u e => by
  rw [upd_ne (ne_of_none e h)]
  exact e
section
variable {P : Program} {w : World} {K : PySem.W.Frag} {mg : Str → Option Value} {base : Heap} {cs is : Int → Addr} {S : Addr}
theorem scP : FnScope ["_law_spot", "_law_thing_here"] ["_law_spot", "_law_thing_here"] (defScope sPos) := ⟨rfl, rfl, rfl, by decide +kernel, rfl, by decide +kernel, by decide +kernel⟩
theorem ok_pos {f : Addr} {fd : FuncData} (F : Fun K "_law_by_position" "_law_by_position" sPos f fd) (T : Txt K mg cs is S) : FnOk P w K mg base CX0 3 f fd ["_law_spot", "_law_thing_here"] (spMake cs) := by
  refine F.ok scP (fun vs H Q E h => ?_) (fun cdv A outer s H vs Q E hr h => ?_)
  · obtain ⟨i, v, rfl, _⟩ := h
    rfl
  · obtain ⟨i, v, rfl, i0, i1, q⟩ := h
    have hu := hu_of hr
    refine ⟨_, pss_cons (ps_if (pt_cmpR op_in_seq (pv 0) (pe_tup (pa_cons pe_int (pa_cons pe_int (pa_cons pe_int pa_nil)))) (by rfl))
        (pss_one (ps_ret (pe_ix ix_list (pe_lst (pa_cons (pe_err0 T.p0 rfl) (pa_cons (pe_err0 T.p8 rfl) (pa_cons (pe_err0 T.p9 rfl) pa_nil))))
          (pe_bm PySem.F.plainAttrs_list PySem.F.slot_list_index PySem.F.type_list_index mt_index (pe_lst (pa_cons pe_int (pa_cons pe_int (pa_cons pe_int pa_nil)))) (pa_cons (pv 0) pa_nil)) (fun _ _ => rfl)))) pss_nil)
      (pss_cons (ps_if (pt_cmpR op_lt (pv 0) pe_int (nomark _))
        (pss_one (ps_ret (pe_ix ix_list (pe_lst (pa_cons (pe_errP T.e1 hr (pa_cons (pv 1) pa_nil) rfl) (pa_cons (pe_errP T.e2 hr (pa_cons (pv 1) pa_nil) rfl) (pa_cons (pe_errP T.e3 hr (pa_cons (pv 1) pa_nil) rfl) pa_nil))))
          (pe_op op_sub (pv 0) pe_int) (fun _ _ => rfl)))) pss_nil)
      (pss_one (ps_ret (pe_ix ix_list (pe_lst (pa_cons (pe_errP T.e4 hr (pa_cons (pv 1) pa_nil) rfl) (pa_cons (pe_errP T.e5 hr (pa_cons (pv 1) pa_nil) rfl) (pa_cons (pe_errP T.e6 hr (pa_cons (pv 1) pa_nil) rfl) (pa_cons (pe_errP T.e7 hr (pa_cons (pv 1) pa_nil) rfl) pa_nil)))))
        (pe_op op_sub (pv 0) pe_int) (fun _ _ => rfl))))), ?_⟩
    have hi : i = 0 ∨ i = 8 ∨ i = 9 ∨ i = 1 ∨ i = 2 ∨ i = 3 ∨ i = 4 ∨ i = 5 ∨ i = 6 ∨ i = 7 := by omega
    rcases hi with rfl | rfl | rfl | rfl | rfl | rfl | rfl | rfl | rfl | rfl
    · -- 0
      refine ⟨_, rfl, by show 3 ≤ sizeLine; decide, fun t ht => ⟨t, _, rfl, .inr (SqT.of upd_same), rfl, rfl, _, rfl, iteT ?_⟩⟩
      refine fun a0 h0 a1 h1 a2 h2 => ⟨by show 3 ≤ sizeLine; decide, fun l hl => ⟨by show 3 ≤ sizeLine; decide, fun l2 hl2 => ⟨.inl ⟨rfl, _, SqL.of upd_same⟩, _, rfl, l2, _, _, 0, _, rfl, rfl, SqL.of upd_same, rfl, rfl, rfl, rfl, ?_, l, [.ref a0, .ref a1, .ref a2], _, .ref a0, rfl, rfl, SqL.of ?_, rfl, ?_⟩⟩⟩
      · intro m z' hm hz
        omega
      · rw [upd_ne (ne_of_none upd_same hl2)]
        exact upd_same
      · exact q _ _ ((((((Same.new ht).trans (Same.new h0)).trans (Same.new h1)).trans (Same.new h2)).trans (Same.new hl)).trans (Same.new hl2)) (.inl ⟨by omega, ((((Same.new h1).trans (Same.new h2)).trans (Same.new hl)).trans (Same.new hl2)) _ _ upd_same⟩)
    · -- 8
      refine ⟨_, rfl, by show 3 ≤ sizeLine; decide, fun t ht => ⟨t, _, rfl, .inr (SqT.of upd_same), rfl, rfl, _, rfl, iteT ?_⟩⟩
      refine fun a0 h0 a1 h1 a2 h2 => ⟨by show 3 ≤ sizeLine; decide, fun l hl => ⟨by show 3 ≤ sizeLine; decide, fun l2 hl2 => ⟨.inl ⟨rfl, _, SqL.of upd_same⟩, _, rfl, l2, _, _, 1, _, rfl, rfl, SqL.of upd_same, rfl, rfl, rfl, rfl, ?_, l, [.ref a0, .ref a1, .ref a2], _, .ref a1, rfl, rfl, SqL.of ?_, rfl, ?_⟩⟩⟩
      · intro m z' hm hz
        have : m = 0 := by omega
        rcases this with rfl
        · cases hz
          rfl
      · rw [upd_ne (ne_of_none upd_same hl2)]
        exact upd_same
      · exact q _ _ ((((((Same.new ht).trans (Same.new h0)).trans (Same.new h1)).trans (Same.new h2)).trans (Same.new hl)).trans (Same.new hl2)) (.inl ⟨by omega, (((Same.new h2).trans (Same.new hl)).trans (Same.new hl2)) _ _ upd_same⟩)
    · -- 9
      refine ⟨_, rfl, by show 3 ≤ sizeLine; decide, fun t ht => ⟨t, _, rfl, .inr (SqT.of upd_same), rfl, rfl, _, rfl, iteT ?_⟩⟩
      refine fun a0 h0 a1 h1 a2 h2 => ⟨by show 3 ≤ sizeLine; decide, fun l hl => ⟨by show 3 ≤ sizeLine; decide, fun l2 hl2 => ⟨.inl ⟨rfl, _, SqL.of upd_same⟩, _, rfl, l2, _, _, 2, _, rfl, rfl, SqL.of upd_same, rfl, rfl, rfl, rfl, ?_, l, [.ref a0, .ref a1, .ref a2], _, .ref a2, rfl, rfl, SqL.of ?_, rfl, ?_⟩⟩⟩
      · intro m z' hm hz
        have : m = 0 ∨ m = 1 := by omega
        rcases this with rfl | rfl
        · cases hz
          rfl
        · cases hz
          rfl
      · rw [upd_ne (ne_of_none upd_same hl2)]
        exact upd_same
      · exact q _ _ ((((((Same.new ht).trans (Same.new h0)).trans (Same.new h1)).trans (Same.new h2)).trans (Same.new hl)).trans (Same.new hl2)) (.inl ⟨by omega, ((Same.new hl).trans (Same.new hl2)) _ _ upd_same⟩)
    · -- 1
      refine ⟨_, rfl, by show 3 ≤ sizeLine; decide, fun t ht => ⟨t, _, rfl, .inr (SqT.of upd_same), rfl, rfl, _, rfl, iteF ?_⟩⟩
      refine ⟨_, rfl, _, _, rfl, rfl, _, rfl, iteT ?_⟩
      refine ⟨_, rfl, v, rfl, fun a0 d0 ha0 hd0 n0 => ⟨_, rfl, v, rfl, fun a1 d1 ha1 hd1 n1 => ⟨_, rfl, v, rfl, fun a2 d2 ha2 hd2 n2 => ⟨by show 3 ≤ sizeLine; decide, fun l hl => ⟨_, rfl, _, _, rfl, rfl, l, _, _, .ref a0, rfl, rfl, SqL.of upd_same, rfl, ?_⟩⟩⟩⟩⟩
      have same : ∀ {H : Hp} {a d : Addr} {o u : HO}, H a = none → H d = none → a ≠ d → Same H (upd (upd H d u) a o) := fun ha hd n => (Same.new hd).trans (Same.new (by rw [upd_ne n]; exact ha))
      exact q _ _ (((((Same.new ht).trans (same ha0 hd0 n0)).trans (same ha1 hd1 n1)).trans (same ha2 hd2 n2)).trans (Same.new hl)) (.inr ⟨by omega, by omega, d0, (((same ha1 hd1 n1).trans (same ha2 hd2 n2)).trans (Same.new hl)) _ _ upd_same, (((same ha1 hd1 n1).trans (same ha2 hd2 n2)).trans (Same.new hl)) _ _ (by rw [upd_ne (Ne.symm n0)]; exact upd_same)⟩)
    · -- 2
      refine ⟨_, rfl, by show 3 ≤ sizeLine; decide, fun t ht => ⟨t, _, rfl, .inr (SqT.of upd_same), rfl, rfl, _, rfl, iteF ?_⟩⟩
      refine ⟨_, rfl, _, _, rfl, rfl, _, rfl, iteT ?_⟩
      refine ⟨_, rfl, v, rfl, fun a0 d0 ha0 hd0 n0 => ⟨_, rfl, v, rfl, fun a1 d1 ha1 hd1 n1 => ⟨_, rfl, v, rfl, fun a2 d2 ha2 hd2 n2 => ⟨by show 3 ≤ sizeLine; decide, fun l hl => ⟨_, rfl, _, _, rfl, rfl, l, _, _, .ref a1, rfl, rfl, SqL.of upd_same, rfl, ?_⟩⟩⟩⟩⟩
      have same : ∀ {H : Hp} {a d : Addr} {o u : HO}, H a = none → H d = none → a ≠ d → Same H (upd (upd H d u) a o) := fun ha hd n => (Same.new hd).trans (Same.new (by rw [upd_ne n]; exact ha))
      exact q _ _ (((((Same.new ht).trans (same ha0 hd0 n0)).trans (same ha1 hd1 n1)).trans (same ha2 hd2 n2)).trans (Same.new hl)) (.inr ⟨by omega, by omega, d1, ((same ha2 hd2 n2).trans (Same.new hl)) _ _ upd_same, ((same ha2 hd2 n2).trans (Same.new hl)) _ _ (by rw [upd_ne (Ne.symm n1)]; exact upd_same)⟩)
    · -- 3
      refine ⟨_, rfl, by show 3 ≤ sizeLine; decide, fun t ht => ⟨t, _, rfl, .inr (SqT.of upd_same), rfl, rfl, _, rfl, iteF ?_⟩⟩
      refine ⟨_, rfl, _, _, rfl, rfl, _, rfl, iteT ?_⟩
      refine ⟨_, rfl, v, rfl, fun a0 d0 ha0 hd0 n0 => ⟨_, rfl, v, rfl, fun a1 d1 ha1 hd1 n1 => ⟨_, rfl, v, rfl, fun a2 d2 ha2 hd2 n2 => ⟨by show 3 ≤ sizeLine; decide, fun l hl => ⟨_, rfl, _, _, rfl, rfl, l, _, _, .ref a2, rfl, rfl, SqL.of upd_same, rfl, ?_⟩⟩⟩⟩⟩
      have same : ∀ {H : Hp} {a d : Addr} {o u : HO}, H a = none → H d = none → a ≠ d → Same H (upd (upd H d u) a o) := fun ha hd n => (Same.new hd).trans (Same.new (by rw [upd_ne n]; exact ha))
      exact q _ _ (((((Same.new ht).trans (same ha0 hd0 n0)).trans (same ha1 hd1 n1)).trans (same ha2 hd2 n2)).trans (Same.new hl)) (.inr ⟨by omega, by omega, d2, (Same.new hl) _ _ upd_same, (Same.new hl) _ _ (by rw [upd_ne (Ne.symm n2)]; exact upd_same)⟩)
    · -- 4
      refine ⟨_, rfl, by show 3 ≤ sizeLine; decide, fun t ht => ⟨t, _, rfl, .inr (SqT.of upd_same), rfl, rfl, _, rfl, iteF ?_⟩⟩
      refine ⟨_, rfl, _, _, rfl, rfl, _, rfl, iteF ?_⟩
      refine ⟨_, rfl, v, rfl, fun a0 d0 ha0 hd0 n0 => ⟨_, rfl, v, rfl, fun a1 d1 ha1 hd1 n1 => ⟨_, rfl, v, rfl, fun a2 d2 ha2 hd2 n2 => ⟨_, rfl, v, rfl, fun a3 d3 ha3 hd3 n3 => ⟨by show 4 ≤ sizeLine; decide, fun l hl => ⟨_, rfl, _, _, rfl, rfl, l, _, _, .ref a0, rfl, rfl, SqL.of upd_same, rfl, ?_⟩⟩⟩⟩⟩⟩
      have same : ∀ {H : Hp} {a d : Addr} {o u : HO}, H a = none → H d = none → a ≠ d → Same H (upd (upd H d u) a o) := fun ha hd n => (Same.new hd).trans (Same.new (by rw [upd_ne n]; exact ha))
      exact q _ _ ((((((Same.new ht).trans (same ha0 hd0 n0)).trans (same ha1 hd1 n1)).trans (same ha2 hd2 n2)).trans (same ha3 hd3 n3)).trans (Same.new hl)) (.inr ⟨by omega, by omega, d0, ((((same ha1 hd1 n1).trans (same ha2 hd2 n2)).trans (same ha3 hd3 n3)).trans (Same.new hl)) _ _ upd_same, ((((same ha1 hd1 n1).trans (same ha2 hd2 n2)).trans (same ha3 hd3 n3)).trans (Same.new hl)) _ _ (by rw [upd_ne (Ne.symm n0)]; exact upd_same)⟩)
    · -- 5
      refine ⟨_, rfl, by show 3 ≤ sizeLine; decide, fun t ht => ⟨t, _, rfl, .inr (SqT.of upd_same), rfl, rfl, _, rfl, iteF ?_⟩⟩
      refine ⟨_, rfl, _, _, rfl, rfl, _, rfl, iteF ?_⟩
      refine ⟨_, rfl, v, rfl, fun a0 d0 ha0 hd0 n0 => ⟨_, rfl, v, rfl, fun a1 d1 ha1 hd1 n1 => ⟨_, rfl, v, rfl, fun a2 d2 ha2 hd2 n2 => ⟨_, rfl, v, rfl, fun a3 d3 ha3 hd3 n3 => ⟨by show 4 ≤ sizeLine; decide, fun l hl => ⟨_, rfl, _, _, rfl, rfl, l, _, _, .ref a1, rfl, rfl, SqL.of upd_same, rfl, ?_⟩⟩⟩⟩⟩⟩
      have same : ∀ {H : Hp} {a d : Addr} {o u : HO}, H a = none → H d = none → a ≠ d → Same H (upd (upd H d u) a o) := fun ha hd n => (Same.new hd).trans (Same.new (by rw [upd_ne n]; exact ha))
      exact q _ _ ((((((Same.new ht).trans (same ha0 hd0 n0)).trans (same ha1 hd1 n1)).trans (same ha2 hd2 n2)).trans (same ha3 hd3 n3)).trans (Same.new hl)) (.inr ⟨by omega, by omega, d1, (((same ha2 hd2 n2).trans (same ha3 hd3 n3)).trans (Same.new hl)) _ _ upd_same, (((same ha2 hd2 n2).trans (same ha3 hd3 n3)).trans (Same.new hl)) _ _ (by rw [upd_ne (Ne.symm n1)]; exact upd_same)⟩)
    · -- 6
      refine ⟨_, rfl, by show 3 ≤ sizeLine; decide, fun t ht => ⟨t, _, rfl, .inr (SqT.of upd_same), rfl, rfl, _, rfl, iteF ?_⟩⟩
      refine ⟨_, rfl, _, _, rfl, rfl, _, rfl, iteF ?_⟩
      refine ⟨_, rfl, v, rfl, fun a0 d0 ha0 hd0 n0 => ⟨_, rfl, v, rfl, fun a1 d1 ha1 hd1 n1 => ⟨_, rfl, v, rfl, fun a2 d2 ha2 hd2 n2 => ⟨_, rfl, v, rfl, fun a3 d3 ha3 hd3 n3 => ⟨by show 4 ≤ sizeLine; decide, fun l hl => ⟨_, rfl, _, _, rfl, rfl, l, _, _, .ref a2, rfl, rfl, SqL.of upd_same, rfl, ?_⟩⟩⟩⟩⟩⟩
      have same : ∀ {H : Hp} {a d : Addr} {o u : HO}, H a = none → H d = none → a ≠ d → Same H (upd (upd H d u) a o) := fun ha hd n => (Same.new hd).trans (Same.new (by rw [upd_ne n]; exact ha))
      exact q _ _ ((((((Same.new ht).trans (same ha0 hd0 n0)).trans (same ha1 hd1 n1)).trans (same ha2 hd2 n2)).trans (same ha3 hd3 n3)).trans (Same.new hl)) (.inr ⟨by omega, by omega, d2, ((same ha3 hd3 n3).trans (Same.new hl)) _ _ upd_same, ((same ha3 hd3 n3).trans (Same.new hl)) _ _ (by rw [upd_ne (Ne.symm n2)]; exact upd_same)⟩)
    · -- 7
      refine ⟨_, rfl, by show 3 ≤ sizeLine; decide, fun t ht => ⟨t, _, rfl, .inr (SqT.of upd_same), rfl, rfl, _, rfl, iteF ?_⟩⟩
      refine ⟨_, rfl, _, _, rfl, rfl, _, rfl, iteF ?_⟩
      refine ⟨_, rfl, v, rfl, fun a0 d0 ha0 hd0 n0 => ⟨_, rfl, v, rfl, fun a1 d1 ha1 hd1 n1 => ⟨_, rfl, v, rfl, fun a2 d2 ha2 hd2 n2 => ⟨_, rfl, v, rfl, fun a3 d3 ha3 hd3 n3 => ⟨by show 4 ≤ sizeLine; decide, fun l hl => ⟨_, rfl, _, _, rfl, rfl, l, _, _, .ref a3, rfl, rfl, SqL.of upd_same, rfl, ?_⟩⟩⟩⟩⟩⟩
      have same : ∀ {H : Hp} {a d : Addr} {o u : HO}, H a = none → H d = none → a ≠ d → Same H (upd (upd H d u) a o) := fun ha hd n => (Same.new hd).trans (Same.new (by rw [upd_ne n]; exact ha))
      exact q _ _ ((((((Same.new ht).trans (same ha0 hd0 n0)).trans (same ha1 hd1 n1)).trans (same ha2 hd2 n2)).trans (same ha3 hd3 n3)).trans (Same.new hl)) (.inr ⟨by omega, by omega, d3, (Same.new hl) _ _ upd_same, (Same.new hl) _ _ (by rw [upd_ne (Ne.symm n3)]; exact upd_same)⟩)
theorem scN : FnScope ["_law_spot", "_law_thing_here"] ["_law_spot", "_law_thing_here"] (defScope sName) := ⟨rfl, rfl, rfl, by decide +kernel, rfl, by decide +kernel, by decide +kernel⟩
theorem ok_name {f : Addr} {fd : FuncData} (F : Fun K "_law_by_name" "_law_by_name" sName f fd) (T : Txt K mg cs is S) : FnOk P w K mg base CX0 3 f fd ["_law_spot", "_law_thing_here"] (spMake cs) := by
  refine F.ok scN (fun vs H Q E h => ?_) (fun cdv A outer s H vs Q E hr h => ?_)
  · obtain ⟨i, v, rfl, _⟩ := h
    rfl
  · obtain ⟨i, v, rfl, i0, i1, q⟩ := h
    refine ⟨_, pss_cons (ps_if (pt_cmpR op_lt (pv 0) pe_int (nomark _))
        (pss_one (ps_ret (pe_ix ix_list (pe_lst (pa_cons (pe_err0 T.p0 rfl) (pa_cons (pe_errK T.e1 hr (pk_cons (pv 1) pk_nil) rfl) (pa_cons (pe_errK T.e2 hr (pk_cons (pv 1) pk_nil) rfl) (pa_cons (pe_errK T.e3 hr (pk_cons (pv 1) pk_nil) rfl) pa_nil))))) (pv 0) (fun _ _ => rfl)))) pss_nil)
      (pss_cons (ps_if (pt_cmpR op_lt (pv 0) pe_int (nomark _))
        (pss_one (ps_ret (pe_ix ix_list (pe_lst (pa_cons (pe_errK T.e4 hr (pk_cons (pv 1) pk_nil) rfl) (pa_cons (pe_errK T.e5 hr (pk_cons (pv 1) pk_nil) rfl) (pa_cons (pe_errK T.e6 hr (pk_cons (pv 1) pk_nil) rfl) (pa_cons (pe_errK T.e7 hr (pk_cons (pv 1) pk_nil) rfl) pa_nil))))) (pe_op op_sub (pv 0) pe_int) (fun _ _ => rfl)))) pss_nil)
      (pss_one (ps_ret (pe_ix ix_list (pe_lst (pa_cons (pe_err0 T.p8 rfl) (pa_cons (pe_err0 T.p9 rfl) pa_nil))) (pe_op op_sub (pv 0) pe_int) (fun _ _ => rfl))))), ?_⟩
    have hi : i = 0 ∨ i = 1 ∨ i = 2 ∨ i = 3 ∨ i = 4 ∨ i = 5 ∨ i = 6 ∨ i = 7 ∨ i = 8 ∨ i = 9 := by omega
    rcases hi with rfl | rfl | rfl | rfl | rfl | rfl | rfl | rfl | rfl | rfl
    · -- 0
      refine ⟨_, rfl, _, _, rfl, rfl, _, rfl, iteT ?_⟩
      refine fun a0 ha0 => ⟨_, rfl, v, rfl, fun a1 d1 ha1 hd1 n1 => ⟨_, rfl, v, rfl, fun a2 d2 ha2 hd2 n2 => ⟨_, rfl, v, rfl, fun a3 d3 ha3 hd3 n3 => ⟨by show 4 ≤ sizeLine; decide, fun l hl => ⟨_, rfl, l, _, _, .ref a0, rfl, rfl, SqL.of upd_same, rfl, ?_⟩⟩⟩⟩⟩
      exact q _ _ (((((Same.new ha0).trans (Same.two ha1 hd1 n1)).trans (Same.two ha2 hd2 n2)).trans (Same.two ha3 hd3 n3)).trans (Same.new hl)) (.inl ⟨by omega, ((((Same.two ha1 hd1 n1).trans (Same.two ha2 hd2 n2)).trans (Same.two ha3 hd3 n3)).trans (Same.new hl)) _ _ upd_same⟩)
    · -- 1
      refine ⟨_, rfl, _, _, rfl, rfl, _, rfl, iteT ?_⟩
      refine fun a0 ha0 => ⟨_, rfl, v, rfl, fun a1 d1 ha1 hd1 n1 => ⟨_, rfl, v, rfl, fun a2 d2 ha2 hd2 n2 => ⟨_, rfl, v, rfl, fun a3 d3 ha3 hd3 n3 => ⟨by show 4 ≤ sizeLine; decide, fun l hl => ⟨_, rfl, l, _, _, .ref a1, rfl, rfl, SqL.of upd_same, rfl, ?_⟩⟩⟩⟩⟩
      exact q _ _ (((((Same.new ha0).trans (Same.two ha1 hd1 n1)).trans (Same.two ha2 hd2 n2)).trans (Same.two ha3 hd3 n3)).trans (Same.new hl)) (.inr ⟨by omega, by omega, d1, (((Same.two ha2 hd2 n2).trans (Same.two ha3 hd3 n3)).trans (Same.new hl)) _ _ upd_same, (((Same.two ha2 hd2 n2).trans (Same.two ha3 hd3 n3)).trans (Same.new hl)) _ _ (by rw [upd_ne (Ne.symm n1)]; exact upd_same)⟩)
    · -- 2
      refine ⟨_, rfl, _, _, rfl, rfl, _, rfl, iteT ?_⟩
      refine fun a0 ha0 => ⟨_, rfl, v, rfl, fun a1 d1 ha1 hd1 n1 => ⟨_, rfl, v, rfl, fun a2 d2 ha2 hd2 n2 => ⟨_, rfl, v, rfl, fun a3 d3 ha3 hd3 n3 => ⟨by show 4 ≤ sizeLine; decide, fun l hl => ⟨_, rfl, l, _, _, .ref a2, rfl, rfl, SqL.of upd_same, rfl, ?_⟩⟩⟩⟩⟩
      exact q _ _ (((((Same.new ha0).trans (Same.two ha1 hd1 n1)).trans (Same.two ha2 hd2 n2)).trans (Same.two ha3 hd3 n3)).trans (Same.new hl)) (.inr ⟨by omega, by omega, d2, ((Same.two ha3 hd3 n3).trans (Same.new hl)) _ _ upd_same, ((Same.two ha3 hd3 n3).trans (Same.new hl)) _ _ (by rw [upd_ne (Ne.symm n2)]; exact upd_same)⟩)
    · -- 3
      refine ⟨_, rfl, _, _, rfl, rfl, _, rfl, iteT ?_⟩
      refine fun a0 ha0 => ⟨_, rfl, v, rfl, fun a1 d1 ha1 hd1 n1 => ⟨_, rfl, v, rfl, fun a2 d2 ha2 hd2 n2 => ⟨_, rfl, v, rfl, fun a3 d3 ha3 hd3 n3 => ⟨by show 4 ≤ sizeLine; decide, fun l hl => ⟨_, rfl, l, _, _, .ref a3, rfl, rfl, SqL.of upd_same, rfl, ?_⟩⟩⟩⟩⟩
      exact q _ _ (((((Same.new ha0).trans (Same.two ha1 hd1 n1)).trans (Same.two ha2 hd2 n2)).trans (Same.two ha3 hd3 n3)).trans (Same.new hl)) (.inr ⟨by omega, by omega, d3, (Same.new hl) _ _ upd_same, (Same.new hl) _ _ (by rw [upd_ne (Ne.symm n3)]; exact upd_same)⟩)
    · -- 4
      refine ⟨_, rfl, _, _, rfl, rfl, _, rfl, iteF ⟨_, rfl, _, _, rfl, rfl, _, rfl, iteT ?_⟩⟩
      refine ⟨_, rfl, v, rfl, fun a0 d0 ha0 hd0 n0 => ⟨_, rfl, v, rfl, fun a1 d1 ha1 hd1 n1 => ⟨_, rfl, v, rfl, fun a2 d2 ha2 hd2 n2 => ⟨_, rfl, v, rfl, fun a3 d3 ha3 hd3 n3 => ⟨by show 4 ≤ sizeLine; decide, fun l hl => ⟨_, rfl, _, _, rfl, rfl, l, _, _, .ref a0, rfl, rfl, SqL.of upd_same, rfl, ?_⟩⟩⟩⟩⟩⟩
      exact q _ _ (((((Same.two ha0 hd0 n0).trans (Same.two ha1 hd1 n1)).trans (Same.two ha2 hd2 n2)).trans (Same.two ha3 hd3 n3)).trans (Same.new hl)) (.inr ⟨by omega, by omega, d0, ((((Same.two ha1 hd1 n1).trans (Same.two ha2 hd2 n2)).trans (Same.two ha3 hd3 n3)).trans (Same.new hl)) _ _ upd_same, ((((Same.two ha1 hd1 n1).trans (Same.two ha2 hd2 n2)).trans (Same.two ha3 hd3 n3)).trans (Same.new hl)) _ _ (by rw [upd_ne (Ne.symm n0)]; exact upd_same)⟩)
    · -- 5
      refine ⟨_, rfl, _, _, rfl, rfl, _, rfl, iteF ⟨_, rfl, _, _, rfl, rfl, _, rfl, iteT ?_⟩⟩
      refine ⟨_, rfl, v, rfl, fun a0 d0 ha0 hd0 n0 => ⟨_, rfl, v, rfl, fun a1 d1 ha1 hd1 n1 => ⟨_, rfl, v, rfl, fun a2 d2 ha2 hd2 n2 => ⟨_, rfl, v, rfl, fun a3 d3 ha3 hd3 n3 => ⟨by show 4 ≤ sizeLine; decide, fun l hl => ⟨_, rfl, _, _, rfl, rfl, l, _, _, .ref a1, rfl, rfl, SqL.of upd_same, rfl, ?_⟩⟩⟩⟩⟩⟩
      exact q _ _ (((((Same.two ha0 hd0 n0).trans (Same.two ha1 hd1 n1)).trans (Same.two ha2 hd2 n2)).trans (Same.two ha3 hd3 n3)).trans (Same.new hl)) (.inr ⟨by omega, by omega, d1, (((Same.two ha2 hd2 n2).trans (Same.two ha3 hd3 n3)).trans (Same.new hl)) _ _ upd_same, (((Same.two ha2 hd2 n2).trans (Same.two ha3 hd3 n3)).trans (Same.new hl)) _ _ (by rw [upd_ne (Ne.symm n1)]; exact upd_same)⟩)
    · -- 6
      refine ⟨_, rfl, _, _, rfl, rfl, _, rfl, iteF ⟨_, rfl, _, _, rfl, rfl, _, rfl, iteT ?_⟩⟩
      refine ⟨_, rfl, v, rfl, fun a0 d0 ha0 hd0 n0 => ⟨_, rfl, v, rfl, fun a1 d1 ha1 hd1 n1 => ⟨_, rfl, v, rfl, fun a2 d2 ha2 hd2 n2 => ⟨_, rfl, v, rfl, fun a3 d3 ha3 hd3 n3 => ⟨by show 4 ≤ sizeLine; decide, fun l hl => ⟨_, rfl, _, _, rfl, rfl, l, _, _, .ref a2, rfl, rfl, SqL.of upd_same, rfl, ?_⟩⟩⟩⟩⟩⟩
      exact q _ _ (((((Same.two ha0 hd0 n0).trans (Same.two ha1 hd1 n1)).trans (Same.two ha2 hd2 n2)).trans (Same.two ha3 hd3 n3)).trans (Same.new hl)) (.inr ⟨by omega, by omega, d2, ((Same.two ha3 hd3 n3).trans (Same.new hl)) _ _ upd_same, ((Same.two ha3 hd3 n3).trans (Same.new hl)) _ _ (by rw [upd_ne (Ne.symm n2)]; exact upd_same)⟩)
    · -- 7
      refine ⟨_, rfl, _, _, rfl, rfl, _, rfl, iteF ⟨_, rfl, _, _, rfl, rfl, _, rfl, iteT ?_⟩⟩
      refine ⟨_, rfl, v, rfl, fun a0 d0 ha0 hd0 n0 => ⟨_, rfl, v, rfl, fun a1 d1 ha1 hd1 n1 => ⟨_, rfl, v, rfl, fun a2 d2 ha2 hd2 n2 => ⟨_, rfl, v, rfl, fun a3 d3 ha3 hd3 n3 => ⟨by show 4 ≤ sizeLine; decide, fun l hl => ⟨_, rfl, _, _, rfl, rfl, l, _, _, .ref a3, rfl, rfl, SqL.of upd_same, rfl, ?_⟩⟩⟩⟩⟩⟩
      exact q _ _ (((((Same.two ha0 hd0 n0).trans (Same.two ha1 hd1 n1)).trans (Same.two ha2 hd2 n2)).trans (Same.two ha3 hd3 n3)).trans (Same.new hl)) (.inr ⟨by omega, by omega, d3, (Same.new hl) _ _ upd_same, (Same.new hl) _ _ (by rw [upd_ne (Ne.symm n3)]; exact upd_same)⟩)
    · -- 8
      refine ⟨_, rfl, _, _, rfl, rfl, _, rfl, iteF ⟨_, rfl, _, _, rfl, rfl, _, rfl, iteF ?_⟩⟩
      refine fun a0 ha0 => fun a1 ha1 => ⟨by show 2 ≤ sizeLine; decide, fun l hl => ⟨_, rfl, _, _, rfl, rfl, l, _, _, .ref a0, rfl, rfl, SqL.of upd_same, rfl, ?_⟩⟩
      exact q _ _ (((Same.new ha0).trans (Same.new ha1)).trans (Same.new hl)) (.inl ⟨by omega, ((Same.new ha1).trans (Same.new hl)) _ _ upd_same⟩)
    · -- 9
      refine ⟨_, rfl, _, _, rfl, rfl, _, rfl, iteF ⟨_, rfl, _, _, rfl, rfl, _, rfl, iteF ?_⟩⟩
      refine fun a0 ha0 => fun a1 ha1 => ⟨by show 2 ≤ sizeLine; decide, fun l hl => ⟨_, rfl, _, _, rfl, rfl, l, _, _, .ref a1, rfl, rfl, SqL.of upd_same, rfl, ?_⟩⟩
      exact q _ _ (((Same.new ha0).trans (Same.new ha1)).trans (Same.new hl)) (.inl ⟨by omega, (Same.new hl) _ _ upd_same⟩)
theorem scK : FnScope ["_law_spot", "_law_e"] ["_law_spot", "_law_e"] (defScope sKept) := ⟨rfl, rfl, rfl, by decide +kernel, rfl, by decide +kernel, by decide +kernel⟩
/-- what the error keeps -/
def spKept (cs : Int → Addr) : Sp := fun vs H Q _ => ∃ (i : Int) (a : Addr) (v : V), vs = [.int i, .ref a] ∧ 0 ≤ i ∧ i < 10 ∧ ErrIs cs H a i v ∧ ∀ H', Same H H' → Q (if 1 ≤ i ∧ i ≤ 7 then v else .non) H'
theorem ok_kept {f : Addr} {fd : FuncData} (F : Fun K "_law_kept" "_law_kept" sKept f fd) (T : Txt K mg cs is S) : FnOk P w K mg base CX0 1 f fd ["_law_spot", "_law_e"] (spKept cs) := by
  refine F.ok scK (fun vs H Q E h => ?_) (fun cdv A outer s H vs Q E hr h => ?_)
  · obtain ⟨i, a, v, rfl, _⟩ := h
    rfl
  · obtain ⟨i, a, v, rfl, i0, i1, hE, q⟩ := h
    refine ⟨_, pss_cons (ps_if (pt_cmpR op_eq (pv 0) pe_int (nomark _)) (pss_one (ps_ret (pe_errF (pv 1)))) pss_nil)
      (pss_cons (ps_if (pt_cmpR op_eq (pv 0) pe_int (nomark _)) (pss_one (ps_ret (pe_errF (pv 1)))) pss_nil)
      (pss_cons (ps_if (pt_cmpR op_in_seq (pv 0) (pe_tup (pa_cons pe_int (pa_cons pe_int (pa_cons pe_int pa_nil)))) (by rfl)) (pss_one (ps_ret (pe_errF (pv 1)))) pss_nil)
      (pss_cons (ps_if (pt_cmpR op_eq (pv 0) pe_int (nomark _)) (pss_one (ps_ret (pe_errF (pv 1)))) pss_nil)
      (pss_one (ps_ret (pe_ifExp (pt_cmpR op_eq (pv 0) pe_int (nomark _)) (pe_errF (pv 1)) pe_non)))))), ?_⟩
    have hi : i = 0 ∨ i = 1 ∨ i = 2 ∨ i = 3 ∨ i = 4 ∨ i = 5 ∨ i = 6 ∨ i = 7 ∨ i = 8 ∨ i = 9 := by omega
    rcases hi with rfl | rfl | rfl | rfl | rfl | rfl | rfl | rfl | rfl | rfl
    · -- 0
      rw [if_neg (by omega)] at q
      exact ⟨_, rfl, rfl, _, rfl, iteF ⟨_, rfl, rfl, _, rfl, iteF ⟨_, rfl, by show 3 ≤ sizeLine; decide, fun t ht => ⟨t, _, rfl, .inr (SqT.of upd_same), rfl, rfl, _, rfl, iteF ⟨_, rfl, rfl, _, rfl, iteF ⟨_, rfl, rfl, _, rfl, iteF (q _ (Same.new ht))⟩⟩⟩⟩⟩⟩
    · -- 1
      obtain ⟨d, ha, hd⟩ : ∃ d, H a = some (EO (cs 1) (some d) a) ∧ H d = some (.xd [(fldOf 1, v)]) := by
        rcases hE with ⟨z, _⟩ | ⟨_, _, d, ha, hd⟩
        · omega
        · exact ⟨d, ha, hd⟩
      rw [if_pos (by omega)] at q
      exact ⟨_, rfl, rfl, _, rfl, iteT ⟨_, rfl, a, d, cs 1, S, is 1, _, v, rfl, T.e1, ha, hd, q _ (Same.refl _)⟩⟩
    · -- 2
      obtain ⟨d, ha, hd⟩ : ∃ d, H a = some (EO (cs 2) (some d) a) ∧ H d = some (.xd [(fldOf 2, v)]) := by
        rcases hE with ⟨z, _⟩ | ⟨_, _, d, ha, hd⟩
        · omega
        · exact ⟨d, ha, hd⟩
      rw [if_pos (by omega)] at q
      exact ⟨_, rfl, rfl, _, rfl, iteF ⟨_, rfl, rfl, _, rfl, iteT ⟨_, rfl, a, d, cs 2, S, is 2, _, v, rfl, T.e2, ha, hd, q _ (Same.refl _)⟩⟩⟩
    · -- 3
      obtain ⟨d, ha, hd⟩ : ∃ d, H a = some (EO (cs 3) (some d) a) ∧ H d = some (.xd [(fldOf 3, v)]) := by
        rcases hE with ⟨z, _⟩ | ⟨_, _, d, ha, hd⟩
        · omega
        · exact ⟨d, ha, hd⟩
      rw [if_pos (by omega)] at q
      exact ⟨_, rfl, rfl, _, rfl, iteF ⟨_, rfl, rfl, _, rfl, iteF ⟨_, rfl, by show 3 ≤ sizeLine; decide, fun t ht => ⟨t, _, rfl, .inr (SqT.of upd_same), rfl, rfl, _, rfl, iteT ⟨_, rfl, a, d, cs 3, S, is 3, _, v, rfl, T.e3, Same.new ht _ _ ha, Same.new ht _ _ hd, q _ (Same.new ht)⟩⟩⟩⟩⟩
    · -- 4
      obtain ⟨d, ha, hd⟩ : ∃ d, H a = some (EO (cs 4) (some d) a) ∧ H d = some (.xd [(fldOf 4, v)]) := by
        rcases hE with ⟨z, _⟩ | ⟨_, _, d, ha, hd⟩
        · omega
        · exact ⟨d, ha, hd⟩
      rw [if_pos (by omega)] at q
      exact ⟨_, rfl, rfl, _, rfl, iteF ⟨_, rfl, rfl, _, rfl, iteF ⟨_, rfl, by show 3 ≤ sizeLine; decide, fun t ht => ⟨t, _, rfl, .inr (SqT.of upd_same), rfl, rfl, _, rfl, iteT ⟨_, rfl, a, d, cs 4, S, is 4, _, v, rfl, T.e4, Same.new ht _ _ ha, Same.new ht _ _ hd, q _ (Same.new ht)⟩⟩⟩⟩⟩
    · -- 5
      obtain ⟨d, ha, hd⟩ : ∃ d, H a = some (EO (cs 5) (some d) a) ∧ H d = some (.xd [(fldOf 5, v)]) := by
        rcases hE with ⟨z, _⟩ | ⟨_, _, d, ha, hd⟩
        · omega
        · exact ⟨d, ha, hd⟩
      rw [if_pos (by omega)] at q
      exact ⟨_, rfl, rfl, _, rfl, iteF ⟨_, rfl, rfl, _, rfl, iteF ⟨_, rfl, by show 3 ≤ sizeLine; decide, fun t ht => ⟨t, _, rfl, .inr (SqT.of upd_same), rfl, rfl, _, rfl, iteT ⟨_, rfl, a, d, cs 5, S, is 5, _, v, rfl, T.e5, Same.new ht _ _ ha, Same.new ht _ _ hd, q _ (Same.new ht)⟩⟩⟩⟩⟩
    · -- 6
      obtain ⟨d, ha, hd⟩ : ∃ d, H a = some (EO (cs 6) (some d) a) ∧ H d = some (.xd [(fldOf 6, v)]) := by
        rcases hE with ⟨z, _⟩ | ⟨_, _, d, ha, hd⟩
        · omega
        · exact ⟨d, ha, hd⟩
      rw [if_pos (by omega)] at q
      exact ⟨_, rfl, rfl, _, rfl, iteF ⟨_, rfl, rfl, _, rfl, iteF ⟨_, rfl, by show 3 ≤ sizeLine; decide, fun t ht => ⟨t, _, rfl, .inr (SqT.of upd_same), rfl, rfl, _, rfl, iteF ⟨_, rfl, rfl, _, rfl, iteT ⟨_, rfl, a, d, cs 6, S, is 6, _, v, rfl, T.e6, Same.new ht _ _ ha, Same.new ht _ _ hd, q _ (Same.new ht)⟩⟩⟩⟩⟩⟩
    · -- 7
      obtain ⟨d, ha, hd⟩ : ∃ d, H a = some (EO (cs 7) (some d) a) ∧ H d = some (.xd [(fldOf 7, v)]) := by
        rcases hE with ⟨z, _⟩ | ⟨_, _, d, ha, hd⟩
        · omega
        · exact ⟨d, ha, hd⟩
      rw [if_pos (by omega)] at q
      exact ⟨_, rfl, rfl, _, rfl, iteF ⟨_, rfl, rfl, _, rfl, iteF ⟨_, rfl, by show 3 ≤ sizeLine; decide, fun t ht => ⟨t, _, rfl, .inr (SqT.of upd_same), rfl, rfl, _, rfl, iteF ⟨_, rfl, rfl, _, rfl, iteF ⟨_, rfl, rfl, _, rfl, iteT ⟨_, rfl, a, d, cs 7, S, is 7, _, v, rfl, T.e7, Same.new ht _ _ ha, Same.new ht _ _ hd, q _ (Same.new ht)⟩⟩⟩⟩⟩⟩⟩
    · -- 8
      rw [if_neg (by omega)] at q
      exact ⟨_, rfl, rfl, _, rfl, iteF ⟨_, rfl, rfl, _, rfl, iteF ⟨_, rfl, by show 3 ≤ sizeLine; decide, fun t ht => ⟨t, _, rfl, .inr (SqT.of upd_same), rfl, rfl, _, rfl, iteF ⟨_, rfl, rfl, _, rfl, iteF ⟨_, rfl, rfl, _, rfl, iteF (q _ (Same.new ht))⟩⟩⟩⟩⟩⟩
    · -- 9
      rw [if_neg (by omega)] at q
      exact ⟨_, rfl, rfl, _, rfl, iteF ⟨_, rfl, rfl, _, rfl, iteF ⟨_, rfl, by show 3 ≤ sizeLine; decide, fun t ht => ⟨t, _, rfl, .inr (SqT.of upd_same), rfl, rfl, _, rfl, iteF ⟨_, rfl, rfl, _, rfl, iteF ⟨_, rfl, rfl, _, rfl, iteF (q _ (Same.new ht))⟩⟩⟩⟩⟩⟩
end
end My
-- ===== K01C =====
namespace My
open PySem L2 PySem.MyX PyProof.Rows PySem.Spec
/-! ### a def's promise under a condition on what is around -/
structure FnG (c : Bool) (G : Around → Prop) (P : Program) (w : World) (K : PySem.W.Frag) (mg : Str → Option Value) (base : Heap) (CX : CXT) (k : Nat) (f : Addr) (fd : FuncData) (ps : List Str) (sp : Sp) : Prop where
  len : ∀ vs H Q E, sp vs H Q E → vs.length = ps.length
  run : ∀ (A : Around) (outer : List Env) (s : Shared) (H : Hp) (args : Args) (us : List Value) (vs : List V) (Q : VK) (E : XK), (c = true → A.handled = none) → G A → L2H.RoomH k A →
    Env0 P w K mg base A outer s H → BindsTo s fd args (ps.zip us) → Vals vs us → sp vs H Q E → codeAny (model P w) A (.call (.ref f) args) (CR CX outer P w H s Q E) s
def cxG (c : Bool) (CX : CXT) (P : Program) (w : World) (K : PySem.W.Frag) (mg : Str → Option Value) (base : Heap) (N : List Str) (qual : Str) (scope : Scope) (f : Addr) (cd : Value) (A : Around) (outer : List Env) (s : Shared) (H : Hp) (E : XK) : Cx :=
  { cxOf CX P w K mg base N qual scope f cd A outer s H E with calm := c }
section
variable {c : Bool} {G : Around → Prop} {CX : CXT} {P : Program} {w : World} {K : PySem.W.Frag} {mg : Str → Option Value} {base : Heap} {N ps : List Str} {qual : Str} {scope : Scope} {f : Addr} {cd : Value} {A : Around} {outer : List Env} {s s1 : Shared} {H : Hp} {E : XK}
theorem inv_startG {us : List Value} {vs : List V} (S : FnScope N ps scope) (hd : c = true → A.handled = none) (e0 : Env0 P w K mg base A outer s H) (hl : vs.length = ps.length) (r : Vals vs us)
    (x : InCallC s s.heap.objs.size (bindL (envOfC qual scope s.heap.objs.size f cd).kindOf (ps.zip us) fun _ => none) (cellsFrom (s.heap.objs.size + 1) scope.names []) (bindC (envOfC qual scope s.heap.objs.size f cd).kindOf (ps.zip us) fun _ => none) s1) :
    Inv (cxG c CX P w K mg base N qual scope f cd A outer s H E) [] (start N vs) H s1 := by
  have J : Inv (cxOf CX P w K mg base N qual scope f cd { A with handled := none } outer s H E) [] (start N vs) H s1 := inv_start S rfl ⟨e0.frames, e0.mod, e0.bs, e0.bsz, e0.funs, e0.frf, e0.hok, e0.bare⟩ hl r x
  have o := J.ok
  exact ⟨⟨o.mod, o.kind, o.glob, o.blt, o.above, o.inj, o.has, o.cab, hd, Around.frames_deeper e0.frames, o.stk, o.exf, o.bs, o.bsz, o.noex, o.exfs, o.funs, o.frf⟩, J.os, J.bare, J.base, J.loc, J.cell, J.free, J.freeC, J.pin, J.hok, J.len⟩
theorem fn_ofG {k : Nat} {name : Str} {params : Arguments} {body : List Stmt} {dV kV doc pm cdv ct oc : Value} {an od : Option Addr} {osl : Array (Option Value)} {sp : Sp}
    (lk : K.lookup f = some ⟨oc, od, .func (PySem.W.fnOf name qual params body scope dV kV doc pm an cdv ct), osl⟩) (hcd : PySem.W.codeIn K cdv qual = true) (S : FnScope N ps scope) (len : ∀ vs H Q E, sp vs H Q E → vs.length = ps.length)
    (hbody : ∀ (A : Around) (outer : List Env) (s : Shared) (H : Hp) (vs : List V) (Q : VK) (E : XK), (c = true → A.handled = none) → G A → L2H.RoomH k (A.deeper (envOfC qual scope s.heap.objs.size f cdv)) → sp vs H Q E →
      ∃ t, PSs (cxG c CX P w K mg base N qual scope f cdv A outer s H E) body t ∧ t { nx := fun _ H' => Q .non H', rt := Q } (start N vs) H) :
    FnG c G P w K mg base CX (k + 1) f (PySem.W.fnOf name qual params body scope dV kV doc pm an cdv ct) ps sp := by
  refine ⟨len, fun A outer s H args us vs Q E hh hG hr e0 hb r hsp => ?_⟩
  have hl := len _ _ _ _ hsp
  have KX : K.In s.heap := e0.mod.kin.keeps fun b o e => (e0.bs b o e).1
  have lim : s.heap.NoLimit := e0.mod.nolimit.keeps fun b o e => (e0.bs b o e).1
  refine codeAny_call_function hr.depth (KX _ _ lk) rfl S.co S.gen rfl (PySem.W.codeRec_of KX hcd) (hb _ _ _ _ ?_)
  refine wpAny_newFunctionEnv_cells S.kind (fun ⟨n, v⟩ hy => ?_) fun env he s1 x => ?_
  · rcases S.par n (List.of_mem_zip hy).1 with q | q
    · exact .inl q
    · exact .inr ⟨q, PySem.W.cellsFrom_some _ _ _ (.inl q)⟩
  subst he
  refine ⟨lim.keeps x.toInCall.keep, codeAny_func ?_⟩
  obtain ⟨t, ht, hq⟩ := hbody A outer s H vs Q E hh hG (hr.deeper _) hsp
  refine wpAny_mono (ht.run [] s1 (start N vs) H _ (inv_startG S hh e0 hl r x) hq) (fun fl s' hs => ?_) fun e s' hs => hs
  cases fl with
  | ret u =>
    obtain ⟨v, σ', H', J, rv, q⟩ := hs
    exact ⟨v, H', J.os, J.bare, J.base, J.hok, rv, q⟩
  | next =>
    obtain ⟨σ', H', J, q⟩ := hs
    exact ⟨V.non, H', J.os, J.bare, J.base, J.hok, rfl, q⟩
  | brk =>
    obtain ⟨_, _, _, q⟩ := hs
    exact False.elim q
  | cont =>
    obtain ⟨_, _, _, q⟩ := hs
    exact False.elim q
/-- by its body, nothing is raised -/
theorem okG {x : Str} {st : Stmt} {fd : FuncData} {k : Nat} {sp : Sp} (F : Fun K x qual st f fd) (S : FnScope N ps (defScope st)) (len : ∀ vs H Q E, sp vs H Q E → vs.length = ps.length)
    (hbody : ∀ (cdv : Value) (A : Around) (outer : List Env) (s : Shared) (H : Hp) (vs : List V) (Q : VK) (E : XK), (c = true → A.handled = none) → G A → L2H.RoomH k (A.deeper (envOfC qual (defScope st) s.heap.objs.size f cdv)) → sp vs H Q E →
      ∃ t, PSs (cxG c CX P w K mg base N qual (defScope st) f cdv A outer s H E) (defBody st) t ∧ t { nx := fun _ H' => Q .non H', rt := Q } (start N vs) H) : FnG c G P w K mg base CX (k + 1) f fd ps sp := by
  obtain ⟨oc, od, kV, doc, pm, an, cdv, ct, osl, rfl, lk, hcd⟩ := F.ex
  exact fn_ofG lk hcd S len fun A outer s H vs Q E hh hG hr hsp => hbody cdv A outer s H vs Q E hh hG hr hsp
end
section
variable {c : Bool} {G : Around → Prop} {X : Cx} {CX : CXT} {k : Nat} {f : Addr} {fd : FuncData} {ps : List Str} {sp : Sp} {x : Str} {p pos : Pos} {e : Expr} {es : List Expr} {t : TA} {E : XK}
theorem pe_callG (F : FnG c G X.prog X.w X.K X.mg X.base CX k f fd ps sp) (hh : c = true → X.A.handled = none) (hG : G X.A) (hr : L2H.RoomH k X.A) (hg : Gl X x) (hm : X.mg x = some (.ref f)) (hk : PySem.W.keepIn X.K (.ref f) = true) (hb : Binds X.K fd ps []) (hx : Passes CX X E)
    (ha : PA X (e :: es) t) (hdb : (x == ("__debug__" : Str)) = false := by decide) (he : starEach (e :: es) X.env = (false, eval e X.env) :: starEach es X.env := by rfl) (hpl : (backTo pos (starEach es X.env)).any (·.1) = false := by rfl) :
    PE X (.Call (.Name x p) (e :: es) [] pos) (tCall sp [] E t) := by
  refine ⟨fun pins s σ H Q I h => ?_⟩
  refine wpAny_Call_Name_kw (ld_glob I hg hm ?_ hdb)
  refine PySem.W.callWith_K (h₀ := X.base) I.ok.mod.kin hk (thn (ha.run pos pins s σ H _ I h) fun us s1 ⟨vs, H1, I1, r, q⟩ => ⟨I1.kIn, ?_⟩) he hpl
  have r2 : Vals (vs ++ []) (us ++ []) := by rw [List.append_nil, List.append_nil]; exact r
  have hl : (us ++ []).length = ps.length := by rw [← r2.length]; exact F.len _ _ _ _ q
  refine wpAny_call (codeAny_mono (F.run X.A X.stack s1 H1 ⟨us, []⟩ (us ++ []) (vs ++ []) Q E hh hG hr I1.env0 (hb s1 us I1.kIn hl) r2 q) fun r s' hq => ?_)
  cases r with
  | error e => exact hx pins σ H1 s1 e s' I1 hq
  | ok fl =>
    cases fl with
    | ret u => exact I1.after hq
    | next => exact False.elim hq
    | brk => exact False.elim hq
    | cont => exact False.elim hq
end
/-! ### try, with any except clauses; the caught exception is tracked -/
/-- a caught exception: its class, where its dict stands -/
def EX (cls : Value) (d : Option Addr) (a : Addr) : HO := .ext fun h => ∃ (oe : Obj) (vs : Array Value), h.get? a = some oe ∧ Zc cls d oe ∧ oe.data = .fields vs
theorem ex_ok {P : Program} {w : World} {H : Hp} {h : Heap} {a : Addr} {cls : Value} {d : Option Addr} {oe : Obj} {vs : Array Value} (e : h.get? a = some oe) (z : Zc cls d oe) (da : oe.data = .fields vs) : ObjOk P w H h a (EX cls d a) :=
  ⟨⟨oe, vs, e, z, da⟩, ⟨oe, e⟩, fun _ _ ⟨o, v, q, r⟩ k => ⟨o, v, k o q, r⟩⟩
/-- where a caught exception is handled -/
abbrev hot (X : Cx) (a : Addr) : Cx := { X with A := X.A.mark (some (.ref a)), calm := false, xe := fun _ _ => False }
section
variable {X : Cx} {pins : List (Addr × Obj)} {σ : L2.St} {H : Hp} {s : Shared} {a : Addr}
theorem toHot (I : Inv X pins σ H s) : Inv (hot X a) pins σ H s := by
  have o := I.ok
  exact ⟨⟨o.mod, o.kind, o.glob, o.blt, o.above, o.inj, o.has, o.cab, (fun z => Bool.noConfusion (show false = true from z)), o.frames, o.stk, o.exf, o.bs, o.bsz, o.noex, o.exfs, o.funs, o.frf⟩, I.os, I.bare, I.base, I.loc, I.cell, I.free, I.freeC, I.pin, I.hok, I.len⟩
theorem ofHot (I : Inv (hot X a) pins σ H s) (ok : X.Ok) : Inv X pins σ H s := ⟨ok, I.os, I.bare, I.base, I.loc, I.cell, I.free, I.freeC, I.pin, I.hok, I.len⟩
theorem track {B : Heap} {sI s' : Shared} {h3 : Heap} {oe : Obj} {vs : Array Value} {cls : Value} {d : Option Addr} (J : Inv X pins σ H sI) (nb : ∀ b o, sI.heap.get? b = some o → b ∉ frs X.stack → B.get? b = some o) (st : B.StaysIn h3) (up : sI.heap.UpToSlots h3) (os : s'.os = sI.os) (ag : AllBare s'.gens)
    (nB : B.get? a = none) (nf : a ∉ frs X.stack) (na : H a = none) (he : h3.get? a = some oe) (hz : Zc cls d oe) (hd : oe.data = .fields vs) : Inv X pins σ (upd H a (EX cls d a)) { s' with heap := h3 } := by
  obtain ⟨F, g1, g2⟩ := restrict h3 fun b => decide (b ≠ a)
  have gk : ∀ b, b ≠ a → F.get? b = h3.get? b := fun b hb => g1 b (decide_eq_true hb)
  have ga : F.get? a = none := g2 a (decide_eq_false fun z => z rfl)
  have n1 : ∀ b o, sI.heap.get? b = some o → b ≠ a := fun b o e z => by
    subst z
    rw [nb b o e nf] at nB
    cases nB
  have I1 : Inv X pins σ H { s' with heap := F } := J.landed nb (fun b o e => by
    have hb : b ≠ a := fun z => by
      rw [z, nB] at e
      cases e
    show F.get? b = some o
    rw [gk b hb]
    exact st b o e) (fun b o e hnf => by
      obtain ⟨sl, q⟩ := up b o e hnf
      refine ⟨sl, ?_⟩
      show F.get? b = _
      rw [gk b (n1 b o e)]
      exact q) os ag
  exact I1.laidN (h' := h3) (t' := s'.toks) (fun b o e => by
    have hb : b ≠ a := fun z => by
      have e' : F.get? b = some o := e
      rw [z, ga] at e'
      cases e'
    exact (gk b hb).symm.trans e) ga na (ex_ok he hz hd)
end
/-- the clauses: the class, the slot of the name, the suite -/
abbrev Cl := Value × Option Nat × (Addr → TS)
def slotOn (on : Option Nat) (v : Option V) (σ : L2.St) : L2.St := match on with
  | none => σ
  | some i => σ.set i v
def endsOn (on : Option Nat) (D : Ends) : Ends := { nx := fun σ H => D.nx (slotOn on none σ) H, rt := D.rt, bk := fun σ H => D.bk (slotOn on none σ) H, ct := fun σ H => D.ct (slotOn on none σ) H }
def wHot (K : PySem.W.Frag) (D : Ends) : List Cl → WX
  | [] => fun _ _ _ _ => False
  | (c, on, ts) :: r => fun cls d σ H => ∃ b, PySem.W.exmOne K cls c = some b ∧ (b = true → ∀ a, H a = none → ts a (endsOn on D) (slotOn on (some (.ref a)) σ) (upd H a (EX cls d a))) ∧ (b = false → wHot K D r cls d σ H)
inductive Cls' (X : Cx) : List ExceptHandler → List Cl → Prop
  | nil : Cls' X [] []
  | cons {x : Str} {c : Value} {ts : Addr → TS} {b₀ : Stmt} {suite : List Stmt} {np pos' : Pos} {hds : List ExceptHandler} {l : List Cl} (hc : Names X x c) (hsu : ∀ a : Addr, PSs (hot X a) (b₀ :: suite) (ts a)) (r : Cls' X hds l) :
      Cls' X (.ExceptHandler (some (.Name x np)) none (b₀ :: suite) pos' :: hds) ((c, none, ts) :: l)
  | as {x n : Str} {i : Nat} {c : Value} {ts : Addr → TS} {b₀ : Stmt} {suite : List Stmt} {np pos' : Pos} {hds : List ExceptHandler} {l : List Cl} (hc : Names X x c) (hi : X.N[i]? = some n) (hln : X.env.kindOf n = some .local) (hsu : ∀ a : Addr, PSs (hot X a) (b₀ :: suite) (ts a)) (r : Cls' X hds l) :
      Cls' X (.ExceptHandler (some (.Name x np)) (some n) (b₀ :: suite) pos' :: hds) ((c, some i, ts) :: l)
section
variable {X : Cx} {body : List Stmt} {h₀ : ExceptHandler} {hds : List ExceptHandler} {l : List Cl} {pos : Pos} {tb : WX → TS}
theorem ps_try_hot (hs : X.stack = X.env :: X.outer) (hf : X.env.frame = some X.env.locals) (hN : X.N.Nodup)
    (hb : ∀ (W : WX) (pn : List (Addr × Obj)) (xe : Value → Shared → Prop), Takes (X.tr pn xe) W → PassesOwn (model X.prog X.w) X.A X.env xe → PSs (X.tr pn xe) body (tb W))
    (hh : Cls' X (h₀ :: hds) l) : PS X (.Try body (h₀ :: hds) [] [] pos) (fun D σ H => tb (wHot X.K D l) D σ H) := by
  refine ⟨fun pins s σ H D I h => ?_⟩
  have ok := I.ok
  have hfr : X.A.frames = some (X.env :: X.outer) := by rw [ok.frames, hs]
  refine wpAny_Try_except ?_
  refine wpAny_mono ((hb (wHot X.K D l) (X.pn ++ pins) (fun e s₁ => wpAny (model X.prog X.w) X.A (noteFrame e X.env) (fun _ s₂ => wpAny (model X.prog X.w) X.A (setFlight e none) (fun _ s₃ =>
    wpAny (model X.prog X.w) X.A (handleBy e X.env (h₀ :: hds)) (SP X pins D) X.xe s₃) X.xe s₂) X.xe s₁) (fun u s' xx => ?_) PassesOwn.looking).run [] s σ H D (I.toTry _) h) (fun f s1 hsp => ?_) (fun e s1 he => he)
  · obtain ⟨a, B, sI, pins', σ', H', cls, d, rfl, J', nb, up, sky, na, os, ag, w⟩ := xx
    have J : Inv X pins σ' H' sI := J'.ofTry ok
    have sky' : Sky B (X.env :: X.outer) a (Zc cls d) X.env.locals s'.heap := by rw [← hs]; exact sky
    show wpAny (model X.prog X.w) X.A (noteFrame (.ref a) X.env) _ _ _
    refine Sky.land Zc.steady hfr hf sky' fun h3 fl3 up3 => ?_
    have J3 : Inv X pins σ' H' { s' with heap := h3 } := J.landed nb fl3.1 (up.trans up3) os ag
    obtain ⟨oe3, vs3, he3, hz3, hd3⟩ := fl3.there
    have nfr : a ∉ frs (X.env :: X.outer) := fun hm => by
      obtain ⟨_, o', e', hnf⟩ := fl3.2.2.1.mem hm
      rw [he3] at e'
      cases e'
      exact hnf _ hd3
    have nB : B.get? a = none := fl3.2.1
    have S3 : Inv (hot X a) pins σ' H' { s' with heap := h3 } := toHot J3
    have LT : PySem.W.Looks (model X.prog X.w) h3 (typeOf (.ref a)) cls := fun A Q E s k q => wpAny_typeOf_ref (k _ _ he3) (by rw [hz3.1]; exact q)
    have test : ∀ {x : Str} {c : Value} {np : Pos} {Q : Value → Shared → Prop} {E : Value → Shared → Prop}, Names X x c → Q c { s' with heap := h3 } → wpAny (model X.prog X.w) (X.A.mark (some (.ref a))) (eval (.Name x np) X.env) Q E { s' with heap := h3 } := fun {x c np Q E} hc q => by
      obtain ⟨hg, hdbg, hm | ⟨hm, hv, hnn⟩⟩ := hc
      · exact ld_glob (X := hot X a) S3 hg hm q hdbg
      · exact ld_blt (X := hot X a) S3 hg hm hv q hnn hdbg
    have land : ∀ {Q : Unit → Shared → Prop} {E : Value → Shared → Prop}, (∀ h4, Inv (hot X a) pins σ' (upd H' a (EX cls d a)) { s' with heap := h4 } → Q () { s' with heap := h4 }) → wpAny (model X.prog X.w) (X.A.mark (some (.ref a))) (setFlight (.ref a) none) Q E { s' with heap := h3 } := fun {Q E} q =>
      HandSPX.lands_againZ fl3 fun h4 fl4 up4 => by
        obtain ⟨oe4, vs4, he4, hz4, hd4⟩ := fl4.there
        exact q h4 (toHot (track J nb fl4.1 ((up.trans up3).trans up4) os ag nB (by rw [hs]; exact nfr) na he4 hz4 hd4))
    have go : ∀ {hds' : List ExceptHandler} {l' : List Cl}, Cls' X hds' l' → wHot X.K D l' cls d σ' H' → wpAny (model X.prog X.w) X.A (handleBy (.ref a) X.env hds') (SP X pins D) X.xe { s' with heap := h3 } := by
      intro hds' l' hk
      induction hk with
      | nil =>
        intro w
        exact w.elim
      | @cons x c ts b₀ suite np pos' hds2 l2 hc hsu r ih =>
        intro w
        obtain ⟨b, hb1, hyes, hno⟩ := w
        refine wpAny_handleBy_cons (codeAny_handlers_test ?_) (by intro q; cases q)
        have LM := PySem.W.exm_one (M := model X.prog X.w) (J3.kIn) LT hb1
        refine test hc (LM.here ?_)
        cases b with
        | true =>
          refine codeAny_handlers_suite ?_
          refine land fun h4 S4 => ?_
          refine wpAny_mono ((hsu a).run pins _ _ _ _ S4 (hyes rfl a na)) (fun f s6 hsp => ?_) (fun _ _ z => False.elim z)
          cases f with
          | next =>
            obtain ⟨σ6, H6, S6, q6⟩ := hsp
            exact ⟨_, _, ofHot S6 ok, q6⟩
          | brk =>
            obtain ⟨σ6, H6, S6, q6⟩ := hsp
            exact ⟨_, _, ofHot S6 ok, q6⟩
          | cont =>
            obtain ⟨σ6, H6, S6, q6⟩ := hsp
            exact ⟨_, _, ofHot S6 ok, q6⟩
          | ret u =>
            obtain ⟨v6, σ6, H6, S6, r6, q6⟩ := hsp
            exact ⟨_, _, _, ofHot S6 ok, r6, q6⟩
        | false =>
          show wpAny _ X.A (handleBy (.ref a) X.env hds2) _ _ _
          exact ih (hno rfl)
      | @as x n i c ts b₀ suite np pos' hds2 l2 hc hi hln hsu r ih =>
        intro w
        obtain ⟨b, hb1, hyes, hno⟩ := w
        refine wpAny_handleBy_cons (codeAny_handlers_test ?_) (by intro q; cases q)
        have LM := PySem.W.exm_one (M := model X.prog X.w) (J3.kIn) LT hb1
        refine test hc (LM.here ?_)
        cases b with
        | true =>
          refine codeAny_handlers_suite_as ?_
          refine land fun h4 S4 => ?_
          refine store_ok (X := hot X a) (v := .ref a) S4 hN hi (.inl hln) rfl (fun s5 S5 => ?_) (.inr hln)
          refine wpAny_mono ((hsu a).run pins s5 _ _ _ S5 (hyes rfl a na)) (fun f s6 hsp => ?_) (fun _ _ z => False.elim z)
          cases f with
          | next =>
            obtain ⟨σ6, H6, S6, q6⟩ := hsp
            exact gone_ok (ofHot S6 ok) hN hi hln fun s7 J7 => ⟨_, _, J7, q6⟩
          | brk =>
            obtain ⟨σ6, H6, S6, q6⟩ := hsp
            exact gone_ok (ofHot S6 ok) hN hi hln fun s7 J7 => ⟨_, _, J7, q6⟩
          | cont =>
            obtain ⟨σ6, H6, S6, q6⟩ := hsp
            exact gone_ok (ofHot S6 ok) hN hi hln fun s7 J7 => ⟨_, _, J7, q6⟩
          | ret u =>
            obtain ⟨v6, σ6, H6, S6, r6, q6⟩ := hsp
            exact gone_ok (ofHot S6 ok) hN hi hln fun s7 J7 => ⟨_, _, _, J7, r6, q6⟩
        | false =>
          show wpAny _ X.A (handleBy (.ref a) X.env hds2) _ _ _
          exact ih (hno rfl)
    exact go hh w
  · cases f with
    | next =>
      obtain ⟨σ', H', J', q⟩ := hsp
      exact wpAny_execs_nil ⟨σ', H', J'.ofTry ok, q⟩
    | brk =>
      obtain ⟨σ', H', J', q⟩ := hsp
      exact ⟨σ', H', J'.ofTry ok, q⟩
    | cont =>
      obtain ⟨σ', H', J', q⟩ := hsp
      exact ⟨σ', H', J'.ofTry ok, q⟩
    | ret u =>
      obtain ⟨v, σ', H', J', r, q⟩ := hsp
      exact ⟨v, σ', H', J'.ofTry ok, r, q⟩
end
end My
-- ===== K01L =====
namespace My
open PySem L2 PySem.MyX PyProof.Rows PySem.Spec
/-- what is known of an exception that stands at a: its class, where its dict is -/
def ErrX (H : Hp) (a C : Addr) (d : Option Addr) : Prop := ∃ φ : Heap → Prop, H a = some (.ext φ) ∧ ∀ h, φ h → ∃ (oe : Obj) (vs : Array Value), h.get? a = some oe ∧ Zc (.ref C) d oe ∧ oe.data = .fields vs
theorem ErrX.eo {H : Hp} {a C : Addr} {d : Option Addr} (h : H a = some (EO C d a)) : ErrX H a C d := ⟨_, h, fun _ ⟨oe, vs, e, z, da, _⟩ => ⟨oe, vs, e, z, da⟩⟩
theorem ErrX.ex {H : Hp} {a C : Addr} {d : Option Addr} (h : H a = some (EX (.ref C) d a)) : ErrX H a C d := ⟨_, h, fun _ z => z⟩
theorem ErrX.same {H H' : Hp} {a C : Addr} {d : Option Addr} (s : Same H H') (h : ErrX H a C d) : ErrX H' a C d := by
  obtain ⟨φ, e, k⟩ := h
  exact ⟨φ, s _ _ e, k⟩
/-- .. and its dict, if any, is tracked -/
def IsE (H : Hp) (a C : Addr) : Prop := ∃ d, ErrX H a C d ∧ ∀ dd, d = some dd → ∃ fs, H dd = some (.xd fs)
theorem IsE.same {H H' : Hp} {a C : Addr} (s : Same H H') (h : IsE H a C) : IsE H' a C := by
  obtain ⟨d, e, k⟩ := h
  refine ⟨d, e.same s, fun dd z => ?_⟩
  obtain ⟨fs, q⟩ := k dd z
  exact ⟨fs, s _ _ q⟩
theorem ErrIs.isE {cs : Int → Addr} {H : Hp} {a : Addr} {i : Int} {v : V} (h : ErrIs cs H a i v) : IsE H a (cs i) := by
  rcases h with ⟨_, h⟩ | ⟨_, _, d, h, hd⟩
  · exact ⟨none, .eo h, fun _ z => nomatch z⟩
  · refine ⟨some d, .eo h, fun dd z => ?_⟩
    cases z
    exact ⟨_, hd⟩
section
variable {X : Cx} {pins : List (Addr × Obj)} {σ : L2.St} {H : Hp} {s : Shared}
theorem inst_ofE {a C : Addr} (I : Inv X pins σ H s) (h : IsE H a C) : ∃ ox od, PySem.W.InstAt s.heap a ox C od := by
  obtain ⟨d, ⟨φ, h, k⟩, hd⟩ := h
  obtain ⟨hφ, _, _⟩ := (show ObjOk X.prog X.w H s.heap a (.ext φ) from I.hok a _ h)
  obtain ⟨oe, vs, ho, hz, da⟩ := k _ hφ
  cases d with
  | none => exact ⟨oe, none, ho, hz.1, by unfold PySem.W.notCls; rw [da] <;> rfl, by rw [hz.2]; trivial⟩
  | some dd =>
    obtain ⟨fs, q⟩ := hd dd rfl
    obtain ⟨mA, hns, _⟩ := (show ObjOk X.prog X.w H s.heap dd (.xd fs) from I.hok dd _ q)
    obtain ⟨od, hod, _⟩ := lookIn_ns hns
    exact ⟨oe, some od, ho, hz.1, by unfold PySem.W.notCls; rw [da] <;> rfl, by rw [hz.2]; exact hod⟩
/-- isinstance(e, c) -/
def rIsX (K : PySem.W.Frag) : List V → Hp → VK → Prop := fun xs H Q => ∃ (a C : Addr) (c : V) (u : Value) (b : Bool), xs = [.ref a, c] ∧ IsE H a C ∧ ClsTxt K C ∧ ClsV c u ∧ PySem.W.kitOne K (.ref C) u = some b ∧ Q (.bl b) H
theorem call_isX : CallR X (.builtin "isinstance") (rIsX X.K) := by
  intro pins s σ H xs us Q I r h
  obtain ⟨a, C, c, u, b, rfl, hE, T, k, e, q⟩ := h
  obtain ⟨u1, u2, rfl, r1, r2⟩ := vals2 r
  cases r1
  have e2 := k.eq r2
  subst e2
  obtain ⟨ox, od, J⟩ := inst_ofE I hE
  exact PySem.W.kia_one (T.kit (od := od)) I.kIn J e (fun z => nomatch z) fun tk => ⟨.bl b, H, I.tok tk, rfl, q⟩
def rIsXT (K : PySem.W.Frag) : List V → Hp → VK → Prop := fun xs H Q => ∃ (a C tp : Addr) (cs : List V) (us : List Value) (b : Bool), xs = [.ref a, .ref tp] ∧ IsE H a C ∧ ClsTxt K C ∧ H tp = some (.tup cs) ∧ Paired ClsV cs us ∧ PySem.W.kitAny K (.ref C) us = some b ∧ Q (.bl b) H
theorem call_isXT : CallR X (.builtin "isinstance") (rIsXT X.K) := by
  intro pins s σ H xs us Q I r h
  obtain ⟨a, C, tp, cs, ws, b, rfl, hE, T, hT, k, e, q⟩ := h
  obtain ⟨u1, u2, rfl, r1, r2⟩ := vals2 r
  cases r1
  cases (show u2 = Value.ref tp from r2)
  obtain ⟨ox, od, J⟩ := inst_ofE I hE
  obtain ⟨_, its, rv, o, h1, h2, n, h3⟩ := (show ObjOk X.prog X.w H s.heap tp (.tup cs) from I.hok tp _ hT)
  have e3 := ClsV.all k rv
  subst e3
  obtain ⟨oc, od', dt, sl⟩ := o
  simp only at h2 h3
  subst h2 h3
  exact PySem.W.kia_tup (T.kit (od := od)) I.kIn J h1 e (fun z => nomatch z) fun tk => ⟨.bl b, H, I.tok tk, rfl, q⟩
/-- e.fld -/
def tXF (K : PySem.W.Frag) (mg : Str → Option Value) (fld : Str) (te : TE) : TE := fun σ H Q => te σ H fun x H1 => ∃ (a d C S fI : Addr) (nm : Str) (v : V), x = .ref a ∧ ErrTxt K mg nm fld C S fI ∧ ErrX H1 a C (some d) ∧ H1 d = some (.xd [(fld, v)]) ∧ Q v H1
theorem pe_xF {fld : Str} {e : Expr} {te : TE} {pos : Pos} (he : PE X e te) (hb : attributeBase e fld X.env (eval e X.env) = eval e X.env := by rfl) : PE X (.Attribute e fld pos) (tXF X.K X.mg fld te) := by
  refine ⟨fun pins s σ H Q I h => ?_⟩
  refine attr_of hb (thn (he.run pins s σ H _ I h) fun u s1 hh => ?_)
  obtain ⟨x, H1, I1, rx, a, d, C, S, fI, nm, v, rfl, T, ⟨φ, ha, k⟩, hd, q⟩ := hh
  cases (show u = Value.ref a from rx)
  obtain ⟨hφ, _, _⟩ := (show ObjOk X.prog X.w H1 s1.heap a (.ext φ) from I1.hok a _ ha)
  obtain ⟨oe, vs, ho, hz, da⟩ := k _ hφ
  obtain ⟨mA, hns, hr⟩ := (show ObjOk X.prog X.w H1 s1.heap d (.xd [(fld, v)]) from I1.hok d _ hd)
  obtain ⟨od, hod, hl⟩ := lookIn_ns hns
  have l : List.lookup fld [(fld, v)] = some v := by simp [List.lookup]
  obtain ⟨u, hu, ru⟩ := RelO.some_of (v := v) (o := mA fld) (by rw [← l]; exact hr fld)
  have J : PySem.W.InstAt s1.heap a oe C (some od) := ⟨ho, hz.1, by unfold PySem.W.notCls; rw [da] <;> rfl, by rw [hz.2]; exact hod⟩
  exact HandSPX.exc_get I1.kIn J T.ga T.gg T.exC (PySem.W.findObj_own T.hdC T.noF rfl (by rw [hl, hu])) (handed_of ru) ⟨v, H1, I1.tok _, ru, q⟩
/-- an expression that gives a new error back makes an exception -/
theorem pmk_err {e : Expr} {te : TE} (hx : X.ex = []) (he : PE X e te) :
    PMk X e (fun σ H Q => te σ H fun x H1 => ∃ (a C : Addr) (d : Option Addr), x = .ref a ∧ H1 a = some (EO C d a) ∧ Fr0 X.H_0 a ∧ Raises X (.ref C) ∧ Q (.ref C) d (delH H1 a)) := by
  intro pins s σ H Q I h
  refine wpAny_mono (he.run pins s σ H _ I h) (fun u s1 hu => ?_) fun _ _ x => x
  obtain ⟨v, H1, I1, r1, a, C, d, rfl, ha, h0, hr, q⟩ := hu
  cases r1
  obtain ⟨⟨oe, vs, ho, hz, hd, h1, _⟩, _, _⟩ := I1.hok a _ ha
  obtain ⟨G, gs, ga, J⟩ := I1.untrack ha h0 hx
  exact ⟨a, oe, vs, { s1 with heap := G }, delH H1 a, .ref C, d, rfl, J, gs, ga, ho, hz, hd, h1, delH_same, rfl, I1.bare, hr, q⟩
end
theorem none_of {H H' : Hp} {p : Addr} (s : Same H H') (h : H' p = none) : H p = none := by
  cases e : H p with
  | none => rfl
  | some o =>
    rw [s _ _ e] at h
    cases h
abbrev sClasses : Stmt := top 17
abbrev sRaise : Stmt := top 21
/-- what the classes of the package say of one another -/
structure Txt2 (K : PySem.W.Frag) (mg : Str → Option Value) (cs : Int → Addr) (S : Addr) : Prop where
  mi : mg "isinstance" = none
  mS : mg "StoreError" = some (.ref S)
  ct : ∀ i : Int, 0 ≤ i → i < 10 → ClsTxt K (cs i)
  ki : ∀ i j : Int, 0 ≤ i → i < 10 → 0 ≤ j → j < 10 → PySem.W.kitOne K (.ref (cs i)) (.ref (cs j)) = some (decide (i = j))
  kS : ∀ i : Int, 0 ≤ i → i < 10 → PySem.W.kitOne K (.ref (cs i)) (.ref S) = some true
  kE : ∀ i : Int, 0 ≤ i → i < 10 → PySem.W.kitOne K (.ref (cs i)) (.type "Exception") = some true
  kB : ∀ i : Int, 0 ≤ i → i < 10 → PySem.W.kitAny K (.ref (cs i)) [.type "ValueError", .type "LookupError", .type "ArithmeticError", .type "TypeError", .type "AttributeError", .type "RuntimeError"] = some false
  ex : ∀ i : Int, 0 ≤ i → i < 10 → PySem.W.subIn K (.ref (cs i)) (.type "BaseException") = some true
  ty : ∀ i : Int, 0 ≤ i → i < 10 → PySem.W.typeIn K (.ref (cs i)) = some (.type "type")
  xi : ∀ i j : Int, 0 ≤ i → i < 10 → 0 ≤ j → j < 10 → PySem.W.exmOne K (.ref (cs i)) (.ref (cs j)) = some (decide (i = j))
  xS : ∀ i : Int, 0 ≤ i → i < 10 → PySem.W.exmOne K (.ref (cs i)) (.ref S) = some true
def flags (i : Int) : List V := [.bl (decide (i = 0)), .bl (decide (i = 1)), .bl (decide (i = 2)), .bl (decide (i = 3)), .bl (decide (i = 4)), .bl (decide (i = 5)), .bl (decide (i = 6)), .bl (decide (i = 7)), .bl (decide (i = 8)), .bl (decide (i = 9))]
def spClasses (cs : Int → Addr) : Sp := fun vs H Q _ => ∃ (i : Int) (a : Addr), vs = [.ref a] ∧ 0 ≤ i ∧ i < 10 ∧ IsE H a (cs i) ∧ ∀ (p : Addr) (H' : Hp), Same H H' → H p = none → H' p = some (.lst (flags i)) → Q (.ref p) H'
section
variable {P : Program} {w : World} {K : PySem.W.Frag} {mg : Str → Option Value} {base : Heap} {cs is : Int → Addr} {S : Addr}
theorem scC' : FnScope ["_law_e", "_law_found"] ["_law_e"] (defScope sClasses) := ⟨rfl, rfl, rfl, by decide +kernel, rfl, by decide +kernel, by decide +kernel⟩
theorem ok_classes {f : Addr} {fd : FuncData} (F : Fun K "_law_classes" "_law_classes" sClasses f fd) (T : Txt K mg cs is S) (U : Txt2 K mg cs S) : FnG false (fun _ => True) P w K mg base CX0 1 f fd ["_law_e"] (spClasses cs) := by
  refine okG F scC' (fun vs H Q E h => ?_) (fun cdv A outer s H vs Q E _ _ hr h => ?_)
  · obtain ⟨i, a, rfl, _⟩ := h
    rfl
  · obtain ⟨i, a, rfl, i0, i1, hE, q⟩ := h
    refine ⟨_, pss_cons (ps_set (i := 1) scC'.nd rfl (Or.inl rfl) (pe_lst (pa_cons (pe_callB call_isX (by rfl) U.mi (by decide +kernel) (pa_cons (pv 0) (pa_cons (pe_glob (v := .ref (cs 0)) (by rfl) T.p0.gC rfl) pa_nil))) (pa_cons (pe_callB call_isX (by rfl) U.mi (by decide +kernel) (pa_cons (pv 0) (pa_cons (pe_glob (v := .ref (cs 1)) (by rfl) T.e1.gC rfl) pa_nil))) (pa_cons (pe_callB call_isX (by rfl) U.mi (by decide +kernel) (pa_cons (pv 0) (pa_cons (pe_glob (v := .ref (cs 2)) (by rfl) T.e2.gC rfl) pa_nil))) (pa_cons (pe_callB call_isX (by rfl) U.mi (by decide +kernel) (pa_cons (pv 0) (pa_cons (pe_glob (v := .ref (cs 3)) (by rfl) T.e3.gC rfl) pa_nil))) pa_nil))))))
      (pss_cons (ps_set (i := 1) scC'.nd rfl (Or.inl rfl) (pe_op op_cat (pv 1) (pe_lst (pa_cons (pe_callB call_isX (by rfl) U.mi (by decide +kernel) (pa_cons (pv 0) (pa_cons (pe_glob (v := .ref (cs 4)) (by rfl) T.e4.gC rfl) pa_nil))) (pa_cons (pe_callB call_isX (by rfl) U.mi (by decide +kernel) (pa_cons (pv 0) (pa_cons (pe_glob (v := .ref (cs 5)) (by rfl) T.e5.gC rfl) pa_nil))) (pa_cons (pe_callB call_isX (by rfl) U.mi (by decide +kernel) (pa_cons (pv 0) (pa_cons (pe_glob (v := .ref (cs 6)) (by rfl) T.e6.gC rfl) pa_nil))) (pa_cons (pe_callB call_isX (by rfl) U.mi (by decide +kernel) (pa_cons (pv 0) (pa_cons (pe_glob (v := .ref (cs 7)) (by rfl) T.e7.gC rfl) pa_nil))) pa_nil)))))))
      (pss_one (ps_ret (pe_op op_cat (pv 1) (pe_lst (pa_cons (pe_callB call_isX (by rfl) U.mi (by decide +kernel) (pa_cons (pv 0) (pa_cons (pe_glob (v := .ref (cs 8)) (by rfl) T.p8.gC rfl) pa_nil))) (pa_cons (pe_callB call_isX (by rfl) U.mi (by decide +kernel) (pa_cons (pv 0) (pa_cons (pe_glob (v := .ref (cs 9)) (by rfl) T.p9.gC rfl) pa_nil))) pa_nil))))))), ?_⟩
    have hT := U.ct i i0 i1
    have k : ∀ j : Int, 0 ≤ j → j < 10 → PySem.W.kitOne K (.ref (cs i)) (.ref (cs j)) = some (decide (i = j)) := fun j h1 h2 => U.ki i j i0 i1 h1 h2
    refine ⟨_, rfl, a, cs i, .ref (cs 0), .ref (cs 0), _, rfl, hE, hT, .own _, k 0 (by omega) (by omega), ⟨_, rfl, a, cs i, .ref (cs 1), .ref (cs 1), _, rfl, hE, hT, .own _, k 1 (by omega) (by omega), ⟨_, rfl, a, cs i, .ref (cs 2), .ref (cs 2), _, rfl, hE, hT, .own _, k 2 (by omega) (by omega), ⟨_, rfl, a, cs i, .ref (cs 3), .ref (cs 3), _, rfl, hE, hT, .own _, k 3 (by omega) (by omega), ⟨by show 4 ≤ sizeLine; decide, fun l hl => ?_⟩⟩⟩⟩⟩
    have hE1 := hE.same (Same.new (o := .lst [V.bl (decide (i = 0)), V.bl (decide (i = 1)), V.bl (decide (i = 2)), V.bl (decide (i = 3))]) hl)
    refine ⟨_, rfl, ⟨_, rfl, a, cs i, .ref (cs 4), .ref (cs 4), _, rfl, hE1, hT, .own _, k 4 (by omega) (by omega), ⟨_, rfl, a, cs i, .ref (cs 5), .ref (cs 5), _, rfl, hE1, hT, .own _, k 5 (by omega) (by omega), ⟨_, rfl, a, cs i, .ref (cs 6), .ref (cs 6), _, rfl, hE1, hT, .own _, k 6 (by omega) (by omega), ⟨_, rfl, a, cs i, .ref (cs 7), .ref (cs 7), _, rfl, hE1, hT, .own _, k 7 (by omega) (by omega), ⟨by show 4 ≤ sizeLine; decide, fun l2 hl2 => ⟨l, l2, _, _, rfl, rfl, Same.new hl2 _ _ upd_same, upd_same, by show 8 ≤ sizeLine; decide, fun p1 hp1 => ?_⟩⟩⟩⟩⟩⟩⟩
    have s2 := ((Same.new (o := .lst [V.bl (decide (i = 0)), V.bl (decide (i = 1)), V.bl (decide (i = 2)), V.bl (decide (i = 3))]) hl).trans (Same.new (o := .lst [V.bl (decide (i = 4)), V.bl (decide (i = 5)), V.bl (decide (i = 6)), V.bl (decide (i = 7))]) hl2)).trans (Same.new (o := .lst ([V.bl (decide (i = 0)), V.bl (decide (i = 1)), V.bl (decide (i = 2)), V.bl (decide (i = 3))] ++ [V.bl (decide (i = 4)), V.bl (decide (i = 5)), V.bl (decide (i = 6)), V.bl (decide (i = 7))])) hp1)
    have hE2 := hE.same s2
    refine ⟨_, rfl, ⟨_, rfl, a, cs i, .ref (cs 8), .ref (cs 8), _, rfl, hE2, hT, .own _, k 8 (by omega) (by omega), ⟨_, rfl, a, cs i, .ref (cs 9), .ref (cs 9), _, rfl, hE2, hT, .own _, k 9 (by omega) (by omega), ⟨by show 2 ≤ sizeLine; decide, fun l3 hl3 => ⟨p1, l3, _, _, rfl, rfl, Same.new hl3 _ _ upd_same, upd_same, by show 10 ≤ sizeLine; decide, fun p hp => ?_⟩⟩⟩⟩⟩
    have s3 := s2.trans (Same.new (o := .lst [V.bl (decide (i = 8)), V.bl (decide (i = 9))]) hl3)
    exact q p _ (s3.trans (Same.new hp)) (none_of s3 hp) upd_same
/-- raises the error at a place -/
def spRaise (cs : Int → Addr) : Sp := fun vs H _ E => ∃ (i : Int) (v : V), vs = [.int i, v] ∧ 0 ≤ i ∧ i < 10 ∧ ((i = 0 ∨ i = 8 ∨ i = 9) → E (.ref (cs i)) none H) ∧
  (1 ≤ i → i ≤ 7 → ∀ (d : Addr) (H' : Hp), Same H H' → H' d = some (.xd [(fldOf i, v)]) → E (.ref (cs i)) (some d) H')
theorem scR : FnScope ["_law_spot", "_law_thing_here"] ["_law_spot", "_law_thing_here"] (defScope sRaise) := ⟨rfl, rfl, rfl, by decide +kernel, rfl, by decide +kernel, by decide +kernel⟩
theorem ok_raise {f : Addr} {fd : FuncData} (F : Fun K "_law_raise" "_law_raise" sRaise f fd) (T : Txt K mg cs is S) (U : Txt2 K mg cs S) : FnOk P w K mg base (L2.CX P w) 3 f fd ["_law_spot", "_law_thing_here"] (spRaise cs) := by
  refine F.okX scR (fun vs H Q E h => ?_) (fun cdv A outer s H vs Q E hr h => ?_)
  · obtain ⟨i, v, rfl, _⟩ := h
    rfl
  · obtain ⟨i, v, rfl, i0, i1, q0, q1⟩ := h
    have tk := takes_of (X := cxOf (L2.CX P w) P w K mg base ["_law_spot", "_law_thing_here"] "_law_raise" (defScope sRaise) f cdv A outer s H E) (E := E) rfl rfl rfl rfl
    refine ⟨_, pss_cons (ps_if (pt_cmpR op_eq (pv 0) pe_int (nomark _)) (pss_one (ps_raise rfl tk (pmk_err rfl (pe_err0 T.p0 rfl)))) pss_nil)
      (pss_cons (ps_if (pt_cmpR op_eq (pv 0) pe_int (nomark _)) (pss_one (ps_raise rfl tk (pmk_err rfl (pe_errP T.e1 hr (pa_cons (pv 1) pa_nil) rfl)))) pss_nil)
      (pss_cons (ps_if (pt_cmpR op_eq (pv 0) pe_int (nomark _)) (pss_one (ps_raise rfl tk (pmk_err rfl (pe_errP T.e2 hr (pa_cons (pv 1) pa_nil) rfl)))) pss_nil)
      (pss_cons (ps_if (pt_cmpR op_eq (pv 0) pe_int (nomark _)) (pss_one (ps_raise rfl tk (pmk_err rfl (pe_errP T.e3 hr (pa_cons (pv 1) pa_nil) rfl)))) pss_nil)
      (pss_cons (ps_if (pt_cmpR op_eq (pv 0) pe_int (nomark _)) (pss_one (ps_raise rfl tk (pmk_err rfl (pe_errP T.e4 hr (pa_cons (pv 1) pa_nil) rfl)))) pss_nil)
      (pss_cons (ps_if (pt_cmpR op_eq (pv 0) pe_int (nomark _)) (pss_one (ps_raise rfl tk (pmk_err rfl (pe_errP T.e5 hr (pa_cons (pv 1) pa_nil) rfl)))) pss_nil)
      (pss_cons (ps_if (pt_cmpR op_eq (pv 0) pe_int (nomark _)) (pss_one (ps_raise rfl tk (pmk_err rfl (pe_errP T.e6 hr (pa_cons (pv 1) pa_nil) rfl)))) pss_nil)
      (pss_cons (ps_if (pt_cmpR op_eq (pv 0) pe_int (nomark _)) (pss_one (ps_raise rfl tk (pmk_err rfl (pe_errP T.e7 hr (pa_cons (pv 1) pa_nil) rfl)))) pss_nil)
      (pss_cons (ps_if (pt_cmpR op_eq (pv 0) pe_int (nomark _)) (pss_one (ps_raise rfl tk (pmk_err rfl (pe_err0 T.p8 rfl)))) pss_nil)
      (pss_one (ps_raise rfl tk (pmk_err rfl (pe_err0 T.p9 rfl)))))))))))), ?_⟩
    have rs : ∀ j : Int, 0 ≤ j → j < 10 → Raises (cxOf (L2.CX P w) P w K mg base ["_law_spot", "_law_thing_here"] "_law_raise" (defScope sRaise) f cdv A outer s H E) (.ref (cs j)) := fun j h1 h2 => raises_own (U.ex j h1 h2) (U.ty j h1 h2)
    have hi : i = 0 ∨ i = 1 ∨ i = 2 ∨ i = 3 ∨ i = 4 ∨ i = 5 ∨ i = 6 ∨ i = 7 ∨ i = 8 ∨ i = 9 := by omega
    rcases hi with rfl | rfl | rfl | rfl | rfl | rfl | rfl | rfl | rfl | rfl
    · exact ⟨_, rfl, rfl, _, rfl, iteT (fun a ha => ⟨a, cs 0, none, rfl, upd_same, fr0_none ha, rs 0 (by omega) (by omega), by rw [delH_new ha]; exact q0 (by omega)⟩)⟩
    · exact ⟨_, rfl, rfl, _, rfl, iteF (⟨_, rfl, rfl, _, rfl, iteT (⟨_, rfl, v, rfl, fun a d ha hd n => ⟨a, cs 1, some d, rfl, upd_same, fr0_none ha, rs 1 (by omega) (by omega), by rw [delH_new (by rw [upd_ne n]; exact ha)]; exact q1 (by omega) (by omega) d _ (Same.new hd) upd_same⟩⟩)⟩)⟩
    · exact ⟨_, rfl, rfl, _, rfl, iteF (⟨_, rfl, rfl, _, rfl, iteF (⟨_, rfl, rfl, _, rfl, iteT (⟨_, rfl, v, rfl, fun a d ha hd n => ⟨a, cs 2, some d, rfl, upd_same, fr0_none ha, rs 2 (by omega) (by omega), by rw [delH_new (by rw [upd_ne n]; exact ha)]; exact q1 (by omega) (by omega) d _ (Same.new hd) upd_same⟩⟩)⟩)⟩)⟩
    · exact ⟨_, rfl, rfl, _, rfl, iteF (⟨_, rfl, rfl, _, rfl, iteF (⟨_, rfl, rfl, _, rfl, iteF (⟨_, rfl, rfl, _, rfl, iteT (⟨_, rfl, v, rfl, fun a d ha hd n => ⟨a, cs 3, some d, rfl, upd_same, fr0_none ha, rs 3 (by omega) (by omega), by rw [delH_new (by rw [upd_ne n]; exact ha)]; exact q1 (by omega) (by omega) d _ (Same.new hd) upd_same⟩⟩)⟩)⟩)⟩)⟩
    · exact ⟨_, rfl, rfl, _, rfl, iteF (⟨_, rfl, rfl, _, rfl, iteF (⟨_, rfl, rfl, _, rfl, iteF (⟨_, rfl, rfl, _, rfl, iteF (⟨_, rfl, rfl, _, rfl, iteT (⟨_, rfl, v, rfl, fun a d ha hd n => ⟨a, cs 4, some d, rfl, upd_same, fr0_none ha, rs 4 (by omega) (by omega), by rw [delH_new (by rw [upd_ne n]; exact ha)]; exact q1 (by omega) (by omega) d _ (Same.new hd) upd_same⟩⟩)⟩)⟩)⟩)⟩)⟩
    · exact ⟨_, rfl, rfl, _, rfl, iteF (⟨_, rfl, rfl, _, rfl, iteF (⟨_, rfl, rfl, _, rfl, iteF (⟨_, rfl, rfl, _, rfl, iteF (⟨_, rfl, rfl, _, rfl, iteF (⟨_, rfl, rfl, _, rfl, iteT (⟨_, rfl, v, rfl, fun a d ha hd n => ⟨a, cs 5, some d, rfl, upd_same, fr0_none ha, rs 5 (by omega) (by omega), by rw [delH_new (by rw [upd_ne n]; exact ha)]; exact q1 (by omega) (by omega) d _ (Same.new hd) upd_same⟩⟩)⟩)⟩)⟩)⟩)⟩)⟩
    · exact ⟨_, rfl, rfl, _, rfl, iteF (⟨_, rfl, rfl, _, rfl, iteF (⟨_, rfl, rfl, _, rfl, iteF (⟨_, rfl, rfl, _, rfl, iteF (⟨_, rfl, rfl, _, rfl, iteF (⟨_, rfl, rfl, _, rfl, iteF (⟨_, rfl, rfl, _, rfl, iteT (⟨_, rfl, v, rfl, fun a d ha hd n => ⟨a, cs 6, some d, rfl, upd_same, fr0_none ha, rs 6 (by omega) (by omega), by rw [delH_new (by rw [upd_ne n]; exact ha)]; exact q1 (by omega) (by omega) d _ (Same.new hd) upd_same⟩⟩)⟩)⟩)⟩)⟩)⟩)⟩)⟩
    · exact ⟨_, rfl, rfl, _, rfl, iteF (⟨_, rfl, rfl, _, rfl, iteF (⟨_, rfl, rfl, _, rfl, iteF (⟨_, rfl, rfl, _, rfl, iteF (⟨_, rfl, rfl, _, rfl, iteF (⟨_, rfl, rfl, _, rfl, iteF (⟨_, rfl, rfl, _, rfl, iteF (⟨_, rfl, rfl, _, rfl, iteT (⟨_, rfl, v, rfl, fun a d ha hd n => ⟨a, cs 7, some d, rfl, upd_same, fr0_none ha, rs 7 (by omega) (by omega), by rw [delH_new (by rw [upd_ne n]; exact ha)]; exact q1 (by omega) (by omega) d _ (Same.new hd) upd_same⟩⟩)⟩)⟩)⟩)⟩)⟩)⟩)⟩)⟩
    · exact ⟨_, rfl, rfl, _, rfl, iteF (⟨_, rfl, rfl, _, rfl, iteF (⟨_, rfl, rfl, _, rfl, iteF (⟨_, rfl, rfl, _, rfl, iteF (⟨_, rfl, rfl, _, rfl, iteF (⟨_, rfl, rfl, _, rfl, iteF (⟨_, rfl, rfl, _, rfl, iteF (⟨_, rfl, rfl, _, rfl, iteF (⟨_, rfl, rfl, _, rfl, iteT (fun a ha => ⟨a, cs 8, none, rfl, upd_same, fr0_none ha, rs 8 (by omega) (by omega), by rw [delH_new ha]; exact q0 (by omega)⟩)⟩)⟩)⟩)⟩)⟩)⟩)⟩)⟩)⟩
    · exact ⟨_, rfl, rfl, _, rfl, iteF (⟨_, rfl, rfl, _, rfl, iteF (⟨_, rfl, rfl, _, rfl, iteF (⟨_, rfl, rfl, _, rfl, iteF (⟨_, rfl, rfl, _, rfl, iteF (⟨_, rfl, rfl, _, rfl, iteF (⟨_, rfl, rfl, _, rfl, iteF (⟨_, rfl, rfl, _, rfl, iteF (⟨_, rfl, rfl, _, rfl, iteF (fun a ha => ⟨a, cs 9, none, rfl, upd_same, fr0_none ha, rs 9 (by omega) (by omega), by rw [delH_new ha]; exact q0 (by omega)⟩)⟩)⟩)⟩)⟩)⟩)⟩)⟩)⟩)⟩
end
end My
-- ===== K01X =====
namespace My
open PySem L2 PySem.MyX PyProof.Rows PySem.Spec
abbrev sFirst : Stmt := top 22
abbrev sLast : Stmt := top 23
/-- a value that may be shown -/
structure Shn (H : Hp) (v : V) (d : PyData) : Prop where
  dq : Dq (fun _ => True) H v d
  sh : d.showable = true
  dp : d.depth ≤ 60
  sz : d.shown.length ≤ 100000
theorem Shn.same {H H' : Hp} {v : V} {d : PyData} (s : Same H H') (h : Shn H v d) : Shn H' v d := ⟨h.dq.to (fun a o _ q => s a o q) (fun _ q => q), h.sh, h.dp, h.sz⟩
/-- what is told of the i-th error, with d in it -/
def firstS (i : Int) (d : PyData) : Str := if i = 0 then "0" else if i = 1 then ("1" : Str) ++ d.shown else if i = 2 then ("2" : Str) ++ d.shown else if i = 3 then ("3" : Str) ++ d.shown else if i = 4 then ("4" : Str) ++ d.shown else if i = 5 then ("5" : Str) ++ d.shown else
  if i = 6 then "base6" else if i = 7 then "base7" else if i = 8 then "base8" else "base9"
def lastS (i : Int) (d : PyData) : Str := if i = 9 then "9" else if i = 8 then "8" else if i = 7 then ("7" : Str) ++ d.shown else if i = 6 then ("6" : Str) ++ d.shown else
  if i = 0 then "base0" else if i = 1 then "base1" else if i = 2 then "base2" else if i = 3 then "base3" else if i = 4 then "base4" else "base5"
def spCaught (fs : Int → PyData → Str) : Sp := fun vs H Q _ => ∃ (i : Int) (v : V) (d : PyData), vs = [.int i, v] ∧ 0 ≤ i ∧ i < 10 ∧ Shn H v d ∧ ∀ H', Same H H' → Q (.str (fs i d)) H'
/-- the names that are none of the module's -/
structure Plain (mg : Str → Option Value) : Prop where
  repr : mg "repr" = none
  str : mg "str" = none
theorem sz1 {a b : Str} (h : a.length ≤ 10) (k : b.length ≤ 100000) : a.length + b.length ≤ sizeLine := by
  rw [sizeLine_eq]
  omega
section
variable {P : Program} {w : World} {K : PySem.W.Frag} {mg : Str → Option Value} {base : Heap} {cs is : Int → Addr} {S : Addr}
theorem guards_mark {A : Around} {env : Env} {a : Addr} (h : A.guards = some []) : ((A.deeper env).mark (some (.ref a))).guards = some [] := h
theorem scfirst : FnScope ["_law_spot", "_law_thing_here", "_law_found", "_law_e"] ["_law_spot", "_law_thing_here"] (defScope sFirst) := ⟨rfl, rfl, rfl, by decide +kernel, rfl, by decide +kernel, by decide +kernel⟩
theorem ok_first {f fR fC : Addr} {fd fdR fdC : FuncData} (F : Fun K "_law_caught_first" "_law_caught_first" sFirst f fd) (T : Txt K mg cs is S) (U : Txt2 K mg cs S) (PL : Plain mg)
    (FR : FnOk P w K mg base (L2.CX P w) 3 fR fdR ["_law_spot", "_law_thing_here"] (spRaise cs)) (mR : mg "_law_raise" = some (.ref fR)) (kR : PySem.W.keepIn K (.ref fR) = true) (bR : Binds K fdR ["_law_spot", "_law_thing_here"] [])
    (FC : FnG false (fun _ => True) P w K mg base CX0 1 fC fdC ["_law_e"] (spClasses cs)) (mC : mg "_law_classes" = some (.ref fC)) (kC : PySem.W.keepIn K (.ref fC) = true) (bC : Binds K fdC ["_law_e"] []) :
    FnG true (fun A => A.guards = some []) P w K mg base CX0 4 f fd ["_law_spot", "_law_thing_here"] (spCaught firstS) := by
  refine okG F scfirst (fun vs H Q E h => ?_) (fun cdv A outer s H vs Q E hh hgA hr h => ?_)
  · obtain ⟨i, v, d, rfl, _⟩ := h
    rfl
  · obtain ⟨i, v, d, rfl, i0, i1, hd, q⟩ := h
    have hrR : Room 3 (A.deeper (envOfC "_law_caught_first" (defScope sFirst) s.heap.objs.size f cdv)) := ⟨hh rfl, hr.dp, hr.un⟩
    have hrc0 := hr.mono (show 1 ≤ 3 by omega)
    have hrc : ∀ a : Addr, L2H.RoomH 1 ((A.deeper (envOfC "_law_caught_first" (defScope sFirst) s.heap.objs.size f cdv)).mark (some (.ref a))) := fun a => ⟨hrc0.dp, hrc0.un⟩
    have hun : (A.deeper (envOfC "_law_caught_first" (defScope sFirst) s.heap.objs.size f cdv)).units + 64 < cLine := by
      have := hr.un
      omega
    have hgd : ∀ a : Addr, ((A.deeper (envOfC "_law_caught_first" (defScope sFirst) s.heap.objs.size f cdv)).mark (some (.ref a))).guards = some [] := fun a => guards_mark hgA
    have hrep : ∀ a : Addr, CallR (hot (cxG true CX0 P w K mg base ["_law_spot", "_law_thing_here", "_law_found", "_law_e"] "_law_caught_first" (defScope sFirst) f cdv A outer s H E) a) (.builtin "repr") (rReprD fun _ => True) := fun a => call_reprD (hgd a) hun
    refine ⟨_, pss_cons (ps_set (i := 2) scfirst.nd rfl (Or.inl rfl) pe_str)
      (pss_cons (ps_try_hot rfl rfl scfirst.nd (fun W pn xe tkW pso => pss_one (ps_expr (pe_callS FR hrR (by rfl) mR kR bR (fun σ => passAt tkW σ) (pa_cons (pv 0) (pa_cons (pv 1) pa_nil)))))
        (.cons ⟨by rfl, by decide, .inl T.p0.gC⟩ (fun a => pss_one (ps_set (i := 2) scfirst.nd rfl (Or.inl rfl) pe_str))
        (.as (i := 3) ⟨by rfl, by decide, .inl T.e1.gC⟩ rfl rfl (fun a => pss_one (ps_set (i := 2) scfirst.nd rfl (Or.inl rfl) (pe_op op_add_str pe_str (pe_callB (hrep a) (by rfl) PL.repr (by decide +kernel) (pa_cons (pe_xF (pv 3)) pa_nil)))))
        (.as (i := 3) ⟨by rfl, by decide, .inl T.e2.gC⟩ rfl rfl (fun a => pss_one (ps_set (i := 2) scfirst.nd rfl (Or.inl rfl) (pe_op op_add_str pe_str (pe_callB (hrep a) (by rfl) PL.repr (by decide +kernel) (pa_cons (pe_xF (pv 3)) pa_nil)))))
        (.as (i := 3) ⟨by rfl, by decide, .inl T.e3.gC⟩ rfl rfl (fun a => pss_one (ps_set (i := 2) scfirst.nd rfl (Or.inl rfl) (pe_op op_add_str pe_str (pe_callB (hrep a) (by rfl) PL.repr (by decide +kernel) (pa_cons (pe_xF (pv 3)) pa_nil)))))
        (.as (i := 3) ⟨by rfl, by decide, .inl T.e4.gC⟩ rfl rfl (fun a => pss_one (ps_set (i := 2) scfirst.nd rfl (Or.inl rfl) (pe_op op_add_str pe_str (pe_callB (hrep a) (by rfl) PL.repr (by decide +kernel) (pa_cons (pe_xF (pv 3)) pa_nil)))))
        (.as (i := 3) ⟨by rfl, by decide, .inl T.e5.gC⟩ rfl rfl (fun a => pss_one (ps_set (i := 2) scfirst.nd rfl (Or.inl rfl) (pe_op op_add_str pe_str (pe_callB (hrep a) (by rfl) PL.repr (by decide +kernel) (pa_cons (pe_xF (pv 3)) pa_nil)))))
        (.as (i := 3) ⟨by rfl, by decide, .inl U.mS⟩ rfl rfl (fun a => pss_one (ps_set (i := 2) scfirst.nd rfl (Or.inl rfl) (pe_op op_add_str pe_str (pe_callTy call_str_int (by rfl) PL.str (by decide +kernel) (pa_cons (pe_bm PySem.F.plainAttrs_list PySem.F.slot_list_index PySem.F.type_list_index mt_index (pe_callG FC (fun z : false = true => Bool.noConfusion z) True.intro (hrc a) (by rfl) mC kC bC pass0 (pa_cons (pv 3) pa_nil)) (pa_cons pe_bl pa_nil)) pa_nil))))) .nil))))))))
      (pss_one (ps_ret (pv 2)))), ?_⟩
    have hi : i = 0 ∨ i = 1 ∨ i = 2 ∨ i = 3 ∨ i = 4 ∨ i = 5 ∨ i = 6 ∨ i = 7 ∨ i = 8 ∨ i = 9 := by omega
    rcases hi with rfl | rfl | rfl | rfl | rfl | rfl | rfl | rfl | rfl | rfl
    · exact ⟨_, rfl, v, rfl, 0, v, rfl, by omega, by omega, (fun _ => ⟨_, U.xi 0 0 (by omega) (by omega) (by omega) (by omega), (fun _ a ha => ⟨_, rfl, q _ (Same.new ha)⟩), fun z => absurd z (by decide)⟩), fun z z2 => absurd (And.intro z z2) (by omega)⟩
    · exact ⟨_, rfl, v, rfl, 1, v, rfl, by omega, by omega, (fun z => absurd z (by omega)), fun _ _ dd H1 sm hdd => ⟨_, U.xi 1 0 (by omega) (by omega) (by omega) (by omega), (fun z => absurd z (by decide)), fun _ => ⟨_, U.xi 1 1 (by omega) (by omega) (by omega) (by omega), (fun _ a ha => ⟨_, rfl, a, dd, cs 1, S, is 1, "NoObject", v, rfl, T.e1, .ex upd_same, Same.new ha _ _ hdd, ⟨v, d, rfl, (hd.same (sm.trans (Same.new ha))).dq, hd.sh, hd.dp, by have := hd.sz; rw [sizeLine_eq]; omega, ⟨_, _, rfl, rfl, sz1 (by decide +kernel) hd.sz, ⟨_, rfl, q _ (sm.trans (Same.new ha))⟩⟩⟩⟩), fun z => absurd z (by decide)⟩⟩⟩
    · exact ⟨_, rfl, v, rfl, 2, v, rfl, by omega, by omega, (fun z => absurd z (by omega)), fun _ _ dd H1 sm hdd => ⟨_, U.xi 2 0 (by omega) (by omega) (by omega) (by omega), (fun z => absurd z (by decide)), fun _ => ⟨_, U.xi 2 1 (by omega) (by omega) (by omega) (by omega), (fun z => absurd z (by decide)), fun _ => ⟨_, U.xi 2 2 (by omega) (by omega) (by omega) (by omega), (fun _ a ha => ⟨_, rfl, a, dd, cs 2, S, is 2, "NoOperation", v, rfl, T.e2, .ex upd_same, Same.new ha _ _ hdd, ⟨v, d, rfl, (hd.same (sm.trans (Same.new ha))).dq, hd.sh, hd.dp, by have := hd.sz; rw [sizeLine_eq]; omega, ⟨_, _, rfl, rfl, sz1 (by decide +kernel) hd.sz, ⟨_, rfl, q _ (sm.trans (Same.new ha))⟩⟩⟩⟩), fun z => absurd z (by decide)⟩⟩⟩⟩
    · exact ⟨_, rfl, v, rfl, 3, v, rfl, by omega, by omega, (fun z => absurd z (by omega)), fun _ _ dd H1 sm hdd => ⟨_, U.xi 3 0 (by omega) (by omega) (by omega) (by omega), (fun z => absurd z (by decide)), fun _ => ⟨_, U.xi 3 1 (by omega) (by omega) (by omega) (by omega), (fun z => absurd z (by decide)), fun _ => ⟨_, U.xi 3 2 (by omega) (by omega) (by omega) (by omega), (fun z => absurd z (by decide)), fun _ => ⟨_, U.xi 3 3 (by omega) (by omega) (by omega) (by omega), (fun _ a ha => ⟨_, rfl, a, dd, cs 3, S, is 3, "NotOpen", v, rfl, T.e3, .ex upd_same, Same.new ha _ _ hdd, ⟨v, d, rfl, (hd.same (sm.trans (Same.new ha))).dq, hd.sh, hd.dp, by have := hd.sz; rw [sizeLine_eq]; omega, ⟨_, _, rfl, rfl, sz1 (by decide +kernel) hd.sz, ⟨_, rfl, q _ (sm.trans (Same.new ha))⟩⟩⟩⟩), fun z => absurd z (by decide)⟩⟩⟩⟩⟩
    · exact ⟨_, rfl, v, rfl, 4, v, rfl, by omega, by omega, (fun z => absurd z (by omega)), fun _ _ dd H1 sm hdd => ⟨_, U.xi 4 0 (by omega) (by omega) (by omega) (by omega), (fun z => absurd z (by decide)), fun _ => ⟨_, U.xi 4 1 (by omega) (by omega) (by omega) (by omega), (fun z => absurd z (by decide)), fun _ => ⟨_, U.xi 4 2 (by omega) (by omega) (by omega) (by omega), (fun z => absurd z (by decide)), fun _ => ⟨_, U.xi 4 3 (by omega) (by omega) (by omega) (by omega), (fun z => absurd z (by decide)), fun _ => ⟨_, U.xi 4 4 (by omega) (by omega) (by omega) (by omega), (fun _ a ha => ⟨_, rfl, a, dd, cs 4, S, is 4, "IsWaiting", v, rfl, T.e4, .ex upd_same, Same.new ha _ _ hdd, ⟨v, d, rfl, (hd.same (sm.trans (Same.new ha))).dq, hd.sh, hd.dp, by have := hd.sz; rw [sizeLine_eq]; omega, ⟨_, _, rfl, rfl, sz1 (by decide +kernel) hd.sz, ⟨_, rfl, q _ (sm.trans (Same.new ha))⟩⟩⟩⟩), fun z => absurd z (by decide)⟩⟩⟩⟩⟩⟩
    · exact ⟨_, rfl, v, rfl, 5, v, rfl, by omega, by omega, (fun z => absurd z (by omega)), fun _ _ dd H1 sm hdd => ⟨_, U.xi 5 0 (by omega) (by omega) (by omega) (by omega), (fun z => absurd z (by decide)), fun _ => ⟨_, U.xi 5 1 (by omega) (by omega) (by omega) (by omega), (fun z => absurd z (by decide)), fun _ => ⟨_, U.xi 5 2 (by omega) (by omega) (by omega) (by omega), (fun z => absurd z (by decide)), fun _ => ⟨_, U.xi 5 3 (by omega) (by omega) (by omega) (by omega), (fun z => absurd z (by decide)), fun _ => ⟨_, U.xi 5 4 (by omega) (by omega) (by omega) (by omega), (fun z => absurd z (by decide)), fun _ => ⟨_, U.xi 5 5 (by omega) (by omega) (by omega) (by omega), (fun _ a ha => ⟨_, rfl, a, dd, cs 5, S, is 5, "Never", v, rfl, T.e5, .ex upd_same, Same.new ha _ _ hdd, ⟨v, d, rfl, (hd.same (sm.trans (Same.new ha))).dq, hd.sh, hd.dp, by have := hd.sz; rw [sizeLine_eq]; omega, ⟨_, _, rfl, rfl, sz1 (by decide +kernel) hd.sz, ⟨_, rfl, q _ (sm.trans (Same.new ha))⟩⟩⟩⟩), fun z => absurd z (by decide)⟩⟩⟩⟩⟩⟩⟩
    · exact ⟨_, rfl, v, rfl, 6, v, rfl, by omega, by omega, (fun z => absurd z (by omega)), fun _ _ dd H1 sm hdd => ⟨_, U.xi 6 0 (by omega) (by omega) (by omega) (by omega), (fun z => absurd z (by decide)), fun _ => ⟨_, U.xi 6 1 (by omega) (by omega) (by omega) (by omega), (fun z => absurd z (by decide)), fun _ => ⟨_, U.xi 6 2 (by omega) (by omega) (by omega) (by omega), (fun z => absurd z (by decide)), fun _ => ⟨_, U.xi 6 3 (by omega) (by omega) (by omega) (by omega), (fun z => absurd z (by decide)), fun _ => ⟨_, U.xi 6 4 (by omega) (by omega) (by omega) (by omega), (fun z => absurd z (by decide)), fun _ => ⟨_, U.xi 6 5 (by omega) (by omega) (by omega) (by omega), (fun z => absurd z (by decide)), fun _ => ⟨_, U.xS 6 (by omega) (by omega), (fun _ a ha => ⟨_, rfl, 6, a, rfl, by omega, by omega, ⟨some dd, .ex upd_same, fun _ z => by cases z; exact ⟨_, Same.new ha _ _ hdd⟩⟩, fun p H2 s2 hp hl => ⟨.inl ⟨rfl, _, SqL.of hl⟩, p, flags 6, .bl true, 6, .bl true, rfl, rfl, SqL.of hl, rfl, rfl, rfl, rfl, (fun m z' hm hz => by
          have hm' : m = 0 ∨ m = 1 ∨ m = 2 ∨ m = 3 ∨ m = 4 ∨ m = 5 := by omega
          rcases hm' with rfl | rfl | rfl | rfl | rfl | rfl
          all_goals (cases hz; rfl)), (6 : Nat), rfl, by decide, _, _, rfl, rfl, by rw [sizeLine_eq]; decide +kernel, _, rfl, q _ ((sm.trans (Same.new ha)).trans s2)⟩⟩), fun z => absurd z (by decide)⟩⟩⟩⟩⟩⟩⟩⟩
    · exact ⟨_, rfl, v, rfl, 7, v, rfl, by omega, by omega, (fun z => absurd z (by omega)), fun _ _ dd H1 sm hdd => ⟨_, U.xi 7 0 (by omega) (by omega) (by omega) (by omega), (fun z => absurd z (by decide)), fun _ => ⟨_, U.xi 7 1 (by omega) (by omega) (by omega) (by omega), (fun z => absurd z (by decide)), fun _ => ⟨_, U.xi 7 2 (by omega) (by omega) (by omega) (by omega), (fun z => absurd z (by decide)), fun _ => ⟨_, U.xi 7 3 (by omega) (by omega) (by omega) (by omega), (fun z => absurd z (by decide)), fun _ => ⟨_, U.xi 7 4 (by omega) (by omega) (by omega) (by omega), (fun z => absurd z (by decide)), fun _ => ⟨_, U.xi 7 5 (by omega) (by omega) (by omega) (by omega), (fun z => absurd z (by decide)), fun _ => ⟨_, U.xS 7 (by omega) (by omega), (fun _ a ha => ⟨_, rfl, 7, a, rfl, by omega, by omega, ⟨some dd, .ex upd_same, fun _ z => by cases z; exact ⟨_, Same.new ha _ _ hdd⟩⟩, fun p H2 s2 hp hl => ⟨.inl ⟨rfl, _, SqL.of hl⟩, p, flags 7, .bl true, 7, .bl true, rfl, rfl, SqL.of hl, rfl, rfl, rfl, rfl, (fun m z' hm hz => by
          have hm' : m = 0 ∨ m = 1 ∨ m = 2 ∨ m = 3 ∨ m = 4 ∨ m = 5 ∨ m = 6 := by omega
          rcases hm' with rfl | rfl | rfl | rfl | rfl | rfl | rfl
          all_goals (cases hz; rfl)), (7 : Nat), rfl, by decide, _, _, rfl, rfl, by rw [sizeLine_eq]; decide +kernel, _, rfl, q _ ((sm.trans (Same.new ha)).trans s2)⟩⟩), fun z => absurd z (by decide)⟩⟩⟩⟩⟩⟩⟩⟩
    · exact ⟨_, rfl, v, rfl, 8, v, rfl, by omega, by omega, (fun _ => ⟨_, U.xi 8 0 (by omega) (by omega) (by omega) (by omega), (fun z => absurd z (by decide)), fun _ => ⟨_, U.xi 8 1 (by omega) (by omega) (by omega) (by omega), (fun z => absurd z (by decide)), fun _ => ⟨_, U.xi 8 2 (by omega) (by omega) (by omega) (by omega), (fun z => absurd z (by decide)), fun _ => ⟨_, U.xi 8 3 (by omega) (by omega) (by omega) (by omega), (fun z => absurd z (by decide)), fun _ => ⟨_, U.xi 8 4 (by omega) (by omega) (by omega) (by omega), (fun z => absurd z (by decide)), fun _ => ⟨_, U.xi 8 5 (by omega) (by omega) (by omega) (by omega), (fun z => absurd z (by decide)), fun _ => ⟨_, U.xS 8 (by omega) (by omega), (fun _ a ha => ⟨_, rfl, 8, a, rfl, by omega, by omega, ⟨none, .ex upd_same, fun _ z => nomatch z⟩, fun p H2 s2 hp hl => ⟨.inl ⟨rfl, _, SqL.of hl⟩, p, flags 8, .bl true, 8, .bl true, rfl, rfl, SqL.of hl, rfl, rfl, rfl, rfl, (fun m z' hm hz => by
          have hm' : m = 0 ∨ m = 1 ∨ m = 2 ∨ m = 3 ∨ m = 4 ∨ m = 5 ∨ m = 6 ∨ m = 7 := by omega
          rcases hm' with rfl | rfl | rfl | rfl | rfl | rfl | rfl | rfl
          all_goals (cases hz; rfl)), (8 : Nat), rfl, by decide, _, _, rfl, rfl, by rw [sizeLine_eq]; decide +kernel, _, rfl, q _ ((Same.new ha).trans s2)⟩⟩), fun z => absurd z (by decide)⟩⟩⟩⟩⟩⟩⟩), fun z z2 => absurd (And.intro z z2) (by omega)⟩
    · exact ⟨_, rfl, v, rfl, 9, v, rfl, by omega, by omega, (fun _ => ⟨_, U.xi 9 0 (by omega) (by omega) (by omega) (by omega), (fun z => absurd z (by decide)), fun _ => ⟨_, U.xi 9 1 (by omega) (by omega) (by omega) (by omega), (fun z => absurd z (by decide)), fun _ => ⟨_, U.xi 9 2 (by omega) (by omega) (by omega) (by omega), (fun z => absurd z (by decide)), fun _ => ⟨_, U.xi 9 3 (by omega) (by omega) (by omega) (by omega), (fun z => absurd z (by decide)), fun _ => ⟨_, U.xi 9 4 (by omega) (by omega) (by omega) (by omega), (fun z => absurd z (by decide)), fun _ => ⟨_, U.xi 9 5 (by omega) (by omega) (by omega) (by omega), (fun z => absurd z (by decide)), fun _ => ⟨_, U.xS 9 (by omega) (by omega), (fun _ a ha => ⟨_, rfl, 9, a, rfl, by omega, by omega, ⟨none, .ex upd_same, fun _ z => nomatch z⟩, fun p H2 s2 hp hl => ⟨.inl ⟨rfl, _, SqL.of hl⟩, p, flags 9, .bl true, 9, .bl true, rfl, rfl, SqL.of hl, rfl, rfl, rfl, rfl, (fun m z' hm hz => by
          have hm' : m = 0 ∨ m = 1 ∨ m = 2 ∨ m = 3 ∨ m = 4 ∨ m = 5 ∨ m = 6 ∨ m = 7 ∨ m = 8 := by omega
          rcases hm' with rfl | rfl | rfl | rfl | rfl | rfl | rfl | rfl | rfl
          all_goals (cases hz; rfl)), (9 : Nat), rfl, by decide, _, _, rfl, rfl, by rw [sizeLine_eq]; decide +kernel, _, rfl, q _ ((Same.new ha).trans s2)⟩⟩), fun z => absurd z (by decide)⟩⟩⟩⟩⟩⟩⟩), fun z z2 => absurd (And.intro z z2) (by omega)⟩
theorem sclast : FnScope ["_law_spot", "_law_thing_here", "_law_found", "_law_e"] ["_law_spot", "_law_thing_here"] (defScope sLast) := ⟨rfl, rfl, rfl, by decide +kernel, rfl, by decide +kernel, by decide +kernel⟩
theorem ok_last {f fR fC : Addr} {fd fdR fdC : FuncData} (F : Fun K "_law_caught_last" "_law_caught_last" sLast f fd) (T : Txt K mg cs is S) (U : Txt2 K mg cs S) (PL : Plain mg)
    (FR : FnOk P w K mg base (L2.CX P w) 3 fR fdR ["_law_spot", "_law_thing_here"] (spRaise cs)) (mR : mg "_law_raise" = some (.ref fR)) (kR : PySem.W.keepIn K (.ref fR) = true) (bR : Binds K fdR ["_law_spot", "_law_thing_here"] [])
    (FC : FnG false (fun _ => True) P w K mg base CX0 1 fC fdC ["_law_e"] (spClasses cs)) (mC : mg "_law_classes" = some (.ref fC)) (kC : PySem.W.keepIn K (.ref fC) = true) (bC : Binds K fdC ["_law_e"] []) :
    FnG true (fun A => A.guards = some []) P w K mg base CX0 4 f fd ["_law_spot", "_law_thing_here"] (spCaught lastS) := by
  refine okG F sclast (fun vs H Q E h => ?_) (fun cdv A outer s H vs Q E hh hgA hr h => ?_)
  · obtain ⟨i, v, d, rfl, _⟩ := h
    rfl
  · obtain ⟨i, v, d, rfl, i0, i1, hd, q⟩ := h
    have hrR : Room 3 (A.deeper (envOfC "_law_caught_last" (defScope sLast) s.heap.objs.size f cdv)) := ⟨hh rfl, hr.dp, hr.un⟩
    have hrc0 := hr.mono (show 1 ≤ 3 by omega)
    have hrc : ∀ a : Addr, L2H.RoomH 1 ((A.deeper (envOfC "_law_caught_last" (defScope sLast) s.heap.objs.size f cdv)).mark (some (.ref a))) := fun a => ⟨hrc0.dp, hrc0.un⟩
    have hun : (A.deeper (envOfC "_law_caught_last" (defScope sLast) s.heap.objs.size f cdv)).units + 64 < cLine := by
      have := hr.un
      omega
    have hgd : ∀ a : Addr, ((A.deeper (envOfC "_law_caught_last" (defScope sLast) s.heap.objs.size f cdv)).mark (some (.ref a))).guards = some [] := fun a => guards_mark hgA
    have hrep : ∀ a : Addr, CallR (hot (cxG true CX0 P w K mg base ["_law_spot", "_law_thing_here", "_law_found", "_law_e"] "_law_caught_last" (defScope sLast) f cdv A outer s H E) a) (.builtin "repr") (rReprD fun _ => True) := fun a => call_reprD (hgd a) hun
    refine ⟨_, pss_cons (ps_set (i := 2) sclast.nd rfl (Or.inl rfl) pe_str)
      (pss_cons (ps_try_hot rfl rfl sclast.nd (fun W pn xe tkW pso => pss_one (ps_expr (pe_callS FR hrR (by rfl) mR kR bR (fun σ => passAt tkW σ) (pa_cons (pv 0) (pa_cons (pv 1) pa_nil)))))
        (.cons ⟨by rfl, by decide, .inl T.p9.gC⟩ (fun a => pss_one (ps_set (i := 2) sclast.nd rfl (Or.inl rfl) pe_str))
        (.cons ⟨by rfl, by decide, .inl T.p8.gC⟩ (fun a => pss_one (ps_set (i := 2) sclast.nd rfl (Or.inl rfl) pe_str))
        (.as (i := 3) ⟨by rfl, by decide, .inl T.e7.gC⟩ rfl rfl (fun a => pss_one (ps_set (i := 2) sclast.nd rfl (Or.inl rfl) (pe_op op_add_str pe_str (pe_callB (hrep a) (by rfl) PL.repr (by decide +kernel) (pa_cons (pe_xF (pv 3)) pa_nil)))))
        (.as (i := 3) ⟨by rfl, by decide, .inl T.e6.gC⟩ rfl rfl (fun a => pss_one (ps_set (i := 2) sclast.nd rfl (Or.inl rfl) (pe_op op_add_str pe_str (pe_callB (hrep a) (by rfl) PL.repr (by decide +kernel) (pa_cons (pe_xF (pv 3)) pa_nil)))))
        (.as (i := 3) ⟨by rfl, by decide, .inl U.mS⟩ rfl rfl (fun a => pss_one (ps_set (i := 2) sclast.nd rfl (Or.inl rfl) (pe_op op_add_str pe_str (pe_callTy call_str_int (by rfl) PL.str (by decide +kernel) (pa_cons (pe_bm PySem.F.plainAttrs_list PySem.F.slot_list_index PySem.F.type_list_index mt_index (pe_callG FC (fun z : false = true => Bool.noConfusion z) True.intro (hrc a) (by rfl) mC kC bC pass0 (pa_cons (pv 3) pa_nil)) (pa_cons pe_bl pa_nil)) pa_nil))))) .nil))))))
      (pss_one (ps_ret (pv 2)))), ?_⟩
    have hi : i = 0 ∨ i = 1 ∨ i = 2 ∨ i = 3 ∨ i = 4 ∨ i = 5 ∨ i = 6 ∨ i = 7 ∨ i = 8 ∨ i = 9 := by omega
    rcases hi with rfl | rfl | rfl | rfl | rfl | rfl | rfl | rfl | rfl | rfl
    · exact ⟨_, rfl, v, rfl, 0, v, rfl, by omega, by omega, (fun _ => ⟨_, U.xi 0 9 (by omega) (by omega) (by omega) (by omega), (fun z => absurd z (by decide)), fun _ => ⟨_, U.xi 0 8 (by omega) (by omega) (by omega) (by omega), (fun z => absurd z (by decide)), fun _ => ⟨_, U.xi 0 7 (by omega) (by omega) (by omega) (by omega), (fun z => absurd z (by decide)), fun _ => ⟨_, U.xi 0 6 (by omega) (by omega) (by omega) (by omega), (fun z => absurd z (by decide)), fun _ => ⟨_, U.xS 0 (by omega) (by omega), (fun _ a ha => ⟨_, rfl, 0, a, rfl, by omega, by omega, ⟨none, .ex upd_same, fun _ z => nomatch z⟩, fun p H2 s2 hp hl => ⟨.inl ⟨rfl, _, SqL.of hl⟩, p, flags 0, .bl true, 0, .bl true, rfl, rfl, SqL.of hl, rfl, rfl, rfl, rfl, (fun m z' hm hz => absurd hm (by omega)), (0 : Nat), rfl, by decide, _, _, rfl, rfl, by rw [sizeLine_eq]; decide +kernel, _, rfl, q _ ((Same.new ha).trans s2)⟩⟩), fun z => absurd z (by decide)⟩⟩⟩⟩⟩), fun z z2 => absurd (And.intro z z2) (by omega)⟩
    · exact ⟨_, rfl, v, rfl, 1, v, rfl, by omega, by omega, (fun z => absurd z (by omega)), fun _ _ dd H1 sm hdd => ⟨_, U.xi 1 9 (by omega) (by omega) (by omega) (by omega), (fun z => absurd z (by decide)), fun _ => ⟨_, U.xi 1 8 (by omega) (by omega) (by omega) (by omega), (fun z => absurd z (by decide)), fun _ => ⟨_, U.xi 1 7 (by omega) (by omega) (by omega) (by omega), (fun z => absurd z (by decide)), fun _ => ⟨_, U.xi 1 6 (by omega) (by omega) (by omega) (by omega), (fun z => absurd z (by decide)), fun _ => ⟨_, U.xS 1 (by omega) (by omega), (fun _ a ha => ⟨_, rfl, 1, a, rfl, by omega, by omega, ⟨some dd, .ex upd_same, fun _ z => by cases z; exact ⟨_, Same.new ha _ _ hdd⟩⟩, fun p H2 s2 hp hl => ⟨.inl ⟨rfl, _, SqL.of hl⟩, p, flags 1, .bl true, 1, .bl true, rfl, rfl, SqL.of hl, rfl, rfl, rfl, rfl, (fun m z' hm hz => by
          have hm' : m = 0 := by omega
          rcases hm' with rfl
          all_goals (cases hz; rfl)), (1 : Nat), rfl, by decide, _, _, rfl, rfl, by rw [sizeLine_eq]; decide +kernel, _, rfl, q _ ((sm.trans (Same.new ha)).trans s2)⟩⟩), fun z => absurd z (by decide)⟩⟩⟩⟩⟩⟩
    · exact ⟨_, rfl, v, rfl, 2, v, rfl, by omega, by omega, (fun z => absurd z (by omega)), fun _ _ dd H1 sm hdd => ⟨_, U.xi 2 9 (by omega) (by omega) (by omega) (by omega), (fun z => absurd z (by decide)), fun _ => ⟨_, U.xi 2 8 (by omega) (by omega) (by omega) (by omega), (fun z => absurd z (by decide)), fun _ => ⟨_, U.xi 2 7 (by omega) (by omega) (by omega) (by omega), (fun z => absurd z (by decide)), fun _ => ⟨_, U.xi 2 6 (by omega) (by omega) (by omega) (by omega), (fun z => absurd z (by decide)), fun _ => ⟨_, U.xS 2 (by omega) (by omega), (fun _ a ha => ⟨_, rfl, 2, a, rfl, by omega, by omega, ⟨some dd, .ex upd_same, fun _ z => by cases z; exact ⟨_, Same.new ha _ _ hdd⟩⟩, fun p H2 s2 hp hl => ⟨.inl ⟨rfl, _, SqL.of hl⟩, p, flags 2, .bl true, 2, .bl true, rfl, rfl, SqL.of hl, rfl, rfl, rfl, rfl, (fun m z' hm hz => by
          have hm' : m = 0 ∨ m = 1 := by omega
          rcases hm' with rfl | rfl
          all_goals (cases hz; rfl)), (2 : Nat), rfl, by decide, _, _, rfl, rfl, by rw [sizeLine_eq]; decide +kernel, _, rfl, q _ ((sm.trans (Same.new ha)).trans s2)⟩⟩), fun z => absurd z (by decide)⟩⟩⟩⟩⟩⟩
    · exact ⟨_, rfl, v, rfl, 3, v, rfl, by omega, by omega, (fun z => absurd z (by omega)), fun _ _ dd H1 sm hdd => ⟨_, U.xi 3 9 (by omega) (by omega) (by omega) (by omega), (fun z => absurd z (by decide)), fun _ => ⟨_, U.xi 3 8 (by omega) (by omega) (by omega) (by omega), (fun z => absurd z (by decide)), fun _ => ⟨_, U.xi 3 7 (by omega) (by omega) (by omega) (by omega), (fun z => absurd z (by decide)), fun _ => ⟨_, U.xi 3 6 (by omega) (by omega) (by omega) (by omega), (fun z => absurd z (by decide)), fun _ => ⟨_, U.xS 3 (by omega) (by omega), (fun _ a ha => ⟨_, rfl, 3, a, rfl, by omega, by omega, ⟨some dd, .ex upd_same, fun _ z => by cases z; exact ⟨_, Same.new ha _ _ hdd⟩⟩, fun p H2 s2 hp hl => ⟨.inl ⟨rfl, _, SqL.of hl⟩, p, flags 3, .bl true, 3, .bl true, rfl, rfl, SqL.of hl, rfl, rfl, rfl, rfl, (fun m z' hm hz => by
          have hm' : m = 0 ∨ m = 1 ∨ m = 2 := by omega
          rcases hm' with rfl | rfl | rfl
          all_goals (cases hz; rfl)), (3 : Nat), rfl, by decide, _, _, rfl, rfl, by rw [sizeLine_eq]; decide +kernel, _, rfl, q _ ((sm.trans (Same.new ha)).trans s2)⟩⟩), fun z => absurd z (by decide)⟩⟩⟩⟩⟩⟩
    · exact ⟨_, rfl, v, rfl, 4, v, rfl, by omega, by omega, (fun z => absurd z (by omega)), fun _ _ dd H1 sm hdd => ⟨_, U.xi 4 9 (by omega) (by omega) (by omega) (by omega), (fun z => absurd z (by decide)), fun _ => ⟨_, U.xi 4 8 (by omega) (by omega) (by omega) (by omega), (fun z => absurd z (by decide)), fun _ => ⟨_, U.xi 4 7 (by omega) (by omega) (by omega) (by omega), (fun z => absurd z (by decide)), fun _ => ⟨_, U.xi 4 6 (by omega) (by omega) (by omega) (by omega), (fun z => absurd z (by decide)), fun _ => ⟨_, U.xS 4 (by omega) (by omega), (fun _ a ha => ⟨_, rfl, 4, a, rfl, by omega, by omega, ⟨some dd, .ex upd_same, fun _ z => by cases z; exact ⟨_, Same.new ha _ _ hdd⟩⟩, fun p H2 s2 hp hl => ⟨.inl ⟨rfl, _, SqL.of hl⟩, p, flags 4, .bl true, 4, .bl true, rfl, rfl, SqL.of hl, rfl, rfl, rfl, rfl, (fun m z' hm hz => by
          have hm' : m = 0 ∨ m = 1 ∨ m = 2 ∨ m = 3 := by omega
          rcases hm' with rfl | rfl | rfl | rfl
          all_goals (cases hz; rfl)), (4 : Nat), rfl, by decide, _, _, rfl, rfl, by rw [sizeLine_eq]; decide +kernel, _, rfl, q _ ((sm.trans (Same.new ha)).trans s2)⟩⟩), fun z => absurd z (by decide)⟩⟩⟩⟩⟩⟩
    · exact ⟨_, rfl, v, rfl, 5, v, rfl, by omega, by omega, (fun z => absurd z (by omega)), fun _ _ dd H1 sm hdd => ⟨_, U.xi 5 9 (by omega) (by omega) (by omega) (by omega), (fun z => absurd z (by decide)), fun _ => ⟨_, U.xi 5 8 (by omega) (by omega) (by omega) (by omega), (fun z => absurd z (by decide)), fun _ => ⟨_, U.xi 5 7 (by omega) (by omega) (by omega) (by omega), (fun z => absurd z (by decide)), fun _ => ⟨_, U.xi 5 6 (by omega) (by omega) (by omega) (by omega), (fun z => absurd z (by decide)), fun _ => ⟨_, U.xS 5 (by omega) (by omega), (fun _ a ha => ⟨_, rfl, 5, a, rfl, by omega, by omega, ⟨some dd, .ex upd_same, fun _ z => by cases z; exact ⟨_, Same.new ha _ _ hdd⟩⟩, fun p H2 s2 hp hl => ⟨.inl ⟨rfl, _, SqL.of hl⟩, p, flags 5, .bl true, 5, .bl true, rfl, rfl, SqL.of hl, rfl, rfl, rfl, rfl, (fun m z' hm hz => by
          have hm' : m = 0 ∨ m = 1 ∨ m = 2 ∨ m = 3 ∨ m = 4 := by omega
          rcases hm' with rfl | rfl | rfl | rfl | rfl
          all_goals (cases hz; rfl)), (5 : Nat), rfl, by decide, _, _, rfl, rfl, by rw [sizeLine_eq]; decide +kernel, _, rfl, q _ ((sm.trans (Same.new ha)).trans s2)⟩⟩), fun z => absurd z (by decide)⟩⟩⟩⟩⟩⟩
    · exact ⟨_, rfl, v, rfl, 6, v, rfl, by omega, by omega, (fun z => absurd z (by omega)), fun _ _ dd H1 sm hdd => ⟨_, U.xi 6 9 (by omega) (by omega) (by omega) (by omega), (fun z => absurd z (by decide)), fun _ => ⟨_, U.xi 6 8 (by omega) (by omega) (by omega) (by omega), (fun z => absurd z (by decide)), fun _ => ⟨_, U.xi 6 7 (by omega) (by omega) (by omega) (by omega), (fun z => absurd z (by decide)), fun _ => ⟨_, U.xi 6 6 (by omega) (by omega) (by omega) (by omega), (fun _ a ha => ⟨_, rfl, a, dd, cs 6, S, is 6, "Full", v, rfl, T.e6, .ex upd_same, Same.new ha _ _ hdd, ⟨v, d, rfl, (hd.same (sm.trans (Same.new ha))).dq, hd.sh, hd.dp, by have := hd.sz; rw [sizeLine_eq]; omega, ⟨_, _, rfl, rfl, sz1 (by decide +kernel) hd.sz, ⟨_, rfl, q _ (sm.trans (Same.new ha))⟩⟩⟩⟩), fun z => absurd z (by decide)⟩⟩⟩⟩⟩
    · exact ⟨_, rfl, v, rfl, 7, v, rfl, by omega, by omega, (fun z => absurd z (by omega)), fun _ _ dd H1 sm hdd => ⟨_, U.xi 7 9 (by omega) (by omega) (by omega) (by omega), (fun z => absurd z (by decide)), fun _ => ⟨_, U.xi 7 8 (by omega) (by omega) (by omega) (by omega), (fun z => absurd z (by decide)), fun _ => ⟨_, U.xi 7 7 (by omega) (by omega) (by omega) (by omega), (fun _ a ha => ⟨_, rfl, a, dd, cs 7, S, is 7, "TooMany", v, rfl, T.e7, .ex upd_same, Same.new ha _ _ hdd, ⟨v, d, rfl, (hd.same (sm.trans (Same.new ha))).dq, hd.sh, hd.dp, by have := hd.sz; rw [sizeLine_eq]; omega, ⟨_, _, rfl, rfl, sz1 (by decide +kernel) hd.sz, ⟨_, rfl, q _ (sm.trans (Same.new ha))⟩⟩⟩⟩), fun z => absurd z (by decide)⟩⟩⟩⟩
    · exact ⟨_, rfl, v, rfl, 8, v, rfl, by omega, by omega, (fun _ => ⟨_, U.xi 8 9 (by omega) (by omega) (by omega) (by omega), (fun z => absurd z (by decide)), fun _ => ⟨_, U.xi 8 8 (by omega) (by omega) (by omega) (by omega), (fun _ a ha => ⟨_, rfl, q _ (Same.new ha)⟩), fun z => absurd z (by decide)⟩⟩), fun z z2 => absurd (And.intro z z2) (by omega)⟩
    · exact ⟨_, rfl, v, rfl, 9, v, rfl, by omega, by omega, (fun _ => ⟨_, U.xi 9 9 (by omega) (by omega) (by omega) (by omega), (fun _ a ha => ⟨_, rfl, q _ (Same.new ha)⟩), fun z => absurd z (by decide)⟩), fun z z2 => absurd (And.intro z z2) (by omega)⟩
end
end My
-- ===== K01Z =====
namespace My
open PySem L2 PySem.MyX PyProof.Rows PySem.Spec
abbrev sRight : Stmt := top 24
def spRight : Sp := fun vs H Q _ => ∃ (i : Int) (v : V) (d : PyData), vs = [.int i, v] ∧ 0 ≤ i ∧ i < 10 ∧ Shn H v d ∧ ∀ H', Same H H' → Q (.bl true) H'
/-- more names that are none of the module's -/
structure Plain2 (mg : Str → Option Value) : Prop where
  range : mg "range" = none
  ex : mg "Exception" = none
  b1 : mg "ValueError" = none
  b2 : mg "LookupError" = none
  b3 : mg "ArithmeticError" = none
  b4 : mg "TypeError" = none
  b5 : mg "AttributeError" = none
  b6 : mg "RuntimeError" = none
def flagsD (i : Int) : List PyData := [.bool (decide (i = 0)), .bool (decide (i = 1)), .bool (decide (i = 2)), .bool (decide (i = 3)), .bool (decide (i = 4)), .bool (decide (i = 5)), .bool (decide (i = 6)), .bool (decide (i = 7)), .bool (decide (i = 8)), .bool (decide (i = 9))]
def cmpD (i : Int) : List PyData := (List.range 10).map fun (j : Nat) => .bool (decide (V.int (0 + (j : Int)) = V.int i))
theorem dp_flags {K : PySem.W.Frag} {H : Hp} (i : Int) : DpAll K H (flags i) (flagsD i) := .cons (.bl _) (.cons (.bl _) (.cons (.bl _) (.cons (.bl _) (.cons (.bl _) (.cons (.bl _) (.cons (.bl _) (.cons (.bl _) (.cons (.bl _) (.cons (.bl _) .nil)))))))))
theorem dp_bools {K : PySem.W.Frag} {H : Hp} (f : Nat → Bool) : ∀ l : List Nat, DpAll K H (l.map fun j => V.bl (f j)) (l.map fun j => PyData.bool (f j))
  | [] => .nil
  | _ :: r => .cons (.bl _) (dp_bools f r)
theorem ten (i : Int) (i0 : 0 ≤ i) (i1 : i < 10) : i = 0 ∨ i = 1 ∨ i = 2 ∨ i = 3 ∨ i = 4 ∨ i = 5 ∨ i = 6 ∨ i = 7 ∨ i = 8 ∨ i = 9 := by omega
theorem flags_eqv (i : Int) (i0 : 0 ≤ i) (i1 : i < 10) : SeqAt.shaped (.list (flagsD i)) = true ∧ SeqAt.shaped (.list (cmpD i)) = true ∧ PyData.eqv (.list (flagsD i)) (.list (cmpD i)) = true := by
  rcases ten i i0 i1 with rfl | rfl | rfl | rfl | rfl | rfl | rfl | rfl | rfl | rfl <;> decide +kernel
/-- the three texts at the end -/
theorem cat_l {a a' : Str} (h : a = a') (b : Str) : a ++ b = a' ++ b := by rw [h]
section
variable {P : Program} {w : World} {K : PySem.W.Frag} {mg : Str → Option Value} {base : Heap} {cs is : Int → Addr} {S : Addr}
abbrev nR : List Str := ["_law_spot", "_law_thing_here", "_law_kept_here", "_law_e", "_law_first", "_law_last", "_law_found", "_law_at"]
theorem scRt : FnScope nR ["_law_spot", "_law_thing_here"] (defScope sRight) := ⟨rfl, rfl, rfl, by decide +kernel, rfl, by decide +kernel, by decide +kernel⟩
theorem ok_right {f fP fN fK fC f1 f2 : Addr} {fd fdP fdN fdK fdC fd1 fd2 : FuncData} (F : Fun K "_law_right" "_law_right" sRight f fd) (T : Txt K mg cs is S) (U : Txt2 K mg cs S) (PL : Plain mg) (PM : Plain2 mg)
    (GP : FnOk P w K mg base CX0 3 fP fdP ["_law_spot", "_law_thing_here"] (spMake cs)) (mP : mg "_law_by_position" = some (.ref fP)) (kP : PySem.W.keepIn K (.ref fP) = true) (bP : Binds K fdP ["_law_spot", "_law_thing_here"] [])
    (GN : FnOk P w K mg base CX0 3 fN fdN ["_law_spot", "_law_thing_here"] (spMake cs)) (mN : mg "_law_by_name" = some (.ref fN)) (kN : PySem.W.keepIn K (.ref fN) = true) (bN : Binds K fdN ["_law_spot", "_law_thing_here"] [])
    (GK : FnOk P w K mg base CX0 1 fK fdK ["_law_spot", "_law_e"] (spKept cs)) (mK : mg "_law_kept" = some (.ref fK)) (kK : PySem.W.keepIn K (.ref fK) = true) (bK : Binds K fdK ["_law_spot", "_law_e"] [])
    (FC : FnG false (fun _ => True) P w K mg base CX0 1 fC fdC ["_law_e"] (spClasses cs)) (mC : mg "_law_classes" = some (.ref fC)) (kC : PySem.W.keepIn K (.ref fC) = true) (bC : Binds K fdC ["_law_e"] [])
    (F1 : FnG true (fun A => A.guards = some []) P w K mg base CX0 4 f1 fd1 ["_law_spot", "_law_thing_here"] (spCaught firstS)) (m1 : mg "_law_caught_first" = some (.ref f1)) (k1 : PySem.W.keepIn K (.ref f1) = true) (b1 : Binds K fd1 ["_law_spot", "_law_thing_here"] [])
    (F2 : FnG true (fun A => A.guards = some []) P w K mg base CX0 4 f2 fd2 ["_law_spot", "_law_thing_here"] (spCaught lastS)) (m2 : mg "_law_caught_last" = some (.ref f2)) (k2 : PySem.W.keepIn K (.ref f2) = true) (b2 : Binds K fd2 ["_law_spot", "_law_thing_here"] []) :
    FnG true (fun A => A.guards = some []) P w K mg base CX0 5 f fd ["_law_spot", "_law_thing_here"] spRight := by
  refine okG F scRt (fun vs H Q E h => ?_) (fun cdv A outer s H vs Q E hh hgA hr h => ?_)
  · obtain ⟨i, v, d, rfl, _⟩ := h
    rfl
  · obtain ⟨i, v, d, rfl, i0, i1, hd, q⟩ := h
    have hR : Room 4 (A.deeper (envOfC "_law_right" (defScope sRight) s.heap.objs.size f cdv)) := ⟨hh rfl, hr.dp, hr.un⟩
    have hR3 := hR.mono (show 3 ≤ 4 by omega)
    have hR1 := hR.mono (show 1 ≤ 4 by omega)
    have hH1 := hr.mono (show 1 ≤ 4 by omega)
    have hA : (A.deeper (envOfC "_law_right" (defScope sRight) s.heap.objs.size f cdv)).handled = none := hh rfl
    have hG : (A.deeper (envOfC "_law_right" (defScope sRight) s.heap.objs.size f cdv)).guards = some [] := hgA
    have hun : (A.deeper (envOfC "_law_right" (defScope sRight) s.heap.objs.size f cdv)).units + 64 < cLine := by
      have := hr.un
      omega
    have hrep : CallR (cxG true CX0 P w K mg base nR "_law_right" (defScope sRight) f cdv A outer s H E).nox (.builtin "repr") (rReprD fun _ => True) := call_reprD hG hun
    have hne : OpR (cxG true CX0 P w K mg base nR "_law_right" (defScope sRight) f cdv A outer s H E).nox (compareOp .NotEq) (rNeD K) := op_neD hun
    have heq : OpR (cxG true CX0 P w K mg base nR "_law_right" (defScope sRight) f cdv A outer s H E).nox (compareOp .Eq) (rEqV K) := op_eqV hun
    refine ⟨_, PSs.nox (pss_cons (ps_set (i := 2) scRt.nd rfl (Or.inl rfl) (pe_callB hrep (by rfl) PL.repr (by decide +kernel) (pa_cons (pv 1) pa_nil)))
      (pss_cons (ps_for PassesOwn.never rfl (pi_tup (pe_tup (pa_cons (pe_call GP hR3 (by rfl) mP kP bP .nil pass0 (pa_cons (pv 0) (pa_cons (pv 1) pa_nil))) (pa_cons (pe_call GN hR3 (by rfl) mN kN bN .nil pass0 (pa_cons (pv 0) (pa_cons (pv 1) pa_nil))) pa_nil))))
        (pg_name (i := 3) scRt.nd rfl (Or.inl rfl))
        (pss_cons (ps_if (PW.pt (pw_or (pt_not (pt_val (pe_callB call_isX (by rfl) U.mi (by decide +kernel) (pa_cons (pv 3) (pa_cons (pe_glob (v := .ref S) (by rfl) U.mS rfl) pa_nil)))))
            (pw_or1 (pt_not (pt_val (pe_callB call_isX (by rfl) U.mi (by decide +kernel) (pa_cons (pv 3) (pa_cons (pe_bltn (v := .ty "Exception") (by rfl) PM.ex (by decide +kernel) rfl) pa_nil)))))))) (pss_one (ps_ret pe_bl)) pss_nil)
        (pss_cons (ps_if (pt_cmpR hne (pe_callG FC (fun z : false = true => Bool.noConfusion z) True.intro hH1 (by rfl) mC kC bC pass0 (pa_cons (pv 3) pa_nil))
            (pe_lc (own := [("_law_at", 7)]) (g := gName 7) (tt := tYes) (by rfl) scRt.nd (pi_range1 (by rfl) PM.range (pa_cons pe_int pa_nil))
              (blkOk_by (own := [("_law_at", 7)]) (N := nR) (sc := defScope sRight) (by decide +kernel)) (fun _ _ _ _ _ => pg_name (i := 7) scRt.nd rfl (Or.inl rfl)) (fun _ _ _ _ _ => pts_nil)
              (fun _ _ _ _ _ => pe_cmpR op_eq (pv 7) (pv 0) (nomark _))) (nomark _)) (pss_one (ps_ret pe_bl)) pss_nil)
        (pss_cons (ps_if (pt_val (pe_callB call_isXT (by rfl) U.mi (by decide +kernel) (pa_cons (pv 3) (pa_cons (pe_tup (pa_cons (pe_bltn (v := .ty "ValueError") (by rfl) PM.b1 (by decide +kernel) rfl) (pa_cons (pe_bltn (v := .ty "LookupError") (by rfl) PM.b2 (by decide +kernel) rfl)
            (pa_cons (pe_bltn (v := .ty "ArithmeticError") (by rfl) PM.b3 (by decide +kernel) rfl) (pa_cons (pe_bltn (v := .ty "TypeError") (by rfl) PM.b4 (by decide +kernel) rfl) (pa_cons (pe_bltn (v := .ty "AttributeError") (by rfl) PM.b5 (by decide +kernel) rfl)
            (pa_cons (pe_bltn (v := .ty "RuntimeError") (by rfl) PM.b6 (by decide +kernel) rfl) pa_nil))))))) pa_nil)))) (pss_one (ps_ret pe_bl)) pss_nil)
        (pss_one (ps_if (pt_cmpR op_ne (pe_callB hrep (by rfl) PL.repr (by decide +kernel) (pa_cons (pe_call GK hR1 (by rfl) mK kK bK .nil pass0 (pa_cons (pv 0) (pa_cons (pv 3) pa_nil))) pa_nil))
            (pe_ifExp (pt_chain op_lt op_lt pe_int (pv 0) pe_int) (pv 2) pe_str) (nomark _)) (pss_one (ps_ret pe_bl)) pss_nil))))))
      (pss_cons (ps_par (i := 4) (j := 5) rfl scRt.nd rfl rfl (by decide) rfl rfl
        (pa_cons (pe_op op_add_str pe_str (pe_callTy call_str_int (by rfl) PL.str (by decide +kernel) (pa_cons (pv 0) pa_nil))) (pa_cons (pe_op op_add_str pe_str (pe_callTy call_str_int (by rfl) PL.str (by decide +kernel) (pa_cons (pv 0) pa_nil))) pa_nil)) (by rfl))
      (pss_cons (ps_if (pt_cmpR op_lt (pv 0) pe_int (nomark _))
        (pss_one (ps_set (i := 4) scRt.nd rfl (Or.inl rfl) (pe_op op_add_str (pe_callTy call_str_int (by rfl) PL.str (by decide +kernel) (pa_cons (pv 0) pa_nil)) (pe_ifExp (pt_cmpR op_gt (pv 0) pe_int (nomark _)) (pv 2) pe_str))))
        (pss_one (ps_set (i := 5) scRt.nd rfl (Or.inl rfl) (pe_op op_add_str (pe_callTy call_str_int (by rfl) PL.str (by decide +kernel) (pa_cons (pv 0) pa_nil)) (pe_ifExp (pt_cmpR op_lt (pv 0) pe_int (nomark _)) (pv 2) pe_str)))))
      (pss_cons (ps_set (i := 6) scRt.nd rfl (Or.inl rfl) (pe_lst (pa_cons (pe_callG F1 (fun _ => hA) hG hr (by rfl) m1 k1 b1 pass0 (pa_cons (pv 0) (pa_cons (pv 1) pa_nil))) (pa_cons (pe_callG F2 (fun _ => hA) hG hr (by rfl) m2 k2 b2 pass0 (pa_cons (pv 0) (pa_cons (pv 1) pa_nil)))
        (pa_cons (pe_callB hrep (by rfl) PL.repr (by decide +kernel) (pa_cons (pv 1) pa_nil)) pa_nil)))))
      (pss_one (ps_ret (pe_cmpR heq (pv 6) (pe_lst (pa_cons (pv 4) (pa_cons (pv 5) (pa_cons (pv 2) pa_nil)))) (nomark _))))))))), ?_⟩
    -- kept_here = repr(thing_here)
    refine ⟨_, rfl, v, d, rfl, hd.dq, hd.sh, hd.dp, by have := hd.sz; rw [sizeLine_eq]; omega, ?_⟩
    refine ⟨_, rfl, _, rfl, i, v, rfl, i0, i1, fun a1 H1 s1 e1 => ⟨_, rfl, _, rfl, i, v, rfl, i0, i1, fun a2 H2 s2 e2 => ⟨by show 2 ≤ sizeLine; decide, fun t ht => ⟨t, rfl, ⟨_, SqT.of upd_same⟩,
      for_tup (K := K) (a := t) (xs := [.ref a1, .ref a2]) (fun n σ H3 => ∃ ev, σ = [some (.int i), some v, some (.str d.shown), ev, none, none, none, none] ∧ Same (upd H2 t (.tup [.ref a1, .ref a2])) H3) ⟨none, rfl, Same.refl _⟩
        (fun n σ H3 _ ⟨_, _, s3⟩ => SqT.of (s3 _ _ upd_same)) ?_ ?_⟩⟩⟩⟩
    · rintro n x σ H3 hx ⟨ev, rfl, s3⟩
      have sB : Same H H3 := ((s1.trans s2).trans (Same.new ht)).trans s3
      obtain ⟨a, rfl, hE⟩ : ∃ a, x = .ref a ∧ ErrIs cs H3 a i v := by
        have hn : n = 0 ∨ n = 1 := by
          rcases n with _ | _ | n
          · exact .inl rfl
          · exact .inr rfl
          · cases hx
        rcases hn with rfl | rfl
        · cases hx
          exact ⟨a1, rfl, ((e1.same s2).same (Same.new ht)).same s3⟩
        · cases hx
          exact ⟨a2, rfl, (e2.same (Same.new ht)).same s3⟩
      have hI := hE.isE
      have hC := U.ct i i0 i1
      -- isinstance
      refine ⟨_, rfl, a, cs i, .ref S, .ref S, true, rfl, hI, hC, .own _, U.kS i i0 i1, true, rfl, iteF ?_⟩
      refine ⟨_, rfl, a, cs i, .ty "Exception", .type "Exception", true, rfl, hI, hC, .ty _, U.kE i i0 i1, true, rfl, iteF ?_⟩
      -- the classes
      refine ⟨_, rfl, i, a, rfl, i0, i1, hI, fun p H4 s4 hp4 hl4 => ⟨10, rfl, by omega, by omega, fun D hD => lc_range (lo := 0) (n := 10) (fun n H5 => H5 D = some (.lst ((List.range n).map fun (j : Nat) => V.bl (decide (V.int (0 + (j : Int)) = V.int i)))) ∧ Same H4 H5) ⟨upd_same, Same.new hD⟩ ?_ ?_⟩⟩
      · rintro n H5 hn ⟨hD5, s5⟩
        refine ⟨rfl, _, rfl, _, rfl, rfl, _, hD5, ?_, ?_, ?_⟩
        · rw [List.length_map, List.length_range, sizeLine_eq]
          omega
        · rw [upd_same, List.range_succ, List.map_append]
          rfl
        · intro b o e
          rw [upd_ne (ne_of_none e hD)]
          exact s5 b o e
      rintro H5 ⟨hD5, s5⟩
      obtain ⟨sh1, sh2, eqv⟩ := flags_eqv i i0 i1
      refine ⟨.list (flagsD i), .list (cmpD i), .lst (SqL.of (s5 _ _ hl4)) (dp_flags i), .lst (SqL.of hD5) (dp_bools _ _), sh1, sh2, _, rfl, ?_⟩
      rw [eqv]
      refine iteF ?_
      have hI5 := (hI.same s4).same s5
      have hE5 := (hE.same s4).same s5
      -- none of Python's own
      refine ⟨_, rfl, by show 6 ≤ sizeLine; decide, fun tp htp => ⟨a, cs i, tp, _, _, false, rfl, hI5.same (Same.new htp), hC, upd_same, .cons (.ty _) (.cons (.ty _) (.cons (.ty _) (.cons (.ty _) (.cons (.ty _) (.cons (.ty _) .nil))))), U.kB i i0 i1, false, rfl, iteF ?_⟩⟩
      -- what it keeps
      refine ⟨_, rfl, _, rfl, i, a, v, rfl, i0, i1, hE5.same (Same.new htp), fun H6 s6 => ?_⟩
      have sE : Same H H6 := (((sB.trans s4).trans s5).trans (Same.new htp)).trans s6
      have sT : Same (upd H2 t (.tup [.ref a1, .ref a2])) H6 := (((s3.trans s4).trans s5).trans (Same.new htp)).trans s6
      by_cases hi : 1 ≤ i ∧ i ≤ 7
      · rw [if_pos hi]
        refine ⟨v, d, rfl, (hd.same sE).dq, hd.sh, hd.dp, by have := hd.sz; rw [sizeLine_eq]; omega, ?_⟩
        refine ⟨_, rfl, _, _, rfl, rfl, _, rfl, ?_⟩
        rw [show decide ((0 : Int) < i) = true from decide_eq_true (by omega)]
        refine iteT ⟨_, _, rfl, rfl, _, rfl, ?_⟩
        rw [show decide (i < (8 : Int)) = true from decide_eq_true (by omega)]
        refine iteT ⟨_, rfl, rfl, _, rfl, ?_⟩
        rw [show decide (V.str d.shown = V.str d.shown) = true from decide_eq_true rfl]
        exact iteF ⟨_, rfl, sT⟩
      · rw [if_neg hi]
        refine ⟨.non, .none, rfl, .non, rfl, by decide, by rw [sizeLine_eq]; decide +kernel, ?_⟩
        refine ⟨_, rfl, _, _, rfl, rfl, _, rfl, ?_⟩
        have hi' : i = 0 ∨ i = 8 ∨ i = 9 := by omega
        have en : PyData.shown .none = ("None" : Str) := by rfl
        rcases hi' with rfl | rfl | rfl
        · refine iteF ⟨_, rfl, iteF ⟨rfl, _, rfl, ?_⟩⟩
          rw [en, show decide (V.str "None" = V.str "None") = true from decide_eq_true rfl]
          exact iteF ⟨_, rfl, sT⟩
        · refine iteT ⟨_, _, rfl, rfl, _, rfl, iteF ⟨rfl, _, rfl, ?_⟩⟩
          rw [en, show decide (V.str "None" = V.str "None") = true from decide_eq_true rfl]
          exact iteF ⟨_, rfl, sT⟩
        · refine iteT ⟨_, _, rfl, rfl, _, rfl, iteF ⟨rfl, _, rfl, ?_⟩⟩
          rw [en, show decide (V.str "None" = V.str "None") = true from decide_eq_true rfl]
          exact iteF ⟨_, rfl, sT⟩
    · rintro σ H3 ⟨ev, rfl, s3⟩
      have sB : Same H H3 := ((s1.trans s2).trans (Same.new ht)).trans s3
      have hd3 := hd.same sB
      rcases ten i i0 i1 with rfl | rfl | rfl | rfl | rfl | rfl | rfl | rfl | rfl | rfl
      · refine ⟨_, rfl, 0, rfl, by decide, _, _, rfl, rfl, by rw [sizeLine_eq]; decide +kernel, _, rfl, 0, rfl, by decide, _, _, rfl, rfl, by rw [sizeLine_eq]; decide +kernel, _, _, rfl, _, rfl, _, _, rfl, rfl, _, rfl, iteT ⟨_, rfl, 0, rfl, by decide, _, rfl, _, _, rfl, rfl, _, rfl, iteF ⟨_, _, rfl, rfl, by rw [sizeLine_eq]; decide +kernel, ⟨_, rfl, _, rfl, 0, v, d, rfl, by omega, by omega, hd3, fun H4 s4 => ⟨_, rfl, _, rfl, 0, v, d, rfl, by omega, by omega, hd3.same s4, fun H5 s5 => ⟨_, rfl, v, d, rfl, ((hd3.same s4).same s5).dq, hd.sh, hd.dp, by have := hd.sz; rw [sizeLine_eq]; omega, by show 3 ≤ sizeLine; decide, fun l hl => ⟨_, rfl, _, rfl, _, rfl, _, rfl, by show 3 ≤ sizeLine; decide, fun l2 hl2 => ⟨1, by decide, .inl ⟨_, _, _, _, rfl, rfl, SqL.of (Same.new hl2 _ _ upd_same), SqL.of upd_same, .cons (.inl ⟨congrArg V.str (show firstS 0 d = _ from (by show ("0" : Str) = _; decide +kernel)), rfl⟩) (.cons (.inl ⟨congrArg V.str (show lastS 0 d = _ from (by show ("base0" : Str) = _; decide +kernel)), rfl⟩) (.cons (.inl ⟨rfl, rfl⟩) .nil))⟩, ?_⟩⟩⟩⟩⟩⟩⟩⟩
        exact q _ ((((sB.trans s4).trans s5).trans (Same.new hl)).trans (Same.new hl2))
      · refine ⟨_, rfl, 1, rfl, by decide, _, _, rfl, rfl, by rw [sizeLine_eq]; decide +kernel, _, rfl, 1, rfl, by decide, _, _, rfl, rfl, by rw [sizeLine_eq]; decide +kernel, _, _, rfl, _, rfl, _, _, rfl, rfl, _, rfl, iteT ⟨_, rfl, 1, rfl, by decide, _, rfl, _, _, rfl, rfl, _, rfl, iteT ⟨_, rfl, _, _, rfl, rfl, sz1 (by decide +kernel) hd.sz, ⟨_, rfl, _, rfl, 1, v, d, rfl, by omega, by omega, hd3, fun H4 s4 => ⟨_, rfl, _, rfl, 1, v, d, rfl, by omega, by omega, hd3.same s4, fun H5 s5 => ⟨_, rfl, v, d, rfl, ((hd3.same s4).same s5).dq, hd.sh, hd.dp, by have := hd.sz; rw [sizeLine_eq]; omega, by show 3 ≤ sizeLine; decide, fun l hl => ⟨_, rfl, _, rfl, _, rfl, _, rfl, by show 3 ≤ sizeLine; decide, fun l2 hl2 => ⟨1, by decide, .inl ⟨_, _, _, _, rfl, rfl, SqL.of (Same.new hl2 _ _ upd_same), SqL.of upd_same, .cons (.inl ⟨congrArg V.str (show firstS 1 d = _ from (cat_l (by decide +kernel) _)), rfl⟩) (.cons (.inl ⟨congrArg V.str (show lastS 1 d = _ from (by show ("base1" : Str) = _; decide +kernel)), rfl⟩) (.cons (.inl ⟨rfl, rfl⟩) .nil))⟩, ?_⟩⟩⟩⟩⟩⟩⟩⟩
        exact q _ ((((sB.trans s4).trans s5).trans (Same.new hl)).trans (Same.new hl2))
      · refine ⟨_, rfl, 2, rfl, by decide, _, _, rfl, rfl, by rw [sizeLine_eq]; decide +kernel, _, rfl, 2, rfl, by decide, _, _, rfl, rfl, by rw [sizeLine_eq]; decide +kernel, _, _, rfl, _, rfl, _, _, rfl, rfl, _, rfl, iteT ⟨_, rfl, 2, rfl, by decide, _, rfl, _, _, rfl, rfl, _, rfl, iteT ⟨_, rfl, _, _, rfl, rfl, sz1 (by decide +kernel) hd.sz, ⟨_, rfl, _, rfl, 2, v, d, rfl, by omega, by omega, hd3, fun H4 s4 => ⟨_, rfl, _, rfl, 2, v, d, rfl, by omega, by omega, hd3.same s4, fun H5 s5 => ⟨_, rfl, v, d, rfl, ((hd3.same s4).same s5).dq, hd.sh, hd.dp, by have := hd.sz; rw [sizeLine_eq]; omega, by show 3 ≤ sizeLine; decide, fun l hl => ⟨_, rfl, _, rfl, _, rfl, _, rfl, by show 3 ≤ sizeLine; decide, fun l2 hl2 => ⟨1, by decide, .inl ⟨_, _, _, _, rfl, rfl, SqL.of (Same.new hl2 _ _ upd_same), SqL.of upd_same, .cons (.inl ⟨congrArg V.str (show firstS 2 d = _ from (cat_l (by decide +kernel) _)), rfl⟩) (.cons (.inl ⟨congrArg V.str (show lastS 2 d = _ from (by show ("base2" : Str) = _; decide +kernel)), rfl⟩) (.cons (.inl ⟨rfl, rfl⟩) .nil))⟩, ?_⟩⟩⟩⟩⟩⟩⟩⟩
        exact q _ ((((sB.trans s4).trans s5).trans (Same.new hl)).trans (Same.new hl2))
      · refine ⟨_, rfl, 3, rfl, by decide, _, _, rfl, rfl, by rw [sizeLine_eq]; decide +kernel, _, rfl, 3, rfl, by decide, _, _, rfl, rfl, by rw [sizeLine_eq]; decide +kernel, _, _, rfl, _, rfl, _, _, rfl, rfl, _, rfl, iteT ⟨_, rfl, 3, rfl, by decide, _, rfl, _, _, rfl, rfl, _, rfl, iteT ⟨_, rfl, _, _, rfl, rfl, sz1 (by decide +kernel) hd.sz, ⟨_, rfl, _, rfl, 3, v, d, rfl, by omega, by omega, hd3, fun H4 s4 => ⟨_, rfl, _, rfl, 3, v, d, rfl, by omega, by omega, hd3.same s4, fun H5 s5 => ⟨_, rfl, v, d, rfl, ((hd3.same s4).same s5).dq, hd.sh, hd.dp, by have := hd.sz; rw [sizeLine_eq]; omega, by show 3 ≤ sizeLine; decide, fun l hl => ⟨_, rfl, _, rfl, _, rfl, _, rfl, by show 3 ≤ sizeLine; decide, fun l2 hl2 => ⟨1, by decide, .inl ⟨_, _, _, _, rfl, rfl, SqL.of (Same.new hl2 _ _ upd_same), SqL.of upd_same, .cons (.inl ⟨congrArg V.str (show firstS 3 d = _ from (cat_l (by decide +kernel) _)), rfl⟩) (.cons (.inl ⟨congrArg V.str (show lastS 3 d = _ from (by show ("base3" : Str) = _; decide +kernel)), rfl⟩) (.cons (.inl ⟨rfl, rfl⟩) .nil))⟩, ?_⟩⟩⟩⟩⟩⟩⟩⟩
        exact q _ ((((sB.trans s4).trans s5).trans (Same.new hl)).trans (Same.new hl2))
      · refine ⟨_, rfl, 4, rfl, by decide, _, _, rfl, rfl, by rw [sizeLine_eq]; decide +kernel, _, rfl, 4, rfl, by decide, _, _, rfl, rfl, by rw [sizeLine_eq]; decide +kernel, _, _, rfl, _, rfl, _, _, rfl, rfl, _, rfl, iteT ⟨_, rfl, 4, rfl, by decide, _, rfl, _, _, rfl, rfl, _, rfl, iteT ⟨_, rfl, _, _, rfl, rfl, sz1 (by decide +kernel) hd.sz, ⟨_, rfl, _, rfl, 4, v, d, rfl, by omega, by omega, hd3, fun H4 s4 => ⟨_, rfl, _, rfl, 4, v, d, rfl, by omega, by omega, hd3.same s4, fun H5 s5 => ⟨_, rfl, v, d, rfl, ((hd3.same s4).same s5).dq, hd.sh, hd.dp, by have := hd.sz; rw [sizeLine_eq]; omega, by show 3 ≤ sizeLine; decide, fun l hl => ⟨_, rfl, _, rfl, _, rfl, _, rfl, by show 3 ≤ sizeLine; decide, fun l2 hl2 => ⟨1, by decide, .inl ⟨_, _, _, _, rfl, rfl, SqL.of (Same.new hl2 _ _ upd_same), SqL.of upd_same, .cons (.inl ⟨congrArg V.str (show firstS 4 d = _ from (cat_l (by decide +kernel) _)), rfl⟩) (.cons (.inl ⟨congrArg V.str (show lastS 4 d = _ from (by show ("base4" : Str) = _; decide +kernel)), rfl⟩) (.cons (.inl ⟨rfl, rfl⟩) .nil))⟩, ?_⟩⟩⟩⟩⟩⟩⟩⟩
        exact q _ ((((sB.trans s4).trans s5).trans (Same.new hl)).trans (Same.new hl2))
      · refine ⟨_, rfl, 5, rfl, by decide, _, _, rfl, rfl, by rw [sizeLine_eq]; decide +kernel, _, rfl, 5, rfl, by decide, _, _, rfl, rfl, by rw [sizeLine_eq]; decide +kernel, _, _, rfl, _, rfl, _, _, rfl, rfl, _, rfl, iteT ⟨_, rfl, 5, rfl, by decide, _, rfl, _, _, rfl, rfl, _, rfl, iteT ⟨_, rfl, _, _, rfl, rfl, sz1 (by decide +kernel) hd.sz, ⟨_, rfl, _, rfl, 5, v, d, rfl, by omega, by omega, hd3, fun H4 s4 => ⟨_, rfl, _, rfl, 5, v, d, rfl, by omega, by omega, hd3.same s4, fun H5 s5 => ⟨_, rfl, v, d, rfl, ((hd3.same s4).same s5).dq, hd.sh, hd.dp, by have := hd.sz; rw [sizeLine_eq]; omega, by show 3 ≤ sizeLine; decide, fun l hl => ⟨_, rfl, _, rfl, _, rfl, _, rfl, by show 3 ≤ sizeLine; decide, fun l2 hl2 => ⟨1, by decide, .inl ⟨_, _, _, _, rfl, rfl, SqL.of (Same.new hl2 _ _ upd_same), SqL.of upd_same, .cons (.inl ⟨congrArg V.str (show firstS 5 d = _ from (cat_l (by decide +kernel) _)), rfl⟩) (.cons (.inl ⟨congrArg V.str (show lastS 5 d = _ from (by show ("base5" : Str) = _; decide +kernel)), rfl⟩) (.cons (.inl ⟨rfl, rfl⟩) .nil))⟩, ?_⟩⟩⟩⟩⟩⟩⟩⟩
        exact q _ ((((sB.trans s4).trans s5).trans (Same.new hl)).trans (Same.new hl2))
      · refine ⟨_, rfl, 6, rfl, by decide, _, _, rfl, rfl, by rw [sizeLine_eq]; decide +kernel, _, rfl, 6, rfl, by decide, _, _, rfl, rfl, by rw [sizeLine_eq]; decide +kernel, _, _, rfl, _, rfl, _, _, rfl, rfl, _, rfl, iteF ⟨_, rfl, 6, rfl, by decide, _, rfl, _, _, rfl, rfl, _, rfl, iteT ⟨_, rfl, _, _, rfl, rfl, sz1 (by decide +kernel) hd.sz, ⟨_, rfl, _, rfl, 6, v, d, rfl, by omega, by omega, hd3, fun H4 s4 => ⟨_, rfl, _, rfl, 6, v, d, rfl, by omega, by omega, hd3.same s4, fun H5 s5 => ⟨_, rfl, v, d, rfl, ((hd3.same s4).same s5).dq, hd.sh, hd.dp, by have := hd.sz; rw [sizeLine_eq]; omega, by show 3 ≤ sizeLine; decide, fun l hl => ⟨_, rfl, _, rfl, _, rfl, _, rfl, by show 3 ≤ sizeLine; decide, fun l2 hl2 => ⟨1, by decide, .inl ⟨_, _, _, _, rfl, rfl, SqL.of (Same.new hl2 _ _ upd_same), SqL.of upd_same, .cons (.inl ⟨congrArg V.str (show firstS 6 d = _ from (by show ("base6" : Str) = _; decide +kernel)), rfl⟩) (.cons (.inl ⟨congrArg V.str (show lastS 6 d = _ from (cat_l (by decide +kernel) _)), rfl⟩) (.cons (.inl ⟨rfl, rfl⟩) .nil))⟩, ?_⟩⟩⟩⟩⟩⟩⟩⟩
        exact q _ ((((sB.trans s4).trans s5).trans (Same.new hl)).trans (Same.new hl2))
      · refine ⟨_, rfl, 7, rfl, by decide, _, _, rfl, rfl, by rw [sizeLine_eq]; decide +kernel, _, rfl, 7, rfl, by decide, _, _, rfl, rfl, by rw [sizeLine_eq]; decide +kernel, _, _, rfl, _, rfl, _, _, rfl, rfl, _, rfl, iteF ⟨_, rfl, 7, rfl, by decide, _, rfl, _, _, rfl, rfl, _, rfl, iteT ⟨_, rfl, _, _, rfl, rfl, sz1 (by decide +kernel) hd.sz, ⟨_, rfl, _, rfl, 7, v, d, rfl, by omega, by omega, hd3, fun H4 s4 => ⟨_, rfl, _, rfl, 7, v, d, rfl, by omega, by omega, hd3.same s4, fun H5 s5 => ⟨_, rfl, v, d, rfl, ((hd3.same s4).same s5).dq, hd.sh, hd.dp, by have := hd.sz; rw [sizeLine_eq]; omega, by show 3 ≤ sizeLine; decide, fun l hl => ⟨_, rfl, _, rfl, _, rfl, _, rfl, by show 3 ≤ sizeLine; decide, fun l2 hl2 => ⟨1, by decide, .inl ⟨_, _, _, _, rfl, rfl, SqL.of (Same.new hl2 _ _ upd_same), SqL.of upd_same, .cons (.inl ⟨congrArg V.str (show firstS 7 d = _ from (by show ("base7" : Str) = _; decide +kernel)), rfl⟩) (.cons (.inl ⟨congrArg V.str (show lastS 7 d = _ from (cat_l (by decide +kernel) _)), rfl⟩) (.cons (.inl ⟨rfl, rfl⟩) .nil))⟩, ?_⟩⟩⟩⟩⟩⟩⟩⟩
        exact q _ ((((sB.trans s4).trans s5).trans (Same.new hl)).trans (Same.new hl2))
      · refine ⟨_, rfl, 8, rfl, by decide, _, _, rfl, rfl, by rw [sizeLine_eq]; decide +kernel, _, rfl, 8, rfl, by decide, _, _, rfl, rfl, by rw [sizeLine_eq]; decide +kernel, _, _, rfl, _, rfl, _, _, rfl, rfl, _, rfl, iteF ⟨_, rfl, 8, rfl, by decide, _, rfl, _, _, rfl, rfl, _, rfl, iteF ⟨_, _, rfl, rfl, by rw [sizeLine_eq]; decide +kernel, ⟨_, rfl, _, rfl, 8, v, d, rfl, by omega, by omega, hd3, fun H4 s4 => ⟨_, rfl, _, rfl, 8, v, d, rfl, by omega, by omega, hd3.same s4, fun H5 s5 => ⟨_, rfl, v, d, rfl, ((hd3.same s4).same s5).dq, hd.sh, hd.dp, by have := hd.sz; rw [sizeLine_eq]; omega, by show 3 ≤ sizeLine; decide, fun l hl => ⟨_, rfl, _, rfl, _, rfl, _, rfl, by show 3 ≤ sizeLine; decide, fun l2 hl2 => ⟨1, by decide, .inl ⟨_, _, _, _, rfl, rfl, SqL.of (Same.new hl2 _ _ upd_same), SqL.of upd_same, .cons (.inl ⟨congrArg V.str (show firstS 8 d = _ from (by show ("base8" : Str) = _; decide +kernel)), rfl⟩) (.cons (.inl ⟨congrArg V.str (show lastS 8 d = _ from (by show ("8" : Str) = _; decide +kernel)), rfl⟩) (.cons (.inl ⟨rfl, rfl⟩) .nil))⟩, ?_⟩⟩⟩⟩⟩⟩⟩⟩
        exact q _ ((((sB.trans s4).trans s5).trans (Same.new hl)).trans (Same.new hl2))
      · refine ⟨_, rfl, 9, rfl, by decide, _, _, rfl, rfl, by rw [sizeLine_eq]; decide +kernel, _, rfl, 9, rfl, by decide, _, _, rfl, rfl, by rw [sizeLine_eq]; decide +kernel, _, _, rfl, _, rfl, _, _, rfl, rfl, _, rfl, iteF ⟨_, rfl, 9, rfl, by decide, _, rfl, _, _, rfl, rfl, _, rfl, iteF ⟨_, _, rfl, rfl, by rw [sizeLine_eq]; decide +kernel, ⟨_, rfl, _, rfl, 9, v, d, rfl, by omega, by omega, hd3, fun H4 s4 => ⟨_, rfl, _, rfl, 9, v, d, rfl, by omega, by omega, hd3.same s4, fun H5 s5 => ⟨_, rfl, v, d, rfl, ((hd3.same s4).same s5).dq, hd.sh, hd.dp, by have := hd.sz; rw [sizeLine_eq]; omega, by show 3 ≤ sizeLine; decide, fun l hl => ⟨_, rfl, _, rfl, _, rfl, _, rfl, by show 3 ≤ sizeLine; decide, fun l2 hl2 => ⟨1, by decide, .inl ⟨_, _, _, _, rfl, rfl, SqL.of (Same.new hl2 _ _ upd_same), SqL.of upd_same, .cons (.inl ⟨congrArg V.str (show firstS 9 d = _ from (by show ("base9" : Str) = _; decide +kernel)), rfl⟩) (.cons (.inl ⟨congrArg V.str (show lastS 9 d = _ from (by show ("9" : Str) = _; decide +kernel)), rfl⟩) (.cons (.inl ⟨rfl, rfl⟩) .nil))⟩, ?_⟩⟩⟩⟩⟩⟩⟩⟩
        exact q _ ((((sB.trans s4).trans s5).trans (Same.new hl)).trans (Same.new hl2))
end
end My
-- ===== K01W =====
namespace My
open PySem L2 PySem.MyX PyProof.Rows PySem.Spec
abbrev sLaw : Stmt := top 25
def spLaw (K : PySem.W.Frag) : Sp := fun vs H Q _ => ∃ (a : Addr) (ns : List Int), vs = [.ref a] ∧ SqL K H a (ns.map V.int) ∧ ns.length ≤ 63 ∧ Bits ns ∧ ∀ H', Q (.bl true) H'
theorem FeedAt.same {H H' : Hp} {p c : Addr} {ks : List Int} {w n : Int} (s : Same H H') (F : FeedAt H p c ks w n) : FeedAt H' p c ks w n := ⟨s _ _ F.ob, s _ _ F.cs, F.bits, F.len, F.w0, F.w1, F.n0⟩
theorem shn_of {H H' : Hp} {v : V} {d : PyData} (h : Dq (fun a => H a = none) H' v d) (g : Good 3 d) : Shn H' v d := ⟨h.to (fun _ _ _ q => q) (fun _ _ => True.intro), g.sh, by have := g.dp; omega, by
  have h1 := g.sz
  have h2 : LB 3 = 1475 := rfl
  omega⟩
section
variable {P : Program} {w : World} {K : PySem.W.Frag} {mg : Str → Option Value} {base : Heap}
abbrev nL : List Str := ["_law_script", "_law_feed_here", "_law_turn", "_law_spot"]
theorem scLw : FnScope nL ["_law_script"] (defScope sLaw) := ⟨rfl, rfl, rfl, by decide +kernel, rfl, by decide +kernel, by decide +kernel⟩
theorem ok_law {f fF fT fR : Addr} {fd fdF fdT fdR : FuncData} (F : Fun K "law" "law" sLaw f fd) (mr : mg "range" = none)
    (GF : FnOk P w K mg base CX0 1 fF fdF ["_law_script"] (spFeed K)) (mF : mg "_law_feed" = some (.ref fF)) (kF : PySem.W.keepIn K (.ref fF) = true) (bF : Binds K fdF ["_law_script"] [])
    (GT : FnOk P w K mg base CX0 5 fT fdT ["_law_feed_here", "_law_deep"] (spThing 3)) (mT : mg "_law_thing" = some (.ref fT)) (kT : PySem.W.keepIn K (.ref fT) = true) (bT : Binds K fdT ["_law_feed_here", "_law_deep"] [])
    (FR : FnG true (fun A => A.guards = some []) P w K mg base CX0 5 fR fdR ["_law_spot", "_law_thing_here"] spRight) (mR : mg "_law_right" = some (.ref fR)) (kR : PySem.W.keepIn K (.ref fR) = true) (bR : Binds K fdR ["_law_spot", "_law_thing_here"] []) :
    FnG true (fun A => A.guards = some []) P w K mg base CX0 6 f fd ["_law_script"] (spLaw K) := by
  refine okG F scLw (fun vs H Q E h => ?_) (fun cdv A outer s H vs Q E hh hgA hr h => ?_)
  · obtain ⟨a, ns, rfl, _⟩ := h
    rfl
  · obtain ⟨a, ns, rfl, hS, hlen, hbits, q⟩ := h
    have hR : Room 5 (A.deeper (envOfC "law" (defScope sLaw) s.heap.objs.size f cdv)) := ⟨hh rfl, hr.dp, hr.un⟩
    have hR1 := hR.mono (show 1 ≤ 5 by omega)
    have hA : (A.deeper (envOfC "law" (defScope sLaw) s.heap.objs.size f cdv)).handled = none := hh rfl
    have hG : (A.deeper (envOfC "law" (defScope sLaw) s.heap.objs.size f cdv)).guards = some [] := hgA
    refine ⟨_, PSs.nox (pss_cons (ps_set (i := 1) scLw.nd rfl (Or.inl rfl) (pe_call GF hR1 (by rfl) mF kF bF .nil pass0 (pa_cons (pv 0) pa_nil)))
      (pss_cons (ps_for PassesOwn.never rfl (pi_range1 (by rfl) mr (pa_cons pe_int pa_nil)) (pg_name (i := 2) scLw.nd rfl (Or.inl rfl))
        (pss_one (ps_for PassesOwn.never rfl (pi_range1 (by rfl) mr (pa_cons pe_int pa_nil)) (pg_name (i := 3) scLw.nd rfl (Or.inl rfl))
          (pss_one (ps_if (pt_not (pt_val (pe_callG FR (fun _ => hA) hG hr (by rfl) mR kR bR pass0 (pa_cons (pv 3) (pa_cons (pe_call GT hR (by rfl) mT kT bT .nil pass0 (pa_cons (pv 1) (pa_cons pe_int pa_nil))) pa_nil))))) (pss_one (ps_ret pe_bl)) pss_nil)))))
      (pss_one (ps_ret pe_bl)))), ?_⟩
    have db : (DB 3 : Int) = 53 := rfl
    refine ⟨_, rfl, a, ns, rfl, hS, hlen, hbits, fun p c ks y H1 _ _ _ FA => ?_⟩
    refine ⟨3, rfl, by decide, by decide, for_range (lo := 0) (n := 3) (fun m σ H2 => ∃ o1 o2 ks' n', σ = [some (.ref a), some (.ref p), o1, o2] ∧ FeedAt H2 p c ks' y n' ∧ n' ≤ 530 * (m : Int)) ⟨none, none, ks, 0, rfl, FA, by omega⟩ ?_ ?_⟩
    · rintro m σ H2 hm ⟨o1, o2, ks1, n1, rfl, FA1, le1⟩
      refine ⟨10, rfl, by decide, by decide, for_range (lo := 0) (n := 10) (fun k σ H3 => ∃ o1 o2 ks' n', σ = [some (.ref a), some (.ref p), o1, o2] ∧ FeedAt H3 p c ks' y n' ∧ n' ≤ 530 * (m : Int) + 53 * (k : Int)) ⟨_, o2, ks1, n1, rfl, FA1, by omega⟩ ?_ ?_⟩
      · rintro k σ H3 hk ⟨o1, o2, ks2, n2, rfl, FA2, le2⟩
        refine ⟨_, rfl, _, rfl, p, c, ks2, y, n2, rfl, FA2, by omega, fun v d ks3 n3 H4 hd hg FA3 le3 _ => ?_⟩
        refine ⟨0 + (k : Int), v, d, rfl, by omega, by omega, shn_of hd hg, fun H5 s5 => ⟨true, rfl, iteF ⟨_, _, ks3, n3, rfl, FA3.same s5, by omega⟩⟩⟩
      · rintro σ H3 ⟨o1, o2, ks2, n2, rfl, FA2, le2⟩
        exact ⟨o1, o2, ks2, n2, rfl, FA2, by omega⟩
    · rintro σ H2 ⟨o1, o2, ks1, n1, rfl, FA1, le1⟩
      exact q _
end
end My
-- ===== K01V =====
namespace My
open PySem L2 PySem.MyX PyProof.Rows PySem.Spec
theorem law_callG {P : Program} {w : World} {K : PySem.W.Frag} {mg mb : Str → Option Value} {CX : CXT} {k : Nat} {fa a : Addr} {fd : FuncData} {x : Str} {sp : Sp} {s₁ : Shared} {vs : List Value} {ns : List Int}
    (KX : K.In s₁.heap) (hns : s₁.heap.Ns mainGlobals mg) (hb : s₁.heap.Ns builtinsNs mb) (hbb : ∀ x : Str, x ≠ "__name__" → mb x = bootBuiltins x) (hlim : s₁.heap.NoLimit) (hg : s₁.gens = #[])
    (ha : s₁.heap.get? a = some { cls := .type "list", data := .seq vs.toArray }) (hi : IntsAre vs ns) (hl : ns.length ≤ sizeLine) (hr : Room k callerA)
    (F : ∀ base : Heap, K.In base → base.Ns mainGlobals mg → FnG true (fun A => A.guards = some []) P w K mg base CX k fa fd [x] sp) (hbind : ∀ (s : Shared) (u : Value), BindsTo s fd ⟨[u], []⟩ [(x, u)])
    (hsp : ∀ H : Hp, Only H → SqL K H a (ns.map V.int) → sp [.ref a] H (fun v _ => v = .bl true) fun _ _ _ => False)
    (hCX : ∀ H e s', CX [] H s₁ (fun _ _ _ => False) e s' → False) :
    codeAny (model P w) callerA (.call (.ref fa) ⟨[.ref a], []⟩) (fun r s' => r = .ok (.ret (.bool true)) ∧ OldK s₁.heap s'.heap ∧ s'.os = s₁.os ∧ AllBare s'.gens) s₁ := by
  have rv := vals_ints hi
  have lenV := hi.length
  -- from an abstract heap in which nothing but the script may be tracked
  have core : ∀ H : Hp, Only H → SqL K H a (ns.map V.int) → HOk P w H s₁.heap → (∀ b, H b ≠ none → b = a) → (H a ≠ none → K.lookup a = none) →
      codeAny (model P w) callerA (.call (.ref fa) ⟨[.ref a], []⟩) (fun r s' => r = .ok (.ret (.bool true)) ∧ OldK s₁.heap s'.heap ∧ s'.os = s₁.os ∧ AllBare s'.gens) s₁ := by
    intro H hO hS hok hA hK
    have base_of : ∀ {b : Addr} {o : Obj}, s₁.heap.get? b = some o → H b = none → (hidT s₁.heap H).get? b = some o := fun e n => hidT_get e n
    have noA : ∀ {b : Addr} {o : Obj} {es : Array DictEntry} {ep : Nat}, s₁.heap.get? b = some o → o.data = .dict es ep → H b = none := fun {b o es ep} e d => by
      cases q : H b with
      | none => rfl
      | some u =>
        have e' : b = a := hA b (by rw [q]; simp)
        subst e'
        rw [ha] at e; cases e
        have d' : Data.seq vs.toArray _ = Data.dict es ep := d
        cases d'
    have nsK : ∀ {b : Addr} {m : Str → Option Value}, s₁.heap.Ns b m → (hidT s₁.heap H).Ns b m := fun {b m} ⟨o, es, ep, e, d, r⟩ => ⟨o, es, ep, base_of e (noA e d), d, r⟩
    have hKb : K.In (hidT s₁.heap H) := fun b o e => base_of (KX b o e) (by
      cases q : H b with
      | none => rfl
      | some u =>
        have e' : b = a := hA b (by rw [q]; simp)
        subst e'
        rw [hK (by rw [q]; simp)] at e; cases e)
    have hM : Mod K mg (hidT s₁.heap H) := ⟨hKb, nsK hns, ⟨mb, nsK hb, hbb⟩, let ⟨mc, h1, h2⟩ := hlim; ⟨mc, nsK h1, h2⟩⟩
    have e0 : Env0 P w K mg (hidT s₁.heap H) callerA [] s₁ H := ⟨rfl, hM, fun b o e => of_hidT e, Nat.le_of_eq (hidT_size _ _), trivial, fun b hb => absurd (show b ∈ ([] : List Addr) from hb) (by simp), hok, .of_eq hg⟩
    refine codeAny_mono ((F _ hKb (nsK hns)).run callerA [] s₁ H ⟨[.ref a], []⟩ [.ref a] [.ref a] _ _ (fun _ => rfl) rfl (L2H.roomH_of hr) e0 (hbind s₁ (.ref a)) (.cons rfl .nil) (hsp H hO hS)) fun r s' h => ?_
    cases r with
    | error e => exact (hCX H e s' h).elim
    | ok fl =>
      cases fl with
      | next => exact False.elim h
      | brk => exact False.elim h
      | cont => exact False.elim h
      | ret u =>
        obtain ⟨v, H', os, bare, un, hok', r', q⟩ := h
        have q' : v = .bl true := q
        subst q'
        obtain rfl : u = Value.bool true := r'
        refine ⟨rfl, OldK.of_keep fun b o e => ?_, os, bare⟩
        cases q : H b with
        | none => exact un.keep b o e q (by intro z; exact absurd (show b ∈ ([] : List Addr) from z) (by simp)) (by simp)
        | some u =>
          rcases hO b with z | ⟨ob, xs, z⟩
          · rw [q] at z; cases z
          · have z2 := un.frzs b ob _ z
            obtain ⟨e1, _⟩ := hok b _ z
            obtain ⟨e2, _⟩ := hok' b _ z2
            rw [e] at e1; cases e1
            exact e2
  cases hk : K.lookup a with
  | some o =>
    -- the script is one of the module's own objects
    have e := KX a o hk
    rw [ha] at e
    cases e
    refine core (fun _ => none) (fun _ => .inl rfl) (.inr ⟨_, vs.toArray, _, hk, rfl, rfl, rfl, by rw [List.size_toArray, lenV]; exact hl, by simpa using rv⟩) (fun b u z => by have z' : (none : Option HO) = some u := z; cases z') (fun b z => absurd rfl z) fun z => absurd rfl z
  | none =>
    refine core (fun b => if b = a then some (.frz { cls := .type "list", data := .seq vs.toArray } (.lst (ns.map V.int))) else none) (fun b => ?_) (.inl (.inr ⟨{ cls := .type "list", data := .seq vs.toArray }, if_pos rfl⟩)) (fun b u z => ?_) (fun b z => ?_) fun _ => hk
    · by_cases hb : b = a
      · exact .inr ⟨_, _, if_pos hb⟩
      · exact .inl (if_neg hb)
    · by_cases hb : b = a
      · have z' := (if_pos hb).symm.trans z
        cases z'
        subst hb
        exact ⟨ha, by rw [List.length_map]; exact hl, vs, _, rv, ha⟩
      · have z' := (if_neg hb).symm.trans z
        cases z'
    · by_cases hb : b = a
      · exact hb
      · exact absurd (if_neg hb) z

theorem walk_ofG {l : PySem.W.OpenLaw} {n k : Nat} {q : Program} {loose : List Str} {XP : (Str → Option Value) → Heap → Prop} {YP : World → Heap → Prop} {d : DefRec} {K : Params → PySem.W.Frag} {sp : PySem.W.Frag → Sp} {x : Str}
    (hn : l.most = some n) (hn2 : n ≤ sizeLine) (hdf : d.params.defaults = []) (hr : Room k callerA) (hY : ∀ (w : World) (h : Heap), YP w h → (K w.params).In h)
    (F : ∀ (w : World) (mg : Str → Option Value) (fa : Addr) (h : Heap), (K w.params).In h → h.Ns mainGlobals mg → mg d.name = some (.ref fa) →
      ∃ fd : FuncData, (∀ (s : Shared) (u : Value), BindsTo s fd ⟨[u], []⟩ [(x, u)]) ∧ ∀ base : Heap, (K w.params).In base → base.Ns mainGlobals mg → FnG true (fun A => A.guards = some []) l.prog w (K w.params) mg base CX0 k fa fd [x] (sp (K w.params)))
    (hsp : ∀ (K : PySem.W.Frag) (H : Hp) (a : Addr) (ns : List Int), ns.length ≤ n → (∀ z ∈ ns, Builtin.Int.intBits z ≤ 1048576) → Only H → SqL K H a (ns.map V.int) → sp K [.ref a] H (fun v _ => v = .bl true) fun _ _ _ => False) :
    PySem.W.WalkO q loose XP YP l.row.toRowW d [] (fun f vs => PySem.call f vs) := by
  refine Att.attach_callB hn hdf fun w s₀ s₁ mg mb fa o pm cd doc a vs ns G Y ho hd hcd hmg hobj hints hlen hbits hg => ?_
  have KX := hY w _ Y
  obtain ⟨fd, hb, hF⟩ := F w mg fa _ KX G.T.g hmg
  exact law_callG KX G.T.g G.T.b G.T.builtins G.T.nolimit hg hobj hints (Nat.le_trans hlen hn2) hr hF hb (fun H hO hS => hsp _ H a ns hlen hbits hO hS) fun _ _ _ z => z
end My
-- ===== K01U =====
namespace My
open PySem L2 PySem.MyX PyProof.Rows PySem.Spec
section
variable {K : PySem.W.Frag} {S C : Addr}
def RawC (K : PySem.W.Frag) (S C : Addr) : Prop := ∃ nm q N bs sn sub ab col dd k0 k1 k2 k3 k5, K.lookup C = some (excClassObj nm q C N bs (bmS S) true sn sub ab col dd k0 k1 k2 k3 k5 "Exception.__new__")
theorem raw_cls (r : RawC K S C) : (∃ cd, PySem.W.clsIn K C = some cd ∧ cd.mro = .ref C :: bmS S ∧ cd.hasDict = true) ∧ PySem.W.typeIn K (.ref C) = some (.type "type") := by
  obtain ⟨nm, q, N, bs, sn, sub, ab, col, dd, k0, k1, k2, k3, k5, h⟩ := r
  refine ⟨⟨_, by unfold PySem.W.clsIn; rw [h] <;> rfl, rfl, rfl⟩, ?_⟩
  show (K.lookup C).map (·.cls) = _
  rw [h]
  rfl
theorem raw_sub (r : RawC K S C) (b : Value) : PySem.W.subIn K (.ref C) b = some ((Value.ref C :: bmS S).contains b) := by
  obtain ⟨⟨cd, h, hm, _⟩, _⟩ := raw_cls r
  show PySem.W.mroIn K C b = _
  unfold PySem.W.mroIn
  rw [h, Option.bind_some, hm]
  rfl
theorem con_ty (C S : Addr) (n : String) : (Value.ref C :: bmS S).contains (.type n) = bmE.contains (.type n) := by
  show ((Value.type n == Value.ref C) || (bmS S).contains (.type n)) = _
  rw [bm_has, show (Value.type n == Value.ref C) = false from rfl, Bool.false_or]
theorem con_ref {C S D : Addr} (h : D ≠ S) : (Value.ref C :: bmS S).contains (.ref D) = decide (C = D) := by
  show ((Value.ref D == Value.ref C) || ((Value.ref D == Value.ref S) || bmE.contains (.ref D))) = _
  have e1 : (Value.ref D == Value.ref S) = false := by
    refine Bool.eq_false_iff.mpr fun q => h (Value.ref.inj (beq_iff_eq.mp q))
  have e2 : bmE.contains (Value.ref D) = false := by rfl
  rw [e1, e2, Bool.or_false, Bool.or_false]
  by_cases e : C = D
  · subst e
    simp
  · have : (Value.ref D == Value.ref C) = false := Bool.eq_false_iff.mpr fun q => e (Value.ref.inj (beq_iff_eq.mp q)).symm
    rw [this]
    simp [e]
theorem con_S (C S : Addr) : (Value.ref C :: bmS S).contains (.ref S) = true := by
  show ((Value.ref S == Value.ref C) || ((Value.ref S == Value.ref S) || bmE.contains (.ref S))) = true
  have e : (Value.ref S == Value.ref S) = true := beq_self_eq_true _
  rw [e, Bool.true_or, Bool.or_true]
theorem raw_kit {D : Addr} (r : RawC K S C) (r2 : RawC K S D) (h : D ≠ S) : PySem.W.kitOne K (.ref C) (.ref D) = some (decide (C = D)) := by
  obtain ⟨⟨cd, e1, _, _⟩, e2⟩ := raw_cls r2
  have c : ((PySem.W.clsIn K D).isSome && PySem.W.typeIn K (.ref D) == some (.type "type")) = true := by rw [e1, e2] <;> rfl
  unfold PySem.W.kitOne
  by_cases e : C = D
  · subst e
    rw [if_pos (beq_self_eq_true _)]
    simp
  · have : ¬ ((Value.ref C == Value.ref D) = true) := fun q => e (Value.ref.inj (beq_iff_eq.mp q))
    rw [if_neg this]
    show (if ((PySem.W.clsIn K D).isSome && PySem.W.typeIn K (.ref D) == some (.type "type")) = true then PySem.W.subIn K (.ref C) (.ref D) else none) = _
    rw [if_pos c, raw_sub r, con_ref h]
theorem raw_exm {D : Addr} (r : RawC K S C) (r2 : RawC K S D) (h : D ≠ S) : PySem.W.exmOne K (.ref C) (.ref D) = some (decide (C = D)) := by
  obtain ⟨⟨cd, e1, _, e3⟩, e2⟩ := raw_cls r2
  exact PySem.W.exm_ref (by rw [raw_sub r2, con_ty]; decide +kernel) (by show (PySem.W.clsIn K D).any (·.hasDict) = true; rw [e1]; exact e3) e2 (by rw [raw_sub r, con_ref h])
structure RawS (K : PySem.W.Frag) (S : Addr) : Prop where
  sub : PySem.W.subIn K (.ref S) (.type "BaseException") = some true
  hd : PySem.W.hasDictIn K S = true
  ty : PySem.W.typeIn K (.ref S) = some (.type "type")
theorem raw_exmS (r : RawC K S C) (q : RawS K S) : PySem.W.exmOne K (.ref C) (.ref S) = some true := PySem.W.exm_ref q.sub q.hd q.ty (by rw [raw_sub r, con_S])
theorem raw_kitS (r : RawC K S C) (q : RawS K S) : PySem.W.kitOne K (.ref C) (.ref S) = some true := by
  obtain ⟨cd, hc, _⟩ := PySem.W.any_some q.hd
  have c : ((PySem.W.clsIn K S).isSome && PySem.W.typeIn K (.ref S) == some (.type "type")) = true := by rw [hc, q.ty] <;> rfl
  unfold PySem.W.kitOne
  by_cases e : (Value.ref C == Value.ref S) = true
  · rw [if_pos e]
  · rw [if_neg e]
    show (if ((PySem.W.clsIn K S).isSome && PySem.W.typeIn K (.ref S) == some (.type "type")) = true then PySem.W.subIn K (.ref C) (.ref S) else none) = _
    rw [if_pos c, raw_sub r, con_S]
theorem raw_kitT (r : RawC K S C) (n : String) (m : PySem.W.kitMeta n = true) : PySem.W.kitOne K (.ref C) (.type n) = some (bmE.contains (.type n)) := by
  unfold PySem.W.kitOne
  rw [if_neg (show ¬ ((Value.ref C == Value.type n) = true) from fun q => nomatch (beq_iff_eq.mp q))]
  show (if PySem.W.kitMeta n = true then PySem.W.subIn K (.ref C) (.type n) else none) = _
  rw [if_pos m, raw_sub r, con_ty]
theorem raw_kitB (r : RawC K S C) : PySem.W.kitAny K (.ref C) [.type "ValueError", .type "LookupError", .type "ArithmeticError", .type "TypeError", .type "AttributeError", .type "RuntimeError"] = some false := by
  have f : ∀ {n : String} {l : List Value}, PySem.W.kitMeta n = true → bmE.contains (.type n) = false → PySem.W.kitAny K (.ref C) l = some false → PySem.W.kitAny K (.ref C) (.type n :: l) = some false := fun {n l} h1 h2 h3 => by
    show (match PySem.W.kitOne K (.ref C) (.type n) with
      | some true => some true
      | some false => PySem.W.kitAny K (.ref C) l
      | none => none) = _
    rw [raw_kitT r n h1, h2]
    exact h3
  exact f (by decide +kernel) (by decide +kernel) (f (by decide +kernel) (by decide +kernel) (f (by decide +kernel) (by decide +kernel) (f (by decide +kernel) (by decide +kernel) (f (by decide +kernel) (by decide +kernel) (f (by decide +kernel) (by decide +kernel) rfl)))))
end
section
variable {K : PySem.W.Frag} {f : Addr} {oc doc pm cd ct : Value} {od an : Option Addr} {osl : Array (Option Value)}
abbrev iniAt (j : Nat) : Stmt := inClass (top j) 0
theorem ini1 (l : K.lookup f = some ⟨oc, od, .func (PySem.W.fnOf "__init__" "NoObject.__init__" (defArgs (iniAt 3)) (defBody (iniAt 3)) (defScope (iniAt 3)) .none .none doc pm an cd ct), osl⟩) (c : PySem.W.codeIn K cd "NoObject.__init__" = true) : InitFn K f "place" :=
  ⟨⟨_, _, _, _, _, _, _, _, _, _, _, _, _, _, _, _, rfl, l, c, fun _ _ _ => .of_eq rfl, fun _ _ _ => .of_eq rfl, ⟨rfl, rfl⟩, fun _ _ _ => ⟨rfl, rfl⟩, fun _ _ _ _ _ => ⟨rfl, rfl⟩, ⟨rfl, rfl, rfl⟩, by decide, by decide⟩⟩
theorem ini2 (l : K.lookup f = some ⟨oc, od, .func (PySem.W.fnOf "__init__" "NoOperation.__init__" (defArgs (iniAt 4)) (defBody (iniAt 4)) (defScope (iniAt 4)) .none .none doc pm an cd ct), osl⟩) (c : PySem.W.codeIn K cd "NoOperation.__init__" = true) : InitFn K f "operation" :=
  ⟨⟨_, _, _, _, _, _, _, _, _, _, _, _, _, _, _, _, rfl, l, c, fun _ _ _ => .of_eq rfl, fun _ _ _ => .of_eq rfl, ⟨rfl, rfl⟩, fun _ _ _ => ⟨rfl, rfl⟩, fun _ _ _ _ _ => ⟨rfl, rfl⟩, ⟨rfl, rfl, rfl⟩, by decide, by decide⟩⟩
theorem ini3 (l : K.lookup f = some ⟨oc, od, .func (PySem.W.fnOf "__init__" "NotOpen.__init__" (defArgs (iniAt 5)) (defBody (iniAt 5)) (defScope (iniAt 5)) .none .none doc pm an cd ct), osl⟩) (c : PySem.W.codeIn K cd "NotOpen.__init__" = true) : InitFn K f "number" :=
  ⟨⟨_, _, _, _, _, _, _, _, _, _, _, _, _, _, _, _, rfl, l, c, fun _ _ _ => .of_eq rfl, fun _ _ _ => .of_eq rfl, ⟨rfl, rfl⟩, fun _ _ _ => ⟨rfl, rfl⟩, fun _ _ _ _ _ => ⟨rfl, rfl⟩, ⟨rfl, rfl, rfl⟩, by decide, by decide⟩⟩
theorem ini4 (l : K.lookup f = some ⟨oc, od, .func (PySem.W.fnOf "__init__" "IsWaiting.__init__" (defArgs (iniAt 6)) (defBody (iniAt 6)) (defScope (iniAt 6)) .none .none doc pm an cd ct), osl⟩) (c : PySem.W.codeIn K cd "IsWaiting.__init__" = true) : InitFn K f "number" :=
  ⟨⟨_, _, _, _, _, _, _, _, _, _, _, _, _, _, _, _, rfl, l, c, fun _ _ _ => .of_eq rfl, fun _ _ _ => .of_eq rfl, ⟨rfl, rfl⟩, fun _ _ _ => ⟨rfl, rfl⟩, fun _ _ _ _ _ => ⟨rfl, rfl⟩, ⟨rfl, rfl, rfl⟩, by decide, by decide⟩⟩
theorem ini5 (l : K.lookup f = some ⟨oc, od, .func (PySem.W.fnOf "__init__" "Never.__init__" (defArgs (iniAt 7)) (defBody (iniAt 7)) (defScope (iniAt 7)) .none .none doc pm an cd ct), osl⟩) (c : PySem.W.codeIn K cd "Never.__init__" = true) : InitFn K f "number" :=
  ⟨⟨_, _, _, _, _, _, _, _, _, _, _, _, _, _, _, _, rfl, l, c, fun _ _ _ => .of_eq rfl, fun _ _ _ => .of_eq rfl, ⟨rfl, rfl⟩, fun _ _ _ => ⟨rfl, rfl⟩, fun _ _ _ _ _ => ⟨rfl, rfl⟩, ⟨rfl, rfl, rfl⟩, by decide, by decide⟩⟩
theorem ini6 (l : K.lookup f = some ⟨oc, od, .func (PySem.W.fnOf "__init__" "Full.__init__" (defArgs (iniAt 8)) (defBody (iniAt 8)) (defScope (iniAt 8)) .none .none doc pm an cd ct), osl⟩) (c : PySem.W.codeIn K cd "Full.__init__" = true) : InitFn K f "holders" :=
  ⟨⟨_, _, _, _, _, _, _, _, _, _, _, _, _, _, _, _, rfl, l, c, fun _ _ _ => .of_eq rfl, fun _ _ _ => .of_eq rfl, ⟨rfl, rfl⟩, fun _ _ _ => ⟨rfl, rfl⟩, fun _ _ _ _ _ => ⟨rfl, rfl⟩, ⟨rfl, rfl, rfl⟩, by decide, by decide⟩⟩
theorem ini7 (l : K.lookup f = some ⟨oc, od, .func (PySem.W.fnOf "__init__" "TooMany.__init__" (defArgs (iniAt 9)) (defBody (iniAt 9)) (defScope (iniAt 9)) .none .none doc pm an cd ct), osl⟩) (c : PySem.W.codeIn K cd "TooMany.__init__" = true) : InitFn K f "most" :=
  ⟨⟨_, _, _, _, _, _, _, _, _, _, _, _, _, _, _, _, rfl, l, c, fun _ _ _ => .of_eq rfl, fun _ _ _ => .of_eq rfl, ⟨rfl, rfl⟩, fun _ _ _ => ⟨rfl, rfl⟩, fun _ _ _ _ _ => ⟨rfl, rfl⟩, ⟨rfl, rfl, rfl⟩, by decide, by decide⟩⟩
end
def csOf (c0 c1 c2 c3 c4 c5 c6 c7 c8 c9 : Addr) (i : Int) : Addr := if i = 0 then c0 else if i = 1 then c1 else if i = 2 then c2 else if i = 3 then c3 else if i = 4 then c4 else if i = 5 then c5 else if i = 6 then c6 else if i = 7 then c7 else if i = 8 then c8 else c9
theorem all10 {p : Int → Prop} (h0 : p 0) (h1 : p 1) (h2 : p 2) (h3 : p 3) (h4 : p 4) (h5 : p 5) (h6 : p 6) (h7 : p 7) (h8 : p 8) (h9 : p 9) : ∀ i : Int, 0 ≤ i → i < 10 → p i := fun i i0 i1 => by
  rcases ten i i0 i1 with rfl | rfl | rfl | rfl | rfl | rfl | rfl | rfl | rfl | rfl <;> assumption
theorem csOf_inj {S c0 c1 c2 c3 c4 c5 c6 c7 c8 c9 : Addr} (d : ([S, c0, c1, c2, c3, c4, c5, c6, c7, c8, c9] : List Nat).Nodup) : (∀ i : Int, 0 ≤ i → i < 10 → csOf c0 c1 c2 c3 c4 c5 c6 c7 c8 c9 i ≠ S) ∧ ∀ i : Int, 0 ≤ i → i < 10 → ∀ j : Int, 0 ≤ j → j < 10 → decide (csOf c0 c1 c2 c3 c4 c5 c6 c7 c8 c9 i = csOf c0 c1 c2 c3 c4 c5 c6 c7 c8 c9 j) = decide (i = j) := by
  simp only [List.nodup_cons, List.mem_cons, List.not_mem_nil, or_false, not_or, List.nodup_nil, and_true, not_false_eq_true] at d
  constructor
  · obtain ⟨⟨d0, d1, d2, d3, d4, d5, d6, d7, d8, d9⟩, _⟩ := d
    intro i i0 i1
    rcases ten i i0 i1 with rfl | rfl | rfl | rfl | rfl | rfl | rfl | rfl | rfl | rfl
    · exact fun h => d0 (Eq.symm h)
    · exact fun h => d1 (Eq.symm h)
    · exact fun h => d2 (Eq.symm h)
    · exact fun h => d3 (Eq.symm h)
    · exact fun h => d4 (Eq.symm h)
    · exact fun h => d5 (Eq.symm h)
    · exact fun h => d6 (Eq.symm h)
    · exact fun h => d7 (Eq.symm h)
    · exact fun h => d8 (Eq.symm h)
    · exact fun h => d9 (Eq.symm h)
  · obtain ⟨_, ⟨e01, e02, e03, e04, e05, e06, e07, e08, e09⟩, ⟨e12, e13, e14, e15, e16, e17, e18, e19⟩, ⟨e23, e24, e25, e26, e27, e28, e29⟩, ⟨e34, e35, e36, e37, e38, e39⟩, ⟨e45, e46, e47, e48, e49⟩, ⟨e56, e57, e58, e59⟩, ⟨e67, e68, e69⟩, ⟨e78, e79⟩, e89⟩ := d
    intro i i0 i1 j j0 j1
    rcases ten i i0 i1 with rfl | rfl | rfl | rfl | rfl | rfl | rfl | rfl | rfl | rfl
    · rcases ten j j0 j1 with rfl | rfl | rfl | rfl | rfl | rfl | rfl | rfl | rfl | rfl
      · exact (decide_eq_true (show c0 = c0 from rfl)).trans (by decide)
      · exact (decide_eq_false (e01)).trans (by decide)
      · exact (decide_eq_false (e02)).trans (by decide)
      · exact (decide_eq_false (e03)).trans (by decide)
      · exact (decide_eq_false (e04)).trans (by decide)
      · exact (decide_eq_false (e05)).trans (by decide)
      · exact (decide_eq_false (e06)).trans (by decide)
      · exact (decide_eq_false (e07)).trans (by decide)
      · exact (decide_eq_false (e08)).trans (by decide)
      · exact (decide_eq_false (e09)).trans (by decide)
    · rcases ten j j0 j1 with rfl | rfl | rfl | rfl | rfl | rfl | rfl | rfl | rfl | rfl
      · exact (decide_eq_false (fun h => e01 (Eq.symm h))).trans (by decide)
      · exact (decide_eq_true (show c1 = c1 from rfl)).trans (by decide)
      · exact (decide_eq_false (e12)).trans (by decide)
      · exact (decide_eq_false (e13)).trans (by decide)
      · exact (decide_eq_false (e14)).trans (by decide)
      · exact (decide_eq_false (e15)).trans (by decide)
      · exact (decide_eq_false (e16)).trans (by decide)
      · exact (decide_eq_false (e17)).trans (by decide)
      · exact (decide_eq_false (e18)).trans (by decide)
      · exact (decide_eq_false (e19)).trans (by decide)
    · rcases ten j j0 j1 with rfl | rfl | rfl | rfl | rfl | rfl | rfl | rfl | rfl | rfl
      · exact (decide_eq_false (fun h => e02 (Eq.symm h))).trans (by decide)
      · exact (decide_eq_false (fun h => e12 (Eq.symm h))).trans (by decide)
      · exact (decide_eq_true (show c2 = c2 from rfl)).trans (by decide)
      · exact (decide_eq_false (e23)).trans (by decide)
      · exact (decide_eq_false (e24)).trans (by decide)
      · exact (decide_eq_false (e25)).trans (by decide)
      · exact (decide_eq_false (e26)).trans (by decide)
      · exact (decide_eq_false (e27)).trans (by decide)
      · exact (decide_eq_false (e28)).trans (by decide)
      · exact (decide_eq_false (e29)).trans (by decide)
    · rcases ten j j0 j1 with rfl | rfl | rfl | rfl | rfl | rfl | rfl | rfl | rfl | rfl
      · exact (decide_eq_false (fun h => e03 (Eq.symm h))).trans (by decide)
      · exact (decide_eq_false (fun h => e13 (Eq.symm h))).trans (by decide)
      · exact (decide_eq_false (fun h => e23 (Eq.symm h))).trans (by decide)
      · exact (decide_eq_true (show c3 = c3 from rfl)).trans (by decide)
      · exact (decide_eq_false (e34)).trans (by decide)
      · exact (decide_eq_false (e35)).trans (by decide)
      · exact (decide_eq_false (e36)).trans (by decide)
      · exact (decide_eq_false (e37)).trans (by decide)
      · exact (decide_eq_false (e38)).trans (by decide)
      · exact (decide_eq_false (e39)).trans (by decide)
    · rcases ten j j0 j1 with rfl | rfl | rfl | rfl | rfl | rfl | rfl | rfl | rfl | rfl
      · exact (decide_eq_false (fun h => e04 (Eq.symm h))).trans (by decide)
      · exact (decide_eq_false (fun h => e14 (Eq.symm h))).trans (by decide)
      · exact (decide_eq_false (fun h => e24 (Eq.symm h))).trans (by decide)
      · exact (decide_eq_false (fun h => e34 (Eq.symm h))).trans (by decide)
      · exact (decide_eq_true (show c4 = c4 from rfl)).trans (by decide)
      · exact (decide_eq_false (e45)).trans (by decide)
      · exact (decide_eq_false (e46)).trans (by decide)
      · exact (decide_eq_false (e47)).trans (by decide)
      · exact (decide_eq_false (e48)).trans (by decide)
      · exact (decide_eq_false (e49)).trans (by decide)
    · rcases ten j j0 j1 with rfl | rfl | rfl | rfl | rfl | rfl | rfl | rfl | rfl | rfl
      · exact (decide_eq_false (fun h => e05 (Eq.symm h))).trans (by decide)
      · exact (decide_eq_false (fun h => e15 (Eq.symm h))).trans (by decide)
      · exact (decide_eq_false (fun h => e25 (Eq.symm h))).trans (by decide)
      · exact (decide_eq_false (fun h => e35 (Eq.symm h))).trans (by decide)
      · exact (decide_eq_false (fun h => e45 (Eq.symm h))).trans (by decide)
      · exact (decide_eq_true (show c5 = c5 from rfl)).trans (by decide)
      · exact (decide_eq_false (e56)).trans (by decide)
      · exact (decide_eq_false (e57)).trans (by decide)
      · exact (decide_eq_false (e58)).trans (by decide)
      · exact (decide_eq_false (e59)).trans (by decide)
    · rcases ten j j0 j1 with rfl | rfl | rfl | rfl | rfl | rfl | rfl | rfl | rfl | rfl
      · exact (decide_eq_false (fun h => e06 (Eq.symm h))).trans (by decide)
      · exact (decide_eq_false (fun h => e16 (Eq.symm h))).trans (by decide)
      · exact (decide_eq_false (fun h => e26 (Eq.symm h))).trans (by decide)
      · exact (decide_eq_false (fun h => e36 (Eq.symm h))).trans (by decide)
      · exact (decide_eq_false (fun h => e46 (Eq.symm h))).trans (by decide)
      · exact (decide_eq_false (fun h => e56 (Eq.symm h))).trans (by decide)
      · exact (decide_eq_true (show c6 = c6 from rfl)).trans (by decide)
      · exact (decide_eq_false (e67)).trans (by decide)
      · exact (decide_eq_false (e68)).trans (by decide)
      · exact (decide_eq_false (e69)).trans (by decide)
    · rcases ten j j0 j1 with rfl | rfl | rfl | rfl | rfl | rfl | rfl | rfl | rfl | rfl
      · exact (decide_eq_false (fun h => e07 (Eq.symm h))).trans (by decide)
      · exact (decide_eq_false (fun h => e17 (Eq.symm h))).trans (by decide)
      · exact (decide_eq_false (fun h => e27 (Eq.symm h))).trans (by decide)
      · exact (decide_eq_false (fun h => e37 (Eq.symm h))).trans (by decide)
      · exact (decide_eq_false (fun h => e47 (Eq.symm h))).trans (by decide)
      · exact (decide_eq_false (fun h => e57 (Eq.symm h))).trans (by decide)
      · exact (decide_eq_false (fun h => e67 (Eq.symm h))).trans (by decide)
      · exact (decide_eq_true (show c7 = c7 from rfl)).trans (by decide)
      · exact (decide_eq_false (e78)).trans (by decide)
      · exact (decide_eq_false (e79)).trans (by decide)
    · rcases ten j j0 j1 with rfl | rfl | rfl | rfl | rfl | rfl | rfl | rfl | rfl | rfl
      · exact (decide_eq_false (fun h => e08 (Eq.symm h))).trans (by decide)
      · exact (decide_eq_false (fun h => e18 (Eq.symm h))).trans (by decide)
      · exact (decide_eq_false (fun h => e28 (Eq.symm h))).trans (by decide)
      · exact (decide_eq_false (fun h => e38 (Eq.symm h))).trans (by decide)
      · exact (decide_eq_false (fun h => e48 (Eq.symm h))).trans (by decide)
      · exact (decide_eq_false (fun h => e58 (Eq.symm h))).trans (by decide)
      · exact (decide_eq_false (fun h => e68 (Eq.symm h))).trans (by decide)
      · exact (decide_eq_false (fun h => e78 (Eq.symm h))).trans (by decide)
      · exact (decide_eq_true (show c8 = c8 from rfl)).trans (by decide)
      · exact (decide_eq_false (e89)).trans (by decide)
    · rcases ten j j0 j1 with rfl | rfl | rfl | rfl | rfl | rfl | rfl | rfl | rfl | rfl
      · exact (decide_eq_false (fun h => e09 (Eq.symm h))).trans (by decide)
      · exact (decide_eq_false (fun h => e19 (Eq.symm h))).trans (by decide)
      · exact (decide_eq_false (fun h => e29 (Eq.symm h))).trans (by decide)
      · exact (decide_eq_false (fun h => e39 (Eq.symm h))).trans (by decide)
      · exact (decide_eq_false (fun h => e49 (Eq.symm h))).trans (by decide)
      · exact (decide_eq_false (fun h => e59 (Eq.symm h))).trans (by decide)
      · exact (decide_eq_false (fun h => e69 (Eq.symm h))).trans (by decide)
      · exact (decide_eq_false (fun h => e79 (Eq.symm h))).trans (by decide)
      · exact (decide_eq_false (fun h => e89 (Eq.symm h))).trans (by decide)
      · exact (decide_eq_true (show c9 = c9 from rfl)).trans (by decide)
abbrev csv (c0 c1 c2 c3 c4 c5 c6 c7 c8 c9 : Addr) := csOf c0 c1 c2 c3 c4 c5 c6 c7 c8 c9
set_option linter.unusedVariables false in
theorem all_mk {P : Program} {w : World} {K : PySem.W.Frag} {h : Heap} {mg : Str → Option Value} {fa S c0 c1 c2 c3 c4 c5 c6 c7 c8 c9 fF fD fT fC fP fN fK fR fY fZ fG fL i1 i2 i3 i4 i5 i6 i7 : Addr} (X : K.In h) (G : h.Ns mainGlobals mg) (hfa : mg "law" = some (.ref fa))
    {nm0 q0 : Str} {N0 : Addr} {bs0 : List Value} {sn0 : List Str} {sub0 : List Value} {ab0 : Bool} {col0 : Option Bool} {dd0 : Option Addr} {k00 k10 k20 k30 k50 : Option Value} {nm1 q1 : Str} {N1 : Addr} {bs1 : List Value} {sn1 : List Str} {sub1 : List Value} {ab1 : Bool} {col1 : Option Bool} {dd1 : Option Addr} {k01 k11 k21 k31 k51 : Option Value} {oc_1 doc_1 pm_1 cd_1 ct_1 : Value} {od_1 an_1 : Option Addr} {sl_1 : Array (Option Value)} {nm2 q2 : Str} {N2 : Addr} {bs2 : List Value} {sn2 : List Str} {sub2 : List Value} {ab2 : Bool} {col2 : Option Bool} {dd2 : Option Addr} {k02 k12 k22 k32 k52 : Option Value} {oc_2 doc_2 pm_2 cd_2 ct_2 : Value} {od_2 an_2 : Option Addr} {sl_2 : Array (Option Value)} {nm3 q3 : Str} {N3 : Addr} {bs3 : List Value} {sn3 : List Str} {sub3 : List Value} {ab3 : Bool} {col3 : Option Bool} {dd3 : Option Addr} {k03 k13 k23 k33 k53 : Option Value} {oc_3 doc_3 pm_3 cd_3 ct_3 : Value} {od_3 an_3 : Option Addr} {sl_3 : Array (Option Value)} {nm4 q4 : Str} {N4 : Addr} {bs4 : List Value} {sn4 : List Str} {sub4 : List Value} {ab4 : Bool} {col4 : Option Bool} {dd4 : Option Addr} {k04 k14 k24 k34 k54 : Option Value} {oc_4 doc_4 pm_4 cd_4 ct_4 : Value} {od_4 an_4 : Option Addr} {sl_4 : Array (Option Value)} {nm5 q5 : Str} {N5 : Addr} {bs5 : List Value} {sn5 : List Str} {sub5 : List Value} {ab5 : Bool} {col5 : Option Bool} {dd5 : Option Addr} {k05 k15 k25 k35 k55 : Option Value} {oc_5 doc_5 pm_5 cd_5 ct_5 : Value} {od_5 an_5 : Option Addr} {sl_5 : Array (Option Value)} {nm6 q6 : Str} {N6 : Addr} {bs6 : List Value} {sn6 : List Str} {sub6 : List Value} {ab6 : Bool} {col6 : Option Bool} {dd6 : Option Addr} {k06 k16 k26 k36 k56 : Option Value} {oc_6 doc_6 pm_6 cd_6 ct_6 : Value} {od_6 an_6 : Option Addr} {sl_6 : Array (Option Value)} {nm7 q7 : Str} {N7 : Addr} {bs7 : List Value} {sn7 : List Str} {sub7 : List Value} {ab7 : Bool} {col7 : Option Bool} {dd7 : Option Addr} {k07 k17 k27 k37 k57 : Option Value} {oc_7 doc_7 pm_7 cd_7 ct_7 : Value} {od_7 an_7 : Option Addr} {sl_7 : Array (Option Value)} {nm8 q8 : Str} {N8 : Addr} {bs8 : List Value} {sn8 : List Str} {sub8 : List Value} {ab8 : Bool} {col8 : Option Bool} {dd8 : Option Addr} {k08 k18 k28 k38 k58 : Option Value} {nm9 q9 : Str} {N9 : Addr} {bs9 : List Value} {sn9 : List Str} {sub9 : List Value} {ab9 : Bool} {col9 : Option Bool} {dd9 : Option Addr} {k09 k19 k29 k39 k59 : Option Value} {oc_F kV_F doc_F pm_F cd_F ct_F : Value} {od_F an_F : Option Addr} {sl_F : Array (Option Value)} {oc_D kV_D doc_D pm_D cd_D ct_D : Value} {od_D an_D : Option Addr} {sl_D : Array (Option Value)} {oc_T kV_T doc_T pm_T cd_T ct_T : Value} {od_T an_T : Option Addr} {sl_T : Array (Option Value)} {oc_C kV_C doc_C pm_C cd_C ct_C : Value} {od_C an_C : Option Addr} {sl_C : Array (Option Value)} {oc_P kV_P doc_P pm_P cd_P ct_P : Value} {od_P an_P : Option Addr} {sl_P : Array (Option Value)} {oc_N kV_N doc_N pm_N cd_N ct_N : Value} {od_N an_N : Option Addr} {sl_N : Array (Option Value)} {oc_K kV_K doc_K pm_K cd_K ct_K : Value} {od_K an_K : Option Addr} {sl_K : Array (Option Value)} {oc_R kV_R doc_R pm_R cd_R ct_R : Value} {od_R an_R : Option Addr} {sl_R : Array (Option Value)} {oc_Y kV_Y doc_Y pm_Y cd_Y ct_Y : Value} {od_Y an_Y : Option Addr} {sl_Y : Array (Option Value)} {oc_Z kV_Z doc_Z pm_Z cd_Z ct_Z : Value} {od_Z an_Z : Option Addr} {sl_Z : Array (Option Value)} {oc_G kV_G doc_G pm_G cd_G ct_G : Value} {od_G an_G : Option Addr} {sl_G : Array (Option Value)} {oc_L kV_L doc_L pm_L cd_L ct_L : Value} {od_L an_L : Option Addr} {sl_L : Array (Option Value)}
    (zS : PySem.W.nsIn K mainGlobals "StoreError" = some (some (.ref S)))
    (zSb : PySem.W.subIn K (.ref S) (.type "BaseException") = some true)
    (zSd : PySem.W.hasDictIn K S = true)
    (zSt : PySem.W.typeIn K (.ref S) = some (.type "type"))
    (zgt : PySem.W.specialIn K (.builtin "object.__class__") "__get__" = some (some (.builtin "getset_descriptor.__get__")))
    (ztk : PySem.W.takesIn K (.builtin "object.__class__") = some true)
    (a0 : PySem.W.nsIn K mainGlobals "NoKind" = some (some (.ref c0)))
    (x0 : K.lookup c0 = some (excClassObj nm0 q0 c0 N0 bs0 (bmS S) true sn0 sub0 ab0 col0 dd0 k00 k10 k20 k30 k50 "Exception.__new__"))
    (g0 : PySem.W.findIn K (.ref c0) "__getattribute__" = some (some (.builtin "BaseException.__getattribute__")))
    (h0 : PySem.W.findIn K (.ref c0) "__getattr__" = some none)
    (o0 : PySem.W.findIn K (.ref c0) "__class__" = some (some (.builtin "object.__class__")))
    (k0 : PySem.W.keepIn K (.ref c0) = true)
    (x0x : PySem.W.excIn K c0 bmE "Exception.__new__" = true)
    (a1 : PySem.W.nsIn K mainGlobals "NoObject" = some (some (.ref c1)))
    (x1 : K.lookup c1 = some (excClassObj nm1 q1 c1 N1 bs1 (bmS S) true sn1 sub1 ab1 col1 dd1 k01 k11 k21 k31 k51 "Exception.__new__"))
    (g1 : PySem.W.findIn K (.ref c1) "__getattribute__" = some (some (.builtin "BaseException.__getattribute__")))
    (h1 : PySem.W.findIn K (.ref c1) "__getattr__" = some none)
    (o1 : PySem.W.findIn K (.ref c1) "__class__" = some (some (.builtin "object.__class__")))
    (k1 : PySem.W.keepIn K (.ref c1) = true)
    (s1 : PySem.W.findIn K (.ref c1) "__setattr__" = some (some (.builtin "object.__setattr__")))
    (n1 : PySem.W.findIn K (.ref c1) "place" = some none)
    (j1 : PySem.W.findIn K (.ref c1) "__init__" = some (some (.ref i1)))
    (t1 : PySem.W.typeIn K (.ref i1) = some (.type "function"))
    (l1 : K.lookup i1 = some ⟨oc_1, od_1, .func (PySem.W.fnOf "__init__" "NoObject.__init__" (defArgs (iniAt 3)) (defBody (iniAt 3)) (defScope (iniAt 3)) .none .none doc_1 pm_1 an_1 cd_1 ct_1), sl_1⟩)
    (e1 : PySem.W.codeIn K cd_1 "NoObject.__init__" = true)
    (a2 : PySem.W.nsIn K mainGlobals "NoOperation" = some (some (.ref c2)))
    (x2 : K.lookup c2 = some (excClassObj nm2 q2 c2 N2 bs2 (bmS S) true sn2 sub2 ab2 col2 dd2 k02 k12 k22 k32 k52 "Exception.__new__"))
    (g2 : PySem.W.findIn K (.ref c2) "__getattribute__" = some (some (.builtin "BaseException.__getattribute__")))
    (h2 : PySem.W.findIn K (.ref c2) "__getattr__" = some none)
    (o2 : PySem.W.findIn K (.ref c2) "__class__" = some (some (.builtin "object.__class__")))
    (k2 : PySem.W.keepIn K (.ref c2) = true)
    (s2 : PySem.W.findIn K (.ref c2) "__setattr__" = some (some (.builtin "object.__setattr__")))
    (n2 : PySem.W.findIn K (.ref c2) "operation" = some none)
    (j2 : PySem.W.findIn K (.ref c2) "__init__" = some (some (.ref i2)))
    (t2 : PySem.W.typeIn K (.ref i2) = some (.type "function"))
    (l2 : K.lookup i2 = some ⟨oc_2, od_2, .func (PySem.W.fnOf "__init__" "NoOperation.__init__" (defArgs (iniAt 4)) (defBody (iniAt 4)) (defScope (iniAt 4)) .none .none doc_2 pm_2 an_2 cd_2 ct_2), sl_2⟩)
    (e2 : PySem.W.codeIn K cd_2 "NoOperation.__init__" = true)
    (a3 : PySem.W.nsIn K mainGlobals "NotOpen" = some (some (.ref c3)))
    (x3 : K.lookup c3 = some (excClassObj nm3 q3 c3 N3 bs3 (bmS S) true sn3 sub3 ab3 col3 dd3 k03 k13 k23 k33 k53 "Exception.__new__"))
    (g3 : PySem.W.findIn K (.ref c3) "__getattribute__" = some (some (.builtin "BaseException.__getattribute__")))
    (h3 : PySem.W.findIn K (.ref c3) "__getattr__" = some none)
    (o3 : PySem.W.findIn K (.ref c3) "__class__" = some (some (.builtin "object.__class__")))
    (k3 : PySem.W.keepIn K (.ref c3) = true)
    (s3 : PySem.W.findIn K (.ref c3) "__setattr__" = some (some (.builtin "object.__setattr__")))
    (n3 : PySem.W.findIn K (.ref c3) "number" = some none)
    (j3 : PySem.W.findIn K (.ref c3) "__init__" = some (some (.ref i3)))
    (t3 : PySem.W.typeIn K (.ref i3) = some (.type "function"))
    (l3 : K.lookup i3 = some ⟨oc_3, od_3, .func (PySem.W.fnOf "__init__" "NotOpen.__init__" (defArgs (iniAt 5)) (defBody (iniAt 5)) (defScope (iniAt 5)) .none .none doc_3 pm_3 an_3 cd_3 ct_3), sl_3⟩)
    (e3 : PySem.W.codeIn K cd_3 "NotOpen.__init__" = true)
    (a4 : PySem.W.nsIn K mainGlobals "IsWaiting" = some (some (.ref c4)))
    (x4 : K.lookup c4 = some (excClassObj nm4 q4 c4 N4 bs4 (bmS S) true sn4 sub4 ab4 col4 dd4 k04 k14 k24 k34 k54 "Exception.__new__"))
    (g4 : PySem.W.findIn K (.ref c4) "__getattribute__" = some (some (.builtin "BaseException.__getattribute__")))
    (h4 : PySem.W.findIn K (.ref c4) "__getattr__" = some none)
    (o4 : PySem.W.findIn K (.ref c4) "__class__" = some (some (.builtin "object.__class__")))
    (k4 : PySem.W.keepIn K (.ref c4) = true)
    (s4 : PySem.W.findIn K (.ref c4) "__setattr__" = some (some (.builtin "object.__setattr__")))
    (n4 : PySem.W.findIn K (.ref c4) "number" = some none)
    (j4 : PySem.W.findIn K (.ref c4) "__init__" = some (some (.ref i4)))
    (t4 : PySem.W.typeIn K (.ref i4) = some (.type "function"))
    (l4 : K.lookup i4 = some ⟨oc_4, od_4, .func (PySem.W.fnOf "__init__" "IsWaiting.__init__" (defArgs (iniAt 6)) (defBody (iniAt 6)) (defScope (iniAt 6)) .none .none doc_4 pm_4 an_4 cd_4 ct_4), sl_4⟩)
    (e4 : PySem.W.codeIn K cd_4 "IsWaiting.__init__" = true)
    (a5 : PySem.W.nsIn K mainGlobals "Never" = some (some (.ref c5)))
    (x5 : K.lookup c5 = some (excClassObj nm5 q5 c5 N5 bs5 (bmS S) true sn5 sub5 ab5 col5 dd5 k05 k15 k25 k35 k55 "Exception.__new__"))
    (g5 : PySem.W.findIn K (.ref c5) "__getattribute__" = some (some (.builtin "BaseException.__getattribute__")))
    (h5 : PySem.W.findIn K (.ref c5) "__getattr__" = some none)
    (o5 : PySem.W.findIn K (.ref c5) "__class__" = some (some (.builtin "object.__class__")))
    (k5 : PySem.W.keepIn K (.ref c5) = true)
    (s5 : PySem.W.findIn K (.ref c5) "__setattr__" = some (some (.builtin "object.__setattr__")))
    (n5 : PySem.W.findIn K (.ref c5) "number" = some none)
    (j5 : PySem.W.findIn K (.ref c5) "__init__" = some (some (.ref i5)))
    (t5 : PySem.W.typeIn K (.ref i5) = some (.type "function"))
    (l5 : K.lookup i5 = some ⟨oc_5, od_5, .func (PySem.W.fnOf "__init__" "Never.__init__" (defArgs (iniAt 7)) (defBody (iniAt 7)) (defScope (iniAt 7)) .none .none doc_5 pm_5 an_5 cd_5 ct_5), sl_5⟩)
    (e5 : PySem.W.codeIn K cd_5 "Never.__init__" = true)
    (a6 : PySem.W.nsIn K mainGlobals "Full" = some (some (.ref c6)))
    (x6 : K.lookup c6 = some (excClassObj nm6 q6 c6 N6 bs6 (bmS S) true sn6 sub6 ab6 col6 dd6 k06 k16 k26 k36 k56 "Exception.__new__"))
    (g6 : PySem.W.findIn K (.ref c6) "__getattribute__" = some (some (.builtin "BaseException.__getattribute__")))
    (h6 : PySem.W.findIn K (.ref c6) "__getattr__" = some none)
    (o6 : PySem.W.findIn K (.ref c6) "__class__" = some (some (.builtin "object.__class__")))
    (k6 : PySem.W.keepIn K (.ref c6) = true)
    (s6 : PySem.W.findIn K (.ref c6) "__setattr__" = some (some (.builtin "object.__setattr__")))
    (n6 : PySem.W.findIn K (.ref c6) "holders" = some none)
    (j6 : PySem.W.findIn K (.ref c6) "__init__" = some (some (.ref i6)))
    (t6 : PySem.W.typeIn K (.ref i6) = some (.type "function"))
    (l6 : K.lookup i6 = some ⟨oc_6, od_6, .func (PySem.W.fnOf "__init__" "Full.__init__" (defArgs (iniAt 8)) (defBody (iniAt 8)) (defScope (iniAt 8)) .none .none doc_6 pm_6 an_6 cd_6 ct_6), sl_6⟩)
    (e6 : PySem.W.codeIn K cd_6 "Full.__init__" = true)
    (a7 : PySem.W.nsIn K mainGlobals "TooMany" = some (some (.ref c7)))
    (x7 : K.lookup c7 = some (excClassObj nm7 q7 c7 N7 bs7 (bmS S) true sn7 sub7 ab7 col7 dd7 k07 k17 k27 k37 k57 "Exception.__new__"))
    (g7 : PySem.W.findIn K (.ref c7) "__getattribute__" = some (some (.builtin "BaseException.__getattribute__")))
    (h7 : PySem.W.findIn K (.ref c7) "__getattr__" = some none)
    (o7 : PySem.W.findIn K (.ref c7) "__class__" = some (some (.builtin "object.__class__")))
    (k7 : PySem.W.keepIn K (.ref c7) = true)
    (s7 : PySem.W.findIn K (.ref c7) "__setattr__" = some (some (.builtin "object.__setattr__")))
    (n7 : PySem.W.findIn K (.ref c7) "most" = some none)
    (j7 : PySem.W.findIn K (.ref c7) "__init__" = some (some (.ref i7)))
    (t7 : PySem.W.typeIn K (.ref i7) = some (.type "function"))
    (l7 : K.lookup i7 = some ⟨oc_7, od_7, .func (PySem.W.fnOf "__init__" "TooMany.__init__" (defArgs (iniAt 9)) (defBody (iniAt 9)) (defScope (iniAt 9)) .none .none doc_7 pm_7 an_7 cd_7 ct_7), sl_7⟩)
    (e7 : PySem.W.codeIn K cd_7 "TooMany.__init__" = true)
    (a8 : PySem.W.nsIn K mainGlobals "InvalidText" = some (some (.ref c8)))
    (x8 : K.lookup c8 = some (excClassObj nm8 q8 c8 N8 bs8 (bmS S) true sn8 sub8 ab8 col8 dd8 k08 k18 k28 k38 k58 "Exception.__new__"))
    (g8 : PySem.W.findIn K (.ref c8) "__getattribute__" = some (some (.builtin "BaseException.__getattribute__")))
    (h8 : PySem.W.findIn K (.ref c8) "__getattr__" = some none)
    (o8 : PySem.W.findIn K (.ref c8) "__class__" = some (some (.builtin "object.__class__")))
    (k8 : PySem.W.keepIn K (.ref c8) = true)
    (x8x : PySem.W.excIn K c8 bmE "Exception.__new__" = true)
    (a9 : PySem.W.nsIn K mainGlobals "InvalidCommand" = some (some (.ref c9)))
    (x9 : K.lookup c9 = some (excClassObj nm9 q9 c9 N9 bs9 (bmS S) true sn9 sub9 ab9 col9 dd9 k09 k19 k29 k39 k59 "Exception.__new__"))
    (g9 : PySem.W.findIn K (.ref c9) "__getattribute__" = some (some (.builtin "BaseException.__getattribute__")))
    (h9 : PySem.W.findIn K (.ref c9) "__getattr__" = some none)
    (o9 : PySem.W.findIn K (.ref c9) "__class__" = some (some (.builtin "object.__class__")))
    (k9 : PySem.W.keepIn K (.ref c9) = true)
    (x9x : PySem.W.excIn K c9 bmE "Exception.__new__" = true)
    (a_F : PySem.W.nsIn K mainGlobals "_law_feed" = some (some (.ref fF)))
    (l_F : K.lookup fF = some ⟨oc_F, od_F, .func (PySem.W.fnOf "_law_feed" "_law_feed" (defArgs sFeed) (defBody sFeed) (defScope sFeed) .none kV_F doc_F pm_F an_F cd_F ct_F), sl_F⟩)
    (e_F : PySem.W.codeIn K cd_F "_law_feed" = true)
    (k_F : PySem.W.keepIn K (.ref fF) = true)
    (a_D : PySem.W.nsIn K mainGlobals "_law_digit" = some (some (.ref fD)))
    (l_D : K.lookup fD = some ⟨oc_D, od_D, .func (PySem.W.fnOf "_law_digit" "_law_digit" (defArgs sDigit) (defBody sDigit) (defScope sDigit) .none kV_D doc_D pm_D an_D cd_D ct_D), sl_D⟩)
    (e_D : PySem.W.codeIn K cd_D "_law_digit" = true)
    (k_D : PySem.W.keepIn K (.ref fD) = true)
    (a_T : PySem.W.nsIn K mainGlobals "_law_thing" = some (some (.ref fT)))
    (l_T : K.lookup fT = some ⟨oc_T, od_T, .func (PySem.W.fnOf "_law_thing" "_law_thing" (defArgs sThing) (defBody sThing) (defScope sThing) .none kV_T doc_T pm_T an_T cd_T ct_T), sl_T⟩)
    (e_T : PySem.W.codeIn K cd_T "_law_thing" = true)
    (k_T : PySem.W.keepIn K (.ref fT) = true)
    (a_C : PySem.W.nsIn K mainGlobals "_law_classes" = some (some (.ref fC)))
    (l_C : K.lookup fC = some ⟨oc_C, od_C, .func (PySem.W.fnOf "_law_classes" "_law_classes" (defArgs sClasses) (defBody sClasses) (defScope sClasses) .none kV_C doc_C pm_C an_C cd_C ct_C), sl_C⟩)
    (e_C : PySem.W.codeIn K cd_C "_law_classes" = true)
    (k_C : PySem.W.keepIn K (.ref fC) = true)
    (a_P : PySem.W.nsIn K mainGlobals "_law_by_position" = some (some (.ref fP)))
    (l_P : K.lookup fP = some ⟨oc_P, od_P, .func (PySem.W.fnOf "_law_by_position" "_law_by_position" (defArgs sPos) (defBody sPos) (defScope sPos) .none kV_P doc_P pm_P an_P cd_P ct_P), sl_P⟩)
    (e_P : PySem.W.codeIn K cd_P "_law_by_position" = true)
    (k_P : PySem.W.keepIn K (.ref fP) = true)
    (a_N : PySem.W.nsIn K mainGlobals "_law_by_name" = some (some (.ref fN)))
    (l_N : K.lookup fN = some ⟨oc_N, od_N, .func (PySem.W.fnOf "_law_by_name" "_law_by_name" (defArgs sName) (defBody sName) (defScope sName) .none kV_N doc_N pm_N an_N cd_N ct_N), sl_N⟩)
    (e_N : PySem.W.codeIn K cd_N "_law_by_name" = true)
    (k_N : PySem.W.keepIn K (.ref fN) = true)
    (a_K : PySem.W.nsIn K mainGlobals "_law_kept" = some (some (.ref fK)))
    (l_K : K.lookup fK = some ⟨oc_K, od_K, .func (PySem.W.fnOf "_law_kept" "_law_kept" (defArgs sKept) (defBody sKept) (defScope sKept) .none kV_K doc_K pm_K an_K cd_K ct_K), sl_K⟩)
    (e_K : PySem.W.codeIn K cd_K "_law_kept" = true)
    (k_K : PySem.W.keepIn K (.ref fK) = true)
    (a_R : PySem.W.nsIn K mainGlobals "_law_raise" = some (some (.ref fR)))
    (l_R : K.lookup fR = some ⟨oc_R, od_R, .func (PySem.W.fnOf "_law_raise" "_law_raise" (defArgs sRaise) (defBody sRaise) (defScope sRaise) .none kV_R doc_R pm_R an_R cd_R ct_R), sl_R⟩)
    (e_R : PySem.W.codeIn K cd_R "_law_raise" = true)
    (k_R : PySem.W.keepIn K (.ref fR) = true)
    (a_Y : PySem.W.nsIn K mainGlobals "_law_caught_first" = some (some (.ref fY)))
    (l_Y : K.lookup fY = some ⟨oc_Y, od_Y, .func (PySem.W.fnOf "_law_caught_first" "_law_caught_first" (defArgs sFirst) (defBody sFirst) (defScope sFirst) .none kV_Y doc_Y pm_Y an_Y cd_Y ct_Y), sl_Y⟩)
    (e_Y : PySem.W.codeIn K cd_Y "_law_caught_first" = true)
    (k_Y : PySem.W.keepIn K (.ref fY) = true)
    (a_Z : PySem.W.nsIn K mainGlobals "_law_caught_last" = some (some (.ref fZ)))
    (l_Z : K.lookup fZ = some ⟨oc_Z, od_Z, .func (PySem.W.fnOf "_law_caught_last" "_law_caught_last" (defArgs sLast) (defBody sLast) (defScope sLast) .none kV_Z doc_Z pm_Z an_Z cd_Z ct_Z), sl_Z⟩)
    (e_Z : PySem.W.codeIn K cd_Z "_law_caught_last" = true)
    (k_Z : PySem.W.keepIn K (.ref fZ) = true)
    (a_G : PySem.W.nsIn K mainGlobals "_law_right" = some (some (.ref fG)))
    (l_G : K.lookup fG = some ⟨oc_G, od_G, .func (PySem.W.fnOf "_law_right" "_law_right" (defArgs sRight) (defBody sRight) (defScope sRight) .none kV_G doc_G pm_G an_G cd_G ct_G), sl_G⟩)
    (e_G : PySem.W.codeIn K cd_G "_law_right" = true)
    (k_G : PySem.W.keepIn K (.ref fG) = true)
    (a_L : PySem.W.nsIn K mainGlobals "law" = some (some (.ref fL)))
    (l_L : K.lookup fL = some ⟨oc_L, od_L, .func (PySem.W.fnOf "law" "law" (defArgs sLaw) (defBody sLaw) (defScope sLaw) .none kV_L doc_L pm_L an_L cd_L ct_L), sl_L⟩)
    (e_L : PySem.W.codeIn K cd_L "law" = true)
    (k_L : PySem.W.keepIn K (.ref fL) = true)
    (z_list : PySem.W.nsIn K mainGlobals "list" = some none)
    (z_tuple : PySem.W.nsIn K mainGlobals "tuple" = some none)
    (z_range : PySem.W.nsIn K mainGlobals "range" = some none)
    (z_isinstance : PySem.W.nsIn K mainGlobals "isinstance" = some none)
    (z_repr : PySem.W.nsIn K mainGlobals "repr" = some none)
    (z_str : PySem.W.nsIn K mainGlobals "str" = some none)
    (z_Exception : PySem.W.nsIn K mainGlobals "Exception" = some none)
    (z_ValueError : PySem.W.nsIn K mainGlobals "ValueError" = some none)
    (z_LookupError : PySem.W.nsIn K mainGlobals "LookupError" = some none)
    (z_ArithmeticError : PySem.W.nsIn K mainGlobals "ArithmeticError" = some none)
    (z_TypeError : PySem.W.nsIn K mainGlobals "TypeError" = some none)
    (z_AttributeError : PySem.W.nsIn K mainGlobals "AttributeError" = some none)
    (z_RuntimeError : PySem.W.nsIn K mainGlobals "RuntimeError" = some none)
    (dist : ([S, c0, c1, c2, c3, c4, c5, c6, c7, c8, c9] : List Nat).Nodup) :
    ∃ fd : FuncData, (∀ (s : Shared) (v : Value), BindsTo s fd ⟨[v], []⟩ [("_law_script", v)]) ∧ ∀ base : Heap, K.In base → base.Ns mainGlobals mg → FnG true (fun A => A.guards = some []) P w K mg base CX0 6 fa fd ["_law_script"] (spLaw K) := by
  have e := hfa.symm.trans (PySem.W.mg_of X G a_L)
  cases e
  have r0 : RawC K S c0 := ⟨_, _, _, _, _, _, _, _, _, _, _, _, _, _, x0⟩
  have r1 : RawC K S c1 := ⟨_, _, _, _, _, _, _, _, _, _, _, _, _, _, x1⟩
  have r2 : RawC K S c2 := ⟨_, _, _, _, _, _, _, _, _, _, _, _, _, _, x2⟩
  have r3 : RawC K S c3 := ⟨_, _, _, _, _, _, _, _, _, _, _, _, _, _, x3⟩
  have r4 : RawC K S c4 := ⟨_, _, _, _, _, _, _, _, _, _, _, _, _, _, x4⟩
  have r5 : RawC K S c5 := ⟨_, _, _, _, _, _, _, _, _, _, _, _, _, _, x5⟩
  have r6 : RawC K S c6 := ⟨_, _, _, _, _, _, _, _, _, _, _, _, _, _, x6⟩
  have r7 : RawC K S c7 := ⟨_, _, _, _, _, _, _, _, _, _, _, _, _, _, x7⟩
  have r8 : RawC K S c8 := ⟨_, _, _, _, _, _, _, _, _, _, _, _, _, _, x8⟩
  have r9 : RawC K S c9 := ⟨_, _, _, _, _, _, _, _, _, _, _, _, _, _, x9⟩
  have rr : ∀ i : Int, 0 ≤ i → i < 10 → RawC K S ((csOf c0 c1 c2 c3 c4 c5 c6 c7 c8 c9) i) := all10 r0 r1 r2 r3 r4 r5 r6 r7 r8 r9
  have mro : ∀ {C : Addr}, RawC K S C → PySem.W.mroIn K C (.type "object") = some true := fun {C} r => by
    have q := raw_sub r (.type "object")
    rw [con_ty] at q
    exact q.trans (by decide +kernel)
  have sb : ∀ {C : Addr}, RawC K S C → PySem.W.subIn K (.ref C) (.type "BaseException") = some true := fun {C} r => by
    rw [raw_sub r, con_ty]
    decide +kernel
  have hdc : ∀ {C : Addr}, RawC K S C → PySem.W.hasDictIn K C = true := fun {C} r => by
    obtain ⟨⟨cd, e1, _, e3⟩, _⟩ := raw_cls r
    show (PySem.W.clsIn K C).any (·.hasDict) = true
    rw [e1]
    exact e3
  obtain ⟨dS, dI⟩ := csOf_inj dist
  have gS : RawS K S := ⟨zSb, zSd, zSt⟩
  have T : Txt K mg (csOf c0 c1 c2 c3 c4 c5 c6 c7 c8 c9) (csOf i1 i1 i2 i3 i4 i5 i6 i7 i7 i7) S := ⟨⟨PySem.W.mg_of X G a1, ⟨_, _, _, _, _, _, _, _, _, _, _, _, _, _, x1⟩, s1, g1, h1, n1, j1, t1, k1, sb r1, (raw_cls r1).2, hdc r1, ini1 l1 e1⟩,
    ⟨PySem.W.mg_of X G a2, ⟨_, _, _, _, _, _, _, _, _, _, _, _, _, _, x2⟩, s2, g2, h2, n2, j2, t2, k2, sb r2, (raw_cls r2).2, hdc r2, ini2 l2 e2⟩,
    ⟨PySem.W.mg_of X G a3, ⟨_, _, _, _, _, _, _, _, _, _, _, _, _, _, x3⟩, s3, g3, h3, n3, j3, t3, k3, sb r3, (raw_cls r3).2, hdc r3, ini3 l3 e3⟩,
    ⟨PySem.W.mg_of X G a4, ⟨_, _, _, _, _, _, _, _, _, _, _, _, _, _, x4⟩, s4, g4, h4, n4, j4, t4, k4, sb r4, (raw_cls r4).2, hdc r4, ini4 l4 e4⟩,
    ⟨PySem.W.mg_of X G a5, ⟨_, _, _, _, _, _, _, _, _, _, _, _, _, _, x5⟩, s5, g5, h5, n5, j5, t5, k5, sb r5, (raw_cls r5).2, hdc r5, ini5 l5 e5⟩,
    ⟨PySem.W.mg_of X G a6, ⟨_, _, _, _, _, _, _, _, _, _, _, _, _, _, x6⟩, s6, g6, h6, n6, j6, t6, k6, sb r6, (raw_cls r6).2, hdc r6, ini6 l6 e6⟩,
    ⟨PySem.W.mg_of X G a7, ⟨_, _, _, _, _, _, _, _, _, _, _, _, _, _, x7⟩, s7, g7, h7, n7, j7, t7, k7, sb r7, (raw_cls r7).2, hdc r7, ini7 l7 e7⟩,
    ⟨PySem.W.mg_of X G a0, x0x, k0⟩,
    ⟨PySem.W.mg_of X G a8, x8x, k8⟩,
    ⟨PySem.W.mg_of X G a9, x9x, k9⟩⟩
  have U : Txt2 K mg (csOf c0 c1 c2 c3 c4 c5 c6 c7 c8 c9) S := ⟨PySem.W.mg_none_of X G z_isinstance, PySem.W.mg_of X G zS, all10 ⟨g0, h0, sb r0, hdc r0, o0, zgt, ztk, mro r0⟩ ⟨g1, h1, sb r1, hdc r1, o1, zgt, ztk, mro r1⟩ ⟨g2, h2, sb r2, hdc r2, o2, zgt, ztk, mro r2⟩ ⟨g3, h3, sb r3, hdc r3, o3, zgt, ztk, mro r3⟩ ⟨g4, h4, sb r4, hdc r4, o4, zgt, ztk, mro r4⟩ ⟨g5, h5, sb r5, hdc r5, o5, zgt, ztk, mro r5⟩ ⟨g6, h6, sb r6, hdc r6, o6, zgt, ztk, mro r6⟩ ⟨g7, h7, sb r7, hdc r7, o7, zgt, ztk, mro r7⟩ ⟨g8, h8, sb r8, hdc r8, o8, zgt, ztk, mro r8⟩ ⟨g9, h9, sb r9, hdc r9, o9, zgt, ztk, mro r9⟩,
    fun i j i0 i1 j0 j1 => by rw [raw_kit (rr i i0 i1) (rr j j0 j1) (dS j j0 j1), dI i i0 i1 j j0 j1], fun i i0 i1 => raw_kitS (rr i i0 i1) gS, fun i i0 i1 => (raw_kitT (rr i i0 i1) "Exception" (by decide +kernel)).trans (by decide +kernel), fun i i0 i1 => raw_kitB (rr i i0 i1),
    fun i i0 i1 => sb (rr i i0 i1), fun i i0 i1 => (raw_cls (rr i i0 i1)).2, fun i j i0 i1 j0 j1 => by rw [raw_exm (rr i i0 i1) (rr j j0 j1) (dS j j0 j1), dI i i0 i1 j j0 j1], fun i i0 i1 => raw_exmS (rr i i0 i1) gS⟩
  have nn : ∀ {n : Str}, PySem.W.nsIn K mainGlobals n = some none → mg n = none := fun {n} e => PySem.W.mg_none_of X G e
  have PL : Plain mg := ⟨nn z_repr, nn z_str⟩
  have PM : Plain2 mg := ⟨nn z_range, nn z_Exception, nn z_ValueError, nn z_LookupError, nn z_ArithmeticError, nn z_TypeError, nn z_AttributeError, nn z_RuntimeError⟩
  have FF := fun_mk (st := sFeed) l_F e_F k_F
  have bF := FF.binds (ps := ["_law_script"]) fun _ _ _ _ _ _ us hl => match us, hl with | [_], _ => rfl
  have mF := PySem.W.mg_of X G a_F
  have FD := fun_mk (st := sDigit) l_D e_D k_D
  have bD := FD.binds (ps := ["_law_feed_here", "_law_many"]) fun _ _ _ _ _ _ us hl => match us, hl with | [_, _], _ => rfl
  have mD := PySem.W.mg_of X G a_D
  have FT := fun_mk (st := sThing) l_T e_T k_T
  have bT := FT.binds (ps := ["_law_feed_here", "_law_deep"]) fun _ _ _ _ _ _ us hl => match us, hl with | [_, _], _ => rfl
  have mT := PySem.W.mg_of X G a_T
  have FC := fun_mk (st := sClasses) l_C e_C k_C
  have bC := FC.binds (ps := ["_law_e"]) fun _ _ _ _ _ _ us hl => match us, hl with | [_], _ => rfl
  have mC := PySem.W.mg_of X G a_C
  have FP := fun_mk (st := sPos) l_P e_P k_P
  have bP := FP.binds (ps := ["_law_spot", "_law_thing_here"]) fun _ _ _ _ _ _ us hl => match us, hl with | [_, _], _ => rfl
  have mP := PySem.W.mg_of X G a_P
  have FN := fun_mk (st := sName) l_N e_N k_N
  have bN := FN.binds (ps := ["_law_spot", "_law_thing_here"]) fun _ _ _ _ _ _ us hl => match us, hl with | [_, _], _ => rfl
  have mN := PySem.W.mg_of X G a_N
  have FK := fun_mk (st := sKept) l_K e_K k_K
  have bK := FK.binds (ps := ["_law_spot", "_law_e"]) fun _ _ _ _ _ _ us hl => match us, hl with | [_, _], _ => rfl
  have mK := PySem.W.mg_of X G a_K
  have FR := fun_mk (st := sRaise) l_R e_R k_R
  have bR := FR.binds (ps := ["_law_spot", "_law_thing_here"]) fun _ _ _ _ _ _ us hl => match us, hl with | [_, _], _ => rfl
  have mR := PySem.W.mg_of X G a_R
  have FY := fun_mk (st := sFirst) l_Y e_Y k_Y
  have bY := FY.binds (ps := ["_law_spot", "_law_thing_here"]) fun _ _ _ _ _ _ us hl => match us, hl with | [_, _], _ => rfl
  have mY := PySem.W.mg_of X G a_Y
  have FZ := fun_mk (st := sLast) l_Z e_Z k_Z
  have bZ := FZ.binds (ps := ["_law_spot", "_law_thing_here"]) fun _ _ _ _ _ _ us hl => match us, hl with | [_, _], _ => rfl
  have mZ := PySem.W.mg_of X G a_Z
  have FG := fun_mk (st := sRight) l_G e_G k_G
  have bG := FG.binds (ps := ["_law_spot", "_law_thing_here"]) fun _ _ _ _ _ _ us hl => match us, hl with | [_, _], _ => rfl
  have mG := PySem.W.mg_of X G a_G
  have FL := fun_mk (st := sLaw) l_L e_L k_L
  refine ⟨PySem.W.fnOf "law" "law" (defArgs sLaw) (defBody sLaw) (defScope sLaw) .none kV_L doc_L pm_L an_L cd_L ct_L, fun s v => .of_eq rfl, fun base _ _ => ?_⟩
  have oF := ok_feed (P := P) (w := w) (mg := mg) (base := base) FF (nn z_list)
  have oD := ok_digit (P := P) (w := w) (mg := mg) (base := base) FD
  have oT := ok_thing (P := P) (w := w) (mg := mg) (base := base) FT bT mT oD mD k_D bD (nn z_tuple) (nn z_range) 3
  have oC := ok_classes (P := P) (w := w) (mg := mg) (base := base) FC T U
  have oP := ok_pos (P := P) (w := w) (mg := mg) (base := base) FP T
  have oN := ok_name (P := P) (w := w) (mg := mg) (base := base) FN T
  have oK := ok_kept (P := P) (w := w) (mg := mg) (base := base) FK T
  have oR := ok_raise (P := P) (w := w) (mg := mg) (base := base) FR T U
  have oY := ok_first (P := P) (w := w) (mg := mg) (base := base) FY T U PL oR mR k_R bR oC mC k_C bC
  have oZ := ok_last (P := P) (w := w) (mg := mg) (base := base) FZ T U PL oR mR k_R bR oC mC k_C bC
  have oG := ok_right (P := P) (w := w) (mg := mg) (base := base) FG T U PL PM oP mP k_P bP oN mN k_N bN oK mK k_K bK oC mC k_C bC oY mY k_Y bY oZ mZ k_Z bZ
  exact ok_law FL (nn z_range) oF mF k_F bF oT mT k_T bT oG mG k_G bG
end My
-- ===== the end =====
open PySem PySem.W PyProof.Rows
set_option maxHeartbeats 0
open_top head01 for PySem.Challenge.rw_mustwait_k01_errors
set_option maxRecDepth 100000 in
set_option maxHeartbeats 0 in
theorem PySem.Challenge.cw_mustwait_k01_errors_holds : PySem.Challenge.rw_mustwait_k01_errors.Holds :=
  head01 (by
  k_fill
  refine My.walk_ofG (l := PySem.Challenge.rw_mustwait_k01_errors) (n := 63) (k := 6) (x := "_law_script") (sp := My.spLaw) rfl (by decide) rfl ⟨rfl, by decide, by decide⟩ (fun w h Y => PySem.W.kIn_of Y) ?F (fun K H a ns hl hb _ hS => ⟨a, ns, rfl, hS, hl, hb, fun _ => rfl⟩)
  case F =>
    intro w mg fa h KX G hmg
    refine' My.all_mk KX G hmg ?zS ?zSb ?zSd ?zSt ?zgt ?ztk ?a0 ?x0 ?g0 ?h0 ?o0 ?k0 ?x0x ?a1 ?x1 ?g1 ?h1 ?o1 ?k1 ?s1 ?n1 ?j1 ?t1 ?l1 ?e1 ?a2 ?x2 ?g2 ?h2 ?o2 ?k2 ?s2 ?n2 ?j2 ?t2 ?l2 ?e2 ?a3 ?x3 ?g3 ?h3 ?o3 ?k3 ?s3 ?n3 ?j3 ?t3 ?l3 ?e3 ?a4 ?x4 ?g4 ?h4 ?o4 ?k4 ?s4 ?n4 ?j4 ?t4 ?l4 ?e4 ?a5 ?x5 ?g5 ?h5 ?o5 ?k5 ?s5 ?n5 ?j5 ?t5 ?l5 ?e5 ?a6 ?x6 ?g6 ?h6 ?o6 ?k6 ?s6 ?n6 ?j6 ?t6 ?l6 ?e6 ?a7 ?x7 ?g7 ?h7 ?o7 ?k7 ?s7 ?n7 ?j7 ?t7 ?l7 ?e7 ?a8 ?x8 ?g8 ?h8 ?o8 ?k8 ?x8x ?a9 ?x9 ?g9 ?h9 ?o9 ?k9 ?x9x ?a_F ?l_F ?e_F ?k_F ?a_D ?l_D ?e_D ?k_D ?a_T ?l_T ?e_T ?k_T ?a_C ?l_C ?e_C ?k_C ?a_P ?l_P ?e_P ?k_P ?a_N ?l_N ?e_N ?k_N ?a_K ?l_K ?e_K ?k_K ?a_R ?l_R ?e_R ?k_R ?a_Y ?l_Y ?e_Y ?k_Y ?a_Z ?l_Z ?e_Z ?k_Z ?a_G ?l_G ?e_G ?k_G ?a_L ?l_L ?e_L ?k_L ?z_list ?z_tuple ?z_range ?z_isinstance ?z_repr ?z_str ?z_Exception ?z_ValueError ?z_LookupError ?z_ArithmeticError ?z_TypeError ?z_AttributeError ?z_RuntimeError ?dist
    (case zS => k_is)
    (case zSb => k_is)
    (case zSd => k_is)
    (case zSt => k_is)
    (case zgt => k_is)
    (case ztk => k_is)
    (case a0 => k_is)
    (case x0 => k_is)
    (case g0 => k_is)
    (case h0 => k_is)
    (case o0 => k_is)
    (case k0 => k_is)
    (case x0x => k_exc)
    (case a1 => k_is)
    (case x1 => k_is)
    (case g1 => k_is)
    (case h1 => k_is)
    (case o1 => k_is)
    (case k1 => k_is)
    (case s1 => k_is)
    (case n1 => k_is)
    (case j1 => k_is)
    (case t1 => k_is)
    (case l1 => k_is)
    (case e1 => k_is)
    (case a2 => k_is)
    (case x2 => k_is)
    (case g2 => k_is)
    (case h2 => k_is)
    (case o2 => k_is)
    (case k2 => k_is)
    (case s2 => k_is)
    (case n2 => k_is)
    (case j2 => k_is)
    (case t2 => k_is)
    (case l2 => k_is)
    (case e2 => k_is)
    (case a3 => k_is)
    (case x3 => k_is)
    (case g3 => k_is)
    (case h3 => k_is)
    (case o3 => k_is)
    (case k3 => k_is)
    (case s3 => k_is)
    (case n3 => k_is)
    (case j3 => k_is)
    (case t3 => k_is)
    (case l3 => k_is)
    (case e3 => k_is)
    (case a4 => k_is)
    (case x4 => k_is)
    (case g4 => k_is)
    (case h4 => k_is)
    (case o4 => k_is)
    (case k4 => k_is)
    (case s4 => k_is)
    (case n4 => k_is)
    (case j4 => k_is)
    (case t4 => k_is)
    (case l4 => k_is)
    (case e4 => k_is)
    (case a5 => k_is)
    (case x5 => k_is)
    (case g5 => k_is)
    (case h5 => k_is)
    (case o5 => k_is)
    (case k5 => k_is)
    (case s5 => k_is)
    (case n5 => k_is)
    (case j5 => k_is)
    (case t5 => k_is)
    (case l5 => k_is)
    (case e5 => k_is)
    (case a6 => k_is)
    (case x6 => k_is)
    (case g6 => k_is)
    (case h6 => k_is)
    (case o6 => k_is)
    (case k6 => k_is)
    (case s6 => k_is)
    (case n6 => k_is)
    (case j6 => k_is)
    (case t6 => k_is)
    (case l6 => k_is)
    (case e6 => k_is)
    (case a7 => k_is)
    (case x7 => k_is)
    (case g7 => k_is)
    (case h7 => k_is)
    (case o7 => k_is)
    (case k7 => k_is)
    (case s7 => k_is)
    (case n7 => k_is)
    (case j7 => k_is)
    (case t7 => k_is)
    (case l7 => k_is)
    (case e7 => k_is)
    (case a8 => k_is)
    (case x8 => k_is)
    (case g8 => k_is)
    (case h8 => k_is)
    (case o8 => k_is)
    (case k8 => k_is)
    (case x8x => k_exc)
    (case a9 => k_is)
    (case x9 => k_is)
    (case g9 => k_is)
    (case h9 => k_is)
    (case o9 => k_is)
    (case k9 => k_is)
    (case x9x => k_exc)
    (case a_F => k_is)
    (case l_F => k_is)
    (case e_F => k_is)
    (case k_F => k_is)
    (case a_D => k_is)
    (case l_D => k_is)
    (case e_D => k_is)
    (case k_D => k_is)
    (case a_T => k_is)
    (case l_T => k_is)
    (case e_T => k_is)
    (case k_T => k_is)
    (case a_C => k_is)
    (case l_C => k_is)
    (case e_C => k_is)
    (case k_C => k_is)
    (case a_P => k_is)
    (case l_P => k_is)
    (case e_P => k_is)
    (case k_P => k_is)
    (case a_N => k_is)
    (case l_N => k_is)
    (case e_N => k_is)
    (case k_N => k_is)
    (case a_K => k_is)
    (case l_K => k_is)
    (case e_K => k_is)
    (case k_K => k_is)
    (case a_R => k_is)
    (case l_R => k_is)
    (case e_R => k_is)
    (case k_R => k_is)
    (case a_Y => k_is)
    (case l_Y => k_is)
    (case e_Y => k_is)
    (case k_Y => k_is)
    (case a_Z => k_is)
    (case l_Z => k_is)
    (case e_Z => k_is)
    (case k_Z => k_is)
    (case a_G => k_is)
    (case l_G => k_is)
    (case e_G => k_is)
    (case k_G => k_is)
    (case a_L => k_is)
    (case l_L => k_is)
    (case e_L => k_is)
    (case k_L => k_is)
    (case z_list => k_is)
    (case z_tuple => k_is)
    (case z_range => k_is)
    (case z_isinstance => k_is)
    (case z_repr => k_is)
    (case z_str => k_is)
    (case z_Exception => k_is)
    (case z_ValueError => k_is)
    (case z_LookupError => k_is)
    (case z_ArithmeticError => k_is)
    (case z_TypeError => k_is)
    (case z_AttributeError => k_is)
    (case z_RuntimeError => k_is)
    (case dist => decide))
#print axioms PySem.Challenge.cw_mustwait_k01_errors_holds
