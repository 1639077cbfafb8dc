import PyProof.Rows.All
import Wide.All
import OpenK.AllK
import Wide.FinOn
import HandS.ForMost
import HandS.DictComp
import HandS.Walk
import HandS.More
import KE.KDictWalk
import KE.KDictCopyH
import KE.KeyNested
import PyProof.Rows.TupTab
import PyProof.DictMoreH
import HandS.TupLen
import HandS.Wide
import HandS.Style
import HandS.EndBits
import HandS.Conv
import PyProof.ReprLen
import PyProof.ReprReads
import PyProof.ReprRoads
import HandS.TupSets
import KE.KDictKeyed
import HandS.Strs
import KE.SortData
import KE.LtData
import HandS.Comp
import HandS.SetBool
import HandS.IsInst
import HandS.FStr
import HandS.Star
import HandS.ClsMeth
import HandS.Property
import HandS.Iter
import KE.GoesMore
import KE.GoesEnum
import HandS.SlotsOwn
import HandS.OwnEq
import PyProof.InstNe
import HandS.Text
import HandS.WordsExc
import HandS.HotCalls
import HandS.Words
import HandS.Nested
import HandS.SetFor
import HandS.SortInts
import HandS.SetTxt0
import HandS.Deep
import PyProof.TupleOfSeq
import PyProof.P3In
import PyProof.P3Eq
import PyProof.NeData
import HandS.DictEq
import KE.KDictZip
import HandS.ListItems
import PyProof.Rows.IntBool
import HandS.Evl
import HandS.Zip
import HandS.Call
import PyProof.Rows.TupAdd
import KE.KDictDisplayH
import HandS.Dict
import HandS.Flow
import HandS.NoneIn
import HandS.Steps
import KE.DataMinMax
import HandS.EndTab
import PySem.Challenge.RW_mustwait_k61_sorts_of_pairs
-- ===== KN1 =====
set_option Elab.async false
set_option linter.all false
set_option maxRecDepth 100000
set_option maxHeartbeats 4000000
namespace Kd
open PySem L2 PyProof.Rows PySem.Spec PySem.W
theorem paired_snocV {α β : Type} {R : α → β → Prop} {l : List α} {m : List β} {a : α} {b : β} (r : Paired R l m) (h : R a b) : Paired R (l ++ [a]) (m ++ [b]) := by
  induction r with
  | nil => exact .cons h .nil
  | cons x _ ih => exact .cons x ih
/-! ### dicts whose keys are nested tuples (of numbers, truth values, texts), their values anything -/
mutual
/-- v is the key k -/
inductive NqV (H : Hp) : V → NestedKey → Prop
  | num (i : Int) : NqV H (.int i) (.num i)
  | bool (b : Bool) : NqV H (.bl b) (.num (if b = true then 1 else 0))
  | text (x : Str) : NqV H (.str x) (.text x)
  | tup {a : Addr} {vs : List V} {ks : List NestedKey} : H a = some (.tup vs) → NqVs H vs ks → NqV H (.ref a) (.tup ks)
inductive NqVs (H : Hp) : List V → List NestedKey → Prop
  | nil : NqVs H [] []
  | cons {v : V} {vs : List V} {k : NestedKey} {ks : List NestedKey} : NqV H v k → NqVs H vs ks → NqVs H (v :: vs) (k :: ks)
end
mutual
theorem NqV.to {H H' : Hp} (s : ∀ a xs, H a = some (.tup xs) → H' a = some (.tup xs)) : ∀ {v : V} {k : NestedKey}, NqV H v k → NqV H' v k
  | _, _, .num i => .num i
  | _, _, .bool b => .bool b
  | _, _, .text x => .text x
  | _, _, .tup h1 h2 => .tup (s _ _ h1) (NqVs.to s h2)
theorem NqVs.to {H H' : Hp} (s : ∀ a xs, H a = some (.tup xs) → H' a = some (.tup xs)) : ∀ {vs : List V} {ks : List NestedKey}, NqVs H vs ks → NqVs H' vs ks
  | _, _, .nil => .nil
  | _, _, .cons h1 h2 => .cons (NqV.to s h1) (NqVs.to s h2)
end
section
variable {X : Cx} {pins : List (Addr × Obj)} {σ : L2.St} {H : Hp} {s : Shared}
mutual
theorem nq_is (I : Inv X pins σ H s) : ∀ (k : NestedKey) {v : V} {u : Value}, NqV H v k → RelV v u → NestedIs s.heap k u
  | .none, _, _, h, _ => by cases h
  | .num i, _, _, h, r => by
    cases h with
    | num i =>
      obtain ⟨t, rfl⟩ := r
      exact .int i t
    | bool b =>
      have e : _ = Value.bool b := r
      subst e
      exact .bool rfl
  | .text x, _, _, h, r => by
    cases h
    obtain ⟨t, rfl⟩ := r
    exact .text x t
  | .tup ks, _, _, h, r => by
    cases h with
    | tup h1 h2 =>
      cases r
      obtain ⟨_, its, rv, o, ho, hc, n, hd⟩ := (show ObjOk X.prog X.w H s.heap _ (.tup _) from I.hok _ _ h1)
      exact .tup ho hc hd (by simpa using nqs_are I ks h2 rv)
theorem nqs_are (I : Inv X pins σ H s) : ∀ (ks : List NestedKey) {vs : List V} {us : List Value}, NqVs H vs ks → Vals vs us → NestedAll s.heap ks us
  | [], _, _, h, r => by
    cases h
    cases r
    exact .nil
  | k :: ks, _, _, h, r => by
    cases h with
    | cons h1 h2 =>
      cases r with
      | cons r1 r2 => exact .cons (nq_is I k h1 r1) (nqs_are I ks h2 r2)
end
end
/-- a key, where its tuple stands, its value -/
abbrev VRow := NestedKey × Addr × V
def VRows (L : List VRow) (xs : List (NestedKey × Addr × Value)) : Prop := Paired (fun (p : VRow) x => p.1 = x.1 ∧ p.2.1 = x.2.1 ∧ RelV p.2.2 x.2.2) L xs
def VHeld (P : Program) (w : World) (a : Addr) (L : List VRow) (h : Heap) : Prop := ∃ (xs : List (NestedKey × Addr × Value)) (o : Obj) (es : Array DictEntry) (ep : Nat), h.get? a = some o ∧ o.ExactDict ∧ o.data = .dict es ep ∧ es.toList = xs.map (entryOfKey (nestedKind P w)) ∧ (xs.map (·.1)).Nodup ∧ VRows L xs ∧ (a == sysModules) = false ∧ L.length ≤ 1000
def VDict (P : Program) (w : World) (a : Addr) (L : List VRow) : HO := .ext (VHeld P w a L)
theorem vdict_ok {P : Program} {w : World} {H : Hp} {h : Heap} {a : Addr} {L : List VRow} (x : VHeld P w a L h) : ObjOk P w H h a (VDict P w a L) := by
  refine ⟨x, ?_, fun h1 h2 y k => ?_⟩
  · obtain ⟨_, o, _, _, ho, _⟩ := x
    exact ⟨o, ho⟩
  · obtain ⟨xs, o, es, ep, ho, r⟩ := y
    exact ⟨xs, o, es, ep, k o ho, r⟩
/-- the keys' tuples stand -/
def VKeys (H : Hp) (L : List VRow) : Prop := ∀ p ∈ L, NqV H (.ref p.2.1) p.1 ∧ p.1.depth ≤ 8
theorem VKeys.to {H H' : Hp} {L : List VRow} (s : ∀ a xs, H a = some (.tup xs) → H' a = some (.tup xs)) (k : VKeys H L) : VKeys H' L := fun p m => ⟨(k p m).1.to s, (k p m).2⟩
theorem VKeys.snoc {H : Hp} {L : List VRow} {k : NestedKey} {b : Addr} {v : V} (h : VKeys H L) (hk : NqV H (.ref b) k) (hd : k.depth ≤ 8) : VKeys H (L ++ [(k, b, v)]) := fun p m => by
  rcases List.mem_append.mp m with m | m
  · exact h p m
  · rw [List.mem_singleton.mp m]
    exact ⟨hk, hd⟩
def valW (L : List VRow) (k : NestedKey) : Option V := (L.find? fun p => decide (p.1 = k)).map (·.2.2)
theorem valW_none {L : List VRow} {k : NestedKey} : valW L k = none ↔ k ∉ L.map (·.1) := by
  unfold valW
  rw [Option.map_eq_none_iff, List.find?_eq_none]
  constructor
  · intro h m
    obtain ⟨p, hp, e⟩ := List.mem_map.mp m
    exact h p hp (decide_eq_true e)
  · intro h p hp e
    exact h (List.mem_map.mpr ⟨p, hp, of_decide_eq_true e⟩)
theorem valW_some {L : List VRow} {k : NestedKey} {v : V} (h : valW L k = some v) : ∃ b, (k, b, v) ∈ L := by
  unfold valW at h
  obtain ⟨p, hp, e⟩ := Option.map_eq_some_iff.mp h
  have h1 := List.mem_of_find?_eq_some hp
  have h2 : p.1 = k := of_decide_eq_true (by simpa using List.find?_some hp)
  exact ⟨p.2.1, by rw [← h2, ← e]; exact h1⟩
theorem valW_mem {L : List VRow} (nd : (L.map (·.1)).Nodup) {k : NestedKey} {b : Addr} {v : V} (h : (k, b, v) ∈ L) : valW L k = some v := by
  induction L with
  | nil => cases h
  | cons p L ih =>
    rw [List.map_cons, List.nodup_cons] at nd
    unfold valW
    rw [List.find?_cons]
    by_cases e : p.1 = k
    · rw [decide_eq_true e]
      rcases List.mem_cons.mp h with rfl | m
      · rfl
      · exact absurd (List.mem_map.mpr ⟨_, m, rfl⟩) (by rw [e] at nd; exact nd.1)
    · rw [decide_eq_false e]
      rcases List.mem_cons.mp h with rfl | m
      · exact absurd rfl e
      · exact ih nd.2 m
theorem valW_is {L : List VRow} {k : NestedKey} : (valW L k).isSome = decide (k ∈ L.map (·.1)) := by
  cases e : valW L k with
  | none => exact (decide_eq_false (valW_none.mp e)).symm
  | some v =>
    obtain ⟨b, m⟩ := valW_some e
    exact (decide_eq_true (List.mem_map.mpr ⟨_, m, rfl⟩)).symm
theorem rows_atV {L : List VRow} {xs : List (NestedKey × Addr × Value)} (r : VRows L xs) (k : NestedKey) : (∀ v, valW L k = some v → ∃ b u, atKey xs k = some (b, u) ∧ RelV v u) ∧ (valW L k = none → atKey xs k = none) := by
  unfold VRows at r
  induction r with
  | nil => exact ⟨fun i e => (nomatch (show (none : Option V) = some i from e)), fun _ => rfl⟩
  | @cons p x ps xs h t ih =>
    obtain ⟨h1, h2, h3⟩ := h
    unfold valW atKey at ih ⊢
    rw [List.find?_cons, List.find?_cons, ← h1]
    by_cases e : p.1 = k
    · rw [decide_eq_true e]
      refine ⟨fun i q => ?_, fun q => by cases q⟩
      have q2 : p.2.2 = i := Option.some.inj q
      exact ⟨x.2.1, x.2.2, rfl, by rw [← q2]; exact h3⟩
    · rw [decide_eq_false e]
      exact ih
section
variable {X : Cx} {pins : List (Addr × Obj)} {σ : L2.St} {H : Hp} {s : Shared}
theorem vheld_rd {a : Addr} {L : List VRow} (I : Inv X pins σ H s) (h : VHeld X.prog X.w a L s.heap) (ks : VKeys H L) : ∃ xs, s.heap.DictOfH (nestedKind X.prog X.w) a xs ∧ VRows L xs ∧ (a == sysModules) = false ∧ L.length ≤ 1000 := by
  obtain ⟨xs, o, es, ep, ho, hx, hd, he, hn, r, lo, few⟩ := h
  refine ⟨xs, ⟨o, es, ep, ho, hx, hd, he, fun x hx => ?_, hn⟩, r, lo, few⟩
  have all : ∀ {L : List VRow} {xs : List (NestedKey × Addr × Value)}, VRows L xs → VKeys H L → ∀ x ∈ xs, NestedIs s.heap x.1 (.ref x.2.1) ∧ x.1.depth ≤ 8 := by
    intro L xs r
    unfold VRows at r
    induction r with
    | nil => exact fun _ x m => nomatch m
    | @cons p y ps ys h t ih =>
      intro k x m
      rcases List.mem_cons.mp m with rfl | m
      · obtain ⟨h1, h2, _⟩ := h
        rw [← h1, ← h2]
        have q := k p List.mem_cons_self
        exact ⟨nq_is I _ q.1 rfl, q.2⟩
      · exact ih (fun q mq => k q (List.mem_cons_of_mem _ mq)) x m
  exact all r ks x hx
theorem vdict_rd {a : Addr} {L : List VRow} (I : Inv X pins σ H s) (ha : H a = some (VDict X.prog X.w a L)) (ks : VKeys H L) : ∃ xs, s.heap.DictOfH (nestedKind X.prog X.w) a xs ∧ VRows L xs ∧ (a == sysModules) = false ∧ L.length ≤ 1000 :=
  vheld_rd I (show VHeld X.prog X.w a L s.heap from (I.hok a _ ha).1) ks
theorem vheld_new {P : Program} {w : World} (h : Heap) (big : sysModules < h.objs.size) : VHeld P w h.objs.size [] (h.push { cls := .type "dict", data := .dict #[] }) :=
  ⟨[], _, #[], 0, Heap.get?_push_size _ rfl, ⟨rfl, rfl, rfl⟩, rfl, rfl, List.nodup_nil, .nil, beq_eq_false_iff_ne.mpr (Ne.symm (Nat.ne_of_lt big)), Nat.zero_le _⟩
theorem vheld_put {a b : Addr} {L : List VRow} {k : NestedKey} {v : V} {u : Value} {xs : List (NestedKey × Addr × Value)} {h' : Heap} {P : Program} {w : World} (rr : VRows L xs) (rv : RelV v u) (lo : (a == sysModules) = false) (hn : valW L k = none) (few : L.length < 1000)
    (D2 : h'.DictOfH (nestedKind P w) a (storedH xs k b u)) : VHeld P w a (L ++ [(k, b, v)]) h' := by
  rw [storedH_new ((rows_atV rr k).2 hn)] at D2
  obtain ⟨o2, es, ep, g1, g2, g3, g4, _, g5⟩ := D2
  refine ⟨xs ++ [(k, b, u)], o2, es, ep, g1, g2, g3, g4, g5, ?_, lo, by rw [List.length_append]; exact few⟩
  exact paired_snocV rr ⟨rfl, rfl, rv⟩
end
/-- {}, to be such a dict -/
def tDNewV (P : Program) (w : World) : TE := fun _ H Q => ∀ p, H p = none → Q (.ref p) (upd H p (VDict P w p []))
/-- k in d -/
def rInV (P : Program) (w : World) : R2 := fun x y H Q => ∃ b a k L, x = .ref b ∧ y = .ref a ∧ NqV H (.ref b) k ∧ k.depth ≤ 8 ∧ H a = some (VDict P w a L) ∧ VKeys H L ∧ Q (.bl (valW L k).isSome) H
/-- d[k] -/
def tGetV (P : Program) (w : World) (td ty : TE) : TE := fun σ H Q => td σ H fun x H1 => ty σ H1 fun y H2 => ∃ a b k L v, x = .ref a ∧ y = .ref b ∧ NqV H2 (.ref b) k ∧ k.depth ≤ 8 ∧ H2 a = some (VDict P w a L) ∧ VKeys H2 L ∧ valW L k = some v ∧ Q v H2
/-- d[k] = v, the key being new there -/
def sPutV (P : Program) (w : World) (td ty tv : TE) : TS := fun D σ H => tv σ H fun v H1 => td σ H1 fun x H2 => ty σ H2 fun y H3 => ∃ a b k L, x = .ref a ∧ y = .ref b ∧ NqV H3 (.ref b) k ∧ k.depth ≤ 8 ∧ H3 a = some (VDict P w a L) ∧ VKeys H3 L ∧ valW L k = none ∧ L.length < 1000 ∧
  D.nx σ (upd H3 a (VDict P w a (L ++ [(k, b, v)])))
/-- d.setdefault(k, x) -/
def tSetdV (P : Program) (w : World) (td ty tx : TE) : TE := fun σ H Q => td σ H fun x H1 => ∃ a L0, x = .ref a ∧ H1 a = some (VDict P w a L0) ∧ ty σ H1 fun y H2 => tx σ H2 fun z H3 => ∃ b k L, y = .ref b ∧ NqV H3 (.ref b) k ∧ k.depth ≤ 8 ∧ H3 a = some (VDict P w a L) ∧ VKeys H3 L ∧ L.length < 1000 ∧
  (∀ v, valW L k = some v → Q v H3) ∧ (valW L k = none → Q z (upd H3 a (VDict P w a (L ++ [(k, b, z)]))))
section
variable {X : Cx} {o i e f value : Expr} {pos pos' apos cpos : Pos} {td ty tv tx : TE}
theorem pe_dnewV : PE X (.Dict [] [] pos) (tDNewV X.prog X.w) := ⟨fun pins s σ H Q I h =>
  wpAny_Dict_empty ⟨.ref s.heap.objs.size, _, I.laid (a := s.heap.objs.size) (t' := s.toks) (fun _ _ q => Heap.get?_push_of_some _ q) (Nat.le_refl _)
    (vdict_ok (vheld_new s.heap I.big)), rfl, h _ (I.hok.fresh (Nat.le_refl _))⟩⟩
theorem roomV {X : Cx} (hu : X.A.units + 64 < cLine) : (nestedKind X.prog X.w).room X.A.in1 := (show X.A.in1.units + 8 < cLine by simp only [Around.in1]; omega)
theorem op_inV (hu : X.A.units + 64 < cLine) : OpR X (compareOp .In) (rInV X.prog X.w) := by
  intro pins s σ H x y v u Q I rx ry h
  obtain ⟨b, a, k, L, rfl, rfl, hk, hd, ha, ks, q⟩ := h
  cases (show v = Value.ref b from rx)
  cases (show u = Value.ref a from ry)
  obtain ⟨xs, D, r, lo, few⟩ := vdict_rd I ha ks
  refine wpAny_in_heap (roomV hu) ⟨nq_is I k hk rfl, hd⟩ lo D ⟨.bl (valW L k).isSome, H, I.tok _, ?_, q⟩
  have z := rows_atV r k
  cases e : valW L k with
  | none => rw [z.2 e]; rfl
  | some i =>
    obtain ⟨c, t, q, _⟩ := z.1 i e
    rw [q]
    rfl
theorem pe_getV (hu : X.A.units + 64 < cLine) (ho : PE X o td) (hi : PE X i ty) (hs : NoSl i) : PE X (.Subscript o i pos) (tGetV X.prog X.w td ty) := by
  refine ⟨fun pins s σ H Q I h => ?_⟩
  refine subD_of PySem.F.slot_dict_getitem.lookup hs (thn (ho.run pins s σ H _ I h) fun u s1 ⟨x, H1, I1, rx, q1⟩ => thn (hi.run pins s1 σ H1 _ I1 q1) fun iv s2 ⟨y, H2, I2, ry, a, b, k, L, j, ex, ey, hk, hd, ha, ks, hv, q2⟩ => ?_)
  subst ex ey
  obtain rfl : u = Value.ref a := rx
  obtain rfl : iv = Value.ref b := ry
  obtain ⟨xs, D, r, lo, few⟩ := vdict_rd I2 ha ks
  obtain ⟨c, t, q, rv⟩ := (rows_atV r k).1 j hv
  exact ⟨D.typeIs, wpAny_getItem_heap (roomV hu) ⟨nq_is I2 k hk rfl, hd⟩ D q ⟨j, H2, I2.tok _, rv, q2⟩⟩
theorem ps_putV (hu : X.A.units + 64 < cLine) (ho : PE X o td) (hi : PE X i ty) (hv : PE X value tv) (hs : swapsWith value (some (.Subscript o i pos')) pos.line X.env = pure false) :
    PS X (.Assign [.Subscript o i pos'] value pos) (sPutV X.prog X.w td ty tv) := by
  refine ⟨fun pins s σ H D I h => ?_⟩
  refine wpAny_Assign_Subscript (thn (hv.run pins s σ H _ I h) fun r s1 ⟨v, H1, I1, rv, q1⟩ => thn (ho.run pins s1 σ H1 _ I1 q1) fun u s2 ⟨x, H2, I2, rx, q2⟩ => thn (hi.run pins s2 σ H2 _ I2 q2) fun iv s3 ⟨y, H3, I3, ry, a, b, k, L, ex, ey, hk, hd, ha, ks, hn, few, q3⟩ => ?_) hs
  subst ex ey
  obtain rfl : u = Value.ref a := rx
  obtain rfl : iv = Value.ref b := ry
  obtain ⟨xs, Dd, rr, lo, _⟩ := vdict_rd I3 ha ks
  have lx : L.length = xs.length := Paired.length rr
  have big := sizeLine_eq
  refine wpAny_setItem_heap (hsz := by omega) (roomV hu) ⟨nq_is I3 k hk rfl, hd⟩ Dd fun h' D2 sb => ?_
  have VH := vheld_put rr rv lo hn few D2
  obtain ⟨_, o2, _, _, g1, _⟩ := id VH
  exact ⟨σ, _, d_write I3 (by rw [ha]; exact True.intro) sb ⟨o2, g1⟩ (vdict_ok VH), q3⟩
theorem pe_setdV (hu : X.A.units + 64 < cLine) (ho : PE X o td) (he : PE X e ty) (hf : PE X f tx) (m : M2 X o "setdefault" apos e f cpos) : PE X (.Call (.Attribute o "setdefault" apos) [e, f] [] cpos) (tSetdV X.prog X.w td ty tx) := by
  refine ⟨fun pins s σ H Q I h => ?_⟩
  refine wpAny_Call_method m.base m.few m.line PySem.F.plainAttrs_dict PySem.F.slot_dict_setdefault PySem.F.type_dict_setdefault (thn (ho.run pins s σ H _ I h) fun u s1 ⟨x, H1, I1, rx, a, L0, ex, d, q1⟩ => ?_)
  subst ex
  obtain rfl : u = Value.ref a := rx
  obtain ⟨_, o1, _, _, ho1, hx1, _⟩ := (show VHeld X.prog X.w a L0 s1.heap from (I1.hok a _ d).1)
  refine ⟨⟨o1, ho1, hx1.1⟩, (fun b z => by cases z; exact ⟨o1, ho1, hx1.2.1⟩), ?_⟩
  rw [m.trees]
  refine Calls.callWith_builtin rfl (Calls.evalArgs_plain (Calls.spliced_cons (thn (he.run pins s1 σ H1 _ I1 q1) fun iv s2 ⟨y, H2, I2, ry, q2⟩ =>
    Calls.spliced_cons (thn (hf.run pins s2 σ H2 _ I2 q2) fun fv s3 ⟨z, H3, I3, rz, b, k, L, ey, hk, hd, ha, ks, few, q3, q4⟩ => Calls.spliced_nil ?_))))
  subst ey
  obtain rfl : iv = Value.ref b := ry
  obtain ⟨xs, Dd, rr, lo, _⟩ := vdict_rd I3 ha ks
  have lx : L.length = xs.length := Paired.length rr
  have big := sizeLine_eq
  refine call_setdefault_heap (hsz := by omega) (roomV hu) ⟨nq_is I3 k hk rfl, hd⟩ lo Dd (fun p hp => ?_) fun hn h' D2 sb => ?_
  · cases ev : valW L k with
    | none => rw [(rows_atV rr k).2 ev] at hp; cases hp
    | some v =>
      obtain ⟨c, t, q, rv⟩ := (rows_atV rr k).1 v ev
      rw [q] at hp
      cases hp
      exact ⟨v, H3, I3.tok _, rv, q3 v ev⟩
  · have ev : valW L k = none := by
      cases ev : valW L k with
      | none => rfl
      | some v =>
        obtain ⟨c, t, q, rv⟩ := (rows_atV rr k).1 v ev
        rw [q] at hn
        cases hn
    have VH := vheld_put rr rz lo ev few D2
    obtain ⟨_, o2, _, _, g1, _⟩ := id VH
    exact ⟨z, _, d_write I3 (by rw [ha]; exact True.intro) sb ⟨o2, g1⟩ (vdict_ok VH), rz, q4 ev⟩
end
/-! ### its values, walked -/
section
variable {X : Cx} {pins : List (Addr × Obj)} {σ : L2.St} {H : Hp} {s : Shared} {d : Addr} {o : Obj}
theorem frz_valsV {P : Program} {w : World} {kvs : List VRow} (I : Inv X pins σ H s) (h : H d = some (.frz o (VDict P w d kvs))) :
    s.heap.get? d = some o ∧ o.ExactDict ∧ (d == sysModules) = false ∧ ∃ (es : Array DictEntry) (ep : Nat), o.data = .dict es ep ∧ es.size = kvs.length ∧ ∀ (i : Nat) (p : VRow), kvs[i]? = some p → ∃ en : DictEntry, es[i]? = some en ∧ RelV p.2.2 en.val := by
  obtain ⟨hd, hv, _⟩ := I.hok d _ h
  obtain ⟨xs, o', es, ep, ho, hx, hdt, he, _, pr, lo, _⟩ := (show VHeld P w d kvs s.heap from hv)
  rw [hd] at ho
  cases ho
  refine ⟨hd, hx, lo, es, ep, hdt, ?_, fun i p e => ?_⟩
  · have l1 : es.size = xs.length := size_of_entries he
    have l2 : kvs.length = xs.length := Paired.length pr
    omega
  · obtain ⟨b, hb, _, _, e3⟩ := paired_get pr e
    have q := entry_at he i
    rw [hb] at q
    exact ⟨_, q, e3⟩
end
/-- the values, in their order -/
def ItdV (P : Program) (w : World) (d : Addr) (o : Obj) (kvs : List VRow) : It :=
  ⟨fun i H => H d = some (.frz o (VDict P w d kvs)) ∧ i < kvs.length, fun i H x H' => H' = H ∧ ∃ p, kvs[i]? = some p ∧ x = p.2.2, fun i H => H d = some (.frz o (VDict P w d kvs)) ∧ kvs.length = i⟩
theorem turn_valsV {P : Program} {w : World} {K : Frag} {tg : Expr} {d : Addr} {o : Obj} {es : Array DictEntry} {ep : Nat} {kvs : List VRow} (it : Addr) (ni : d ≠ it) (hod : o.data = .dict es ep) (hz : es.size = kvs.length) :
    Turn P w K tg (ItdV P w d o kvs) [it] it (fun i h => h.IsValIter it d i es.size ep) where
  mem := by simp
  obj := fun i h st b hb => by
    have e : b = it := by simpa using hb
    subst e
    obtain ⟨oi, e, _, dd⟩ := st
    exact ⟨oi, e, fun v z => by rw [dd] at z; cases z⟩
  keep := fun i h h' st k => st.at fun oi e => k it (by simp) oi e
  item := by
    intro X hP hw hK hc i pins s σ H E I hf st hg
    subst hP hw hK
    obtain ⟨hd, hi⟩ := hg
    obtain ⟨f0, f1, f2, f3, f4, f5⟩ := hf it (by simp)
    obtain ⟨hgd, hx, lo, es', ep', hdt, hsz, ent⟩ := frz_valsV I hd
    obtain ⟨rfl, rfl⟩ := dict_ep hod hdt
    obtain ⟨p, hkv⟩ : ∃ p, kvs[i]? = some p := ⟨kvs[i], List.getElem?_eq_getElem hi⟩
    obtain ⟨en, hen, rv⟩ := ent i p hkv
    have W := Walks.rawValues (prog := X.prog) (w := X.w) (I.ok.hd hc) it d ni es' ep'
    refine W.item i s _ _ (by omega) ⟨st, o, hgd, hx, hdt⟩ fun u h' tk hu st' kk => ?_
    obtain ⟨lt, rfl⟩ := hu
    have eu : en = es'[i] := by
      rw [Array.getElem?_eq_getElem lt] at hen
      exact (Option.some.inj hen).symm
    subst eu
    have I1 : Inv X pins σ H { s with heap := h', toks := tk } := I.turned (fun b o hb e => kk b o (by simpa using hb) e) f0 f1 f3 f4 f5
    obtain ⟨oi, e, c, dd⟩ := id st'.1
    exact ⟨_, rfl, go_of (s := { s with heap := h', toks := tk }) e c dd (by decide) ⟨p.2.2, H, I1, rv, ⟨rfl, p, hkv, rfl⟩, st'.1, fun b hb => (hf b hb).1⟩⟩
  done := by
    intro X hP hw hK hc i pins s σ H E I hf st hg
    subst hP hw hK
    obtain ⟨hd, hi⟩ := hg
    obtain ⟨f0, f1, f2, f3, f4, f5⟩ := hf it (by simp)
    obtain ⟨hgd, hx, lo, es', ep', hdt, hsz, ent⟩ := frz_valsV I hd
    obtain ⟨rfl, rfl⟩ := dict_ep hod hdt
    have W := Walks.rawValues (prog := X.prog) (w := X.w) (I.ok.hd hc) it d ni es' ep'
    have e : i = es'.size := by omega
    subst e
    exact W.done s _ _ ⟨st, o, hgd, hx, hdt⟩ fun h' tk eb => ⟨rfl, I.turned (fun b o hb q => eb b o (by simpa using hb) q) f0 f1 f3 f4 f5⟩
  self := fun A i s Q E st h => wpAny_pyIter_valiter st h
/-- the dict is locked (tLock, or by the caller) -/
def iValsV (P : Program) (w : World) (td : TE) : TI := fun σ H R => td σ H fun x H1 => ∃ d o kvs, x = .ref d ∧ H1 d = some (.frz o (VDict P w d kvs)) ∧ R (ItdV P w d o kvs) H1
theorem walk_valsV {P : Program} {w : World} {d : Addr} {o : Obj} {kvs : List VRow} : Walk (ItdV P w d o kvs) kvs.length (fun H => H d = some (.frz o (VDict P w d kvs))) (fun i H x H' => H' = H ∧ ∃ p, kvs[i]? = some p ∧ x = p.2.2) :=
  ⟨fun _ _ hi q => ⟨q, hi⟩, fun _ q => ⟨q, rfl⟩, fun _ _ _ _ _ _ y => y⟩
section
variable {X : Cx} {tg e : Expr} {td : TE} {apos cpos : Pos}
theorem pi_valuesV (he : PE X e td) (hbase : attributeBase e "values" X.env (eval e X.env) = eval e X.env := by rfl) (hline : (apos.endLine == cpos.line) = true := by rfl) : PI X tg (.Call (.Attribute e "values" apos) [] [] cpos) (iValsV X.prog X.w td) := by
  refine ⟨fun pins s σ H R I h => ?_⟩
  refine wpAny_Call_method (T := "dict") (id := "dict.values") hbase rfl hline F.plainAttrs_dict F.slot_dict_values F.type_dict_values (thn (he.run pins s σ H _ I h) fun u s1 ⟨x, H1, I1, rx, d, o, kvs, ex, hd, q⟩ => ?_)
  subst ex
  obtain rfl : u = Value.ref d := rx
  obtain ⟨hgd, hx, lo, es, ep, hdt, hsz, ent⟩ := frz_valsV I1 hd
  have raw : s1.heap.DictRaw d es ep := ⟨o, hgd, hx, hdt⟩
  have ty : s1.TypeIs (.ref d) "dict" := ⟨o, hgd, hx.1⟩
  refine ⟨ty, (fun b z => by cases z; exact ⟨o, hgd, hx.2.1⟩), ?_⟩
  have I2 : Inv X pins σ H1 { s1 with heap := s1.heap.push { cls := .type "dict_values", data := .fields #[.ref d] } } := I1.kept (t' := s1.toks) fun b ob z => Heap.get?_push_of_some _ z
  have lt : d < s1.heap.objs.size := Heap.lt_size hgd
  have fin : wpAny (model X.prog X.w) X.A (pyIter (.ref s1.heap.objs.size)) (PIE X pins σ tg R) X.xe { s1 with heap := s1.heap.push { cls := .type "dict_values", data := .fields #[.ref d] } } := by
    refine wpAny_pyIter_values_raw (d := d) ⟨_, Heap.get?_push_size _ rfl, rfl, rfl⟩ (raw.push _) (pi_one (tk := s1.toks) I2 _ (turn_valsV _ (Nat.ne_of_lt (by show d < (s1.heap.push _).objs.size; rw [Heap.size_push]; exact Nat.lt_succ_of_lt lt)) hdt hsz) ⟨_, Heap.get?_push_size _ rfl, rfl, rfl⟩ q)
  show wpAny _ _ (callWith cpos (.builtin "dict.values") [.ref d] [] []) _ X.xe s1
  exact method_meetsIn F.slot_dict_values F.entry_dict_values rfl (PySem.evalArgs_none ⟨rfl, ty, F.args_dict_values_1 _, _, meets_dict_values_raw d lo, ⟨es, ep, raw⟩, fin⟩)
end
end Kd

-- ===== K61A =====
set_option Elab.async false
set_option linter.all false
set_option maxRecDepth 100000
set_option maxHeartbeats 4000000
namespace My
open PySem L2
def top (i : Nat) : Stmt := PySem.Challenge.pw_mustwait_k61_sorts_of_pairs.main.body.getD i (.Pass ⟨0, 0, 0, 0⟩)
abbrev sDeck : Stmt := top 58
abbrev sDraw : Stmt := top 59

/-- bits of the script's numbers -/
def Bits (ks : List Int) : Prop := ∀ k ∈ ks, Builtin.Int.intBits k ≤ 1048576
/-- the deck's dict -/
abbrev kCells : Key := Sum.inr (Str.ofString "cells")
abbrev kTotal : Key := Sum.inr (Str.ofString "total")
abbrev kDraws : Key := Sum.inr (Str.ofString "draws")
theorem k_ct : ¬ kCells = kTotal := by decide
theorem k_cd : ¬ kCells = kDraws := by decide
theorem k_td : ¬ kTotal = kDraws := by decide
def dkOf (c : Addr) (w n : Int) : List (Key × V) := [(kCells, .ref c), (kTotal, .int w), (kDraws, .int n)]
theorem dk_cells (c : Addr) (w n : Int) : valV (dkOf c w n) kCells = some (.ref c) := by
  unfold dkOf
  rw [valV_pos rfl]
theorem dk_total (c : Addr) (w n : Int) : valV (dkOf c w n) kTotal = some (.int w) := by
  unfold dkOf
  rw [valV_neg k_ct, valV_pos rfl]
theorem dk_draws (c : Addr) (w n : Int) : valV (dkOf c w n) kDraws = some (.int n) := by
  unfold dkOf
  rw [valV_neg k_cd, valV_neg k_td, valV_pos rfl]
theorem dk_put (c : Addr) (w n m : Int) : putK (dkOf c w n) kDraws (.int m) = dkOf c w m := by
  have h1 := k_cd
  have h2 := k_td
  unfold dkOf putK
  simp [h1, h2]
theorem dk_merge (c : Addr) (w n : Int) : mergeK [] (dkOf c w n) = dkOf c w n := by
  have h1 := k_cd
  have h2 := k_td
  have h3 := k_ct
  unfold dkOf mergeK putK
  simp [h1, h2, h3]
theorem dk_len (c : Addr) (w n : Int) : (dkOf c w n).length = 3 := rfl
theorem dk_get {H : Hp} {p c : Addr} {w n : Int} {k : Key} {v : V} (h : H p = some (.dK (dkOf c w n))) (e : valV (dkOf c w n) k = some v) : DGet H p (kV k) (some v) := by
  rw [← e]
  exact DGet.k h
/-- a deck at p: its numbers at c, the mixed number, how many draws there were -/
structure FeedAt (H : Hp) (p c : Addr) (ks : List Int) (w n : Int) : Prop where
  ob : H p = some (.dK (dkOf c w n))
  cs : H c = some (.lst (ks.map V.int))
  bits : Bits ks
  len : ks.length ≤ 63
  w0 : 0 ≤ w
  w1 : w < 2147483648
  n0 : 0 ≤ n
theorem FeedAt.ne {H : Hp} {p c : Addr} {ks : List Int} {w n : Int} (F : FeedAt H p c ks w n) : c ≠ p := by
  intro e
  have h1 := F.ob
  have h2 := F.cs
  rw [e, h1] at h2
  cases h2
/-- all that was tracked is as it was, but for these two -/
def Save (p c : Addr) (H H' : Hp) : Prop := ∀ b o, H b = some o → b ≠ p → b ≠ c → H' b = some o
theorem Save.refl (p c : Addr) (H : Hp) : Save p c H H := fun _ _ h _ _ => h
theorem Save.trans {p c : Addr} {H H1 H2 : Hp} (a : Save p c H H1) (b : Save p c H1 H2) : Save p c H H2 := fun x o h h1 h2 => b x o (a x o h h1 h2) h1 h2
theorem Save.of {p c : Addr} {H H1 : Hp} (a : Same H H1) : Save p c H H1 := fun x o h _ _ => a x o h

/-- _law_deck(script): a new deck -/
def spFeed (K : PySem.W.Frag) : Sp := fun vs H Q _ => ∃ (a : Addr) (ns : List Int), vs = [.ref a] ∧ SqL K H a (ns.map V.int) ∧ ns.length ≤ 63 ∧ Bits ns ∧
  ∀ (p c : Addr) (ks : List Int) (w : Int) (H' : Hp), Same H H' → H p = none → H c = none → FeedAt H' p c ks w 0 → Q (.ref p) H'
/-- _law_draw(deck, many): a number below many -/
def spDigit : Sp := fun vs H Q _ => ∃ (p c : Addr) (ks : List Int) (w n m : Int), vs = [.ref p, .int m] ∧ FeedAt H p c ks w n ∧ n < 1000000 ∧ 0 < m ∧ m < 1000000 ∧
  ∀ (i : Int) (ks' : List Int) (H' : Hp), 0 ≤ i → i < m → FeedAt H' p c ks' w (n + 1) → Save p c H H' → Q (.int i) H'

theorem cut63 (xs : List V) : cutV xs none (some (63 : Int)) = xs.take 63 := by
  unfold cutV HT.sIx
  simp [List.take_eq_take_min]
theorem lay_ints : ∀ ks : List Int, PyData.canLayAll0 (ks.map PyData.int) = true
  | [] => by simp only [List.map_nil, PyData.canLayAll0]
  | k :: r => by simp only [List.map_cons, PyData.canLayAll0, PyData.canLay0, lay_ints r, Bool.and_self]
theorem deep_ints : ∀ ks : List Int, PyData.depthAll (ks.map PyData.int) ≤ 1
  | [] => by simp only [List.map_nil, PyData.depthAll]; omega
  | k :: r => by
    have ih := deep_ints r
    simp only [List.map_cons, PyData.depthAll, PyData.depth]
    omega
theorem shaped_ints (ks : List Int) : SeqAt.shaped (.list (ks.map PyData.int)) = true := by
  have h := deep_ints ks
  unfold SeqAt.shaped
  rw [Bool.and_eq_true]
  refine ⟨by simp only [PyData.canLay0, lay_ints], decide_eq_true ?_⟩
  simp only [PyData.depth]
  omega
theorem dp_ints {K : PySem.W.Frag} {H : Hp} : ∀ ks : List Int, DpAll K H (ks.map V.int) (ks.map PyData.int)
  | [] => .nil
  | k :: r => .cons (.int k) (dp_ints r)
theorem some_ints : ∀ (ks : List Int) (z : Int), PyData.eqv (.list ((ks ++ [z]).map PyData.int)) (.list []) = false
  | [], z => by simp [PyData.eqv, PyData.eqvAll]
  | k :: r, z => by simp [PyData.eqv, PyData.eqvAll]
theorem bits_mono {i j : Int} (h0 : 0 ≤ i) (h : i ≤ j) : Builtin.Int.intBits i ≤ Builtin.Int.intBits j := by
  unfold Builtin.Int.intBits
  by_cases e : i = 0
  · subst e
    simp
  · have ej : ¬ j = 0 := by omega
    have e1 : (i == 0) = false := by simpa using e
    have e2 : (j == 0) = false := by simpa using ej
    rw [e1, e2]
    have h2 : i.natAbs ≤ j.natAbs := by omega
    have h3 : i.natAbs ≠ 0 := by omega
    have h4 : j.natAbs ≠ 0 := by omega
    have := (Nat.le_log2 h4).mpr (Nat.le_trans (Nat.log2_self_le h3) h2)
    simp
    exact this
section
variable {P : Program} {w : World} {K : PySem.W.Frag} {mg : Str → Option Value} {base : Heap}
theorem scF : FnScope ["_law_script", "_law_cells", "_law_total", "_law_chunk"] ["_law_script"] (defScope sDeck) := ⟨rfl, rfl, rfl, by decide +kernel, rfl, by decide +kernel, by decide +kernel⟩
theorem ok_feed {f : Addr} {fd : FuncData} (F : Fun K "_law_deck" "_law_deck" sDeck f fd) (mlist : mg "list" = none) : FnOk P w K mg base CX0 1 f fd ["_law_script"] (spFeed K) := by
  refine F.ok scF (fun vs H Q E h => ?_) (fun cdv A outer s H vs Q E hr h => ?_)
  · obtain ⟨a, ns, rfl, _⟩ := h
    rfl
  · obtain ⟨a, ns, rfl, hS, hlen, hbits, k⟩ := h
    refine ⟨_, pss_cons (ps_par (i := 1) (j := 2) rfl scF.nd rfl rfl (by decide) rfl rfl
        (pa_cons (pe_callTy call_list_of (by rfl) mlist (by decide +kernel) (pa_cons (pe_slice sl_list (pv 0) po_none (po_some pe_int)) pa_nil)) (pa_cons pe_int pa_nil)) (by rfl))
      (pss_cons (ps_for PassesOwn.never rfl (pi_list (pv 1)) (pg_name (i := 3) scF.nd rfl (Or.inl rfl))
        (pss_one (ps_set (i := 2) scF.nd rfl (Or.inl rfl)
          (pe_op op_mod (pe_op op_add (pe_op op_add (pe_op op_mul (pv 2) pe_int) (pe_op op_mod (pv 3) pe_int)) pe_int) pe_int))))
      (pss_one (ps_ret (pe_disp (pps_cons pe_str (pe_revL (pv 1)) (pps_cons pe_str (pv 2) (pps_cons pe_str pe_int pps_nil))) (by rfl) (by rfl) (fun z => by cases z) (by decide))))), ?_⟩
    -- list(script[:63]), 82061
    refine ⟨_, rfl, 63, rfl, a, _, rfl, hS, fun q hq => ⟨q, _, rfl, .inl (SqL.of upd_same), fun l hl => ⟨_, _, rfl, ?_⟩⟩⟩
    have nlq : l ≠ q := fun e => by
      rw [e, upd_same] at hl
      cases hl
    have hl0 : H l = none := by
      rw [upd_ne nlq] at hl
      exact hl
    have s0 : Same H (upd (upd H q (.lst (cutV (ns.map V.int) none (some 63)))) l (.lst (cutV (ns.map V.int) none (some 63)))) := fun b o e => by
      rw [upd_ne (ne_of_none e hl0), upd_ne (ne_of_none e hq)]
      exact e
    have ecut : cutV (ns.map V.int) none (some 63) = (ns.take 63).map V.int := by rw [cut63, List.map_take]
    refine ⟨_, rfl, l, rfl, ⟨_, SqL.of upd_same⟩, for_list (K := K) (a := l) (xs := (ns.take 63).map V.int) (fun i σ H2 => ∃ (y : Int) (v : Option V), σ = [some (.ref a), some (.ref l), some (.int y), v] ∧ 0 ≤ y ∧ y < 2147483587 ∧ Same H H2 ∧ H2 l = some (.lst ((ns.take 63).map V.int)))
      ⟨82061, none, rfl, by decide, by decide, s0, by rw [upd_same, ecut]⟩ (fun i σ H2 _ ⟨_, _, _, _, _, _, e⟩ => SqL.of e) ?_ ?_⟩
    · rintro i x σ H2 hi ⟨y, v, rfl, y0, y1, s2, hc⟩
      obtain ⟨z, rfl⟩ : ∃ z, x = V.int z := by
        rw [List.getElem?_map] at hi
        cases e : (ns.take 63)[i]? with
        | none =>
          rw [e] at hi
          cases hi
        | some z =>
          rw [e] at hi
          exact ⟨z, (Option.some.inj hi).symm⟩
      refine ⟨_, rfl, _, _, rfl, rfl, .inl ⟨by omega, by omega⟩, _, rfl, _, _, rfl, rfl, (by show (0 : Int) < _; decide), _, _, rfl, rfl, _, _, rfl, rfl, _, _, rfl, rfl, (by show (0 : Int) < _; decide), ?_⟩
      exact ⟨_, _, rfl, Int.emod_nonneg _ (by decide), Int.emod_lt_of_pos _ (by decide), s2, hc⟩
    · rintro σ H2 ⟨y, v, rfl, y0, y1, s2, hc⟩
      intro p hp
      have npl : l ≠ p := ne_of_none hc hp
      refine ⟨_, rfl, l, _, rfl, SqL.of (by rw [upd_ne npl]; exact hc), fun c hcn => ⟨_, rfl, ?_⟩⟩
      have npc : p ≠ c := fun e => by
        rw [← e, upd_same] at hcn
        cases hcn
      have hc0 : H2 c = none := by
        rw [upd_ne (Ne.symm npc)] at hcn
        exact hcn
      refine ⟨by rw [upd_ne npc]; exact upd_same, dkOf c y 0, rfl, by rw [dk_len]; decide, ?_⟩
      rw [dk_merge]
      refine k p c (ns.take 63).reverse y _ (fun b o e => ?_) (s2.free hp) (s2.free hc0) ⟨upd_same, ?_, ?_, ?_, y0, by omega, by decide⟩
      · rw [upd_ne (ne_of_none (s2 b o e) hp), upd_ne (ne_of_none (s2 b o e) hc0), upd_ne (ne_of_none (s2 b o e) hp)]
        exact s2 b o e
      · rw [upd_ne (Ne.symm npc), upd_same, List.map_reverse]
      · exact fun z hz => hbits z (List.mem_of_mem_take (List.mem_reverse.mp hz))
      · rw [List.length_reverse, List.length_take]
        omega
theorem scD : FnScope ["_law_deck_here", "_law_many", "_law_turn", "_law_chunk", "_law_mixed"] ["_law_deck_here", "_law_many"] (defScope sDraw) := ⟨rfl, rfl, rfl, by decide +kernel, rfl, by decide +kernel, by decide +kernel⟩
theorem draw_end {z t : Int} (t0 : 0 ≤ t) (t1 : t < 1000001) : -(2 ^ 64 : Int) < z % 2147483629 + 61379 * t * t + 83 ∧ z % 2147483629 + 61379 * t * t + 83 < 2 ^ 64 := by
  have b0 := Int.emod_nonneg z (show (2147483629 : Int) ≠ 0 by decide)
  have b1 := Int.emod_lt_of_pos z (show (0 : Int) < 2147483629 by decide)
  have h1 : 0 ≤ 61379 * t * t := Int.mul_nonneg (by omega) t0
  have h2 : 61379 * t * t ≤ 61379 * 1000001 * 1000001 := Int.mul_le_mul (by omega) (by omega) t0 (by omega)
  constructor <;> omega
theorem ok_digit {f : Addr} {fd : FuncData} (F : Fun K "_law_draw" "_law_draw" sDraw f fd) : FnOk P w K mg base CX0 1 f fd ["_law_deck_here", "_law_many"] spDigit := by
  refine F.ok scD (fun vs H Q E h => ?_) (fun cdv A outer s H vs Q E hr h => ?_)
  · obtain ⟨p, c, ks, y, n, m, rfl, _⟩ := h
    rfl
  · obtain ⟨p, c, ks, y, n, m, rfl, FA, hn, m0, m1, k⟩ := h
    have hu := hu_of hr
    have ncp := FA.ne
    have w0 := FA.w0
    have w1 := FA.w1
    have n0 := FA.n0
    refine ⟨_, pss_cons (ps_par (i := 2) (j := 3) rfl scD.nd rfl rfl (by decide) rfl rfl (pa_cons (pe_op op_add (pe_dget hu (pv 0) pe_str (fun _ _ => rfl)) pe_int) (pa_cons (pe_dget hu (pv 0) pe_str (fun _ _ => rfl)) pa_nil)) (by rfl))
      (pss_cons (ps_dput hu (pv 0) pe_str (pv 2) (by rfl))
      (pss_cons (ps_if (pt_cmpR (op_neD hr.units) (pe_dget hu (pv 0) pe_str (fun _ _ => rfl)) (pe_lst pa_nil) (nomark _))
        (pss_cons (ps_set (i := 3) scD.nd rfl (Or.inl rfl) (pe_bm0 PySem.F.plainAttrs_list PySem.F.slot_list_pop PySem.F.type_list_pop mt_pop (pe_dget hu (pv 0) pe_str (fun _ _ => rfl))))
        (pss_cons (ps_if (pt_cmpR op_ge (pv 3) (pe_op op_pow pe_int pe_int) (nomark _))
          (pss_cons (ps_expr (pe_bm PySem.F.plainAttrs_list PySem.F.slot_list_append PySem.F.type_list_append mt_append (pe_dget hu (pv 0) pe_str (fun _ _ => rfl)) (pa_cons (pe_op op_fdivW (pv 3) (pv 1)) pa_nil)))
          (pss_one (ps_ret (pe_op op_mod (pv 3) (pv 1))))) pss_nil)
        (pss_one (ps_set (i := 3) scD.nd rfl (Or.inl rfl) (pe_op op_add (pv 3) (pe_dget hu (pv 0) pe_str (fun _ _ => rfl))))))) pss_nil)
      (pss_cons (ps_set (i := 4) scD.nd rfl (Or.inl rfl) (pe_op op_mod (pe_op op_mul (pe_op op_add (pe_op op_add (pe_op op_mod (pv 3) pe_int) (pe_op op_mul (pe_op op_mul pe_int (pv 2)) (pv 2))) pe_int) pe_int) pe_int))
      (pss_cons (ps_set (i := 4) scD.nd rfl (Or.inl rfl) (pe_op op_mod (pe_op op_add (pe_op op_add (pe_op op_mul (pv 4) (pv 4)) (pe_op op_mul pe_int (pv 2))) pe_int) pe_int))
      (pss_one (ps_ret (pe_op op_mod (pe_op op_fdiv (pe_op op_mod (pe_op op_mul (pv 4) pe_int) pe_int) pe_int) (pv 1)))))))), ?_⟩
    -- turn, chunk = deck['draws'] + 1, deck['total']
    refine ⟨_, rfl, p, _, rfl, dk_get FA.ob (dk_draws c y n), _, _, rfl, rfl, _, rfl, p, _, rfl, dk_get FA.ob (dk_total c y n), _, _, rfl, ?_⟩
    -- deck['draws'] = turn
    refine ⟨_, rfl, _, rfl, p, _, rfl, DPut.k (k := kDraws) FA.ob (by rw [dk_len, sizeLine_eq]; decide), ?_⟩
    rw [dk_put]
    have hp1 : (upd H p (.dK (dkOf c y (n + 1)))) p = some (.dK (dkOf c y (n + 1))) := upd_same
    have hc1 : (upd H p (.dK (dkOf c y (n + 1)))) c = some (.lst (ks.map V.int)) := by
      rw [upd_ne ncp]
      exact FA.cs
    have sv1 : Save p c H (upd H p (.dK (dkOf c y (n + 1)))) := fun b o e h1 _ => by
      rw [upd_ne h1]
      exact e
    generalize upd H p (.dK (dkOf c y (n + 1))) = H1 at hp1 hc1 sv1 ⊢
    -- if deck['cells'] != []
    refine ⟨_, rfl, p, _, rfl, dk_get hp1 (dk_cells c y _), by show 0 ≤ sizeLine; decide, fun e he => ?_⟩
    refine ⟨.list (ks.map PyData.int), .list [], .lst (SqL.of (by rw [upd_ne (ne_of_none hc1 he)]; exact hc1)) (dp_ints ks), .lst (SqL.of upd_same) .nil, shaped_ints ks, by decide, _, rfl, ?_⟩
    have nce : c ≠ e := ne_of_none hc1 he
    have npe : p ≠ e := ne_of_none hp1 he
    have hp2 : (upd H1 e (.lst [])) p = some (.dK (dkOf c y (n + 1))) := by
      rw [upd_ne npe]
      exact hp1
    have hc2 : (upd H1 e (.lst [])) c = some (.lst (ks.map V.int)) := by
      rw [upd_ne nce]
      exact hc1
    have sv2 : Save p c H (upd H1 e (.lst [])) := fun b o q h1 h2 => by
      have q1 := sv1 b o q h1 h2
      rw [upd_ne (ne_of_none q1 he)]
      exact q1
    generalize upd H1 e (.lst []) = H2 at hp2 hc2 sv2 ⊢
    have hbit := FA.bits
    have hlen := FA.len
    clear FA
    have t0 : 0 ≤ n + 1 := by omega
    have t1 : n + 1 < 1000001 := by omega
    have fin : ∀ (z : Int) (ks' : List Int) (H3 : Hp), H3 p = some (.dK (dkOf c y (n + 1))) → H3 c = some (.lst (ks'.map V.int)) → Save p c H H3 → Bits ks' → ks'.length ≤ 63 →
        (Q (.int ((((z % 2147483629 + 61379 * (n + 1) * (n + 1) + 83) * 40692 % 2147483647) * ((z % 2147483629 + 61379 * (n + 1) * (n + 1) + 83) * 40692 % 2147483647) + 69941 * (n + 1) + 41) % 2147483587 * 39373 % 2147483563 / 64 % m)) H3) := fun z ks' H3 h1 h2 sv hb hl =>
      k _ ks' H3 (Int.emod_nonneg _ (by omega)) (Int.emod_lt_of_pos _ m0) ⟨h1, h2, hb, hl, w0, w1, by omega⟩ sv
    rcases List.eq_nil_or_concat ks with rfl | ⟨r, z, rfl⟩
    · have hb : (!PyData.eqv (.list (([] : List Int).map PyData.int)) (.list [])) = false := by decide
      rw [hb]
      refine iteF ?_
      have be := draw_end (z := y) t0 t1
      refine ⟨_, rfl, _, _, rfl, rfl, (by show (0 : Int) < _; decide), _, rfl, _, _, rfl, rfl, .inl ⟨by decide, by decide⟩, _, rfl, _, _, rfl, rfl, .inl ⟨by omega, by omega⟩, _, _, rfl, rfl, _, _, rfl, rfl, _, _, rfl, rfl, .inl be, _, _, rfl, rfl, (by show (0 : Int) < _; decide), ?_⟩
      have b0 := Int.emod_nonneg ((y % 2147483629 + 61379 * (n + 1) * (n + 1) + 83) * 40692) (show (2147483647 : Int) ≠ 0 by decide)
      have b1 := Int.emod_lt_of_pos ((y % 2147483629 + 61379 * (n + 1) * (n + 1) + 83) * 40692) (show (0 : Int) < 2147483647 by decide)
      have fz := fin y [] H2 hp2 hc2 sv2 hbit hlen
      generalize (y % 2147483629 + 61379 * (n + 1) * (n + 1) + 83) * 40692 % 2147483647 = g at b0 b1 ⊢
      refine ⟨_, rfl, _, rfl, _, _, rfl, rfl, .inl ⟨by omega, by omega⟩, _, rfl, _, _, rfl, rfl, .inl ⟨by decide, by decide⟩, _, _, rfl, rfl, _, _, rfl, rfl, _, _, rfl, rfl, (by show (0 : Int) < _; decide), ?_⟩
      have d0 := Int.emod_nonneg (g * g + 69941 * (n + 1) + 41) (show (2147483587 : Int) ≠ 0 by decide)
      have d1 := Int.emod_lt_of_pos (g * g + 69941 * (n + 1) + 41) (show (0 : Int) < 2147483587 by decide)
      generalize (g * g + 69941 * (n + 1) + 41) % 2147483587 = j at d0 d1 ⊢
      refine ⟨_, rfl, _, _, rfl, rfl, .inl ⟨by omega, by omega⟩, _, _, rfl, rfl, (by show (0 : Int) < _; decide), _, _, rfl, rfl, ⟨by decide, by decide⟩, _, rfl, _, _, rfl, rfl, m0, fz⟩
    · rw [List.concat_eq_append] at hc2 hbit hlen ⊢
      have hb : (!PyData.eqv (.list ((r ++ [z]).map PyData.int)) (.list [])) = true := by rw [some_ints] <;> rfl
      rw [hb]
      refine iteT ?_
      rw [List.map_append] at hc2
      have hc2' : H2 c = some (.lst (r.map V.int ++ [V.int z])) := hc2
      have hbr : Bits r := fun v hv => hbit v (List.mem_append_left _ hv)
      have hbz : Builtin.Int.intBits z ≤ 1048576 := hbit z (List.mem_append_right _ List.mem_cons_self)
      have hlr : r.length + 1 ≤ 63 := by
        rw [List.length_append] at hlen
        exact hlen
      refine ⟨_, rfl, p, _, rfl, dk_get hp2 (dk_cells c y _), .inl ⟨rfl, _, SqL.of hc2'⟩, c, _, .int z, rfl, rfl, hc2', by simp, ?_⟩
      rw [List.dropLast_concat]
      have hp3 : (upd H2 c (.lst (r.map V.int))) p = some (.dK (dkOf c y (n + 1))) := by
        rw [upd_ne (Ne.symm ncp)]
        exact hp2
      have hc3 : (upd H2 c (.lst (r.map V.int))) c = some (.lst (r.map V.int)) := upd_same
      have sv3 : Save p c H (upd H2 c (.lst (r.map V.int))) := fun b o q h1 h2 => by
        rw [upd_ne h2]
        exact sv2 b o q h1 h2
      generalize upd H2 c (.lst (r.map V.int)) = H3 at hp3 hc3 sv3 ⊢
      -- if chunk >= 10 ** 18
      refine ⟨_, rfl, _, _, rfl, rfl, ⟨by decide, by decide, by decide⟩, _, _, rfl, rfl, _, rfl, ?_⟩
      by_cases big : (10 : Int) ^ ((18 : Int).toNat) ≤ z
      · rw [decide_eq_true big]
        refine iteT ?_
        have zb : (0 : Int) ≤ z := Int.le_trans (by decide) big
        refine ⟨_, rfl, p, _, rfl, dk_get hp3 (dk_cells c y _), .inl ⟨rfl, _, SqL.of hc3⟩, _, rfl, _, rfl, _, _, rfl, rfl, wide_div m0 (b := 30) (by omega) (by decide) (by decide), c, _, _, rfl, rfl, hc3, small1000 (by rw [List.length_map]; omega), ?_⟩
        refine ⟨_, rfl, _, rfl, _, _, rfl, rfl, m0, ?_⟩
        refine k _ (r ++ [z / m]) _ (Int.emod_nonneg _ (by omega)) (Int.emod_lt_of_pos _ m0) ⟨by rw [upd_ne (Ne.symm ncp)]; exact hp3, by rw [upd_same, List.map_append] <;> rfl, fun v hv => ?_, by rw [List.length_append]; exact hlr, w0, w1, by omega⟩ fun b o q h1 h2 => ?_
        · rcases List.mem_append.mp hv with hv | hv
          · exact hbr v hv
          · obtain rfl : v = z / m := by simpa using hv
            exact Nat.le_trans (bits_mono (Int.ediv_nonneg zb (by omega)) (Int.ediv_le_self _ zb)) hbz
        · rw [upd_ne h2]
          exact sv3 b o q h1 h2
      · rw [decide_eq_false big]
        refine iteF ?_
        refine ⟨_, rfl, _, rfl, p, _, rfl, dk_get hp3 (dk_total c y _), _, _, rfl, rfl, ?_⟩
        have be := draw_end (z := z + y) t0 t1
        refine ⟨_, rfl, _, _, rfl, rfl, (by show (0 : Int) < _; decide), _, rfl, _, _, rfl, rfl, .inl ⟨by decide, by decide⟩, _, rfl, _, _, rfl, rfl, .inl ⟨by omega, by omega⟩, _, _, rfl, rfl, _, _, rfl, rfl, _, _, rfl, rfl, .inl be, _, _, rfl, rfl, (by show (0 : Int) < _; decide), ?_⟩
        have b0 := Int.emod_nonneg (((z + y) % 2147483629 + 61379 * (n + 1) * (n + 1) + 83) * 40692) (show (2147483647 : Int) ≠ 0 by decide)
        have b1 := Int.emod_lt_of_pos (((z + y) % 2147483629 + 61379 * (n + 1) * (n + 1) + 83) * 40692) (show (0 : Int) < 2147483647 by decide)
        have fz := fin (z + y) r H3 hp3 hc3 sv3 hbr (by omega)
        generalize ((z + y) % 2147483629 + 61379 * (n + 1) * (n + 1) + 83) * 40692 % 2147483647 = g at b0 b1 ⊢
        refine ⟨_, rfl, _, rfl, _, _, rfl, rfl, .inl ⟨by omega, by omega⟩, _, rfl, _, _, rfl, rfl, .inl ⟨by decide, by decide⟩, _, _, rfl, rfl, _, _, rfl, rfl, _, _, rfl, rfl, (by show (0 : Int) < _; decide), ?_⟩
        have d0 := Int.emod_nonneg (g * g + 69941 * (n + 1) + 41) (show (2147483587 : Int) ≠ 0 by decide)
        have d1 := Int.emod_lt_of_pos (g * g + 69941 * (n + 1) + 41) (show (0 : Int) < 2147483587 by decide)
        generalize (g * g + 69941 * (n + 1) + 41) % 2147483587 = j at d0 d1 ⊢
        refine ⟨_, rfl, _, _, rfl, rfl, .inl ⟨by omega, by omega⟩, _, _, rfl, rfl, (by show (0 : Int) < _; decide), _, _, rfl, rfl, ⟨by decide, by decide⟩, _, rfl, _, _, rfl, rfl, m0, fz⟩
end
end My

-- ===== K61D =====
set_option Elab.async false
set_option linter.all false
set_option maxRecDepth 100000
set_option maxHeartbeats 4000000
namespace My
open PySem L2 PyProof.Rows PySem.Spec
/-! ### data, apart from two addresses -/
mutual
/-- v is the data d; F holds of where its objects stand -/
inductive Dq (F : Addr → Prop) (H : Hp) : V → PyData → Prop
  | non : Dq F H .non .none
  | bl (b : Bool) : Dq F H (.bl b) (.bool b)
  | int (i : Int) : Dq F H (.int i) (.int i)
  | str (x : Str) : Dq F H (.str x) (.str x)
  | lst {a : Addr} {xs : List V} {ds : List PyData} : sysModules < a → F a → H a = some (.lst xs) → DqAll F H xs ds → Dq F H (.ref a) (.list ds)
  | tup {a : Addr} {xs : List V} {ds : List PyData} : F a → H a = some (.tup xs) → DqAll F H xs ds → Dq F H (.ref a) (.tuple ds)
  | dct {a : Addr} {k : Str} {v : V} {d : PyData} : F a → H a = some (.dK [(Sum.inr k, v)]) → Dq F H v d → Dq F H (.ref a) (.dict [(.str k, d)])
inductive DqAll (F : Addr → Prop) (H : Hp) : List V → List PyData → Prop
  | nil : DqAll F H [] []
  | cons {v : V} {vs : List V} {d : PyData} {ds : List PyData} : Dq F H v d → DqAll F H vs ds → DqAll F H (v :: vs) (d :: ds)
end
mutual
/-- .. in another heap, where these objects stand, too; of less -/
theorem Dq.to {F F' : Addr → Prop} {H H' : Hp} (s : ∀ a o, F a → H a = some o → H' a = some o) (m : ∀ a, F a → F' a) : ∀ {v : V} {d : PyData}, Dq F H v d → Dq F' H' v d
  | _, _, .non => .non
  | _, _, .bl b => .bl b
  | _, _, .int i => .int i
  | _, _, .str x => .str x
  | _, _, .lst h1 h2 h4 h5 => .lst h1 (m _ h2) (s _ _ h2 h4) (DqAll.to s m h5)
  | _, _, .tup h2 h4 h5 => .tup (m _ h2) (s _ _ h2 h4) (DqAll.to s m h5)
  | _, _, .dct h2 h4 h5 => .dct (m _ h2) (s _ _ h2 h4) (Dq.to s m h5)
theorem DqAll.to {F F' : Addr → Prop} {H H' : Hp} (s : ∀ a o, F a → H a = some o → H' a = some o) (m : ∀ a, F a → F' a) : ∀ {vs : List V} {ds : List PyData}, DqAll F H vs ds → DqAll F' H' vs ds
  | _, _, .nil => .nil
  | _, _, .cons h1 h2 => .cons (Dq.to s m h1) (DqAll.to s m h2)
end
theorem DqAll.snoc {F : Addr → Prop} {H : Hp} {v : V} {d : PyData} (h : Dq F H v d) : ∀ {vs : List V} {ds : List PyData}, DqAll F H vs ds → DqAll F H (vs ++ [v]) (ds ++ [d])
  | _, _, .nil => .cons h .nil
  | _, _, .cons h1 h2 => .cons h1 (DqAll.snoc h h2)
section
variable {X : Cx} {pins : List (Addr × Obj)} {σ : L2.St} {H : Hp} {s : Shared} {F : Addr → Prop}
theorem modules_not {as bs : List Addr} (h1 : sysModules ∉ as) (h2 : sysModules ∉ bs) : sysModules ∉ as ++ bs := fun h => (List.mem_append.mp h).elim h1 h2
mutual
theorem Dq.reads (I : Inv X pins σ H s) : ∀ (d : PyData) (v : V) (u : Value), Dq F H v d → RelV v u → ∃ as, Reads s.heap u d as ∧ sysModules ∉ as
  | .none, _, _, h, r => by
    cases h
    cases r
    exact ⟨_, Reads.none, by simp⟩
  | .bool b, _, _, h, r => by
    cases h
    cases r
    exact ⟨_, Reads.bool b, by simp⟩
  | .int i, _, _, h, r => by
    cases h
    obtain ⟨t, rfl⟩ := r
    exact ⟨_, Reads.int i t, by simp⟩
  | .str x, _, _, h, r => by
    cases h
    obtain ⟨t, rfl⟩ := r
    exact ⟨_, Reads.str x t, by simp⟩
  | .list ds, _, _, h, r => by
    cases h with
    | lst big n1 ha hd =>
      rename_i a xs
      cases r
      obtain ⟨_, its, n, rv, ho⟩ := (show ObjOk X.prog X.w H s.heap a (.lst xs) from I.hok a _ ha)
      obtain ⟨as, hr, hn⟩ := DqAll.reads I ds _ its hd rv
      refine ⟨_, Reads.list ho rfl rfl (by simpa using hr), ?_⟩
      intro hm
      rcases List.mem_cons.mp hm with e | e
      · exact absurd big (by rw [← e]; exact Nat.lt_irrefl _)
      · exact hn e
  | .tuple ds, _, _, h, r => by
    cases h with
    | tup n1 ha hd =>
      rename_i a xs
      cases r
      obtain ⟨_, its, rv, o, ho, hc, n, hdt⟩ := (show ObjOk X.prog X.w H s.heap a (.tup xs) from I.hok a _ ha)
      obtain ⟨as, hr, hn⟩ := DqAll.reads I ds _ its hd rv
      exact ⟨_, Reads.tuple ho hc hdt (by simpa using hr), hn⟩
  | .dict [], _, _, h, _ => by cases h
  | .dict [(k, d)], _, _, h, r => by
    cases h with
    | dct n1 ha hd =>
      rename_i a k v
      cases r
      obtain ⟨_, low, vs, rel, o, es, ep, ho, hx, hdt, _, hp, _⟩ := (show ObjOk X.prog X.w H s.heap a (.dK [(Sum.inr k, v)]) from I.hok a _ ha)
      rcases vs with _ | ⟨⟨kk, u⟩, _ | ⟨_, _⟩⟩
      · cases rel
      · have r1 : (Sum.inr k = kk) ∧ RelV v u := by
          cases rel with
          | cons r1 rn => exact r1
        obtain ⟨e1, rv⟩ := r1
        subst e1
        generalize hl : es.toList = l at hp
        cases hp with
        | cons hk hv hrest =>
          cases hrest
          rename_i en
          obtain ⟨as, hr, hn⟩ := Dq.reads I d v u hd rv
          obtain ⟨t, hk'⟩ : ∃ t, en.key = Value.str k t := by
            have hk2 : keyIs (Sum.inr k) en.key = true := hk
            rcases keyIs_shape hk2 with ⟨i, t, q, _⟩ | ⟨y, t, q, z⟩
            · cases q
            · cases q
              exact ⟨t, z⟩
          refine ⟨_, Reads.dict (es := es) (as := []) (bs := as ++ []) ho hx.1 hdt ?_ ?_, ?_⟩
          · rw [hl]
            show ReadsAll s.heap [en.key] [PyData.str k] []
            rw [hk']
            exact .cons (as := []) (bs := []) (.str k t) .nil
          · rw [hl]
            show ReadsAll s.heap [en.val] [d] (as ++ [])
            rw [show en.val = u from hv]
            exact .cons hr .nil
          · intro hm
            have hm' : sysModules ∈ a :: (as ++ []) := by simpa using hm
            rcases List.mem_cons.mp hm' with e | e
            · rw [← e] at low
              exact absurd low (by simp)
            · exact hn (by simpa using e)
      · cases rel with
        | cons _ rn => cases rn
  | .dict (_ :: _ :: _), _, _, h, _ => by cases h
theorem DqAll.reads (I : Inv X pins σ H s) : ∀ (ds : List PyData) (vs : List V) (us : List Value), DqAll F H vs ds → Vals vs us → ∃ as, ReadsAll s.heap us ds as ∧ sysModules ∉ as
  | [], _, _, h, r => by
    cases h
    cases r
    exact ⟨_, ReadsAll.nil, by simp⟩
  | d :: ds, _, _, h, r => by
    cases h with
    | cons h1 h2 =>
      cases r with
      | cons r1 r2 =>
        obtain ⟨as, q1, n1⟩ := Dq.reads I d _ _ h1 r1
        obtain ⟨bs, q2, n2⟩ := DqAll.reads I ds _ _ h2 r2
        exact ⟨_, ReadsAll.cons q1 q2, modules_not n1 n2⟩
end
/-! ### repr of such data -/
def rReprD (F : Addr → Prop) : List V → Hp → VK → Prop := fun xs H Q => ∃ v d, xs = [v] ∧ Dq F H v d ∧ d.showable = true ∧ d.depth ≤ 60 ∧ d.shown.length ≤ sizeLine ∧ Q (.str d.shown) H
theorem call_reprD (hg : X.A.guards = some []) (hu : X.A.units + 64 < cLine) : CallR X (.builtin "repr") (rReprD F) := by
  intro pins s σ H xs us Q I r h
  obtain ⟨v, d, rfl, hd, hs, hdp, hz, q⟩ := h
  obtain ⟨u, rfl, rx⟩ := vals1 r
  obtain ⟨as, hr, hn⟩ := Dq.reads I d v u hd rx
  cases hd with
  | non =>
    cases (show u = Value.none from rx)
    exact P.repr_of_none ⟨.str _, H, I.tok _, ⟨_, rfl⟩, q⟩
  | bl b =>
    cases (show u = Value.bool b from rx)
    exact P.repr_of_bool ⟨.str _, H, I.tok _, ⟨_, rfl⟩, q⟩
  | int i =>
    obtain ⟨t, rfl⟩ := (show ∃ t, u = Value.int i t from rx)
    exact P.repr_of_int (by simpa [PyData.showable] using hs) ⟨.str _, H, I.tok _, ⟨_, rfl⟩, q⟩
  | str x =>
    obtain ⟨t, rfl⟩ := (show ∃ t, u = Value.str x t from rx)
    exact P.repr_of_str ⟨.str _, H, I.tok _, ⟨_, rfl⟩, q⟩ (by simpa only [PyData.shown] using hz)
  | lst _ _ _ _ =>
    cases rx
    exact repr_of_reads' hr hs (fun _ => hn) hg (by omega) (fun _ _ e => e) (fun h' t tk k => ⟨.str _, H, I.kept k, ⟨t, rfl⟩, q⟩) hz
  | tup _ _ _ =>
    cases rx
    exact repr_of_reads' hr hs (fun _ => hn) hg (by omega) (fun _ _ e => e) (fun h' t tk k => ⟨.str _, H, I.kept k, ⟨t, rfl⟩, q⟩) hz
  | dct _ _ _ =>
    cases rx
    exact repr_of_reads' hr hs (fun _ => hn) hg (by omega) (fun _ _ e => e) (fun h' t tk k => ⟨.str _, H, I.kept k, ⟨t, rfl⟩, q⟩) hz
end
end My

-- ===== KS1 =====
set_option Elab.async false
set_option linter.all false
set_option maxRecDepth 100000
set_option maxHeartbeats 1600000
/-! Sets whose members are objects told by a key (tuples of texts, nested tuples): search and add. -/
namespace Kd
open PySem PySem.Spec PyProof.Rows L2

section
variable {P : Program} {w : World} {K : Type} [DecidableEq K]
/-- keys that a set can have for members: nothing of the program is asked when they are compared -/
structure SetKind (knd : HeapKind P w K) : Prop where
  st : knd.Stays
  cls : ∀ {A : Around} {E : Value → Shared → Prop} {s : Shared} {k : K} {b : Addr} {Q : Bool → Shared → Prop}, knd.is s.heap k b → Q false s → wpAny (model P w) A (ofAClassStatement 8 (.ref b)) Q E s
  byv : ∀ {A : Around} {E : Value → Shared → Prop} {s : Shared} {k : K} {b : Addr} {Q : Bool → Shared → Prop}, knd.is s.heap k b → (∀ c, Q c s) → wpAny (model P w) A (hashByValue 8 (.ref b)) Q E s

def rowsH (knd : HeapKind P w K) (L : List (Addr × K)) : List (Int × Value) := L.map fun q => (knd.hash q.2, Value.ref q.1)
def hashH (knd : HeapKind P w K) (L : List (Addr × K)) : List Int := L.map fun q => knd.hash q.2
theorem rowsH_len (knd : HeapKind P w K) (L : List (Addr × K)) : (rowsH knd L).length = L.length := List.length_map ..
theorem hashH_len (knd : HeapKind P w K) (L : List (Addr × K)) : (hashH knd L).length = L.length := List.length_map ..
/-- at a the set with the members L: their addresses and keys, in the order of the table -/
structure SetH (knd : HeapKind P w K) (h : Heap) (a : Addr) (L : List (Addr × K)) (es : Array (Int × Value)) (ep : Nat) (t : SetTable) : Prop where
  ob : ∃ o, h.get? a = some o ∧ o.ExactSet ∧ o.data = .set es ep t
  rows : es.toList = rowsH knd L
  tab : TabOk t (hashH knd L)
  nd : (L.map Prod.snd).Nodup
  key : ∀ q ∈ L, knd.is h q.2 q.1
  led : w.params.followText "set-order" = true ∨ t.led = true
  room : L.length * 5 < t.mask * 3
  few : L.length < 64
end

section
variable {P : Program} {w : World} {K : Type} [DecidableEq K] {knd : HeapKind P w K} {A : Around} {E : Value → Shared → Prop} {s : Shared} {h : Heap} {a : Addr} {L : List (Addr × K)} {es : Array (Int × Value)} {ep : Nat} {t : SetTable}

theorem SetH.esz (Z : SetH knd h a L es ep t) : es.size = L.length := by
  have q := congrArg List.length Z.rows
  rwa [rowsH_len, Array.length_toList] at q
theorem SetH.psz (Z : SetH knd h a L es ep t) : t.place.size = L.length := by
  have q := Z.tab.sz
  rwa [hashH_len] at q
theorem SetH.fit (Z : SetH knd h a L es ep t) : t.fits es.size = true := by
  have q1 := Z.psz
  have q2 := Z.esz
  have q3 := Z.room
  unfold SetTable.fits SetTable.fill
  rw [Z.tab.dm, Bool.and_eq_true, beq_iff_eq, decide_eq_true_eq, q1, q2]
  refine ⟨rfl, ?_⟩
  show L.length + 0 ≤ t.mask
  omega
theorem SetH.at_ (Z : SetH knd h a L es ep t) {i : Nat} {q : Addr × K} (e : L[i]? = some q) : es[i]? = some (knd.hash q.2, Value.ref q.1) := by
  have z : es.toList[i]? = some (knd.hash q.2, Value.ref q.1) := by
    rw [Z.rows]
    show (L.map _)[i]? = _
    rw [List.getElem?_map, e]
    rfl
  rwa [Array.getElem?_toList] at z
theorem SetH.stands (Z : SetH knd h a L es ep t) : ¬ t.gaveWay = true := by
  unfold SetTable.gaveWay
  rw [mask_odd Z.tab.mok]
  decide
theorem nth_plain (m : Nat) : ∀ (n : Nat) (p : SetTable.Probe), p.dummy = none → (nth m p n).dummy = none
  | 0, _, e => e
  | n + 1, p, e => nth_plain m n (adv m p) (by unfold adv; split <;> exact e)

/-- comparing keys shows nothing -/
theorem unseen (S : SetKind knd) {k : K} {b : Addr} {Q : Bool → Shared → Prop} (hb : knd.is s.heap k b) {ys : List Value} (hy : ∀ y ∈ ys, ∃ k' c, y = Value.ref c ∧ knd.is s.heap k' c) (q : Q false s) :
    wpAny (model P w) A (searchCouldBeSeen (.ref b) ys) Q E s := by
  unfold searchCouldBeSeen
  refine wpAny_bind (wpAny_forIn_list _ (fun todo r s1 => r.1 = none ∧ s1 = s ∧ ∀ y ∈ todo, ∃ k' c, y = Value.ref c ∧ knd.is s.heap k' c) _ (fun y todo r s1 hI => ?_) (fun r s1 hI => ?_) _ _ ⟨rfl, rfl, hy⟩)
  · obtain ⟨e1, e2, e3⟩ := hI
    subst e2
    obtain ⟨k', c, e4, hc⟩ := e3 y List.mem_cons_self
    subst e4
    have more : ∀ y ∈ todo, ∃ k' c, y = Value.ref c ∧ knd.is s1.heap k' c := fun u hu => e3 u (List.mem_cons_of_mem _ hu)
    dsimp only
    by_cases same : (b == c || (carriedByValue (.ref b) && carriedByValue (.ref c))) = true
    · exact wp_if_pos same (wpAny_pure ⟨rfl, rfl, more⟩)
    · refine wp_if_neg same (wpAny_bind (knd.quiet hb ?_))
      simp only [Bool.not_true, Bool.false_eq_true, if_false]
      refine wpAny_bind (knd.quiet hc ?_)
      simp only [Bool.not_true, Bool.false_eq_true, if_false]
      refine wpAny_bind (S.cls hb ?_)
      simp only [Bool.false_eq_true, if_false]
      refine wpAny_bind (S.cls hc ?_)
      simp only [Bool.false_eq_true, if_false]
      exact wpAny_pure ⟨rfl, rfl, more⟩
  · obtain ⟨r1, r2⟩ := r
    obtain ⟨e1, e2, _⟩ := hI
    have e1 : r1 = none := e1
    subst e1
    subst e2
    exact wpAny_pure q

/-- the probe's state behind c steps -/
abbrev prob (t : SetTable) (g : Int) (c : Nat) : SetTable.Probe := nth t.mask (runAt t.mask (SetTable.bits g % (t.mask + 1)) (SetTable.bits g)) c

theorem seek (S : SetKind knd) (Z : SetH knd s.heap a L es ep t) {x : Addr} {k : K} (hx : knd.is s.heap k x) (hr : knd.room A) {K0 : Nat} (kf : K0 < 10 * SetTable.turns t.mask)
    (kout : way t.mask (knd.hash k) K0 ∉ t.place.toList) (kin : ∀ c, c < K0 → way t.mask (knd.hash k) c ∈ t.place.toList) {Q : SetFound → Shared → Prop}
    (yes : k ∈ L.map Prod.snd → Q (.there none) s) (no : k ∉ L.map Prod.snd → Q (.free (way t.mask (knd.hash k) K0) false) s) :
    ∀ (m f c : Nat) (stand : Option SetTable.Probe), K0 - c = m → m < f → c ≤ K0 → stand.getD (t.probeStart (knd.hash k)) = prob t (knd.hash k) c →
      (∀ (i : Nat) q, L[i]? = some q → q.2 = k → ∃ d, c ≤ d ∧ d < K0 ∧ t.place.toList[i]? = some (way t.mask (knd.hash k) d)) →
      wpAny (model P w) A (setSearchFrom a (.ref x) (knd.hash k) true f stand) Q E s := by
  intro m
  induction m using Nat.strongRecOn with
  | ind m ih =>
    intro f c stand em mf ck es0 left
    obtain ⟨f, rfl⟩ : ∃ f', f = f' + 1 := ⟨f - 1, by omega⟩
    obtain ⟨o, ho, hex, hdat⟩ := Z.ob
    rw [setSearchFrom_succ]
    refine wpAny_bind (wpAny_setState_of ho hdat Z.fit ?_)
    dsimp only
    refine wp_if_neg Z.stands ?_
    have step : ∀ d, nth t.mask (prob t (knd.hash k) c) d = prob t (knd.hash k) (c + d) := fun d => (nth_add t.mask c _ d).symm
    have stepj : ∀ d, (nth t.mask (prob t (knd.hash k) c) d).j = way t.mask (knd.hash k) (c + d) := fun d => by rw [step d]
    have hend : c + (K0 - c) = K0 := by omega
    have hat : ∀ (i : Nat) q, L[i]? = some q → (fun i => (es[i]?.map (·.1)).getD 0) i = knd.hash q.2 := fun i q e => by
      show (es[i]?.map (·.1)).getD 0 = _
      rw [Z.at_ e]
      rfl
    rcases go_spec t Z.tab.ris Z.tab.dm (fun i => (es[i]?.map (·.1)).getD 0) (knd.hash k) (10 * SetTable.turns t.mask) (K0 - c) (prob t (knd.hash k) c) (nth_plain _ _ _ rfl) (by omega)
        (fun d hd => by rw [stepj]; exact kin _ (by omega)) (by rw [stepj, hend]; exact kout) with ⟨d, i, d1, d2, d3, d4, d5⟩ | ⟨d1, d2⟩
    · rw [stepj] at d2
      rw [stepj, step] at d5
      have pr : t.probe (fun i => (es[i]?.map (·.1)).getD 0) (knd.hash k) (stand.getD (t.probeStart (knd.hash k))) = some (.candidate (way t.mask (knd.hash k) (c + d)) i (prob t (knd.hash k) (c + (d + 1)))) := by
        rw [es0]
        exact d5
      rw [pr]
      dsimp only
      have il : i < L.length := by
        have z := (List.getElem?_eq_some_iff.mp d2).1
        rw [Array.length_toList, Z.psz] at z
        exact z
      obtain ⟨q, eq⟩ : ∃ q, L[i]? = some q := ⟨_, List.getElem?_eq_getElem il⟩
      have qm : q ∈ L := List.mem_of_getElem? eq
      have go : wpAny (model P w) A (searchRest a (.ref x) (knd.hash k) true f es t (way t.mask (knd.hash k) (c + d)) i (prob t (knd.hash k) (c + (d + 1)))) Q E s := by
        unfold searchRest
        rw [Z.at_ eq]
        dsimp only
        refine wpAny_bind (wpAny_holding (knd.eqBool hr (Z.key q qm) hx ?_))
        refine wpAny_bind (wpAny_setState_of ho hdat Z.fit ?_)
        dsimp only
        have live : t.slot (way t.mask (knd.hash k) (c + d)) = .live i := slot_live Z.tab.ris d2
        by_cases ek : q.2 = k
        · exact wp_if_pos (by simp [ek]) (wpAny_pure (yes (List.mem_map.mpr ⟨q, qm, ek⟩)))
        · refine wp_if_neg (by simp [ek]) ?_
          rw [sameMem]
          dsimp only
          simp only [if_true, live, Z.at_ eq]
          refine wpAny_bind (wpAny_isSame_ref_self (wpAny_bind (wpAny_pure ?_)))
          simp only [if_true]
          refine wp_if_neg (by simp [ek]) (ih (K0 - (c + (d + 1))) (by omega) f (c + (d + 1)) _ rfl (by omega) (by omega) rfl fun i0 q0 e0 ek0 => ?_)
          obtain ⟨v, v1, v2, v3⟩ := left i0 q0 e0 ek0
          refine ⟨v, ?_, v2, v3⟩
          rcases Nat.lt_trichotomy v (c + d) with lt | e | gt
          · exact absurd ((hat i0 q0 e0).trans (congrArg knd.hash ek0)) (d4 (v - c) i0 (by omega) (by rw [stepj, show c + (v - c) = v by omega]; exact v3))
          · rw [e] at v3
            have live2 := slot_live Z.tab.ris v3
            rw [live] at live2
            cases live2
            rw [eq] at e0
            cases e0
            exact absurd ek0 ek
          · omega
      by_cases ld : t.led = true
      · exact wp_if_neg (by simp [ld]) go
      · refine wp_if_pos (by simp [ld]) (wpAny_bind (unseen S hx (fun y hy => ?_) (wp_if_neg (by decide) go)))
        obtain ⟨u, hu, rfl⟩ := List.mem_map.mp hy
        have hu1 : u ∈ es := by
          have z : u ∈ es ∧ u.1 = knd.hash k := by simpa using hu
          exact z.1
        have hu2 : u ∈ rowsH knd L := by
          rw [← Z.rows]
          simpa using hu1
        obtain ⟨q2, h2, rfl⟩ := List.mem_map.mp hu2
        exact ⟨q2.2, q2.1, rfl, Z.key q2 h2⟩
    · rw [stepj, hend] at d2
      have pr : t.probe (fun i => (es[i]?.map (·.1)).getD 0) (knd.hash k) (stand.getD (t.probeStart (knd.hash k))) = some (.empty (way t.mask (knd.hash k) K0) none) := by
        rw [es0]
        exact d2
      rw [pr]
      dsimp only
      refine wpAny_pure (no fun km => ?_)
      obtain ⟨q0, m0, ek0⟩ := List.mem_map.mp km
      obtain ⟨i0, l0, e0⟩ := List.getElem_of_mem m0
      have e1 : L[i0]? = some q0 := by rw [List.getElem?_eq_getElem l0, e0]
      obtain ⟨v, v1, v2, v3⟩ := left i0 q0 e1 ek0
      exact d1 (v - c) i0 (by omega) (by rw [stepj, show c + (v - c) = v by omega]; exact v3) ((hat i0 q0 e1).trans (congrArg knd.hash ek0))

/-- the search before an add -/
theorem find_at (S : SetKind knd) (Z : SetH knd s.heap a L es ep t) {x : Addr} {k : K} (hx : knd.is s.heap k x) (hr : knd.room A) {Q : SetFound → Shared → Prop} (yes : k ∈ L.map Prod.snd → Q (.there none) s)
    (no : ∀ c, k ∉ L.map Prod.snd → way t.mask (knd.hash k) c ∉ t.place.toList → (∀ d, d < c → way t.mask (knd.hash k) d ∈ t.place.toList) → Q (.free (way t.mask (knd.hash k) c) false) s) :
    wpAny (model P w) A (setSearch a (.ref x) (knd.hash k) true) Q E s := by
  have hroom := Z.room
  obtain ⟨c, c1, c2, c3⟩ := Z.tab.first (by rw [hashH_len]; omega) (knd.hash k)
  have small : c < 100000 := by
    have z : 10 * SetTable.turns t.mask ≤ 1420 := by
      unfold SetTable.turns
      rcases Z.tab.mok with e | e | e <;> omega
    omega
  refine seek S Z hx hr c1 c2 c3 yes (fun h => no c h c2 c3) c 100000 0 none (by omega) small (Nat.zero_le _) rfl fun i q e ek => ?_
  have hi : (hashH knd L)[i]? = some (knd.hash k) := by
    show (L.map _)[i]? = _
    rw [List.getElem?_map, e, ← ek]
    rfl
  have il : i < t.place.toList.length := by
    rw [Array.length_toList, Z.psz]
    exact (List.getElem?_eq_some_iff.mp e).1
  obtain ⟨d, d1, d2⟩ := Z.tab.before c2 hi (List.getElem?_eq_getElem il)
  exact ⟨d, Nat.zero_le _, d1, by rw [d2]; exact List.getElem?_eq_getElem il⟩
end
end Kd

-- ===== KS2 =====
set_option Elab.async false
set_option linter.all false
set_option maxRecDepth 100000
set_option maxHeartbeats 1600000
namespace Kd
open PySem PySem.Spec PyProof.Rows L2

theorem range_pick {α : Type} (L : List α) : ∀ n, n ≤ L.length → (List.range n).filterMap (fun i => L[i]?) = L.take n
  | 0, _ => by simp
  | n + 1, le => by
    have lt : n < L.length := le
    rw [List.range_succ, List.filterMap_append, range_pick L n (Nat.le_of_lt lt), List.take_succ, List.getElem?_eq_getElem lt]
    simp [List.getElem?_eq_getElem lt]

section
variable {P : Program} {w : World} {K : Type} [DecidableEq K] {knd : HeapKind P w K} {A : Around} {E : Value → Shared → Prop} {s : Shared} {a : Addr} {L : List (Addr × K)} {es : Array (Int × Value)} {ep : Nat} {t : SetTable}

theorem rows_get {L : List (Addr × K)} {es : Array (Int × Value)} (hr : es.toList = rowsH knd L) (i : Nat) : es[i]? = (L[i]?).map fun q => (knd.hash q.2, Value.ref q.1) := by
  have z : es.toList[i]? = (rowsH knd L)[i]? := by rw [hr]
  rw [Array.getElem?_toList] at z
  rw [z]
  unfold rowsH
  rw [List.getElem?_map]
theorem rows_hash {L : List (Addr × K)} {es : Array (Int × Value)} (hr : es.toList = rowsH knd L) : ∀ l : List Nat, (∀ i ∈ l, i < L.length) → hashH knd (l.filterMap fun i => L[i]?) = l.map fun i => (es.map Prod.fst).getD i 0
  | [], _ => rfl
  | i :: l, hl => by
    have lt := hl i List.mem_cons_self
    have ih := rows_hash hr l fun j hj => hl j (List.mem_cons_of_mem _ hj)
    have g := rows_get hr i
    rw [List.getElem?_eq_getElem lt] at g
    have g2 : (es.map Prod.fst).getD i 0 = knd.hash (L[i]).2 := by
      rw [Array.getD_eq_getD_getElem?, Array.getElem?_map, g]
      rfl
    rw [List.filterMap_cons_some (List.getElem?_eq_getElem lt), List.map_cons, g2, ← ih]
    rfl
/-- a key stays a key when a set changes -/
theorem SetKind.keeps (S : SetKind knd) {h h' : Heap} {a b : Addr} {k : K} {o : Obj} {es : Array (Int × Value)} {ep : Nat} {t : SetTable} (ho : h.get? a = some o) (hd : o.data = .set es ep t) (sb : Heap.SameBut a h h') (x : knd.is h k b) : knd.is h' k b := by
  refine S.st.stays (fun c u vs n e d => ?_) x
  have ne : c ≠ a := fun z => by
    rw [z, ho] at e
    rw [← Option.some.inj e, hd] at d
    cases d
  rw [sb.2 c ne]
  exact e

/-- the table laid anew -/
theorem relay (S : SetKind knd) {o : Obj} (ho : s.heap.get? a = some o) (hex : o.ExactSet) (hd : o.data = .set es ep t) (hr : es.toList = rowsH knd L) (hp : t.place.size = es.size) (dm : t.dummies = #[]) (fl : es.size ≤ t.mask) (nd : (L.map Prod.snd).Nodup)
    (key : ∀ q ∈ L, knd.is s.heap q.2 q.1) (ld : w.params.followText "set-order" = true ∨ t.led = true) (few : L.length < 64) {wanted M : Nat} (hw : SetTable.sizeAbove wanted - 1 = M) (hM : MaskOk M) (hw2 : SetTable.sizeAbove wanted ≤ 128) (hn : L.length * 5 < M * 3)
    {Q : Unit → Shared → Prop} (q : ∀ h' L' es' ep' t', Heap.SameBut a s.heap h' → SetH knd h' a L' es' ep' t' → L'.Perm L → Q () { s with heap := h' }) : wpAny (model P w) A (setRelay a wanted) Q E s := by
  have sz : es.size = L.length := by
    have z := congrArg List.length hr
    rwa [rowsH_len, Array.length_toList] at z
  have fit : t.fits es.size = true := by
    unfold SetTable.fits SetTable.fill
    rw [dm, Bool.and_eq_true, beq_iff_eq, decide_eq_true_eq, hp]
    exact ⟨rfl, fl⟩
  obtain ⟨t', ord, e1, e2, e3, e4, e5, _, _⟩ := relaid_ok t (hs := es.map Prod.fst) (wanted := wanted) hw hM (by rw [Array.size_map]; omega)
  rw [Array.size_map, sz] at e2
  have lt : ∀ i ∈ ord.toList, i < L.length := fun i hi => List.mem_range.mp (e2.mem_iff.mp hi)
  have pm : (ord.toList.filterMap fun i => L[i]?).Perm L := by
    have z := e2.filterMap fun i => L[i]?
    rwa [range_pick L L.length (Nat.le_refl _), List.take_length] at z
  rw [← rows_hash hr ord.toList lt] at e3
  have er : (ord.filterMap (es[·]?)).toList = rowsH knd (ord.toList.filterMap fun i => L[i]?) := by
    rw [Array.toList_filterMap]
    unfold rowsH
    rw [List.map_filterMap]
    congr 1
    funext i
    exact rows_get hr i
  generalize ord.toList.filterMap (fun i => L[i]?) = L' at e3 er pm
  have sz' : (ord.filterMap (es[·]?)).size = L.length := by
    rw [← Array.length_toList, er, rowsH_len, pm.length_eq]
  rw [setRelay_eq]
  refine wpAny_bind (wpAny_setState_of ho hd fit ?_)
  dsimp only
  refine wp_if_neg (by rw [sizeLine_eq]; omega) ?_
  rw [e1]
  dsimp only
  refine wpAny_bind (wp_if_neg (by rw [sz', sz]; simp) (wpAny_pure ?_))
  dsimp only
  have sb : Heap.SameBut a s.heap (s.heap.update a (Obj.putSet (ord.filterMap (es[·]?)) t')) := Heap.SameBut.update ..
  refine wpAny_storeSet_of ho hd (q _ L' _ (ep + 1) t' sb ⟨⟨_, store_at ho hd, hex, rfl⟩, er, e3, ?_, fun p hp => S.keeps ho hd sb (key p (pm.mem_iff.mp hp)), ?_, ?_, ?_⟩ pm) (by rw [sz', sizeLine_eq]; omega)
  · exact (pm.map Prod.snd).nodup_iff.mpr nd
  · rw [e5]
    exact ld
  · rw [pm.length_eq, e4]
    exact hn
  · rw [pm.length_eq]
    exact few

/-- a member added -/
theorem add_key (S : SetKind knd) (Z : SetH knd s.heap a L es ep t) {x : Addr} {k : K} (hx : knd.is s.heap k x) (hr : knd.room A) (hfew : k ∉ L.map Prod.snd → L.length + 1 < 64) {Q : Bool → Shared → Prop}
    (q : ∀ b h' L' es' ep' t', Heap.SameBut a s.heap h' → SetH knd h' a L' es' ep' t' → (k ∈ L.map Prod.snd → L' = L) → (k ∉ L.map Prod.snd → L'.Perm ((x, k) :: L)) → Q b { s with heap := h' }) :
    wpAny (model P w) A (setAddHashed a (.ref x) (knd.hash k)) Q E s := by
  obtain ⟨o, ho, hex, hd⟩ := Z.ob
  have sz := Z.esz
  have rm := Z.room
  unfold setAddHashed
  refine wpAny_holding ?_
  rw [show (100000 : Nat) = 99999 + 1 from rfl, setAddHashedIn_succ]
  refine wpAny_bind (wpAny_setState_of ho hd Z.fit ?_)
  dsimp only
  refine wp_if_neg (by simp [byScan, Value.scannable]) (wpAny_bind (find_at S Z hx hr (fun km => ?_) fun c kn out inn => ?_))
  · exact wpAny_pure (q false s.heap L es ep t (Heap.SameBut.refl a s.heap) Z (fun _ => rfl) fun n => absurd km n)
  · have less := hfew kn
    dsimp only
    refine wpAny_bind (wpAny_setState_of ho hd Z.fit ?_)
    dsimp only
    obtain ⟨p1, p2, p3, p4, p5, _, _, _, p9⟩ := Z.tab.put out inn
    rw [hashH_len] at p2 p9
    generalize t.put (way t.mask (knd.hash k) c) = pt at p1 p3 p4 p5 p9 ⊢
    obtain ⟨t1, at_⟩ := pt
    dsimp only at p1 p3 p4 p5 p9 ⊢
    subst p1
    generalize SetTable.below t.place (way t.mask (knd.hash k) c) = n at p2 p3 ⊢
    have pm : (L.take n ++ (x, k) :: L.drop n).Perm ((x, k) :: L) := put_perm L n (x, k)
    have hh : hashH knd (L.take n ++ (x, k) :: L.drop n) = (hashH knd L).take n ++ knd.hash k :: (hashH knd L).drop n := by
      unfold hashH
      rw [List.map_append, List.map_cons, List.map_take, List.map_drop]
    have rr : (SetTable.insertAt es n (knd.hash k, Value.ref x)).toList = rowsH knd (L.take n ++ (x, k) :: L.drop n) := by
      rw [SetTable.toList_insertAt, Z.rows]
      unfold rowsH
      rw [List.map_append, List.map_cons, List.map_take, List.map_drop]
    rw [← hh] at p3
    generalize L.take n ++ (x, k) :: L.drop n = L1 at pm p3 rr
    have len1 : L1.length = L.length + 1 := pm.length_eq
    have esz1 : (SetTable.insertAt es n (knd.hash k, Value.ref x)).size = L.length + 1 := by
      rw [← Array.length_toList, rr, rowsH_len, len1]
    have nd1 : (L1.map Prod.snd).Nodup := (pm.map Prod.snd).nodup_iff.mpr (List.nodup_cons.mpr ⟨kn, Z.nd⟩)
    generalize SetTable.insertAt es n (knd.hash k, Value.ref x) = es1 at rr esz1 ⊢
    -- whatever is told of the hash, the table is the same but for a mark
    have fin : ∀ t2 : SetTable, t2.mask = t1.mask → TabOk t2 (hashH knd L1) → t2.led = t1.led → t2.fill = t1.fill →
        wpAny (model P w) A (do
          storeSet a es1 t2
          if (!false && t2.tooFull) = true then do
              let _ ← setRelay a (SetTable.grown (es.size + 1))
              pure true
            else pure true) Q E s := fun t2 m2 ok2 led2 fill2 => by
      have sb : Heap.SameBut a s.heap (s.heap.update a (Obj.putSet es1 t2)) := Heap.SameBut.update ..
      have ho1 := store_at (es' := es1) (t' := t2) ho hd
      refine wpAny_bind (wpAny_storeSet_of ho hd ?_ (by rw [esz1, sizeLine_eq]; omega))
      generalize s.heap.update a (Obj.putSet es1 t2) = h1 at sb ho1 ⊢
      have key1 : ∀ p ∈ L1, knd.is h1 p.2 p.1 := fun p hp => by
        rcases List.mem_cons.mp (pm.mem_iff.mp hp) with e | m
        · rw [e]
          exact S.keeps ho hd sb hx
        · exact S.keeps ho hd sb (Z.key p m)
      have led1 : w.params.followText "set-order" = true ∨ t2.led = true := by
        rw [led2, p5]
        exact Z.led
      have full : t2.tooFull = decide ((L.length + 1) * 5 ≥ t.mask * 3) := by
        unfold SetTable.tooFull
        rw [fill2, p9, m2, p4]
      by_cases hf : (L.length + 1) * 5 ≥ t.mask * 3
      · refine wp_if_pos (by rw [full, decide_eq_true hf]; rfl) (wpAny_bind ?_)
        have sized : (t.mask = 7 ∧ L.length = 4) ∨ (t.mask = 31 ∧ L.length = 18) := by
          rcases Z.tab.mok with e | e | e
          · exact .inl ⟨e, by omega⟩
          · exact .inr ⟨e, by omega⟩
          · omega
        have anew : ∀ M, SetTable.sizeAbove (SetTable.grown (L.length + 1)) - 1 = M → MaskOk M → SetTable.sizeAbove (SetTable.grown (L.length + 1)) ≤ 128 → (L.length + 1) * 5 < M * 3 →
            wpAny (model P w) A (setRelay a (SetTable.grown (es.size + 1))) (fun _ s' => wpAny (model P w) A (pure true) Q E s') E { s with heap := h1 } := fun M g1 g2 g3 g4 => by
          rw [sz]
          refine relay S (s := { s with heap := h1 }) ho1 hex rfl rr ?_ ok2.dm ?_ nd1 key1 led1 (by rw [len1]; exact less) g1 g2 g3 (by rw [len1]; exact g4) fun h2 L2 es2 ep2 t2' sb2 Z2 pm2 => ?_
          · rw [ok2.sz, hashH_len, len1, esz1]
          · rw [esz1, m2, p4]
            rcases sized with ⟨e, e'⟩ | ⟨e, e'⟩ <;> omega
          · exact wpAny_pure (q true h2 L2 es2 ep2 t2' (sb.trans sb2) Z2 (fun n => absurd n kn) fun _ => pm2.trans pm)
        rcases sized with ⟨_, e⟩ | ⟨_, e⟩
        · exact anew 31 (by rw [e, size_20]) (.inr (.inl rfl)) (by rw [e, size_20]; decide) (by omega)
        · exact anew 127 (by rw [e, size_76]) (.inr (.inr rfl)) (by rw [e, size_76]; decide) (by omega)
      · refine wp_if_neg (by rw [full, decide_eq_false hf]; decide) (wpAny_pure (q true h1 L1 es1 (ep + 1) t2 sb ⟨⟨_, ho1, hex, rfl⟩, rr, ok2, nd1, key1, led1, ?_, by rw [len1]; exact less⟩ (fun n => absurd n kn) fun _ => pm))
        rw [len1, m2, p4]
        omega
    by_cases pl : t1.plain = true
    · refine wp_if_pos pl (wpAny_bind (S.byv hx fun c => ?_))
      cases c with
      | true => exact fin t1 rfl p3 rfl rfl
      | false => exact fin { t1 with plain := false } rfl ⟨p3.ris, p3.dm, p3.sz, p3.mok, p3.bd, p3.reach⟩ rfl rfl
    · refine wp_if_neg pl (wpAny_bind (wpAny_pure ?_))
      exact fin t1 rfl p3 rfl rfl

/-- set.add as a call -/
theorem call_add (S : SetKind knd) (Z : SetH knd s.heap a L es ep t) {x : Addr} {k : K} (hx : knd.is s.heap k x) (hr : knd.room A.in1) (hfew : k ∉ L.map Prod.snd → L.length + 1 < 64) {Q : Value → Shared → Prop}
    (q : ∀ h' tk L' es' ep' t', Heap.SameBut a s.heap h' → SetH knd h' a L' es' ep' t' → (k ∈ L.map Prod.snd → L' = L) → (k ∉ L.map Prod.snd → L'.Perm ((x, k) :: L)) → s.toks ≤ tk → Q .none { s with heap := h', toks := tk }) :
    wpAny (model P w) A (call (.builtin "set.add") [.ref a, .ref x]) Q E s := by
  obtain ⟨o, ho, hex, hd⟩ := Z.ob
  refine wpAny_call_entry F.slot_set_add ⟨o, ho, hex.1⟩ F.entry_set_add ?_ (F.args_set_add_2 _ _)
  unfold Builtin.«set.add» Builtin.Frozenset.oneOther
  simp only [List.isEmpty_nil, bind_assoc]
  unfold Builtin.Frozenset.addrOf setAdd
  refine wpAny_bind (wpAny_pure ?_)
  try dsimp only
  refine wpAny_bind (wpAny_pure ?_)
  try dsimp only
  refine wpAny_bind (wpAny_holding (wpAny_bind (knd.pyHash hr hx ?_)))
  refine add_key (s := { s with toks := s.toks + knd.draws k }) S Z hx hr hfew fun b h' L' es' ep' t' sb Z' c1 c2 => ?_
  show wpAny _ _ (ret Value.none) _ _ _
  exact wpAny_pure ⟨_, rfl, q h' (s.toks + knd.draws k) L' es' ep' t' sb Z' c1 c2 (Nat.le_add_right _ _)⟩
end
end Kd

-- ===== KS3 =====
set_option Elab.async false
set_option linter.all false
set_option maxRecDepth 100000
set_option maxHeartbeats 1600000
namespace Kd
open PySem PySem.Spec PyProof.Rows L2

/-! ### tuples of ints and texts are keys -/
section
variable {P : Program} {w : World} {A : Around} {E : Value → Shared → Prop} {s : Shared}
theorem mixed {ks : List Key} {vs : List Value} (x : ItemsAre (mixKind P w) ks vs) : ∀ v ∈ vs, (∃ i t, v = Value.int i t) ∨ ∃ z t, v = Value.str z t := by
  induction x with
  | nil => exact fun v m => nomatch m
  | @cons k u ks vs h _ ih =>
    intro v m
    rcases List.mem_cons.mp m with e | m
    · subst e
      have h : keyIs k v = true := h
      cases k with
      | inl i =>
        obtain ⟨t, e⟩ := Value.isInt_shape (k := i) (v := v) h
        exact .inl ⟨i, t, e⟩
      | inr z =>
        obtain ⟨t, e⟩ := Value.isStrOf_shape (x := z) (v := v) h
        exact .inr ⟨z, t, e⟩
    · exact ih v m
theorem mixed_cls (n : Nat) {v : Value} (h : (∃ i t, v = Value.int i t) ∨ ∃ z t, v = Value.str z t) : ofAClassStatement n v = pure false := by
  rcases h with ⟨i, t, rfl⟩ | ⟨z, t, rfl⟩ <;> cases n <;> rfl
theorem mixed_byv (n : Nat) {v : Value} (h : (∃ i t, v = Value.int i t) ∨ ∃ z t, v = Value.str z t) : ∃ c, hashByValue n v = pure c := by
  rcases h with ⟨i, t, rfl⟩ | ⟨z, t, rfl⟩ <;> cases n <;> exact ⟨_, rfl⟩
theorem mix_cls {ks : List Key} {b : Addr} {Q : Bool → Shared → Prop} (x : IsTupleKey (mixKind P w) s.heap ks b) (q : Q false s) : wpAny (model P w) A (ofAClassStatement 8 (.ref b)) Q E s := by
  have T := x.typeIs
  obtain ⟨o, its, n, ho, _, hd, hi⟩ := x
  unfold ofAClassStatement
  refine wpAny_bind (wpAny_typeOf T ?_)
  dsimp only
  have e : (("tuple" : String) == "tuple") = true := by decide
  simp only [e, if_true, Bool.not_true, Bool.false_eq_true, if_false]
  try refine wpAny_bind (wpAny_pure ?_)
  try simp only [Bool.not_true, Bool.false_eq_true, if_false]
  show wpAny _ _ (seqItems? (.ref b) >>= _) _ _ s
  refine wpAny_bind (wpAny_seqItems ho hd ?_)
  dsimp only
  refine wpAny_bind ?_
  show wpAny _ _ (forIn its _ _) _ _ s
  rw [← Array.forIn_toList]
  refine wpAny_forIn_list _ (fun todo r s1 => r.1 = none ∧ s1 = s ∧ ∀ v ∈ todo, (∃ i t, v = Value.int i t) ∨ ∃ z t, v = Value.str z t) _ (fun v todo r s1 hI => ?_) (fun r s1 hI => ?_) _ _ ⟨rfl, rfl, mixed hi⟩
  · obtain ⟨_, e2, e3⟩ := hI
    rw [mixed_cls 7 (e3 v List.mem_cons_self)]
    refine wpAny_bind (wpAny_pure ?_)
    simp only [Bool.false_eq_true, if_false]
    exact wpAny_pure ⟨rfl, e2, fun u m => e3 u (List.mem_cons_of_mem _ m)⟩
  · obtain ⟨r1, r2⟩ := r
    obtain ⟨e1, e2, _⟩ := hI
    have e1 : r1 = none := e1
    subst e1
    subst e2
    exact wpAny_pure q
theorem mix_byv {ks : List Key} {b : Addr} {Q : Bool → Shared → Prop} (x : IsTupleKey (mixKind P w) s.heap ks b) (q : ∀ c, Q c s) : wpAny (model P w) A (hashByValue 8 (.ref b)) Q E s := by
  have T := x.typeIs
  obtain ⟨o, its, n, ho, _, hd, hi⟩ := x
  unfold hashByValue
  refine wpAny_bind (wpAny_specialOf T F.slot_tuple_hash.lookup ?_)
  show wpAny _ _ (seqItems? (.ref b) >>= _) _ _ s
  refine wpAny_bind (wpAny_seqItems ho hd ?_)
  refine wpAny_bind ?_
  show wpAny _ _ (forIn its _ _) _ _ s
  rw [← Array.forIn_toList]
  refine wpAny_forIn_list _ (fun todo r s1 => r.1 = none ∧ s1 = s ∧ ∀ v ∈ todo, (∃ i t, v = Value.int i t) ∨ ∃ z t, v = Value.str z t) _ (fun v todo r s1 hI => ?_) (fun r s1 hI => ?_) _ _ ⟨rfl, rfl, mixed hi⟩
  · obtain ⟨_, e2, e3⟩ := hI
    obtain ⟨c, ec⟩ := mixed_byv 7 (e3 v List.mem_cons_self)
    rw [ec]
    refine wpAny_bind (wpAny_pure ?_)
    cases c with
    | true =>
      simp only [Bool.not_true, Bool.false_eq_true, if_false]
      exact wpAny_pure ⟨rfl, e2, fun u m => e3 u (List.mem_cons_of_mem _ m)⟩
    | false =>
      simp only [Bool.not_false, if_true]
      subst e2
      exact wpAny_pure (wpAny_pure (q false))
  · obtain ⟨r1, r2⟩ := r
    obtain ⟨e1, e2, _⟩ := hI
    have e1 : r1 = none := e1
    subst e1
    subst e2
    exact wpAny_pure (q true)
theorem mixSet : SetKind (tupleKind (mixKind P w)) where
  st := tupleKind_stays
  cls := fun x q => mix_cls x q
  byv := fun x q => mix_byv x q
end
end Kd

-- ===== KS4 =====
set_option Elab.async false
set_option linter.all false
set_option maxRecDepth 100000
set_option maxHeartbeats 3200000
namespace Kd
open PySem PySem.Spec PyProof.Rows L2

section
variable {P : Program} {w : World} {K : Type} [DecidableEq K] {knd : HeapKind P w K}
theorem SetH.stay (S : SetKind knd) {h h' : Heap} {a : Addr} {L : List (Addr × K)} {es : Array (Int × Value)} {ep : Nat} {t : SetTable} (Z : SetH knd h a L es ep t) (ha : ∀ o, h.get? a = some o → h'.get? a = some o) (hk : ∀ q ∈ L, knd.is h' q.2 q.1) : SetH knd h' a L es ep t := by
  obtain ⟨o, ho, r⟩ := Z.ob
  exact ⟨⟨o, ha o ho, r⟩, Z.rows, Z.tab, Z.nd, hk, Z.led, Z.room, Z.few⟩
theorem SetKind.kept (S : SetKind knd) {h h' : Heap} {k : K} {b : Addr} (x : knd.is h k b) (hk : ∀ c o, h.get? c = some o → h'.get? c = some o) : knd.is h' k b := S.st.stays (fun c o _ _ e _ => hk c o e) x
/-- an empty set, just made -/
abbrev newO (w : World) : Obj := { cls := .type "set", dict := none, data := .set #[] 0 (.fresh 0 0 (!w.params.followText "set-order")) }
theorem setH_new {h : Heap} {a : Addr} (ho : h.get? a = some (newO w)) : SetH knd h a [] #[] 0 (.fresh 0 0 (!w.params.followText "set-order")) where
  ob := ⟨_, ho, ⟨rfl, rfl, rfl⟩, rfl⟩
  rows := rfl
  tab := { ris := List.Pairwise.nil, dm := rfl, sz := rfl, mok := .inl rfl, bd := (fun x hx => nomatch hx), reach := fun i g j e => by simp [hashH] at e }
  nd := List.nodup_nil
  key := fun q m => nomatch m
  led := by
    show _ ∨ (!w.params.followText "set-order") = true
    cases e : w.params.followText "set-order"
    · exact .inr rfl
    · exact .inl rfl
  room := by
    show 0 * 5 < 7 * 3
    decide
  few := by
    show 0 < 64
    decide

/-- what came of the first i of the rows ks -/
structure Came (ks : List (Addr × K)) (i : Nat) (L : List (Addr × K)) : Prop where
  inn : ∀ q ∈ L, q ∈ ks.take i
  got : ∀ q ∈ ks.take i, q.2 ∈ L.map Prod.snd
  most : L.length ≤ i
theorem Came.step {ks L L' : List (Addr × K)} {i : Nat} {x : Addr × K} (c : Came ks i L) (e : ks[i]? = some x) (h1 : x.2 ∈ L.map Prod.snd → L' = L) (h2 : x.2 ∉ L.map Prod.snd → L'.Perm (x :: L)) : Came ks (i + 1) L' := by
  have tk : ks.take (i + 1) = ks.take i ++ [x] := by rw [List.take_succ, e]; rfl
  by_cases m : x.2 ∈ L.map Prod.snd
  · rw [h1 m]
    refine ⟨fun q hq => by rw [tk]; exact List.mem_append_left _ (c.inn q hq), fun q hq => ?_, Nat.le_succ_of_le c.most⟩
    rw [tk] at hq
    rcases List.mem_append.mp hq with z | z
    · exact c.got q z
    · rw [List.mem_singleton.mp z]
      exact m
  · have pm := h2 m
    refine ⟨fun q hq => ?_, fun q hq => ?_, by rw [pm.length_eq]; exact Nat.succ_le_succ c.most⟩
    · rw [tk]
      rcases List.mem_cons.mp (pm.mem_iff.mp hq) with z | z
      · rw [z]
        exact List.mem_append_right _ List.mem_cons_self
      · exact List.mem_append_left _ (c.inn q z)
    · rw [(pm.map Prod.snd).mem_iff]
      rw [tk] at hq
      rcases List.mem_append.mp hq with z | z
      · exact List.mem_cons_of_mem _ (c.got q z)
      · rw [List.mem_singleton.mp z]
        exact List.mem_cons_self
end

section
variable {P : Program} {w : World} {K : Type} [DecidableEq K] {knd : HeapKind P w K} {A : Around} {E : Value → Shared → Prop}
theorem nodup_most {α : Type} [DecidableEq α] : ∀ (l D : List α), l.Nodup → (∀ x ∈ l, x ∈ D) → l.length ≤ D.length
  | [], _, _, _ => Nat.zero_le _
  | x :: l, D, nd, sub => by
    obtain ⟨n1, n2⟩ := List.nodup_cons.mp nd
    have mx := sub x List.mem_cons_self
    have ih := nodup_most l (D.erase x) n2 fun y my => (List.mem_erase_of_ne fun (e : y = x) => n1 (by rw [← e]; exact my)).2 (sub y (List.mem_cons_of_mem _ my))
    rw [List.length_erase_of_mem mx] at ih
    have pos := List.length_pos_of_mem mx
    rw [List.length_cons]
    omega
theorem few_of {ks L : List (Addr × K)} {i : Nat} {q : Addr × K} (less : ∃ ds : List K, (∀ q ∈ ks, q.2 ∈ ds) ∧ ds.length < 64) (inn : ∀ p ∈ L, p ∈ ks.take i) (nd : (L.map Prod.snd).Nodup) (mq : q ∈ ks) (nq : q.2 ∉ L.map Prod.snd) : L.length + 1 < 64 := by
  obtain ⟨ds, h1, h2⟩ := less
  have z := nodup_most (q.2 :: L.map Prod.snd) ds (List.nodup_cons.mpr ⟨nq, nd⟩) fun x mx => by
    rcases List.mem_cons.mp mx with rfl | mx
    · exact h1 q mq
    · obtain ⟨p, mp, rfl⟩ := List.mem_map.mp mx
      exact h1 p (List.mem_of_mem_take (inn p mp))
  rw [List.length_cons, List.length_map] at z
  omega
/-- all that is walked goes into the set -/
theorem filled (S : SetKind knd) {I B : Addr} {fp wr : List Addr} {G : Array GenState → Array GenState → Prop} {n : Nat} {Pv : Nat → Value → Prop} {St : Nat → Shared → Prop} {R : Result → Shared → Prop} (W : WalksS P w A.in1 I fp wr G n Pv St) (hB : B ∉ fp)
    (ks : List (Addr × K)) (hn : n = ks.length) (less : ∃ ds : List K, (∀ q ∈ ks, q.2 ∈ ds) ∧ ds.length < 64) (val : ∀ i v, Pv i v → ∃ q, ks[i]? = some q ∧ v = .ref q.1) (g : Heap) (gk : ∀ q ∈ ks, knd.is g q.2 q.1) (gB : g.get? B = none) (gw : ∀ b ∈ wr, g.get? b = none) (room : knd.room A.in1) :
    ∀ (m i : Nat) (s : Shared), n - i = m → i ≤ n → St i s → (∀ b o, g.get? b = some o → s.heap.get? b = some o) → (∃ L es ep t, SetH knd s.heap B L es ep t ∧ Came ks i L) →
      (∀ s' L es ep t, Moved (B :: wr) G s s' → SetH knd s'.heap B L es ep t → Came ks n L → (∀ b o, g.get? b = some o → s'.heap.get? b = some o) → R (.ok (.ret .none)) s') →
      codeAny (model P w) A (.builtin "set.update.loop" ⟨[.ref B, .ref I], []⟩) R s := by
  have nBw : B ∉ wr := fun m => hB (W.sub _ m)
  have more : ∀ b ∈ wr, b ∈ B :: wr := fun b m => List.mem_cons_of_mem _ m
  have on : ∀ {s s' : Shared}, Moved wr G s s' → (∀ b o, g.get? b = some o → s.heap.get? b = some o) → ∀ b o, g.get? b = some o → s'.heap.get? b = some o := fun mv k b o e =>
    mv.heap b o (fun m => by rw [gw b m] at e; cases e) (k b o e)
  intro m
  induction m with
  | zero =>
    intro i s em le st kp ⟨L, es, ep, t, Z, c⟩ fin
    obtain rfl : i = n := by omega
    refine codeAny_builtin F.entry_set_update_loop ?_
    rw [Around.under_plainId F.plain_set_update_loop _]
    show wpAny _ A.in1 (pyNext (.ref I) >>= _) _ _ s
    refine wpAny_bind (W.done s _ _ st fun s' mv => ?_)
    show wpAny _ A.in1 (ret Value.none) _ _ s'
    have kp' := on mv kp
    exact wpAny_pure (fin s' L es ep t (mv.mono more) (Z.stay S (fun o e => mv.heap B o nBw e) fun q hq => S.kept (gk q (List.mem_of_mem_take (c.inn q hq))) kp') c kp')
  | succ m ih =>
    intro i s em le st kp ⟨L, es, ep, t, Z, c⟩ fin
    have lt : i < n := by omega
    refine codeAny_builtin F.entry_set_update_loop ?_
    rw [Around.under_plainId F.plain_set_update_loop _]
    show wpAny _ A.in1 (pyNext (.ref I) >>= _) _ _ s
    refine wpAny_bind (W.item i s _ _ lt st fun v s' pv st' mv => ?_)
    obtain ⟨q, eq, rfl⟩ := val i v pv
    have kp' := on mv kp
    have Z' : SetH knd s'.heap B L es ep t := Z.stay S (fun o e => mv.heap B o nBw e) fun p hp => S.kept (gk p (List.mem_of_mem_take (c.inn p hp))) kp'
    have hx : knd.is s'.heap q.2 q.1 := S.kept (gk q (List.mem_of_getElem? eq)) kp'
    show wpAny _ A.in1 (holding [Value.ref q.1] (setAdd B (.ref q.1)) >>= _) _ _ s'
    refine wpAny_bind (wpAny_holding ?_)
    unfold setAdd
    refine wpAny_holding (wpAny_bind (knd.pyHash room hx ?_))
    refine add_key (s := { s' with toks := s'.toks + knd.draws q.2 }) S Z' hx room (few_of less c.inn Z.nd (List.mem_of_getElem? eq)) fun b h' L' es' ep' t' sb Z2 c1 c2 => ?_
    have nB : ∀ b o, g.get? b = some o → b ≠ B := fun b o e z => by
      rw [z, gB] at e
      cases e
    have kp2 : ∀ b o, g.get? b = some o → h'.get? b = some o := fun b o e => (sb.2 b (nB b o e)).trans (kp' b o e)
    refine wpAny_pure ⟨plainId_quiet F.plain_set_update_loop _, ih (i + 1) _ (by omega) lt (W.frame _ s' _ _ st' (Nat.le_add_right _ _) fun b m o e => ?_) kp2 ⟨L', es', ep', t', Z2, c.step eq c1 c2⟩ fun s'' L2 es2 ep2 t2 mv2 Z3 c3 kp3 => ?_⟩
    · rw [sb.2 b fun z => hB (z ▸ m)]
      exact e
    · refine fin s'' L2 es2 ep2 t2 (Moved.trans W.gtrans ((mv.mono more).then_heap (Nat.le_add_right _ _) fun b o m e => ?_) mv2) Z3 c3 kp3
      rw [sb.2 b fun z => m (by rw [z]; exact List.mem_cons_self)]
      exact e
end
end Kd

-- ===== KS5 =====
set_option Elab.async false
set_option linter.all false
set_option maxRecDepth 100000
set_option maxHeartbeats 3200000
namespace Kd
open PySem PySem.Spec PyProof.Rows L2
section
variable {P : Program} {w : World} {K : Type} [DecidableEq K] {knd : HeapKind P w K} {A : Around} {E : Value → Shared → Prop} {s : Shared}
/-- what is left when set(..) has run -/
def SetMade (knd : HeapKind P w K) (s : Shared) (ks : List (Addr × K)) (s2 : Shared) : Prop :=
  ∃ h' tk L es ep t, s2 = { s with heap := h', toks := tk } ∧ SetH knd h' s.heap.objs.size L es ep t ∧ Came ks ks.length L ∧ ∀ b o, s.heap.get? b = some o → h'.get? b = some o
theorem call_set_keys (S : SetKind knd) {l : Addr} {its : Array Value} (ks : List (Addr × K)) {Q : Value → Shared → Prop} (calm : A.handled = none) (il : s.heap.IsList l its) (ev : its.toList = ks.map fun q => Value.ref q.1) (kk : ∀ q ∈ ks, knd.is s.heap q.2 q.1)
    (less : ∃ ds : List K, (∀ q ∈ ks, q.2 ∈ ds) ∧ ds.length < 64) (room : knd.room A.in1.in1.in1) (q : ∀ s2, SetMade knd s ks s2 → Q (.ref s.heap.objs.size) s2) : wpAny (model P w) A (call (.type "set") [.ref l]) Q E s := by
  have isz : its.size = ks.length := by rw [← Array.length_toList, ev, List.length_map]
  obtain ⟨c, tl, mro⟩ := F.called_set.mro
  have made := F.called_set.made
  have sub := F.called_set.sub
  refine wpAny_call (codeAny_of_tree ?_)
  show wpAny _ _ (callAny (.type "set") _) _ _ _
  refine wpAny_pure ⟨Code.quiet_builtin _ (by decide +kernel), codeAny_builtin F.entry_type_call ?_⟩
  rw [Around.under_plain (weight_type_call_type "set" [.ref l] []) rfl]
  have z1 := F.called_set.notType
  have z2 := F.called_set.canCreate
  have z3 := F.typeCall_set_1 (.ref l)
  repeat (any_goals (first | assumption | wp_step))
  refine codeAny_mono (code_set_led1 (.ref l) (E := E) (Q₁ := fun v s1 => v = .ref s.heap.objs.size ∧ s1 = { s with heap := s.heap.push (newO w) }) ⟨rfl, rfl⟩) fun r s1 hr => ?_
  rcases r with e | fl
  · exact hr
  cases fl with
  | ret obj =>
    obtain ⟨rfl, rfl⟩ := hr
    have at0 : (s.heap.push (newO w)).get? s.heap.objs.size = some (newO w) := Heap.get?_push_size _ rfl
    have T0 : Shared.TypeIs { s with heap := s.heap.push (newO w) } (.ref s.heap.objs.size) "set" := ⟨_, at0, rfl⟩
    have li := F.called_set.init.lookup
    have bi := F.called_set.init.bind (.ref s.heap.objs.size)
    repeat (any_goals (first | assumption | wp_step))
    refine codeAny_mono (codeAny_call_builtin (R := wants (fun r s2 => r = .none ∧ SetMade knd s ks s2) E) F.called_set.init.plain F.entry_set_init (check_set_init_1 T0 ?_)) fun r s2 hr => ?_
    · obtain ⟨⟨oc, od, ob, os⟩, ol, oc', on, ob'⟩ := il
      simp only at oc' ob'
      subst oc'
      subst ob'
      have ol2 := Heap.get?_push_of_some (newO w) ol
      have y1 := F.sub_list_set
      have y2 := F.sub_list_frozenset
      have y3 : (Value.type "list" == Value.type "dict") = false := by decide
      have il2 : (s.heap.push (newO w)).IsList l its := ⟨_, ol2, rfl, on, rfl⟩
      unfold Builtin.«set.__init__» noKeywords Builtin.Frozenset.updateFrom
      generalize hPI : pyIter = PI
      wp_walk
      subst hPI
      refine wpAny_pyIter_list il2 (wpAny_bind (wpAny_runValue ?_))
      have lS : l < s.heap.objs.size := Heap.lt_size ol
      have calm3 : A.in1.in1.in1.handled = none := by simp [calm]
      have szp : (s.heap.push (newO w)).objs.size = s.heap.objs.size + 1 := Heap.size_push ..
      have lI : l ≠ (s.heap.push (newO w)).objs.size := by
        rw [szp]
        exact Nat.ne_of_lt (Nat.lt_succ_of_lt lS)
      have free : ∀ b, s.heap.objs.size ≤ b → s.heap.get? b = none := fun b le => by
        cases e : s.heap.get? b with
        | none => rfl
        | some o => exact absurd (Heap.lt_size e) (Nat.not_lt.mpr le)
      refine filled S ((Walks.list calm3 _ l lI its).toS) (B := s.heap.objs.size) (fun m => ?_) ks isz less (fun i v e => ?_) s.heap kk (free _ (Nat.le_refl _)) (fun b m => free b ?_) room (its.size - 0) 0 _ rfl (Nat.zero_le _)
        ⟨⟨_, Heap.get?_push_size _ rfl, rfl, rfl⟩, il2.push _⟩ (fun b o e => Heap.get?_push_of_some _ (Heap.get?_push_of_some _ e)) ⟨[], #[], 0, _, setH_new (Heap.get?_push_of_some _ at0), fun q m => (nomatch m), fun q m => (by simp at m), Nat.le_refl _⟩ fun s' L es ep t mv Z c kp => ?_
      · rcases List.mem_cons.mp m with e | m
        · rw [szp] at e
          exact absurd e (Nat.ne_of_lt (Nat.lt_succ_self _))
        · have e := List.mem_singleton.mp m
          rw [← e] at lS
          exact absurd lS (Nat.lt_irrefl _)
      · have e2 : its.toList[i]? = some v := by rw [Array.getElem?_toList]; exact e
        rw [ev, List.getElem?_map] at e2
        obtain ⟨q, e3, e4⟩ := Option.map_eq_some_iff.mp e2
        exact ⟨q, e3, e4.symm⟩
      · rw [List.mem_singleton.mp m, szp]
        exact Nat.le_succ _
      · obtain ⟨h', g', d', tk, os'⟩ := s'
        obtain rfl : g' = s.gens := mv.gens
        obtain rfl : d' = s.drawn := mv.drawn
        obtain rfl : os' = s.os := mv.os
        show wpAny _ _ _ _ _ _
        refine wpAny_pure ?_
        show wpAny _ _ (ret Value.none) _ _ _
        rw [isz] at c
        exact wpAny_pure ⟨rfl, h', tk, L, es, ep, t, rfl, Z, c, kp⟩
    · rcases r with e | fl
      · exact hr
      cases fl with
      | ret r =>
        obtain ⟨rfl, mk⟩ := hr
        repeat (any_goals (first | assumption | wp_step))
        exact q _ mk
      | _ => exact hr.elim
  | _ => exact hr.elim
end
end Kd

-- ===== KS6 =====
set_option Elab.async false
set_option linter.all false
set_option maxRecDepth 100000
set_option maxHeartbeats 3200000
namespace Kd
open PySem PySem.Spec PyProof.Rows L2 PySem.W

theorem perm_lift {α β : Type} (f : α → β) {l m : List β} (p : l.Perm m) : ∀ L : List α, m = L.map f → ∃ L1 : List α, L1.Perm L ∧ l = L1.map f := by
  induction p with
  | nil =>
    intro L e
    refine ⟨[], ?_, rfl⟩
    rw [List.map_eq_nil_iff.mp e.symm]
  | cons x _ ih =>
    intro L e
    obtain ⟨y, L', rfl, rfl, e2⟩ := List.map_eq_cons_iff.mp e.symm
    obtain ⟨L1, p1, e3⟩ := ih L' e2.symm
    exact ⟨y :: L1, p1.cons y, by rw [e3, List.map_cons]⟩
  | swap x y l =>
    intro L e
    obtain ⟨u, L', rfl, rfl, e2⟩ := List.map_eq_cons_iff.mp e.symm
    obtain ⟨v, L'', rfl, rfl, e3⟩ := List.map_eq_cons_iff.mp e2
    exact ⟨v :: u :: L'', List.Perm.swap .., by rw [← e3]; rfl⟩
  | trans _ _ ih1 ih2 =>
    intro L e
    obtain ⟨L1, p1, e1⟩ := ih2 L e
    obtain ⟨L2, p2, e2⟩ := ih1 L1 e1
    exact ⟨L2, p2.trans p1, e2⟩

/-- a key as data -/
def kD : Key → PyData
  | .inl i => .int i
  | .inr x => .str x
def tD (k : List Key) : PyData := .tuple (k.map kD)

/-! ### the set as a tracked thing -/
structure Held (P : Program) (w : World) (h : Heap) (a : Addr) (L : List (Addr × List Key)) : Prop where
  ex : ∃ (es : Array (Int × Value)) (ep : Nat) (t : SetTable), (∃ o, h.get? a = some o ∧ o.ExactSet ∧ o.data = .set es ep t) ∧ es.toList = rowsH (tupleKind (mixKind P w)) L ∧ TabOk t (hashH (tupleKind (mixKind P w)) L) ∧ (L.map Prod.snd).Nodup ∧
    (w.params.followText "set-order" = true ∨ t.led = true) ∧ L.length * 5 < t.mask * 3 ∧ L.length < 64
/-- the set at a with the members L -/
def SetO (P : Program) (w : World) (a : Addr) (L : List (Addr × List Key)) : HO := .ext fun h => Held P w h a L
section
variable {P : Program} {w : World} {h : Heap} {a : Addr} {L : List (Addr × List Key)}
theorem SetH.held {es : Array (Int × Value)} {ep : Nat} {t : SetTable} (Z : SetH (tupleKind (mixKind P w)) h a L es ep t) : Held P w h a L := ⟨es, ep, t, Z.ob, Z.rows, Z.tab, Z.nd, Z.led, Z.room, Z.few⟩
theorem Held.set (R : Held P w h a L) (key : ∀ q ∈ L, IsTupleKey (mixKind P w) h q.2 q.1) : ∃ es ep t, SetH (tupleKind (mixKind P w)) h a L es ep t := by
  obtain ⟨es, ep, t, r1, r2, r3, r4, r5, r6, r7⟩ := R.ex
  exact ⟨es, ep, t, r1, r2, r3, r4, key, r5, r6, r7⟩
theorem setO_ok {H : Hp} (R : Held P w h a L) : ObjOk P w H h a (SetO P w a L) := by
  obtain ⟨es, ep, t, ⟨o, ho, _⟩, _⟩ := R.ex
  refine ⟨R, ⟨o, ho⟩, fun g1 g2 (R1 : Held P w g1 a L) k => ?_⟩
  obtain ⟨es, ep, t, ⟨o, ho, r⟩, q⟩ := R1.ex
  exact ⟨es, ep, t, ⟨o, k o ho, r⟩, q⟩
end

section
variable {X : Cx} {pins : List (Addr × Obj)} {σ : L2.St} {H : Hp} {s : Shared}
theorem items_mix {P : Program} {w : World} : ∀ {k : List Key} {us : List Value}, Vals (k.map kV) us → ItemsAre (mixKind P w) k us
  | [], _, .nil => .nil
  | .inl i :: k, _, .cons r t => by
    obtain ⟨tk, rfl⟩ := r
    exact .cons (mixKind_int P w i tk) (items_mix t)
  | .inr x :: k, _, .cons r t => by
    obtain ⟨tk, rfl⟩ := r
    exact .cons (mixKind_str P w x tk) (items_mix t)
theorem reads_mix {h : Heap} : ∀ {k : List Key} {us : List Value}, Vals (k.map kV) us → ReadsAll h us (k.map kD) []
  | [], _, .nil => .nil
  | .inl i :: k, _, .cons r t => by
    obtain ⟨tk, rfl⟩ := r
    exact ReadsAll.cons (as := []) (bs := []) (Reads.int i tk) (reads_mix t)
  | .inr x :: k, _, .cons r t => by
    obtain ⟨tk, rfl⟩ := r
    exact ReadsAll.cons (as := []) (bs := []) (Reads.str x tk) (reads_mix t)
theorem key_raw (I : Inv X pins σ H s) {b : Addr} {k : List Key} (h : SqT X.K H b (k.map kV)) : IsTupleKey (mixKind X.prog X.w) s.heap k b ∧ Reads s.heap (.ref b) (tD k) [] := by
  obtain ⟨its, r, ⟨o, ho, hc, n, hd⟩, _⟩ := I.tuple h
  exact ⟨⟨o, its.toArray, n, ho, hc, hd, by simpa using items_mix r⟩, Reads.tuple ho hc hd (by simpa using reads_mix r)⟩
theorem refs_raw {α : Type} (f : α → Addr) : ∀ {ks : List α} {us : List Value}, Vals (ks.map fun q => V.ref (f q)) us → us = ks.map fun q => Value.ref (f q)
  | [], _, .nil => rfl
  | q :: ks, _, .cons r t => by
    cases r
    rw [refs_raw f t]
    rfl
theorem refs_vals {α : Type} (f : α → Addr) : ∀ (ks : List α), Vals (ks.map fun q => V.ref (f q)) (ks.map fun q => Value.ref (f q))
  | [] => .nil
  | q :: ks => .cons rfl (refs_vals f ks)

/-- set(xs), xs a list of tuples -/
def rSetOfD (K : PySem.W.Frag) (P : Program) (w : World) : List V → Hp → VK → Prop := fun vs H Q => ∃ (l : Addr) (ks : List (Addr × List Key)), vs = [V.ref l] ∧ SqL K H l (ks.map fun q => V.ref q.1) ∧ (∀ q ∈ ks, SqT K H q.1 (q.2.map kV)) ∧ (∃ ds : List (List Key), (∀ q ∈ ks, q.2 ∈ ds) ∧ ds.length < 64) ∧
  ∀ a L, H a = none → (∀ q ∈ L, q ∈ ks) → (∀ q ∈ ks, q.2 ∈ L.map Prod.snd) → (L.map Prod.snd).Nodup → Q (.ref a) (upd H a (SetO P w a L))
theorem cr_setOfD (hc : X.calm = true) (hu : X.A.units + 64 < cLine) : CallR X (.type "set") (rSetOfD X.K X.prog X.w) := by
  intro pins s σ H vs us Q I r h
  obtain ⟨l, ks, rfl, hl, hk, hf, q⟩ := h
  rw [Vals.ref1 r]
  obtain ⟨its, rv, il, _⟩ := I.list hl
  refine call_set_keys (P := X.prog) (w := X.w) (knd := tupleKind (mixKind X.prog X.w)) mixSet ks (I.ok.hd hc) il.isList (by simpa using refs_raw Prod.fst rv) (fun p hp => (key_raw I (hk p hp)).1) hf (by show X.A.in1.in1.in1.units < cLine; have z : X.A.in1.in1.in1.units ≤ X.A.units + 64 := (by simp only [Around.in1]; omega); omega) fun s2 mk => ?_
  obtain ⟨h', tk, L, es, ep, t, rfl, Z, c, kp⟩ := mk
  refine ⟨.ref s.heap.objs.size, upd H s.heap.objs.size (SetO X.prog X.w s.heap.objs.size L), I.laid (t' := tk) kp (Nat.le_refl _) (setO_ok Z.held), rfl, q _ L (I.hok.fresh (Nat.le_refl _)) (fun p m => List.mem_of_mem_take (c.inn p m)) (fun p m => c.got p (by rw [List.take_length]; exact m)) Z.nd⟩

/-- set(xs), xs short -/
def rSetOf (K : PySem.W.Frag) (P : Program) (w : World) : List V → Hp → VK → Prop := fun vs H Q => ∃ (l : Addr) (ks : List (Addr × List Key)), vs = [V.ref l] ∧ SqL K H l (ks.map fun q => V.ref q.1) ∧ (∀ q ∈ ks, SqT K H q.1 (q.2.map kV)) ∧ ks.length < 64 ∧
  ∀ a L, H a = none → (∀ q ∈ L, q ∈ ks) → (∀ q ∈ ks, q.2 ∈ L.map Prod.snd) → (L.map Prod.snd).Nodup → Q (.ref a) (upd H a (SetO P w a L))
theorem cr_setOf (hc : X.calm = true) (hu : X.A.units + 64 < cLine) : CallR X (.type "set") (rSetOf X.K X.prog X.w) := by
  intro pins s σ H vs us Q I r h
  obtain ⟨l, ks, e, hl, hk, hf, q⟩ := h
  exact cr_setOfD hc hu pins s σ H vs us Q I r ⟨l, ks, e, hl, hk, ⟨ks.map Prod.snd, fun q m => List.mem_map.mpr ⟨q, m, rfl⟩, by rw [List.length_map]; exact hf⟩, q⟩

/-- len of such a set -/
def rLenS (P : Program) (w : World) : List V → Hp → VK → Prop := fun vs H Q => ∃ (a : Addr) (L : List (Addr × List Key)), vs = [V.ref a] ∧ H a = some (SetO P w a L) ∧ Q (.int L.length) H
theorem held_fits {P : Program} {w : World} {h : Heap} {L : List (Addr × List Key)} {es : Array (Int × Value)} {t : SetTable} (r : es.toList = rowsH (tupleKind (mixKind P w)) L) (T : TabOk t (hashH (tupleKind (mixKind P w)) L)) (rm : L.length * 5 < t.mask * 3) : es.size = L.length ∧ t.fits es.size = true := by
  have e1 : es.size = L.length := by rw [← Array.length_toList, r, rowsH_len]
  have e2 := T.sz
  rw [hashH_len] at e2
  refine ⟨e1, ?_⟩
  unfold SetTable.fits SetTable.fill
  rw [T.dm, Bool.and_eq_true, beq_iff_eq, decide_eq_true_eq, e2, e1]
  refine ⟨rfl, ?_⟩
  show L.length + 0 ≤ t.mask
  omega
theorem cr_lenS : CallR X (.builtin "len") (rLenS X.prog X.w) := by
  intro pins s σ H vs us Q I r h
  obtain ⟨a, L, rfl, ha, q⟩ := h
  rw [Vals.ref1 r]
  have R : Held X.prog X.w s.heap a L := (I.hok a _ ha).1
  obtain ⟨es, ep, t, ⟨o, ho, hex, hd⟩, r2, r3, _, _, r6, r7⟩ := R.ex
  obtain ⟨e1, e2⟩ := held_fits (h := s.heap) r2 r3 r6
  refine call_len_set ho hex hd e2 (by rw [e1]; omega) ⟨.int L.length, H, I.tok _, ⟨_, by rw [e1]⟩, q⟩

/-- sorted(xs) of a list of tuples: one list -/
def rSortL (K : PySem.W.Frag) : List V → Hp → VK → Prop := fun vs H Q => ∃ (a : Addr) (L : List (Addr × List Key)), vs = [V.ref a] ∧ SqL K H a (L.map fun q => V.ref q.1) ∧ (∀ q ∈ L, SqT K H q.1 (q.2.map kV)) ∧ AllAlike (L.map fun q => tD q.2) ∧ Sortable (L.map fun q => tD q.2) ∧
  ∀ p, H p = none → Q (.ref p) (upd H p (.lst ((L.mergeSort (dataLe false fun q => tD q.2)).map fun q => V.ref q.1)))
theorem tD_depth (k : List Key) : (tD k).depth ≤ 1 := by
  have all : ∀ k : List Key, PyData.depthAll (k.map kD) = 0 := by
    intro k
    induction k with
    | nil => rfl
    | cons x k ih => cases x <;> simp [kD, PyData.depthAll, PyData.depth, ih]
  simp [tD, PyData.depth, all]
theorem cr_sortL (hu : X.A.units + 64 < cLine) : CallR X (.builtin "sorted") (rSortL X.K) := by
  intro pins s σ H vs us Q I r h
  obtain ⟨a, L, rfl, hl, hk, al, so, q⟩ := h
  rw [Vals.ref1 r]
  obtain ⟨its, rv, il, sz⟩ := I.list hl
  have ei := refs_raw Prod.fst rv
  have each : ∀ (R : Value → Addr × List Key → Prop) (M : List (Addr × List Key)), (∀ q ∈ M, R (.ref q.1) q) → EachIs R (M.map fun q => Value.ref q.1) M := by
    intro R M
    induction M with
    | nil => exact fun _ => .nil
    | cons x M ih => exact fun g => .cons (g x List.mem_cons_self) (ih fun y m => g y (List.mem_cons_of_mem _ m))
  rw [List.length_map] at sz
  subst ei
  refine sorted_data (R := fun v q => v = Value.ref q.1) (enc := fun q : Addr × List Key => tD q.2) (bs := L) il.isList (each _ L fun q _ => rfl) (each _ L fun q m => ⟨[], (key_raw I (hk q m)).2⟩) al so sz (fun b _ => by have z := tD_depth b.2; omega) fun out lo eo => ?_
  have eout : ∀ {o : List Value} {M : List (Addr × List Key)}, EachIs (fun v q => v = Value.ref q.1) o M → o = M.map fun q => Value.ref q.1 := by
    intro o M z
    induction z with
    | nil => rfl
    | cons e _ ih => rw [e, ih]; rfl
  have eo' := eout eo
  subst eo'
  obtain ⟨ep, he⟩ := PyProof.Rows.sortedAll_at s.heap (L.map fun q => Value.ref q.1) (((L.mergeSort (dataLe false fun q => tD q.2)).map fun q => Value.ref q.1).toArray)
  refine ⟨.ref _, upd H (s.heap.objs.size + 1) (.lst ((L.mergeSort (dataLe false fun q => tD q.2)).map fun q => V.ref q.1)), I.laid (t' := s.toks) (fun _ _ => PyProof.Rows.sortedAll_old) (Nat.le_succ _) ⟨?_, _, ep, refs_vals Prod.fst _, he⟩, rfl, q _ (I.hok.fresh (Nat.le_succ _))⟩
  rw [List.length_map, List.length_mergeSort]
  exact sz

/-- sorted(set): one list, of the members in some order sorted -/
def rSortS (K : PySem.W.Frag) (P : Program) (w : World) : List V → Hp → VK → Prop := fun vs H Q => ∃ (a : Addr) (L : List (Addr × List Key)), vs = [V.ref a] ∧ H a = some (SetO P w a L) ∧ (∀ q ∈ L, SqT K H q.1 (q.2.map kV)) ∧ (AllAlike (L.map fun q => tD q.2)) ∧ Sortable (L.map fun q => tD q.2) ∧
  ∀ (L1 : List (Addr × List Key)) p, L1.Perm L → L.length < 64 → (L.map Prod.snd).Nodup → H p = none → Q (.ref p) (upd H p (.lst ((L1.mergeSort (dataLe false fun q => tD q.2)).map fun q => V.ref q.1)))
theorem cr_sortS (hc : X.calm = true) (hu : X.A.units + 64 < cLine) : CallR X (.builtin "sorted") (rSortS X.K X.prog X.w) := by
  intro pins s σ H vs us Q I r h
  obtain ⟨a, L, rfl, ha, hk, al, so, q⟩ := h
  rw [Vals.ref1 r]
  have R : Held X.prog X.w s.heap a L := (I.hok a _ ha).1
  obtain ⟨es, ep, t, ⟨o, ho, hex, hd⟩, r2, r3, r4, r5, r6, r7⟩ := R.ex
  obtain ⟨e1, e2⟩ := held_fits (h := s.heap) r2 r3 r6
  refine Calls.call_function_entry kind_sorted plain_sorted entry_sorted (args_sorted1 _) ?_
  unfold Builtin.«sorted»
  refine wpAny_bind (m := checkCount "sorted" 1 1 _) (wpAny_pure ?_)
  refine wpAny_bind (collect_set (A := X.A.in1) (I.ok.hd hc) ⟨o, ho, hex.1, hd⟩ e2 (by unfold scanBound; omega) r3.ris r5 fun s1 vs kp gr g1 o1 pm => ?_)
  have em : es.toList.map (·.2) = L.map fun q => Value.ref q.1 := by
    rw [r2]
    unfold rowsH
    rw [List.map_map]
    rfl
  rw [em] at pm
  obtain ⟨L1, p1, ev⟩ := perm_lift (fun q : Addr × List Key => Value.ref q.1) pm L rfl
  have less : L1.length < 64 := by rw [p1.length_eq]; exact r7
  have vlen : vs.length = L1.length := by rw [ev, List.length_map]
  refine wpAny_bind (wpAny_newList ?_ (by rw [sizeLine_eq]; omega))
  have oL : (s1.heap.push (seqObj "list" vs.toArray 0)).get? s1.heap.objs.size = some (seqObj "list" vs.toArray 0) := Heap.get?_push_size _ rfl
  have each : ∀ (R : Value → Addr × List Key → Prop) (M : List (Addr × List Key)), (∀ q ∈ M, R (.ref q.1) q) → EachIs R (M.map fun q => Value.ref q.1) M := by
    intro R M
    induction M with
    | nil => exact fun _ => .nil
    | cons x M ih => exact fun g => .cons (g x List.mem_cons_self) (ih fun y m => g y (List.mem_cons_of_mem _ m))
  have pmap : (L1.map fun q => tD q.2).Perm (L.map fun q => tD q.2) := p1.map _
  refine wpAny_bind (wpAny_holding (list_sort_data (s := { s1 with heap := s1.heap.push (seqObj "list" vs.toArray 0) }) (R := fun v q => v = Value.ref q.1) (enc := fun q : Addr × List Key => tD q.2) (bs := L1) oL (by rw [ev]; exact each _ L1 fun q _ => rfl)
    (by rw [ev]; exact each _ L1 fun q m => ⟨[], PyProof.Rows.Reads.keeps (fun b u e => Heap.get?_push_of_some _ (kp b u e)) (key_raw I (hk q (p1.mem_iff.mp m))).2, fun z => nomatch z⟩)
    (fun d m d' m' => al d (pmap.mem_iff.mp m) d' (pmap.mem_iff.mp m')) ?_ (by rw [sizeLine_eq]; omega) (fun b _ => by have z := tD_depth b.2; have y : X.A.in1.units ≤ X.A.units + 32 := (by simp only [Around.in1]; omega); omega) fun out lo eo => ?_))
  · rcases so with g | g
    · exact .inl fun d m => g d (pmap.mem_iff.mp m)
    · exact .inr fun d m => g d (pmap.mem_iff.mp m)
  · have eout : ∀ {o : List Value} {M : List (Addr × List Key)}, EachIs (fun v q => v = Value.ref q.1) o M → o = M.map fun q => Value.ref q.1 := by
      intro o M z
      induction z with
      | nil => rfl
      | cons e _ ih => rw [e, ih]; rfl
    have eo' := eout eo
    subst eo'
    obtain ⟨c, hc2⟩ := sortedHeap_at (vs := vs) (out := (List.toArray ((L1.mergeSort (dataLe false fun q => tD q.2)).map fun q => Value.ref q.1))) oL
    have kp2 : ∀ b u, s.heap.get? b = some u → (sortedHeap (s1.heap.push (seqObj "list" vs.toArray 0)) s1.heap.objs.size vs (List.toArray ((L1.mergeSort (dataLe false fun q => tD q.2)).map fun q => Value.ref q.1))).get? b = some u := fun b u e => by
      have z := kp b u e
      have lt := Heap.lt_size z
      rw [sortedHeap_old (Nat.ne_of_lt lt) (by rw [size_push']; exact Nat.lt_succ_of_lt lt)]
      exact Heap.get?_push_of_some _ z
    have ll : ((L1.mergeSort (dataLe false fun q => tD q.2)).map fun q => V.ref q.1).length ≤ sizeLine := by
      rw [List.length_map, List.length_mergeSort, sizeLine_eq]
      omega
    have J : Inv X pins σ (upd H s1.heap.objs.size (.lst ((L1.mergeSort (dataLe false fun q => tD q.2)).map fun q => V.ref q.1))) { s with heap := sortedHeap (s1.heap.push (seqObj "list" vs.toArray 0)) s1.heap.objs.size vs (List.toArray ((L1.mergeSort (dataLe false fun q => tD q.2)).map fun q => Value.ref q.1)), gens := s1.gens, drawn := s1.drawn, toks := s1.toks } :=
      I.call (ch := []) (Un.laid kp2 gr (I.hok.fresh gr)) (I.hok.laid kp2 gr ⟨ll, _, c, refs_vals Prod.fst _, hc2⟩) (by rw [g1]; exact I.bare) (fun _ z => nomatch z)
    have es : ({ s1 with heap := sortedHeap (s1.heap.push (seqObj "list" vs.toArray 0)) s1.heap.objs.size vs (List.toArray ((L1.mergeSort (dataLe false fun q => tD q.2)).map fun q => Value.ref q.1)) } : Shared) = { s with heap := sortedHeap (s1.heap.push (seqObj "list" vs.toArray 0)) s1.heap.objs.size vs (List.toArray ((L1.mergeSort (dataLe false fun q => tD q.2)).map fun q => Value.ref q.1)), gens := s1.gens, drawn := s1.drawn, toks := s1.toks } := by
      rw [← o1]
    refine wpAny_pure ⟨_, rfl, ?_⟩
    rw [es]
    exact ⟨.ref s1.heap.objs.size, _, J, rfl, q L1 _ p1 r7 r4 (I.hok.fresh gr)⟩
end
end Kd

-- ===== KS7 =====
set_option Elab.async false
set_option linter.all false
set_option maxRecDepth 100000
set_option maxHeartbeats 3200000
namespace Kd
open PySem PySem.Spec PyProof.Rows L2

/-! ### {elt for a in A for b in B} -/
section
variable {prog : Program} {w : World} {A : Around} {R : Result → Shared → Prop} {s : Shared} {elt ta ia tb ib : Expr} {scope : Scope} {pos : Pos} {it acc : Value} {env : Env}
/-- the comprehension itself -/
abbrev two (elt ta ia tb ib : Expr) (scope : Scope) (pos : Pos) : Expr := .SetComp elt [⟨ta, ia, [], 0⟩, ⟨tb, ib, [], 0⟩] scope pos
theorem turn_a : compTurn (two elt ta ia tb ib scope pos) 0 it acc env = (do
    standAt ia.pos
    match ← pyNext it with
    | none => pure (.done .next)
    | some v =>
      letOwnedTupleGo ta it v
      assign ta env v
      let x ← eval ib env
      standAt ib.pos
      let x ← foldedSetIterable ib env x
      let _ ← runOwn (.compStart (two elt ta ia tb ib scope pos) 1 (← holding [x] (pyIter x)) acc env) env
      again (.compLoop (two elt ta ia tb ib scope pos) 0 it acc env)) := by rfl
theorem turn_b : compTurn (two elt ta ia tb ib scope pos) 1 it acc env = (do
    standAt ib.pos
    match ← pyNext it with
    | none => pure (.done .next)
    | some v =>
      letOwnedTupleGo tb it v
      assign tb env v
      (do let v ← eval elt env; standAt elt.pos; let _ ← call (.builtin "set.add") [acc, v])
      again (.compLoop (two elt ta ia tb ib scope pos) 1 it acc env)) := by rfl
/-- what fails leaves by the frame's note -/
abbrev fails (prog : Program) (w : World) (A : Around) (env : Env) (R : Result → Shared → Prop) : Value → Shared → Prop := notedBy (model prog w) A env fun e s' => R (.error e) s'
theorem loop_a (pureI : ∀ x, foldedSetIterable ib env x = pure x) (I : Nat → Shared → Prop)
    (turn : ∀ n s, I n s → wpAny (model prog w) A (pyNext it) (fun r s1 => match r with
      | none => R (.ok .next) s1
      | some v => wpAny (model prog w) A (letOwnedTupleGo ta it v) (fun _ s2 => wpAny (model prog w) A (assign ta env v) (fun _ s3 => wpAny (model prog w) A (eval ib env) (fun x s4 => wpAny (model prog w) A (pyIter x) (fun jt s5 =>
          codeAny (model prog w) A (.compStart (two elt ta ia tb ib scope pos) 1 jt acc env) (fun r s' => match r with
            | .ok _ => ∃ m, m < n ∧ I m s'
            | .error _ => False) s5) (fails prog w A env R) s4) (fails prog w A env R) s3) (fails prog w A env R) s2) (fails prog w A env R) s1) (fails prog w A env R) s)
    (n : Nat) (h : I n s) : codeAny (model prog w) A (.compLoop (two elt ta ia tb ib scope pos) 0 it acc env) R s := by
  refine codeAny_loop rfl I (fun n s hI => ?_) n h
  show wpAny _ A ((compTurn (two elt ta ia tb ib scope pos) 0 it acc env).onRaise (fun x => do noteFrame x env; theTreesLotGoes x)) _ _ s
  refine wpAny_noted ?_
  rw [turn_a]
  refine wpAny_bind (wpAny_standAt (wpAny_bind (wpAny_mono (turn n s hI) (fun r s1 g => ?_) fun _ _ x => x)))
  cases r with
  | none => exact wpAny_pure g
  | some v =>
    refine wpAny_bind (wpAny_mono g (fun _ s2 g2 => wpAny_bind (wpAny_mono g2 (fun _ s3 g3 => wpAny_bind (wpAny_mono g3 (fun x s4 g4 => ?_) fun _ _ x => x)) fun _ _ x => x)) fun _ _ x => x)
    refine wpAny_bind (wpAny_standAt (wpAny_bind (wpAny_of_eq (pureI x) (wpAny_bind (wpAny_holding (wpAny_mono g4 (fun jt s5 g5 => ?_) fun _ _ x => x))))))
    refine wpAny_bind (wpAny_runOwn ?_)
    rw [Around.mark_none]
    refine codeAny_mono g5 fun r s' hr => ?_
    cases r with
    | ok f => exact wpAny_pure ⟨rfl, hr⟩
    | error e => exact hr.elim
theorem loop_b (I : Nat → Shared → Prop)
    (turn : ∀ n s, I n s → wpAny (model prog w) A (pyNext it) (fun r s1 => match r with
      | none => R (.ok .next) s1
      | some v => wpAny (model prog w) A (letOwnedTupleGo tb it v) (fun _ s2 => wpAny (model prog w) A (assign tb env v) (fun _ s3 => wpAny (model prog w) A (eval elt env) (fun x s4 =>
          wpAny (model prog w) A (call (.builtin "set.add") [acc, x]) (fun _ s5 => ∃ m, m < n ∧ I m s5) (fails prog w A env R) s4) (fails prog w A env R) s3) (fails prog w A env R) s2) (fails prog w A env R) s1) (fails prog w A env R) s)
    (n : Nat) (h : I n s) : codeAny (model prog w) A (.compLoop (two elt ta ia tb ib scope pos) 1 it acc env) R s := by
  refine codeAny_loop rfl I (fun n s hI => ?_) n h
  show wpAny _ A ((compTurn (two elt ta ia tb ib scope pos) 1 it acc env).onRaise (fun x => do noteFrame x env; theTreesLotGoes x)) _ _ s
  refine wpAny_noted ?_
  rw [turn_b]
  refine wpAny_bind (wpAny_standAt (wpAny_bind (wpAny_mono (turn n s hI) (fun r s1 g => ?_) fun _ _ x => x)))
  cases r with
  | none => exact wpAny_pure g
  | some v =>
    refine wpAny_bind (wpAny_mono g (fun _ s2 g2 => wpAny_bind (wpAny_mono g2 (fun _ s3 g3 => ?_) fun _ _ x => x)) fun _ _ x => x)
    exact wpAny_bind (wpAny_bind (wpAny_mono g3 (fun x s4 g4 => wpAny_bind (wpAny_standAt (wpAny_bind (wpAny_mono g4 (fun _ s5 g5 => wpAny_pure (wpAny_pure ⟨rfl, g5⟩)) fun _ _ x => x)))) fun _ _ x => x))
/-- a clause's start, the first's or the second's -/
theorem start_b (h0 : codeAny (model prog w) A (.compLoop (two elt ta ia tb ib scope pos) 1 it acc env) R s)
    (h : wpAny (model prog w) A (pyIter it) (fun it' s' => codeAny (model prog w) A (.compLoop (two elt ta ia tb ib scope pos) 1 it' acc env) R s') (fails prog w A env R) s) : codeAny (model prog w) A (.compStart (two elt ta ia tb ib scope pos) 1 it acc env) R s := by
  refine codeAny_of_tree ?_
  show wpAny _ _ ((compStart (two elt ta ia tb ib scope pos) 1 it acc env).onRaise (fun x => do noteFrame x env; standAt theWindowsPlace)) _ _ s
  refine wpAny_notedAt ?_
  unfold compStart
  show wpAny _ _ (ask >>= _) _ _ s
  refine wpAny_bind (wpAny_askSetting (wpAny_ite ?_))
  split
  · exact wpAny_pure (And.intro rfl h0)
  · refine wpAny_bind (wpAny_rule ?_)
    show wpAny _ _ (standAt ib.pos >>= _) _ _ s
    exact wpAny_bind (wpAny_standAt (wpAny_bind (wpAny_mono h (fun it' s' g => wpAny_pure (And.intro rfl g)) fun _ _ x => x)))
end

section
variable {X : Cx} {pins : List (Addr × Obj)} {σ : L2.St} {H : Hp} {s : Shared}
/-- a key added to a tracked set -/
theorem add_ok {E : Value → Shared → Prop} {D e : Addr} {k : List Key} {L : List (Addr × List Key)} {Q : Value → Shared → Prop} (I : Inv X pins σ H s) (hD : H D = some (SetO X.prog X.w D L)) (he : SqT X.K H e (k.map kV)) (hL : ∀ q ∈ L, SqT X.K H q.1 (q.2.map kV))
    (room : k ∉ L.map Prod.snd → L.length + 1 < 64) (hu : X.A.units + 2 < cLine) (h : ∀ L' s', (k ∈ L.map Prod.snd → L' = L) → (k ∉ L.map Prod.snd → L'.Perm ((e, k) :: L)) → Inv X pins σ (upd H D (SetO X.prog X.w D L')) s' → Q .none s') :
    wpAny (model X.prog X.w) X.A (call (.builtin "set.add") [.ref D, .ref e]) Q E s := by
  have R : Held X.prog X.w s.heap D L := (I.hok D _ hD).1
  obtain ⟨es, ep, t, Z⟩ := R.set fun q m => (key_raw I (hL q m)).1
  refine call_add mixSet Z (key_raw I he).1 (by show X.A.in1.units < cLine; have z : X.A.in1.units ≤ X.A.units + 2 := (by simp only [Around.in1]; omega); omega) room fun h' tk L' es' ep' t' sb Z' c1 c2 le => ?_
  obtain ⟨o, ho, _⟩ := Z'.ob
  exact h L' _ c1 c2 (I.write (e := D) (t' := tk) (by rw [hD]; trivial) (.inl rfl) (fun b u hb hu => (sb.2 b hb).trans hu) ⟨o, ho⟩ (setO_ok Z'.held))
end
end Kd

-- ===== KS8 =====
set_option Elab.async false
set_option linter.all false
set_option maxRecDepth 100000
set_option maxHeartbeats 3200000
namespace Kd
open PySem PySem.Spec PyProof.Rows L2
section
variable {X : Cx}
/-- the contexts in which a comprehension's parts run -/
abbrev Blks (X : Cx) (scope : Scope) (p : Cx → Prop) : Prop := ∀ (s : Shared) (H : Hp) (C : Addr) (cl : List (PySem.Str × Addr)) (fp : List Addr), p (X.blk s H scope (compEnvC scope cl C X.env) fp)
/-- {elt for ta in ia for tb in ib}, elt a tuple: D the new set. vs: the block's names; us: those of the second target -/
def tSc2 (K : PySem.W.Frag) (P : Program) (w : World) (wa : TI) (ga : TG) (wb : TI) (gb : TG) (te : TE) (vs us : List Nat) : TE := fun σ H Q => wa σ H fun J H1 => ∀ D, H1 D = none → ∃ W : Nat → Nat → Hp → Prop, (∃ m, W 0 m (upd H1 D (SetO P w D []))) ∧ ∀ i m H2, W i m H2 →
  (J.stop i H2 ∧ Q (.ref D) H2) ∨ (J.go i H2 ∧ ∃ Nx : Hp → Prop, (∀ H3, Nx H3 → ∃ m', m' < m ∧ W (i + 1) m' H3) ∧ ∀ x H3, J.yld i H2 x H3 → ga x (wipe σ vs) H3 fun σ4 H4 => wipe σ4 vs = wipe σ vs ∧ wb σ4 H4 fun J1 H5 =>
    ∃ W1 : Nat → Nat → Hp → Prop, (∃ m, W1 0 m H5) ∧ ∀ j k H6, W1 j k H6 → (J1.stop j H6 ∧ Nx H6) ∨ (J1.go j H6 ∧ ∃ Nx1 : Hp → Prop, (∀ H7, Nx1 H7 → ∃ k', k' < k ∧ W1 (j + 1) k' H7) ∧ ∀ x H7, J1.yld j H6 x H7 →
      gb x (wipe σ4 us) H7 fun σ8 H8 => wipe σ8 us = wipe σ4 us ∧ te σ8 H8 fun y H9 => ∃ (e : Addr) (c : List Key) (L : List (Addr × List Key)), y = .ref e ∧ SqT K H9 e (c.map kV) ∧ H9 D = some (SetO P w D L) ∧ (∀ q ∈ L, SqT K H9 q.1 (q.2.map kV)) ∧ (c ∉ L.map Prod.snd → L.length + 1 < 64) ∧
        ∀ L', (c ∈ L.map Prod.snd → L' = L) → (c ∉ L.map Prod.snd → L'.Perm ((e, c) :: L)) → Nx1 (upd H9 D (SetO P w D L'))))

theorem pe_sc2 {elt ta ia tb ib : Expr} {scope : Scope} {own : List (PySem.Str × Nat)} {us : List Nat} {pos : Pos} {wa wb : TI} {ga gb : TG} {te : TE} (hc : X.calm = true) (hN : X.N.Nodup) (hu : X.A.units + 2 < cLine) (hia : PI X ta ia wa) (ok : BlkOk X.N X.env.scope scope own) (hus : ∀ i ∈ us, i ∈ own.map (·.2))
    (hga : Blks X scope fun Y => PG Y ta ga) (hib : Blks X scope fun Y => PI Y tb ib wb) (hgb : Blks X scope fun Y => PG Y tb gb) (hel : Blks X scope fun Y => PE Y elt te)
    (pa : ∀ x, foldedSetIterable ia X.env x = pure x := by intro _; rfl) (pb : ∀ env x, foldedSetIterable ib env x = pure x := by intro _ _; rfl) :
    PE X (two elt ta ia tb ib scope pos) (tSc2 X.K X.prog X.w wa ga wb gb te (own.map (·.2)) us) := by
  refine ⟨fun pins s σ H Q I h => ?_⟩
  rw [PpSet.eval_SetComp]
  have caught : ∀ y ∈ scope.names, y.2 = .free → ∃ c, X.env.cells.lookup y.1 = some c := fun y m e => (ok.free y m e).elim (fun k => I.ok.has _ (.inl k)) (fun k => I.ok.has _ (.inr k))
  refine wpAny_comprehension_free (use := none) rfl pa (closure_ok caught) ok.kind (fun y m e => by rw [ok.uniq y m, e]) (thn (hia.run pins s σ H _ I h) fun xv s1 hx => thn hx fun itv s2 h2 => ?_)
  obtain ⟨it, fp, tn, J, H2, rfl, I2, T, st2, f2, q⟩ := h2
  refine PpSet.newSet_ok (newEnv_comp ?_)
  generalize eD : s2.heap.objs.size = D
  have D0 : H2 D = none := I2.hok.fresh (Nat.le_of_eq eD)
  obtain ⟨W, ⟨m0, w0⟩, turn⟩ := q D D0
  -- the new set stands
  generalize e3 : ({ s2 with heap := s2.heap.push (newO X.w) } : Shared) = s3
  have hp3 : s3.heap = s2.heap.push (newO X.w) := by rw [← e3]
  have I3 : Inv X pins σ (upd H2 D (SetO X.prog X.w D [])) s3 := by
    rw [← e3]
    refine I2.laid (t' := s2.toks) (fun b o e => Heap.get?_push_of_some _ e) (Nat.le_of_eq eD) (setO_ok (SetH.held (ep := 0) (setH_new ?_)))
    rw [← eD]
    exact Heap.get?_push_size _ rfl
  have low : ∀ b ∈ fp, b < s2.heap.objs.size := fun b m => by
    obtain ⟨o, e, _⟩ := T.obj _ _ st2 b m
    exact Heap.lt_size e
  have f3 : ∀ b ∈ fp, FpOk X pins (upd H2 D (SetO X.prog X.w D [])) b ∧ b < s3.heap.objs.size := fun b m => by
    refine ⟨⟨?_, (f2 b m).2⟩, by rw [hp3, Heap.size_push]; exact Nat.lt_succ_of_lt (low b m)⟩
    rw [upd_ne (by rw [← eD]; exact Nat.ne_of_lt (low b m))]
    exact (f2 b m).1
  have st3 : tn 0 s3.heap := T.keep _ _ _ st2 fun b _ o e => by rw [hp3]; exact Heap.get?_push_of_some _ e
  have I4 := block_start I3 ok hN f3
  have ga4 := hga s3 (upd H2 D (SetO X.prog X.w D [])) s3.heap.objs.size (cellsFrom (s3.heap.objs.size + 1) scope.names (cloFrom X.env.cells scope.names [])) fp
  have ib4 := hib s3 (upd H2 D (SetO X.prog X.w D [])) s3.heap.objs.size (cellsFrom (s3.heap.objs.size + 1) scope.names (cloFrom X.env.cells scope.names [])) fp
  have gb4 := hgb s3 (upd H2 D (SetO X.prog X.w D [])) s3.heap.objs.size (cellsFrom (s3.heap.objs.size + 1) scope.names (cloFrom X.env.cells scope.names [])) fp
  have el4 := hel s3 (upd H2 D (SetO X.prog X.w D [])) s3.heap.objs.size (cellsFrom (s3.heap.objs.size + 1) scope.names (cloFrom X.env.cells scope.names [])) fp
  show codeAny _ _ (.compStart (two elt ta ia tb ib scope pos) 0 (.ref it) (.ref D) (compEnvC scope (cellsFrom (s3.heap.objs.size + 1) scope.names (cloFrom X.env.cells scope.names [])) s3.heap.objs.size X.env)) (compPost (model X.prog X.w) X.A X.xe none _ (.ref D) s3.heap.objs.size) { s3 with heap := pushCells (s3.heap.push { cls := .type "dict", data := .dict #[] }) scope.names }
  have fp0 : ∀ b ∈ fp, (upd H2 D (SetO X.prog X.w D [])) b = none := fun b m => (f3 b m).1.1
  generalize ece : compEnvC scope (cellsFrom (s3.heap.objs.size + 1) scope.names (cloFrom X.env.cells scope.names [])) s3.heap.objs.size X.env = ce at I4 ga4 ib4 gb4 el4 ⊢
  have loc : ce.locals = s3.heap.objs.size := by subst ece; rfl
  generalize upd H2 D (SetO X.prog X.w D []) = H3 at I3 I4 ga4 ib4 gb4 el4 w0 fp0 f3
  generalize e4 : ({ s3 with heap := pushCells (s3.heap.push { cls := .type "dict", data := .dict #[] }) scope.names } : Shared) = s4 at I4 ⊢
  have st4 : tn 0 s4.heap := T.keep _ _ _ st3 fun b _ o e => by rw [← e4]; exact pushCells_keeps _ _ _ _ (Heap.get?_push_of_some _ e)
  have still : ∀ {τ : L2.St} {G : Hp} {u : Shared}, Inv (X.blk s3 H3 scope ce fp) [] τ G u → (∀ b ∈ fp, G b = none) → ∀ b ∈ fp, FpOk (X.blk s3 H3 scope ce fp) [] G b := fun {τ G u} Iu no b m =>
    ⟨no b m, (Iu.ok.exf b m).1, Iu.ok.exfs b m, .inl m, fun x c e => (Iu.ok.exf b m).2 x c e, fun p z => absurd (show p ∈ ([] : List (Addr × Obj)) ++ [] from z) (by simp)⟩
  refine PpSet.codeAny_compStart_set ?loop (T.self X.A 0 _ _ _ st4 ?loop)
  refine loop_a (pb ce) (fun n u => ∃ i G, Inv (X.blk s3 H3 scope ce fp) [] (wipe σ (own.map (·.2))) G u ∧ tn i u.heap ∧ (∀ b ∈ fp, G b = none) ∧ W i n G) (fun n s5 hI => ?_) m0 ⟨0, H3, I4, st4, fp0, w0⟩
  obtain ⟨i, H5, I5, st5, no5, w5⟩ := hI
  rcases turn i n H5 w5 with ⟨stop, fin⟩ | ⟨go, Nx, hNx, step⟩
  · -- at the end: back in the def
    refine thnF (T.done (X.blk s3 H3 scope ce fp) rfl rfl rfl hc i [] s5 _ H5 (fun _ _ => False) I5 (still I5 no5) st5 stop) fun r s6 ⟨hr, I6⟩ => ?_
    subst hr
    have I7 : Inv X pins σ H5 s6 := I3.call' (ch := fp) I6.os I6.base I6.hok I6.bare fun b m => ⟨(f3 b m).1.2.2.2.1, (f3 b m).1.2.1, (f3 b m).1.2.2.2.2.1, (f3 b m).1.2.2.2.2.2⟩
    have none5 : H5 s3.heap.objs.size = none := by
      have z : H5 ce.locals = none := I6.free
      rwa [loc] at z
    obtain ⟨m, hn, _⟩ := I6.loc
    have hn : s6.heap.Ns ce.locals m := hn
    rw [loc] at hn
    obtain ⟨g0, g1, g2, g3, g4, g5⟩ := I3.fpOk (Nat.le_refl _) none5
    exact ⟨m, hn, fun h'' sb => ⟨.ref D, H5, I7.turned (t' := s6.toks) (fun b o ne e => (sb.2 b ne).trans e) g0 g1 g3 g4 g5, rfl, fin⟩⟩
  · refine thnF (T.item (X.blk s3 H3 scope ce fp) rfl rfl rfl hc i [] s5 _ H5 (fun _ _ => False) I5 (still I5 no5) st5 go) fun r s6 ⟨u, hr, h6⟩ => ?_
    subst hr
    refine thnF h6 fun _ s7 ⟨x, H7, I7, r7, y7, st7, no7⟩ => ?_
    have I7p := I7.pinned (still I7 no7) (T.obj _ _ st7)
    refine thnF (ga4.run _ s7 _ H7 x u _ I7p r7 (step x H7 y7)) fun _ s8 ⟨σ8, H8, I8, wp8, q8⟩ => ?_
    have len8 : (wipe σ (own.map (·.2))).length = σ8.length := by rw [← wp8, wipe_length]
    -- what the turn comes to
    have next : ∀ {τ : L2.St} {v : Shared} {G : Hp}, Inv (X.blk s3 H3 scope ce fp) ([] ++ pinsAt fp s7.heap) τ G v → (wipe σ (own.map (·.2))).length = τ.length → (∀ (j : Nat) z, (wipe σ (own.map (·.2)))[j]? = some (some z) → τ[j]? = some (some z)) → Nx G →
        ∃ m, m < n ∧ ∃ i G, Inv (X.blk s3 H3 scope ce fp) [] (wipe σ (own.map (·.2))) G v ∧ tn i v.heap ∧ (∀ b ∈ fp, G b = none) ∧ W i m G := fun {τ v G} Iv le ke nx => by
      obtain ⟨m', lt, w'⟩ := hNx G nx
      have pinned : ∀ b ∈ fp, ∀ o, s7.heap.get? b = some o → v.heap.get? b = some o ∧ G b = none := fun b m o e =>
        have z := Iv.pin (b, o) (List.mem_append_right _ (List.mem_append_right _ (mem_pinsAt m e)))
        ⟨z.1, z.2.1⟩
      refine ⟨m', lt, i + 1, G, (Iv.unpinned (pins := [])).weak le ke, T.keep _ _ _ st7 fun b m o e => (pinned b m o e).1, fun b m => ?_, w'⟩
      obtain ⟨o, e, _⟩ := T.obj _ _ st7 b m
      exact (pinned b m o e).2
    refine thnF (ib4.run _ s8 σ8 H8 _ I8 q8) fun xv s9 hx => thnF hx fun jt s10 h10 => ?_
    obtain ⟨jt, gp, un, J1, H10, rfl, I10, U, su10, f10, W1, ⟨m1, v1⟩, turn1⟩ := h10
    have still1 : ∀ {G : Hp}, (∀ b ∈ gp, G b = none) → ∀ b ∈ gp, FpOk (X.blk s3 H3 scope ce fp) ([] ++ pinsAt fp s7.heap) G b := fun no b m => ⟨no b m, (f10 b m).2⟩
    have inner : codeAny (model X.prog X.w) X.A (.compLoop (two elt ta ia tb ib scope pos) 1 (.ref jt) (.ref D) ce) (fun r v => match r with
        | .ok _ => ∃ m, m < n ∧ ∃ i G, Inv (X.blk s3 H3 scope ce fp) [] (wipe σ (own.map (·.2))) G v ∧ tn i v.heap ∧ (∀ b ∈ fp, G b = none) ∧ W i m G
        | .error _ => False) s10 := by
      refine loop_b (fun k v => ∃ j G, Inv (X.blk s3 H3 scope ce fp) ([] ++ pinsAt fp s7.heap) (wipe σ8 us) G v ∧ un j v.heap ∧ (∀ b ∈ gp, G b = none) ∧ W1 j k G) (fun k s12 hI => ?_) m1 ⟨0, H10, I10.weak (wipe_length _ _) (fun j v e => (wipe_some e).1), su10, fun b m => (f10 b m).1, v1⟩
      obtain ⟨j, H12, I12, su12, no12, w12⟩ := hI
      rcases turn1 j k H12 w12 with ⟨stop1, nx⟩ | ⟨go1, Nx1, hNx1, step1⟩
      · refine thnF (U.done (X.blk s3 H3 scope ce fp) rfl rfl rfl hc j _ s12 (wipe σ8 us) H12 (fun _ _ => False) I12 (still1 no12) su12 stop1) fun r s13 ⟨hr, I13⟩ => ?_
        subst hr
        refine next I13 (len8.trans (wipe_length σ8 us).symm) (fun j v e => ?_) nx
        rw [← wp8] at e
        obtain ⟨a1, a2⟩ := wipe_some e
        rw [wipe_out fun z => a2 (hus j z)]
        exact a1
      · refine thnF (U.item (X.blk s3 H3 scope ce fp) rfl rfl rfl hc j _ s12 (wipe σ8 us) H12 (fun _ _ => False) I12 (still1 no12) su12 go1) fun r s13 ⟨u1, hr, h13⟩ => ?_
        subst hr
        refine thnF h13 fun _ s14 ⟨x1, H14, I14, r14, y14, su14, no14⟩ => ?_
        have I14p := I14.pinned (still1 no14) (U.obj _ _ su14)
        refine thnF (gb4.run _ s14 (wipe σ8 us) H14 x1 u1 _ I14p r14 (step1 x1 H14 y14)) fun _ s15 ⟨σ15, H15, I15, wp15, q15⟩ => ?_
        refine thnF (el4.run _ s15 σ15 H15 _ I15 q15) fun z s17 ⟨yv, H17, I17, r17, e, c, L, ey, he, hD, hL, room, nx⟩ => ?_
        subst ey
        cases r17
        refine add_ok (X := X.blk s3 H3 scope ce fp) I17 hD he hL room hu fun L' s18 c1 c2 I18 => ?_
        obtain ⟨m', lt, w'⟩ := hNx1 _ (nx L' c1 c2)
        have pinned : ∀ b ∈ gp, ∀ o, s14.heap.get? b = some o → s18.heap.get? b = some o ∧ (upd H17 D (SetO X.prog X.w D L')) b = none := fun b m o e =>
          have z := I18.pin (b, o) (List.mem_append_right _ (List.mem_append_right _ (mem_pinsAt m e)))
          ⟨z.1, z.2.1⟩
        refine ⟨m', lt, j + 1, _, I18.unpinned.weak (by rw [← wp15, wipe_length]) (fun j v e => by rw [← wp15] at e; exact (wipe_some e).1), U.keep _ _ _ su14 fun b m o e => (pinned b m o e).1, fun b m => ?_, w'⟩
        obtain ⟨o, e, _⟩ := U.obj _ _ su14 b m
        exact (pinned b m o e).2
    exact start_b inner (U.self X.A 0 _ _ _ su10 inner)
end
end Kd

-- ===== KS9 =====
set_option Elab.async false
set_option linter.all false
set_option maxRecDepth 100000
set_option maxHeartbeats 3200000
namespace Kd
open PySem PySem.Spec PyProof.Rows L2
section
variable {X : Cx} {pins : List (Addr × Obj)} {σ : L2.St} {H : Hp} {s : Shared}
/-- an entry with a tuple for its key, by a comprehension -/
theorem put_ok {E : Value → Shared → Prop} {D b : Addr} {kvs : List (List Key × V)} {k : List Key} {v : V} {r : Value} {Q : Unit → Shared → Prop} (hu : X.A.units + 2 < cLine) (I : Inv X pins σ H s) (hD : H D = some (.dT kvs)) (hb : H b = some (.tup (k.map kV))) (room : kvs.length < sizeLine) (rv : RelV v r)
    (h : ∀ s', Inv X pins σ (upd H D (.dT (putK kvs k v))) s' → Q () s') : wpAny (model X.prog X.w) X.A (dictSet D (.ref b) r) Q E s := by
  obtain ⟨z, nsys, xs, rel, dd⟩ := dt_of I.hok hD
  have xz : xs.length ≤ sizeLine := by rw [← Paired.length rel]; exact z
  have pz : (putK kvs k v).length ≤ sizeLine := by have := length_putK kvs k v; omega
  refine wpAny_dictSet_heap (hsz := xz) (show X.A.units < cLine by omega) (key_of I.hok hb) dd fun h' dd' sb => h _ ?_
  obtain ⟨o, es, ep, ho, o2, o3, o4, _, o5⟩ := dd'
  refine d_write I (by rw [hD]; exact True.intro) sb ⟨o, ho⟩ ⟨pz, nsys, _, (rel.put k hb rv).keeps fun c ys e => ?_, o, es, ep, ho, o2, o3, o4, o5⟩
  rw [upd_ne (ne_of e hD (fun z => nomatch z))]
  exact e
end
section
variable {X : Cx}
/-- {key: val for ta in ia}, the key a tuple: D the new dict -/
def tDcT (wa : TI) (ga : TG) (tk tv : TE) (vs : List Nat) : TE := fun σ H Q => wa σ H fun J H1 => ∀ D, H1 D = none → ∃ W : Nat → Nat → Hp → Prop, (∃ m, W 0 m (upd H1 D (.dT []))) ∧ ∀ i m H2, W i m H2 →
  (J.stop i H2 ∧ Q (.ref D) H2) ∨ (J.go i H2 ∧ ∃ Nx : Hp → Prop, (∀ H3, Nx H3 → ∃ m', m' < m ∧ W (i + 1) m' H3) ∧ ∀ x H3, J.yld i H2 x H3 → ga x (wipe σ vs) H3 fun σ4 H4 => wipe σ4 vs = wipe σ vs ∧ tk σ4 H4 fun y H5 => tv σ4 H5 fun z H6 =>
    ∃ (kvs : List (List Key × V)) (k : List Key) (b : Addr), y = .ref b ∧ H6 b = some (.tup (k.map kV)) ∧ H6 D = some (.dT kvs) ∧ kvs.length < sizeLine ∧ Nx (upd H6 D (.dT (putK kvs k z))))
theorem pe_dcT {kx vx ta ia : Expr} {scope : Scope} {own : List (PySem.Str × Nat)} {pos : Pos} {wa : TI} {ga : TG} {tk tv : TE} (hc : X.calm = true) (hN : X.N.Nodup) (hu : X.A.units + 2 < cLine) (hia : PI X ta ia wa) (ok : BlkOk X.N X.env.scope scope own)
    (hga : Blks X scope fun Y => PG Y ta ga) (hk : Blks X scope fun Y => PE Y kx tk) (hv : Blks X scope fun Y => PE Y vx tv) (pa : ∀ x, foldedSetIterable ia X.env x = pure x := by intro _; rfl) :
    PE X (.DictComp kx vx [⟨ta, ia, [], 0⟩] scope pos) (tDcT wa ga tk tv (own.map (·.2))) := by
  refine ⟨fun pins s σ H Q I h => ?_⟩
  rw [arm_eval_DictComp]
  have caught : ∀ y ∈ scope.names, y.2 = .free → ∃ c, X.env.cells.lookup y.1 = some c := fun y m e => (ok.free y m e).elim (fun k => I.ok.has _ (.inl k)) (fun k => I.ok.has _ (.inr k))
  refine wpAny_comprehension_free (use := none) rfl pa (closure_ok caught) ok.kind (fun y m e => by rw [ok.uniq y m, e]) (thn (hia.run pins s σ H _ I h) fun xv s1 hx => thn hx fun itv s2 h2 => ?_)
  obtain ⟨it, fp, tn, J, H2, rfl, I2, T, st2, f2, q⟩ := h2
  refine wpAny_newObj_type (newEnv_comp ?_)
  generalize eD : s2.heap.objs.size = D
  have D0 : H2 D = none := I2.hok.fresh (Nat.le_of_eq eD)
  obtain ⟨W, ⟨m0, w0⟩, turn⟩ := q D D0
  generalize e3 : ({ s2 with heap := s2.heap.push { cls := .type "dict", data := .dict #[] } } : Shared) = s3
  have hp3 : s3.heap = s2.heap.push { cls := .type "dict", data := .dict #[] } := by rw [← e3]
  have I3 : Inv X pins σ (upd H2 D (.dT [])) s3 := by
    rw [← e3]
    refine I2.laid (t' := s2.toks) (fun b o e => Heap.get?_push_of_some _ e) (Nat.le_of_eq eD) ?_
    rw [← eD]
    exact dt_empty s2.heap I2.big
  have low : ∀ b ∈ fp, b < s2.heap.objs.size := fun b m => by
    obtain ⟨o, e, _⟩ := T.obj _ _ st2 b m
    exact Heap.lt_size e
  have f3 : ∀ b ∈ fp, FpOk X pins (upd H2 D (.dT [])) b ∧ b < s3.heap.objs.size := fun b m => by
    refine ⟨⟨?_, (f2 b m).2⟩, by rw [hp3, Heap.size_push]; exact Nat.lt_succ_of_lt (low b m)⟩
    rw [upd_ne (by rw [← eD]; exact Nat.ne_of_lt (low b m))]
    exact (f2 b m).1
  have st3 : tn 0 s3.heap := T.keep _ _ _ st2 fun b _ o e => by rw [hp3]; exact Heap.get?_push_of_some _ e
  have I4 := block_start I3 ok hN f3
  have ga4 := hga s3 (upd H2 D (.dT [])) s3.heap.objs.size (cellsFrom (s3.heap.objs.size + 1) scope.names (cloFrom X.env.cells scope.names [])) fp
  have k4 := hk s3 (upd H2 D (.dT [])) s3.heap.objs.size (cellsFrom (s3.heap.objs.size + 1) scope.names (cloFrom X.env.cells scope.names [])) fp
  have v4 := hv s3 (upd H2 D (.dT [])) s3.heap.objs.size (cellsFrom (s3.heap.objs.size + 1) scope.names (cloFrom X.env.cells scope.names [])) fp
  show codeAny _ _ (.compStart (.DictComp kx vx [⟨ta, ia, [], 0⟩] scope pos) 0 (.ref it) (.ref D) (compEnvC scope (cellsFrom (s3.heap.objs.size + 1) scope.names (cloFrom X.env.cells scope.names [])) s3.heap.objs.size X.env)) (compPost (model X.prog X.w) X.A X.xe none _ (.ref D) s3.heap.objs.size) { s3 with heap := pushCells (s3.heap.push { cls := .type "dict", data := .dict #[] }) scope.names }
  have fp0 : ∀ b ∈ fp, (upd H2 D (.dT [])) b = none := fun b m => (f3 b m).1.1
  generalize ece : compEnvC scope (cellsFrom (s3.heap.objs.size + 1) scope.names (cloFrom X.env.cells scope.names [])) s3.heap.objs.size X.env = ce at I4 ga4 k4 v4 ⊢
  have loc : ce.locals = s3.heap.objs.size := by subst ece; rfl
  generalize upd H2 D (.dT []) = H3 at I3 I4 ga4 k4 v4 w0 fp0 f3
  generalize e4 : ({ s3 with heap := pushCells (s3.heap.push { cls := .type "dict", data := .dict #[] }) scope.names } : Shared) = s4 at I4 ⊢
  have st4 : tn 0 s4.heap := T.keep _ _ _ st3 fun b _ o e => by rw [← e4]; exact pushCells_keeps _ _ _ _ (Heap.get?_push_of_some _ e)
  have still : ∀ {τ : L2.St} {G : Hp} {u : Shared}, Inv (X.blk s3 H3 scope ce fp) [] τ G u → (∀ b ∈ fp, G b = none) → ∀ b ∈ fp, FpOk (X.blk s3 H3 scope ce fp) [] G b := fun {τ G u} Iu no b m =>
    ⟨no b m, (Iu.ok.exf b m).1, Iu.ok.exfs b m, .inl m, fun x c e => (Iu.ok.exf b m).2 x c e, fun p z => absurd (show p ∈ ([] : List (Addr × Obj)) ++ [] from z) (by simp)⟩
  refine codeAny_compStart_dict ?loop (T.self X.A 0 _ _ _ st4 ?loop)
  refine compLoop_anyD (fun n u => ∃ i G, Inv (X.blk s3 H3 scope ce fp) [] (wipe σ (own.map (·.2))) G u ∧ tn i u.heap ∧ (∀ b ∈ fp, G b = none) ∧ W i n G) (fun n s5 hI => ?_) m0 ⟨0, H3, I4, st4, fp0, w0⟩
  obtain ⟨i, H5, I5, st5, no5, w5⟩ := hI
  rcases turn i n H5 w5 with ⟨stop, fin⟩ | ⟨go, Nx, hNx, step⟩
  · refine thnF (T.done (X.blk s3 H3 scope ce fp) rfl rfl rfl hc i [] s5 _ H5 (fun _ _ => False) I5 (still I5 no5) st5 stop) fun r s6 ⟨hr, I6⟩ => ?_
    subst hr
    have I7 : Inv X pins σ H5 s6 := I3.call' (ch := fp) I6.os I6.base I6.hok I6.bare fun b m => ⟨(f3 b m).1.2.2.2.1, (f3 b m).1.2.1, (f3 b m).1.2.2.2.2.1, (f3 b m).1.2.2.2.2.2⟩
    have none5 : H5 s3.heap.objs.size = none := by
      have z : H5 ce.locals = none := I6.free
      rwa [loc] at z
    obtain ⟨m, hn, _⟩ := I6.loc
    have hn : s6.heap.Ns ce.locals m := hn
    rw [loc] at hn
    obtain ⟨g0, g1, g2, g3, g4, g5⟩ := I3.fpOk (Nat.le_refl _) none5
    exact ⟨m, hn, fun h'' sb => ⟨.ref D, H5, I7.turned (t' := s6.toks) (fun b o ne e => (sb.2 b ne).trans e) g0 g1 g3 g4 g5, rfl, fin⟩⟩
  · refine thnF (T.item (X.blk s3 H3 scope ce fp) rfl rfl rfl hc i [] s5 _ H5 (fun _ _ => False) I5 (still I5 no5) st5 go) fun r s6 ⟨u, hr, h6⟩ => ?_
    subst hr
    refine thnF h6 fun _ s7 ⟨x, H7, I7, r7, y7, st7, no7⟩ => ?_
    have I7p := I7.pinned (still I7 no7) (T.obj _ _ st7)
    refine thnF (ga4.run _ s7 _ H7 x u _ I7p r7 (step x H7 y7)) fun _ s8 ⟨σ8, H8, I8, wp8, q8⟩ => ?_
    refine thnF ((pts_nil (X := X.blk s3 H3 scope ce fp)).run _ s8 σ8 H8 (fun b G => b = true ∧ tk σ8 G _) I8 ⟨rfl, q8⟩) fun b s9 ⟨H9, I9, eb, q9⟩ => ?_
    subst eb
    simp only [if_true]
    refine thnF (k4.run _ s9 σ8 H9 _ I9 q9) fun z1 s10 ⟨yk, H10, I10, r10, q10⟩ => ?_
    refine thnF (v4.run _ s10 σ8 H10 _ I10 q10) fun z2 s11 ⟨yv, H11, I11, r11, kvs, k, b, ek, hb, hD, room, nx⟩ => ?_
    subst ek
    cases r10
    refine put_ok (X := X.blk s3 H3 scope ce fp) hu I11 hD hb room r11 fun s12 I12 => ?_
    obtain ⟨m', lt, w'⟩ := hNx _ nx
    have pinned : ∀ b ∈ fp, ∀ o, s7.heap.get? b = some o → s12.heap.get? b = some o ∧ (upd H11 D (.dT (putK kvs k yv))) b = none := fun b m o e =>
      have z := I12.pin (b, o) (List.mem_append_right _ (List.mem_append_right _ (mem_pinsAt m e)))
      ⟨z.1, z.2.1⟩
    refine ⟨m', lt, i + 1, _, (I12.unpinned (pins := [])).weak (by rw [← wp8, wipe_length]) (fun j v e => by rw [← wp8] at e; exact (wipe_some e).1), T.keep _ _ _ st7 fun b m o e => (pinned b m o e).1, fun b m => ?_, w'⟩
    obtain ⟨o, e, _⟩ := T.obj _ _ st7 b m
    exact (pinned b m o e).2
end
end Kd

-- ===== K61B =====
set_option Elab.async false
set_option linter.all false
set_option maxRecDepth 100000
set_option maxHeartbeats 4000000
namespace My
open PySem L2 PyProof.Rows PySem.Spec Kd
abbrev sMoves : Stmt := top 6
abbrev sText : Stmt := top 14
abbrev sLine : Stmt := top 15
abbrev sUntext : Stmt := top 16
abbrev sUnline : Stmt := top 17
abbrev sUnstep : Stmt := top 18
abbrev sWord : Stmt := top 24
abbrev sNumber : Stmt := top 25
abbrev sStates : Stmt := top 26
abbrev sState : Stmt := top 27
abbrev sStep : Stmt := top 28
/-! ### data of tuples, texts and ints -/
mutual
inductive TD (H : Hp) : V → PyData → Prop
  | int (i : Int) : TD H (.int i) (.int i)
  | str (x : Str) : TD H (.str x) (.str x)
  | tup {a : Addr} {xs : List V} {ds : List PyData} : H a = some (.tup xs) → TDs H xs ds → TD H (.ref a) (.tuple ds)
inductive TDs (H : Hp) : List V → List PyData → Prop
  | nil : TDs H [] []
  | cons {v : V} {vs : List V} {d : PyData} {ds : List PyData} : TD H v d → TDs H vs ds → TDs H (v :: vs) (d :: ds)
end
/-- tuples that stood stand -/
def Tup (H H' : Hp) : Prop := ∀ a xs, H a = some (.tup xs) → H' a = some (.tup xs)
theorem Tup.refl (H : Hp) : Tup H H := fun _ _ e => e
theorem Tup.trans {H H1 H2 : Hp} (a : Tup H H1) (b : Tup H1 H2) : Tup H H2 := fun x xs e => b x xs (a x xs e)
theorem Tup.of {H H' : Hp} (s : Same H H') : Tup H H' := fun a xs e => s a _ e
theorem Tup.new {H : Hp} {p : Addr} {o : HO} (n : H p = none) : Tup H (upd H p o) := fun a xs e => by
  rw [upd_ne (ne_of_none e n)]
  exact e
theorem Tup.at_ {H : Hp} {p : Addr} {o o' : HO} (n : H p = some o') (h : ∀ xs, o' ≠ .tup xs) : Tup H (upd H p o) := fun a xs e => by
  rw [upd_ne (fun z => by rw [z, n] at e; exact h xs (Option.some.inj e))]
  exact e
mutual
theorem TD.to {H H' : Hp} (s : Tup H H') : ∀ {v : V} {d : PyData}, TD H v d → TD H' v d
  | _, _, .int i => .int i
  | _, _, .str x => .str x
  | _, _, .tup h1 h2 => .tup (s _ _ h1) (TDs.to s h2)
theorem TDs.to {H H' : Hp} (s : Tup H H') : ∀ {vs : List V} {ds : List PyData}, TDs H vs ds → TDs H' vs ds
  | _, _, .nil => .nil
  | _, _, .cons h1 h2 => .cons (TD.to s h1) (TDs.to s h2)
end
mutual
theorem TD.dp {K : PySem.W.Frag} {H : Hp} : ∀ {v : V} {d : PyData}, TD H v d → Dp K H v d
  | _, _, .int i => .int i
  | _, _, .str x => .str x
  | _, _, .tup h1 h2 => .tup (SqT.of h1) (TDs.dp h2)
theorem TDs.dp {K : PySem.W.Frag} {H : Hp} : ∀ {vs : List V} {ds : List PyData}, TDs H vs ds → DpAll K H vs ds
  | _, _, .nil => .nil
  | _, _, .cons h1 h2 => .cons (TD.dp h1) (TDs.dp h2)
end
mutual
theorem TD.dq {H : Hp} : ∀ {v : V} {d : PyData}, TD H v d → Dq (fun _ => True) H v d
  | _, _, .int i => .int i
  | _, _, .str x => .str x
  | _, _, .tup h1 h2 => .tup trivial h1 (TDs.dq h2)
theorem TDs.dq {H : Hp} : ∀ {vs : List V} {ds : List PyData}, TDs H vs ds → DqAll (fun _ => True) H vs ds
  | _, _, .nil => .nil
  | _, _, .cons h1 h2 => .cons (TD.dq h1) (TDs.dq h2)
end
theorem TDs.len {H : Hp} : ∀ {vs : List V} {ds : List PyData}, TDs H vs ds → vs.length = ds.length
  | _, _, .nil => rfl
  | _, _, .cons _ h2 => by rw [List.length_cons, List.length_cons, h2.len]
theorem TDs.get {H : Hp} : ∀ {vs : List V} {ds : List PyData}, TDs H vs ds → ∀ {i : Nat} {v : V}, vs[i]? = some v → ∃ d, ds[i]? = some d ∧ TD H v d
  | _, _, .nil, i, v, e => by simp at e
  | _, _, .cons h1 h2, 0, v, e => ⟨_, rfl, by have z := Option.some.inj e; rw [← z]; exact h1⟩
  | _, _, .cons h1 h2, i + 1, v, e => h2.get (i := i) e
theorem TDs.snoc {H : Hp} {v : V} {d : PyData} (h : TD H v d) : ∀ {vs : List V} {ds : List PyData}, TDs H vs ds → TDs H (vs ++ [v]) (ds ++ [d])
  | _, _, .nil => .cons h .nil
  | _, _, .cons h1 h2 => .cons h1 (TDs.snoc h h2)

/-! ### kinds as mathematics -/
abbrev Stp := Str × Str × Int
def stepD (x : Stp) : PyData := .tuple [.str x.1, .str x.2.1, .int x.2.2]
def stateD (st : List Stp) : PyData := .tuple (st.map stepD)
def statesD (ss : List (List Stp)) : PyData := .tuple (ss.map stateD)
abbrev evOf (x : Stp) : Str × Str := (x.1, x.2.1)
def LETS : Str := "abcdefghijklmnopqrstuvwxyz0123456789"
def Wrd (z : Str) : Prop := 1 ≤ z.length ∧ z.length ≤ 12 ∧ ∀ c ∈ z.cps.toList, c ∈ LETS.cps.toList
def evLt (x y : Str × Str) : Prop := x.1.cps.toList < y.1.cps.toList ∨ (x.1 = y.1 ∧ x.2.cps.toList < y.2.cps.toList)
structure StpOk (n : Nat) (x : Stp) : Prop where
  w1 : Wrd x.1
  w2 : Wrd x.2.1
  lo : 0 ≤ x.2.2
  hi : x.2.2 < n
structure StOk (n : Nat) (st : List Stp) : Prop where
  all : ∀ x ∈ st, StpOk n x
  asc : (st.map evOf).Pairwise evLt
  few : st.length ≤ 24
structure KOk (ss : List (List Stp)) : Prop where
  one : 1 ≤ ss.length
  most : ss.length ≤ 40
  all : ∀ st ∈ ss, StOk ss.length st
  evs : ∃ es : List (Str × Str), es.length ≤ 24 ∧ ∀ st ∈ ss, ∀ x ∈ st, evOf x ∈ es

/-- what the module's names hold -/
structure Gs (mg : Str → Option Value) : Prop where
  isi : mg "isinstance" = none
  str : mg "str" = none
  int : mg "int" = none
  bool : mg "bool" = none
  tuple : mg "tuple" = none
  len : mg "len" = none
  all : mg "all" = none
  set : mg "set" = none
  sorted : mg "sorted" = none
  range : mg "range" = none
  repr : mg "repr" = none
  enum : mg "enumerate" = none
  list : mg "list" = none
  min : mg "min" = none
  c40 : ∃ t, mg "MOST_STATES" = some (.int 40 t)
  c24 : ∃ t, mg "MOST_EVENTS" = some (.int 24 t)
  c12 : ∃ t, mg "MOST_LETTERS" = some (.int 12 t)
  lets : ∃ t, mg "LETTERS" = some (.str LETS t)

theorem same_at {H H2 : Hp} {D : Addr} {o : HO} (s : Same H H2) (n : H D = none) : Same H (upd H2 D o) := fun b u e => by
  rw [upd_ne (ne_of_none e n)]
  exact s b u e
theorem small_len {n m : Nat} (h : n ≤ m) (hm : m ≤ 16777216 := by decide) : n ≤ sizeLine := by rw [sizeLine_eq]; omega
theorem small_lt {n m : Nat} (h : n ≤ m) (hm : m < 16777216 := by decide) : n < sizeLine := by rw [sizeLine_eq]; omega
/-! ### walks of comprehensions -/
/-- what a list comprehension's loop over J asks, the list at D -/
def LcW (J : It) (g : TG) (tt : TT) (te : TE) (vs : List Nat) (σ : L2.St) (H1 : Hp) (D : Addr) (Qd : Hp → Prop) : Prop := ∃ W : Nat → Nat → Hp → Prop, (∃ m, W 0 m (upd H1 D (.lst []))) ∧ ∀ i m H, W i m H →
  (J.stop i H ∧ Qd H) ∨ (J.go i H ∧ ∃ Nx : Hp → Prop, (∀ H', Nx H' → ∃ m', m' < m ∧ W (i + 1) m' H') ∧ ∀ x H', J.yld i H x H' → g x (wipe σ vs) H' fun σ2 H2 => wipe σ2 vs = wipe σ vs ∧ tt σ2 H2 fun b H3 =>
    if b = true then te σ2 H3 fun y H4 => ∃ acc, H4 D = some (.lst acc) ∧ acc.length < sizeLine ∧ Nx (upd H4 D (.lst (acc ++ [y]))) else Nx H3)
theorem lc_text {x : Str} {g : TG} {tt : TT} {te : TE} {vs : List Nat} {σ : L2.St} {H1 : Hp} {D : Addr} {Qd : Hp → Prop} (Pv : Nat → Hp → Prop) (first : Pv 0 (upd H1 D (.lst [])))
    (turn : ∀ i c H, x.cps[i]? = some c → Pv i H → g (.str ⟨#[c]⟩) (wipe σ vs) H fun σ2 H2 => wipe σ2 vs = wipe σ vs ∧ tt σ2 H2 fun b H3 => if b = true then te σ2 H3 fun y H4 => ∃ acc, H4 D = some (.lst acc) ∧ acc.length < sizeLine ∧ Pv (i + 1) (upd H4 D (.lst (acc ++ [y]))) else Pv (i + 1) H3)
    (last : ∀ H, Pv x.cps.size H → Qd H) : LcW (Its x) g tt te vs σ H1 D Qd := by
  refine ⟨fun i m H => m = x.cps.size - i ∧ i ≤ x.cps.size ∧ Pv i H, ⟨_, rfl, Nat.zero_le _, first⟩, fun i m H ⟨em, le, p⟩ => ?_⟩
  subst em
  rcases Nat.lt_or_ge i x.cps.size with lt | ge
  · refine .inr ⟨lt, Pv (i + 1), fun H' p' => ⟨_, by omega, rfl, lt, p'⟩, fun v H' ⟨eH, c, ec, ev⟩ => ?_⟩
    subst eH
    subst ev
    exact turn i c _ ec p
  · have e : i = x.cps.size := by omega
    subst e
    exact .inl ⟨Nat.le_refl _, last H p⟩
/-! ### is_word -/
def spWord : Sp := fun vs H Q _ => ∃ z : Str, vs = [.str z] ∧ Wrd z ∧ ∀ H', Same H H' → Q (.bl true) H'
def spNumber : Sp := fun vs H Q _ => ∃ i : Int, vs = [.int i] ∧ 0 ≤ i ∧ Q (.bl true) H
def spStep : Sp := fun vs H Q _ => ∃ (a : Addr) (x : Stp) (n : Nat), vs = [.ref a, .int n] ∧ TD H (.ref a) (stepD x) ∧ StpOk n x ∧ ∀ H', Same H H' → Q (.bl true) H'
theorem small_str {z : Str} (h : z.length ≤ 12) : z.length ≤ sizeLine := by rw [sizeLine_eq]; omega
section
variable {P : Program} {w : World} {K : PySem.W.Frag} {mg : Str → Option Value} {base : Heap}
theorem scW : FnScope ["thing", "letter"] ["thing"] (defScope sWord) := ⟨rfl, rfl, rfl, by decide +kernel, rfl, by decide +kernel, by decide +kernel⟩
theorem ok_word {f : Addr} {fd : FuncData} (F : Fun K "is_word" "is_word" sWord f fd) (G : Gs mg) : FnOk P w K mg base CX0 1 f fd ["thing"] spWord := by
  obtain ⟨t12, m12⟩ := G.c12
  obtain ⟨tl, mlet⟩ := G.lets
  refine F.ok scW (fun vs H Q E h => ?_) (fun cdv A outer s H vs Q E hr h => ?_)
  · obtain ⟨z, rfl, _⟩ := h
    rfl
  · obtain ⟨z, rfl, wz, k⟩ := h
    refine ⟨_, pss_cons (ps_if (PW.pt (pw_or (pt_not (pt_val (pe_callB call_isi (by rfl) G.isi boot_isinstance (pa_cons (pv 0) (pa_cons (pe_bltn (v := .ty "str") (by rfl) G.str PyProof.Rows.boot_str rfl) pa_nil)))))
          (pw_or1 (pt_not (pt_chain op_le op_le pe_int (pe_callB call_len_str (by rfl) G.len PySem.boot_len (pa_cons (pv 0) pa_nil)) (pe_glob (v := .int 12) (by rfl) m12 ⟨_, rfl⟩)))))) (pss_one (ps_ret pe_bl)) pss_nil)
      (pss_one (ps_ret (pe_callB (cr_all rfl) (by rfl) G.all PyProof.Rows.boot_all (pa_cons (pe_lc (own := [("letter", 1)]) (g := gName 1) (tt := tYes) rfl scW.nd (pi_str (pv 0)) (blkOk_by (N := ["thing", "letter"]) (sc := defScope sWord) (by decide +kernel))
        (fun _ _ _ _ _ => pg_name (i := 1) scW.nd rfl (Or.inl rfl)) (fun _ _ _ _ _ => pts_nil) (fun _ _ _ _ _ => pe_cmpR op_in_sign (pv 1) (pe_glob (v := .str LETS) (by rfl) mlet ⟨_, rfl⟩) (by rfl))) pa_nil)))), ?_⟩
    refine ⟨_, rfl, _, _, _, _, _, rfl, .ty "str", .base (.str z), kit_ty (a := "str") (b := "str") (r := true) (by decide +kernel), _, rfl, iteF ?_⟩
    refine ⟨_, rfl, z, rfl, small_str wz.2.1, _, _, rfl, rfl, _, rfl, ?_⟩
    have l1 := wz.1
    have l2 := wz.2.1
    rw [decide_eq_true (show (1 : Int) ≤ z.length by omega)]
    refine iteT ⟨_, _, rfl, rfl, _, rfl, ?_⟩
    rw [decide_eq_true (show (z.length : Int) ≤ 12 by omega)]
    refine iteF ?_
    refine ⟨_, rfl, z, rfl, fun D hD => lc_text (x := z) (fun i H2 => Same H H2 ∧ H2 D = some (.lst ((List.replicate i true).map V.bl))) ⟨?_, upd_same⟩ (fun i c H2 ec ⟨s2, d2⟩ => ?_) fun H2 ⟨s2, d2⟩ => ?_⟩
    · exact same_at (Same.refl H) hD
    · have lt : i < z.cps.size := (Array.getElem?_eq_some_iff.mp ec).1
      have mem : c ∈ z.cps.toList := List.mem_of_getElem? (by rw [Array.getElem?_toList]; exact ec)
      refine ⟨rfl, _, rfl, c, LETS, rfl, rfl, ?_⟩
      rw [decide_eq_true (wz.2.2 c mem)]
      refine ⟨_, d2, ?_, same_at s2 hD, ?_⟩
      · rw [List.length_map, List.length_replicate]
        exact small_lt (m := 12) (Nat.le_trans (Nat.le_of_lt lt) l2)
      · rw [upd_same, List.replicate_succ', List.map_append]
        rfl
    · refine ⟨D, _, rfl, SqL.of d2, ?_⟩
      have e : ((List.replicate z.cps.size true).all id) = true := by simp
      rw [e]
      exact k _ s2
theorem scNu : FnScope ["thing"] ["thing"] (defScope sNumber) := ⟨rfl, rfl, rfl, by decide +kernel, rfl, by decide +kernel, by decide +kernel⟩
theorem ok_number {f : Addr} {fd : FuncData} (F : Fun K "is_number" "is_number" sNumber f fd) (G : Gs mg) : FnOk P w K mg base CX0 1 f fd ["thing"] spNumber := by
  refine F.ok scNu (fun vs H Q E h => ?_) (fun cdv A outer s H vs Q E hr h => ?_)
  · obtain ⟨i, rfl, _⟩ := h
    rfl
  · obtain ⟨i, rfl, i0, k⟩ := h
    refine ⟨_, pss_one (ps_ret (pe_and (pe_callB call_isi (by rfl) G.isi boot_isinstance (pa_cons (pv 0) (pa_cons (pe_bltn (v := .ty "int") (by rfl) G.int PyProof.Rows.boot_int rfl) pa_nil)))
      (pe_and (pe_not (pe_callB call_isi (by rfl) G.isi boot_isinstance (pa_cons (pv 0) (pa_cons (pe_bltn (v := .ty "bool") (by rfl) G.bool PyProof.Rows.boot_bool rfl) pa_nil)))) (pe_one (pe_cmpR op_ge (pv 0) pe_int (nomark _)))))), ?_⟩
    refine ⟨_, rfl, _, _, _, _, _, rfl, .ty "int", .base (.int i), kit_ty (a := "int") (b := "int") (r := true) (by decide +kernel), _, rfl, ?_⟩
    refine ⟨_, rfl, _, _, _, _, _, rfl, .ty "bool", .base (.int i), kit_ty (a := "int") (b := "bool") (r := false) (by decide +kernel), _, rfl, ?_⟩
    refine ⟨_, rfl, iteT ⟨_, rfl, _, _, rfl, rfl, ?_⟩⟩
    show Q (V.bl (decide (0 ≤ i))) H
    rw [decide_eq_true i0]
    exact k
theorem scSp : FnScope ["thing", "many"] ["thing", "many"] (defScope sStep) := ⟨rfl, rfl, rfl, by decide +kernel, rfl, by decide +kernel, by decide +kernel⟩
theorem TD.tup_of {H : Hp} {a : Addr} {ds : List PyData} (h : TD H (.ref a) (.tuple ds)) : ∃ xs, H a = some (.tup xs) ∧ TDs H xs ds := by
  cases h with
  | tup h1 h2 => exact ⟨_, h1, h2⟩
theorem TD.ref_of {H : Hp} {v : V} {ds : List PyData} (h : TD H v (.tuple ds)) : ∃ a xs, v = .ref a ∧ H a = some (.tup xs) ∧ TDs H xs ds := by
  cases h with
  | tup h1 h2 => exact ⟨_, _, rfl, h1, h2⟩
theorem step_of {H : Hp} {v : V} {x : Stp} (h : TD H v (stepD x)) : ∃ a, v = .ref a ∧ H a = some (.tup [.str x.1, .str x.2.1, .int x.2.2]) := by
  obtain ⟨a, xs, rfl, ha, hx⟩ := h.ref_of
  refine ⟨a, rfl, ?_⟩
  cases hx with
  | cons h1 t1 =>
    cases h1
    cases t1 with
    | cons h2 t2 =>
      cases h2
      cases t2 with
      | cons h3 t3 =>
        cases h3
        cases t3
        exact ha
theorem ok_step {f fW fN : Addr} {fd fdW fdN : FuncData} (F : Fun K "_is_step" "_is_step" sStep f fd) (G : Gs mg)
    (GW : FnOk P w K mg base CX0 1 fW fdW ["thing"] spWord) (mW : mg "is_word" = some (.ref fW)) (kW : PySem.W.keepIn K (.ref fW) = true) (bW : Binds K fdW ["thing"] [])
    (GN : FnOk P w K mg base CX0 1 fN fdN ["thing"] spNumber) (mN : mg "is_number" = some (.ref fN)) (kN : PySem.W.keepIn K (.ref fN) = true) (bN : Binds K fdN ["thing"] []) :
    FnOk P w K mg base CX0 2 f fd ["thing", "many"] spStep := by
  refine F.ok scSp (fun vs H Q E h => ?_) (fun cdv A outer s H vs Q E hr h => ?_)
  · obtain ⟨a, x, n, rfl, _⟩ := h
    rfl
  · obtain ⟨a, x, n, rfl, hx, xo, k⟩ := h
    refine ⟨_, pss_cons (ps_if (PW.pt (pw_or (pt_not (pt_val (pe_callB call_isi (by rfl) G.isi boot_isinstance (pa_cons (pv 0) (pa_cons (pe_bltn (v := .ty "tuple") (by rfl) G.tuple PyProof.Rows.boot_tuple rfl) pa_nil)))))
          (pw_or1 (pt_cmpR op_ne (pe_callB call_len_seq (by rfl) G.len PySem.boot_len (pa_cons (pv 0) pa_nil)) pe_int (nomark _))))) (pss_one (ps_ret pe_bl)) pss_nil)
      (pss_one (ps_ret (pe_and (pe_call GW hr (by rfl) mW kW bW .nil pass0 (pa_cons (pe_ix ix_tup (pv 0) pe_int (fun _ _ => rfl)) pa_nil))
        (pe_and (pe_call GW hr (by rfl) mW kW bW .nil pass0 (pa_cons (pe_ix ix_tup (pv 0) pe_int (fun _ _ => rfl)) pa_nil))
        (pe_and (pe_call GN hr (by rfl) mN kN bN .nil pass0 (pa_cons (pe_ix ix_tup (pv 0) pe_int (fun _ _ => rfl)) pa_nil))
        (pe_one (pe_cmpR op_lt (pe_ix ix_tup (pv 0) pe_int (fun _ _ => rfl)) (pv 1) (nomark _)))))))), ?_⟩
    obtain ⟨a', e, ha⟩ := step_of hx
    cases e
    refine ⟨_, rfl, _, _, _, _, _, rfl, .ty "tuple", .base (.tup ha), kit_ty (a := "tuple") (b := "tuple") (r := true) (by decide +kernel), _, rfl, iteF ?_⟩
    refine ⟨_, rfl, a, _, rfl, .inr (SqT.of ha), ?_⟩
    refine ⟨rfl, _, rfl, iteF ?_⟩
    refine ⟨_, rfl, a, _, _, _, rfl, rfl, SqT.of ha, rfl, x.1, rfl, xo.w1, fun H1 s1 => ⟨_, rfl, iteT ?_⟩⟩
    have h1 := s1 _ _ ha
    refine ⟨_, rfl, a, _, _, _, rfl, rfl, SqT.of h1, rfl, x.2.1, rfl, xo.w2, fun H2 s2 => ⟨_, rfl, iteT ?_⟩⟩
    have h2 := s2 _ _ h1
    refine ⟨_, rfl, a, _, _, _, rfl, rfl, SqT.of h2, rfl, x.2.2, rfl, xo.lo, ⟨_, rfl, iteT ?_⟩⟩
    refine ⟨_, rfl, a, _, _, _, rfl, rfl, SqT.of h2, rfl, _, rfl, _, _, rfl, rfl, ?_⟩
    show Q (V.bl (decide (x.2.2 < (n : Int)))) H2
    rw [decide_eq_true xo.hi]
    exact k _ (s1.trans s2)
end
end My

-- ===== K61M =====
set_option Elab.async false
set_option linter.all false
set_option maxRecDepth 100000
set_option maxHeartbeats 1600000
namespace My
open PySem L2 PyProof.Rows PySem.Spec Kd PySem.W
theorem cps_inj {x y : Str} (h : x.cps.toList = y.cps.toList) : x = y := by
  cases x
  cases y
  simp only [Str.mk.injEq]
  exact Array.toList_inj.mp h
/-- a pair of texts as a key -/
def evK (x : Str × Str) : List Key := [Sum.inr x.1, Sum.inr x.2]
theorem evK_inj {x y : Str × Str} (h : evK x = evK y) : x = y := by
  unfold evK at h
  injection h with h1 h2
  injection h2 with h3 _
  exact Prod.ext (Sum.inr.inj h1) (Sum.inr.inj h3)
theorem evLt_irrefl (x : Str × Str) : ¬ evLt x x := fun h => by
  rcases h with h | ⟨_, h⟩
  · exact List.lt_irrefl _ h
  · exact List.lt_irrefl _ h
theorem evLt_trans {x y z : Str × Str} (h1 : evLt x y) (h2 : evLt y z) : evLt x z := by
  rcases h1 with a | ⟨a, b⟩
  · rcases h2 with c | ⟨c, d⟩
    · exact .inl (List.lt_trans a c)
    · exact .inl (by rw [← c]; exact a)
  · rcases h2 with c | ⟨c, d⟩
    · exact .inl (by rw [a]; exact c)
    · exact .inr ⟨a.trans c, List.lt_trans b d⟩
theorem evLt_tri (x y : Str × Str) (h1 : ¬ evLt x y) (h2 : ¬ evLt y x) : x = y := by
  unfold evLt at h1 h2
  have a : x.1 = y.1 := cps_inj (List.le_antisymm (List.not_lt.mp fun z => h2 (.inl z)) (List.not_lt.mp fun z => h1 (.inl z)))
  have b : x.2 = y.2 := cps_inj (List.le_antisymm (List.not_lt.mp fun z => h2 (.inr ⟨a.symm, z⟩)) (List.not_lt.mp fun z => h1 (.inr ⟨a, z⟩)))
  exact Prod.ext a b
theorem eqv_str (x y : Str) : PyData.eqv (.str x) (.str y) = decide (x = y) := by
  by_cases e : x = y
  · subst e
    simp [PyData.eqv]
  · rw [decide_eq_false e]
    simp [PyData.eqv, e]
/-- the order of sorted on such keys -/
theorem lt_evK (x y : Str × Str) : dataLt (tD (evK x)) (tD (evK y)) = true ↔ evLt x y := by
  unfold tD evK evLt
  simp only [List.map_cons, List.map_nil, kD]
  rw [dataLt_pair rfl rfl, eqv_str, eqv_str]
  by_cases e : x.1 = y.1
  · have e0 : ¬ x.1.cps.toList < y.1.cps.toList := by rw [e]; exact List.lt_irrefl _
    rw [decide_eq_true e, if_pos rfl]
    by_cases e2 : x.2 = y.2
    · have e3 : ¬ x.2.cps.toList < y.2.cps.toList := by rw [e2]; exact List.lt_irrefl _
      rw [decide_eq_true e2, if_pos rfl]
      simp [e0, e3]
    · rw [decide_eq_false e2, if_neg (by decide), dataLt_str, decide_eq_true_eq]
      exact ⟨fun h => .inr ⟨e, h⟩, fun h => h.elim (fun z => absurd z e0) fun z => z.2⟩
  · rw [decide_eq_false e, if_neg (by decide), dataLt_str, decide_eq_true_eq]
    simp [e]
theorem le_evK {q r : Addr × List Key} {x y : Str × Str} (hq : q.2 = evK x) (hr : r.2 = evK y) : dataLe false (fun q : Addr × List Key => tD q.2) q r = true ↔ ¬ evLt y x := by
  rw [dataLe_eq]
  show (!dataLt (tD r.2) (tD q.2)) = true ↔ _
  rw [hq, hr, Bool.not_eq_true', ← Bool.not_eq_true, lt_evK]
theorem asc_nodup {es : List (Str × Str)} (h : es.Pairwise evLt) : es.Nodup := List.Pairwise.imp (fun {x y} lt e => by rw [e] at lt; exact evLt_irrefl _ lt) h
/-- whatever is sorted of what has just these keys -/
theorem sorted_is (L : List (Addr × List Key)) (es : List (Str × Str)) (asc : es.Pairwise evLt) (nd : (L.map Prod.snd).Nodup) (mem : ∀ k, k ∈ L.map Prod.snd ↔ k ∈ es.map evK) :
    (L.mergeSort (dataLe false fun q : Addr × List Key => tD q.2)).map Prod.snd = es.map evK := by
  have tot := sortLe_total (listOrd itemOrd) false fun q : Addr × List Key => keyToks (tD q.2)
  have srt : (L.mergeSort (dataLe false fun q : Addr × List Key => tD q.2)).Pairwise fun q r => dataLe false (fun q : Addr × List Key => tD q.2) q r = true := List.pairwise_mergeSort tot.trans (fun a b => by rw [Bool.or_eq_true]; exact tot.total a b) L
  have pm : (L.mergeSort (dataLe false fun q : Addr × List Key => tD q.2)).Perm L := List.mergeSort_perm _ _
  generalize L.mergeSort (dataLe false fun q : Addr × List Key => tD q.2) = M at srt pm
  have key : ∀ q ∈ M, ∃ x, q.2 = evK x := fun q hq => by
    have z := (mem q.2).mp (List.mem_map.mpr ⟨q, pm.mem_iff.mp hq, rfl⟩)
    obtain ⟨x, _, e⟩ := List.mem_map.mp z
    exact ⟨x, e.symm⟩
  -- as pairs of texts
  have back : ∃ xs : List (Str × Str), M.map Prod.snd = xs.map evK := by
    clear srt pm
    induction M with
    | nil => exact ⟨[], rfl⟩
    | cons q M ih =>
      obtain ⟨x, e⟩ := key q List.mem_cons_self
      obtain ⟨xs, e2⟩ := ih fun r hr => key r (List.mem_cons_of_mem _ hr)
      exact ⟨x :: xs, by rw [List.map_cons, List.map_cons, e, e2]⟩
  obtain ⟨xs, ex⟩ := back
  have px : (xs.map evK).Perm (es.map evK) := by
    rw [← ex]
    refine (pm.map Prod.snd).trans ((List.perm_ext_iff_of_nodup nd ?_).mpr mem)
    exact List.Pairwise.map _ (fun {x y} ne e => ne (evK_inj e)) (asc_nodup asc)
  have sx : xs.Pairwise fun x y => ¬ evLt y x := by
    have z : (M.map Prod.snd).Pairwise fun k l => ∀ x y, k = evK x → l = evK y → ¬ evLt y x := List.pairwise_map.mpr (List.Pairwise.imp (fun {q r} h x y e1 e2 => (le_evK e1 e2).mp h) srt)
    rw [ex] at z
    exact List.Pairwise.imp (fun {x y} h => h x y rfl rfl) (List.pairwise_map.mp z)
  have inj : Function.Injective evK := fun _ _ e => evK_inj e
  have p2 : xs.Perm es := by
    obtain ⟨ys, p1, e1⟩ := Kd.perm_lift evK px es rfl
    have e2 : xs = ys := by
      have : ∀ (l m : List (Str × Str)), l.map evK = m.map evK → l = m := by
        intro l
        induction l with
        | nil => intro m e; cases m with | nil => rfl | cons _ _ => cases e
        | cons x l ih =>
          intro m e
          cases m with
          | nil => cases e
          | cons y m =>
            injection e with a b
            rw [evK_inj a, ih m b]
      exact this _ _ e1
    rw [e2]
    exact p1
  have fin : xs = es := List.Perm.eq_of_pairwise (le := fun x y => ¬ evLt y x) (fun a b _ _ h1 h2 => evLt_tri a b h2 h1) sx (List.Pairwise.imp (fun {x y} lt gt => evLt_irrefl _ (evLt_trans lt gt)) asc) p2
  rw [ex, fin]
end My

-- ===== K61C =====
set_option Elab.async false
set_option linter.all false
set_option maxRecDepth 100000
set_option maxHeartbeats 4000000
namespace My
open PySem L2 PyProof.Rows PySem.Spec Kd
def spState : Sp := fun vs H Q _ => ∃ (a : Addr) (st : List Stp) (n : Nat), vs = [.ref a, .int n] ∧ TD H (.ref a) (stateD st) ∧ StOk n st ∧ ∀ H', Same H H' → Q (.bl true) H'
theorem same_new {H : Hp} {p : Addr} {o : HO} (n : H p = none) : Same H (upd H p o) := same_at (Same.refl H) n
theorem dp_keys {K : PySem.W.Frag} {H : Hp} : ∀ k : List Key, DpAll K H (k.map kV) (k.map kD)
  | [] => .nil
  | .inl i :: k => .cons (.int i) (dp_keys k)
  | .inr x :: k => .cons (.str x) (dp_keys k)
theorem dp_rows {K : PySem.W.Frag} {H : Hp} : ∀ M : List (Addr × List Key), (∀ q ∈ M, H q.1 = some (.tup (q.2.map kV))) → DpAll K H (M.map fun q => V.ref q.1) ((M.map Prod.snd).map tD)
  | [], _ => .nil
  | q :: M, h => .cons (.tup (SqT.of (h q List.mem_cons_self)) (dp_keys q.2)) (dp_rows M fun r m => h r (List.mem_cons_of_mem _ m))
theorem lets_low : ∀ c ∈ LETS.cps.toList, c < 1114112 := by decide +kernel
theorem wrd_ok {z : Str} (h : Wrd z) : PyData.strOk z = true := by
  unfold PyData.strOk
  rw [Array.all_eq_true']
  intro c hc
  have := lets_low c (h.2.2 c (Array.mem_toList_iff.mpr hc))
  simpa using this
theorem lay_rows : ∀ es : List (Str × Str), (∀ e ∈ es, Wrd e.1 ∧ Wrd e.2) → PyData.canLayAll0 ((es.map evK).map tD) = true
  | [], _ => by simp only [List.map_nil, PyData.canLayAll0]
  | e :: es, h => by
    have h1 := wrd_ok (h e List.mem_cons_self).1
    have h2 := wrd_ok (h e List.mem_cons_self).2
    simp only [List.map_cons, List.map_nil, tD, evK, kD, PyData.canLayAll0, PyData.canLay0, h1, h2, lay_rows es fun x m => h x (List.mem_cons_of_mem _ m), Bool.and_self]
theorem deep_rows : ∀ ks : List (List Key), PyData.depthAll (ks.map tD) ≤ 1
  | [] => by simp only [List.map_nil, PyData.depthAll]; omega
  | k :: ks => by
    have h1 := tD_depth k
    have h2 := deep_rows ks
    simp only [List.map_cons, PyData.depthAll]
    omega
theorem shaped_rows (es : List (Str × Str)) (w : ∀ e ∈ es, Wrd e.1 ∧ Wrd e.2) : SeqAt.shaped (.list ((es.map evK).map tD)) = true := by
  have h := deep_rows (es.map evK)
  unfold SeqAt.shaped
  rw [Bool.and_eq_true]
  refine ⟨by simp only [PyData.canLay0, lay_rows es w], decide_eq_true ?_⟩
  simp only [PyData.depth]
  omega
section
variable {P : Program} {w : World} {K : PySem.W.Frag} {mg : Str → Option Value} {base : Heap}
abbrev nSt : List Str := ["thing", "many", "events", "step"]
theorem scSt : FnScope nSt ["thing", "many"] (defScope sState) := ⟨rfl, rfl, rfl, by decide +kernel, rfl, by decide +kernel, by decide +kernel⟩
theorem ok_state {f fS : Addr} {fd fdS : FuncData} (F : Fun K "_is_state" "_is_state" sState f fd) (G : Gs mg)
    (GS : FnOk P w K mg base CX0 2 fS fdS ["thing", "many"] spStep) (mS : mg "_is_step" = some (.ref fS)) (kS : PySem.W.keepIn K (.ref fS) = true) (bS : Binds K fdS ["thing", "many"] []) :
    FnOk P w K mg base CX0 3 f fd ["thing", "many"] spState := by
  refine F.ok scSt (fun vs H Q E h => ?_) (fun cdv A outer s H vs Q E hr h => ?_)
  · obtain ⟨a, st, n, rfl, _⟩ := h
    rfl
  · obtain ⟨a, st, n, rfl, hx, so, k⟩ := h
    have hu := hr.units
    refine ⟨_, pss_cons (ps_if (PW.pt (pw_or (pt_not (pt_val (pe_callB call_isi (by rfl) G.isi boot_isinstance (pa_cons (pv 0) (pa_cons (pe_bltn (v := .ty "tuple") (by rfl) G.tuple PyProof.Rows.boot_tuple rfl) pa_nil)))))
          (pw_or1 (pt_not (pt_val (pe_callB (cr_all rfl) (by rfl) G.all PyProof.Rows.boot_all (pa_cons (pe_lc (own := [("step", 3)]) (g := gName 3) (tt := tYes) rfl scSt.nd (pi_tup (pv 0)) (blkOk_by (N := nSt) (sc := defScope sState) (by decide +kernel))
            (fun _ _ _ _ _ => pg_name (i := 3) scSt.nd rfl (Or.inl rfl)) (fun _ _ _ _ _ => pts_nil) (fun _ _ _ _ _ => pe_call GS hr (by rfl) mS kS bS .nil pass0 (pa_cons (pv 3) (pa_cons (pv 1) pa_nil)))) pa_nil))))))) (pss_one (ps_ret pe_bl)) pss_nil)
      (pss_cons (ps_setLc (i := 2) (own := [("step", 3)]) (g := gName 3) (tt := tYes) rfl scSt.nd rfl rfl (sw_true rfl rfl rfl (by decide +kernel)) (pi_tup (pv 0)) (blkOk_by (N := nSt) (sc := defScope sState) (by decide +kernel))
            (fun _ _ _ _ _ => pg_name (i := 3) scSt.nd rfl (Or.inl rfl)) (fun _ _ _ _ _ => pts_nil) (fun _ _ _ _ _ => pe_slice (r := rSlT K) sl_tup (pv 3) po_none (po_some pe_int)))
      (pss_one (ps_ret (pe_cmpR (op_eqD hu) (pv 2) (pe_callB (cr_sortS rfl hu) (by rfl) G.sorted PyProof.Rows.boot_sorted (pa_cons (pe_callTy (cr_setOf rfl hu) (by rfl) G.set PyProof.Rows.boot_set (pa_cons (pv 2) pa_nil)) pa_nil)) (nomark _))))), ?_⟩
    obtain ⟨xs, ha, hxs⟩ := hx.tup_of
    have sx : ∀ {i : Nat} {x : V}, xs[i]? = some x → ∃ y a', st[i]? = some y ∧ x = .ref a' ∧ TD H (.ref a') (stepD y) := fun {i x} e => by
      obtain ⟨d, ed, td⟩ := hxs.get e
      rw [List.getElem?_map] at ed
      obtain ⟨y, ey, rfl⟩ := Option.map_eq_some_iff.mp ed
      obtain ⟨a', rfl, _⟩ := step_of td
      exact ⟨y, a', ey, rfl, td⟩
    have len : xs.length = st.length := by
      have z := hxs.len
      rwa [List.length_map] at z
    have few := so.few
    refine ⟨_, rfl, _, _, _, _, _, rfl, .ty "tuple", .base (.tup ha), kit_ty (a := "tuple") (b := "tuple") (r := true) (by decide +kernel), _, rfl, iteF ?_⟩
    refine ⟨_, rfl, a, rfl, ⟨_, SqT.of ha⟩, fun D hD => lc_tup (K := K) (a := a) (xs := xs) (fun i H2 => Same H H2 ∧ H2 D = some (.lst ((List.replicate i true).map V.bl))) ⟨same_at (Same.refl H) hD, upd_same⟩ (fun i H2 _ ⟨s2, _⟩ => SqT.of (s2 _ _ ha)) (fun i x H2 ex ⟨s2, d2⟩ => ?_) fun H2 ⟨s2, d2⟩ => ?_⟩
    · obtain ⟨y, a', ey, rfl, td⟩ := sx ex
      have lt : i < st.length := (List.getElem?_eq_some_iff.mp ey).1
      refine ⟨rfl, _, rfl, _, rfl, a', y, n, rfl, td.to (Tup.of s2), so.all y (List.mem_of_getElem? ey), fun H3 s3 => ⟨_, s3 _ _ d2, ?_, same_at (s2.trans s3) hD, ?_⟩⟩
      · rw [List.length_map, List.length_replicate]
        exact small_lt (m := 24) (by omega)
      · rw [upd_same, List.replicate_succ', List.map_append]
        rfl
    · refine ⟨D, _, rfl, SqL.of d2, _, rfl, ?_⟩
      have e : ((List.replicate xs.length true).all id) = true := by simp
      rw [e]
      refine iteF ?_
      -- events
      have ha2 := s2 _ _ ha
      refine ⟨_, rfl, a, rfl, ⟨_, SqT.of ha2⟩, fun D2 hD2 => lc_tup (K := K) (a := a) (xs := xs) (fun i H3 => Same H2 H3 ∧ ∃ ks : List (Addr × List Key), ks.map Prod.snd = ((st.take i).map evOf).map evK ∧ H3 D2 = some (.lst (ks.map fun q => V.ref q.1)) ∧ ∀ q ∈ ks, H3 q.1 = some (.tup (q.2.map kV)))
        ⟨same_at (Same.refl H2) hD2, [], by simp, upd_same, fun q m => nomatch m⟩ (fun i H3 _ ⟨s3, _⟩ => SqT.of (s3 _ _ ha2)) (fun i x H3 ex ⟨s3, ks, k1, k2, k3⟩ => ?_) fun H3 ⟨s3, ks, k1, k2, k3⟩ => ?_⟩
      · obtain ⟨y, a', ey, rfl, td⟩ := sx ex
        obtain ⟨a'', e', hy⟩ := step_of (td.to (Tup.of (s2.trans s3)))
        cases e'
        have lt : i < st.length := (List.getElem?_eq_some_iff.mp ey).1
        have kl : ks.length ≤ 24 := by
          have z := congrArg List.length k1
          rw [List.length_map, List.length_map, List.length_map, List.length_take] at z
          omega
        refine ⟨rfl, _, rfl, 2, rfl, a', _, rfl, SqT.of hy, (fun z => absurd (show HT.sIx 3 3 (some 2) = 3 from z.2) (by decide)), fun p hp => ⟨ks.map fun q => V.ref q.1, ?_, ?_, ?_, ks ++ [(p, evK (evOf y))], ?_, ?_, ?_⟩⟩
        · rw [upd_ne (ne_of_none k2 hp)]
          exact k2
        · rw [List.length_map]
          exact small_lt (m := 24) kl
        · exact same_at (s3.trans (same_new hp)) hD2
        · rw [List.map_append, k1, List.take_succ, ey]
          simp
        · rw [upd_same, List.map_append]
          rfl
        · intro q hq
          have nD : ∀ (b : Addr) (xs : List V), (upd H3 p (.tup (cutV [V.str y.1, V.str y.2.1, V.int y.2.2] none (some 2)))) b = some (.tup xs) → b ≠ D2 := fun b xs e z => by
            rw [z, upd_ne (ne_of_none k2 hp), k2] at e
            cases e
          have at_ : (upd H3 p (.tup (cutV [V.str y.1, V.str y.2.1, V.int y.2.2] none (some 2)))) q.1 = some (.tup (q.2.map kV)) := by
            rcases List.mem_append.mp hq with m | m
            · rw [upd_ne (ne_of_none (k3 q m) hp)]
              exact k3 q m
            · rw [List.mem_singleton.mp m, upd_same]
              rfl
          rw [upd_ne (nD _ _ at_)]
          exact at_
      · -- events == sorted(set(events))
        rw [len, List.take_length] at k1
        have kl : ks.length ≤ 24 := by
          have z := congrArg List.length k1
          rw [List.length_map, List.length_map, List.length_map] at z
          omega
        have evs : ∀ q ∈ ks, ∃ e, q.2 = evK e := fun q m => by
          have z : q.2 ∈ (st.map evOf).map evK := by
            rw [← k1]
            exact List.mem_map.mpr ⟨q, m, rfl⟩
          obtain ⟨e, _, h⟩ := List.mem_map.mp z
          exact ⟨e, h.symm⟩
        refine ⟨_, rfl, _, rfl, D2, ks, rfl, SqL.of k2, fun q m => SqT.of (k3 q m), by omega, fun a2 L ha2 sub all nd => ?_⟩
        have keep : ∀ q ∈ ks, (upd H3 a2 (SetO P w a2 L)) q.1 = some (.tup (q.2.map kV)) := fun q m => by
          rw [upd_ne (ne_of_none (k3 q m) ha2)]
          exact k3 q m
        refine ⟨a2, L, rfl, upd_same, fun q m => SqT.of (keep q (sub q m)), ?_, ?_, fun L1 p pm less nd1 hp => ?_⟩
        · intro d hd d' hd'
          obtain ⟨q, m, rfl⟩ := List.mem_map.mp hd
          obtain ⟨r, m', rfl⟩ := List.mem_map.mp hd'
          obtain ⟨x, ex⟩ := evs q (sub q m)
          obtain ⟨y, ey⟩ := evs r (sub r m')
          rw [ex, ey]
          rfl
        · refine .inl fun d hd => ?_
          obtain ⟨q, m, rfl⟩ := List.mem_map.mp hd
          obtain ⟨x, ex⟩ := evs q (sub q m)
          rw [ex]
          exact ⟨_, _, rfl⟩
        have srt := sorted_is L1 (st.map evOf) so.asc ((pm.map Prod.snd).nodup_iff.mpr nd) fun k => by
          rw [(pm.map Prod.snd).mem_iff, ← k1]
          refine ⟨fun z => ?_, fun z => ?_⟩
          · obtain ⟨q, m, rfl⟩ := List.mem_map.mp z
            exact List.mem_map.mpr ⟨q, sub q m, rfl⟩
          · obtain ⟨q, m, rfl⟩ := List.mem_map.mp z
            exact all q m
        have mem1 : ∀ q ∈ L1.mergeSort (PySem.W.dataLe false fun q : Addr × List Key => tD q.2), q ∈ ks := fun q m => sub q (pm.mem_iff.mp ((List.mergeSort_perm _ _).mem_iff.mp m))
        generalize L1.mergeSort (PySem.W.dataLe false fun q : Addr × List Key => tD q.2) = M at srt mem1 ⊢
        have keep2 : ∀ q ∈ ks, (upd (upd H3 a2 (SetO P w a2 L)) p (.lst (M.map fun q => V.ref q.1))) q.1 = some (.tup (q.2.map kV)) := fun q m => by
          rw [upd_ne (ne_of_none (keep q m) hp)]
          exact keep q m
        have words : ∀ e ∈ st.map evOf, Wrd e.1 ∧ Wrd e.2 := fun e m => by
          obtain ⟨x, hx, rfl⟩ := List.mem_map.mp m
          exact ⟨(so.all x hx).w1, (so.all x hx).w2⟩
        have sh := shaped_rows (st.map evOf) words
        have hev : (upd (upd H3 a2 (SetO P w a2 L)) p (.lst (M.map fun q => V.ref q.1))) D2 = some (.lst (ks.map fun q => V.ref q.1)) := by
          have z : (upd H3 a2 (SetO P w a2 L)) D2 = some (.lst (ks.map fun q => V.ref q.1)) := by
            rw [upd_ne (ne_of_none k2 ha2)]
            exact k2
          rw [upd_ne (ne_of_none z hp)]
          exact z
        have d1 := dp_rows (K := K) ks keep2
        have d2' := dp_rows (K := K) M fun q m => keep2 q (mem1 q m)
        rw [k1] at d1
        rw [srt] at d2'
        refine ⟨_, _, .lst (SqL.of hev) d1, .lst (SqL.of upd_same) d2', sh, sh, ?_⟩
        rw [SeqAt.eqv_refl _ (by simp only [PyData.canLay0]; exact lay_rows _ words)]
        refine k _ ((s2.trans s3).trans ((same_new ha2).trans (same_new hp)))
end
end My

-- ===== K61E =====
set_option Elab.async false
set_option linter.all false
set_option maxRecDepth 100000
set_option maxHeartbeats 4000000
namespace My
open PySem L2 PyProof.Rows PySem.Spec Kd
theorem nodup_most {α : Type} [DecidableEq α] : ∀ (l D : List α), l.Nodup → (∀ x ∈ l, x ∈ D) → l.length ≤ D.length
  | [], _, _, _ => Nat.zero_le _
  | x :: l, D, nd, sub => by
    obtain ⟨n1, n2⟩ := List.nodup_cons.mp nd
    have mx := sub x List.mem_cons_self
    have ih := nodup_most l (D.erase x) n2 fun y my => (List.mem_erase_of_ne fun (e : y = x) => n1 (by rw [← e]; exact my)).2 (sub y (List.mem_cons_of_mem _ my))
    rw [List.length_erase_of_mem mx] at ih
    have pos := List.length_pos_of_mem mx
    rw [List.length_cons]
    omega
/-- what a set comprehension over J asks -/
def Sc2W (K : PySem.W.Frag) (P : Program) (w : World) (ga : TG) (wb : TI) (gb : TG) (te : TE) (vs us : List Nat) (σ : L2.St) (Q : VK) (J : It) (H1 : Hp) : Prop := ∀ D, H1 D = none → ∃ W : Nat → Nat → Hp → Prop, (∃ m, W 0 m (upd H1 D (SetO P w D []))) ∧ ∀ i m H2, W i m H2 →
  (J.stop i H2 ∧ Q (.ref D) H2) ∨ (J.go i H2 ∧ ∃ Nx : Hp → Prop, (∀ H3, Nx H3 → ∃ m', m' < m ∧ W (i + 1) m' H3) ∧ ∀ x H3, J.yld i H2 x H3 → ga x (wipe σ vs) H3 fun σ4 H4 => wipe σ4 vs = wipe σ vs ∧ wb σ4 H4 fun J1 H5 =>
    ∃ W1 : Nat → Nat → Hp → Prop, (∃ m, W1 0 m H5) ∧ ∀ j k H6, W1 j k H6 → (J1.stop j H6 ∧ Nx H6) ∨ (J1.go j H6 ∧ ∃ Nx1 : Hp → Prop, (∀ H7, Nx1 H7 → ∃ k', k' < k ∧ W1 (j + 1) k' H7) ∧ ∀ x H7, J1.yld j H6 x H7 →
      gb x (wipe σ4 us) H7 fun σ8 H8 => wipe σ8 us = wipe σ4 us ∧ te σ8 H8 fun y H9 => ∃ (e : Addr) (c : List Key) (L : List (Addr × List Key)), y = .ref e ∧ SqT K H9 e (c.map kV) ∧ H9 D = some (SetO P w D L) ∧ (∀ q ∈ L, SqT K H9 q.1 (q.2.map kV)) ∧ (c ∉ L.map Prod.snd → L.length + 1 < 64) ∧
        ∀ L', (c ∈ L.map Prod.snd → L' = L) → (c ∉ L.map Prod.snd → L'.Perm ((e, c) :: L)) → Nx1 (upd H9 D (SetO P w D L'))))
def stOf {H : Hp} {v : V} {st : List Stp} (h : TD H v (stateD st)) := h
/-- the set at D has the events that p tells -/
structure Evs (P : Program) (w : World) (H H' : Hp) (D : Addr) (p : List Key → Prop) : Prop where
  same : Same H H'
  ex : ∃ L : List (Addr × List Key), H' D = some (SetO P w D L) ∧ (∀ q ∈ L, H' q.1 = some (.tup (q.2.map kV))) ∧ (L.map Prod.snd).Nodup ∧ ∀ k, k ∈ L.map Prod.snd ↔ p k
theorem Evs.like {P : Program} {w : World} {H H' : Hp} {D : Addr} {p q : List Key → Prop} (h : Evs P w H H' D p) (e : ∀ k, p k ↔ q k) : Evs P w H H' D q := by
  obtain ⟨s, L, h1, h2, h3, h4⟩ := h
  exact ⟨s, L, h1, h2, h3, fun k => (h4 k).trans (e k)⟩
theorem ev_set {K : PySem.W.Frag} {P : Program} {w : World} {o : Option V} {a : Addr} {xs : List V} {ss : List (List Stp)} {es : List (Str × Str)} {H : Hp} (ha : H a = some (.tup xs)) (hx : TDs H xs (ss.map stateD)) (les : es.length ≤ 24) (hes : ∀ st ∈ ss, ∀ x ∈ st, evOf x ∈ es) {Q : VK}
    (q : ∀ D H' (L : List (Addr × List Key)), Same H H' → H' D = some (SetO P w D L) → (∀ q ∈ L, H' q.1 = some (.tup (q.2.map kV))) → (L.map Prod.snd).Nodup → (∀ k, k ∈ L.map Prod.snd ↔ ∃ st ∈ ss, ∃ x ∈ st, k = evK (evOf x)) → L.length ≤ 24 → Q (.ref D) H') :
    Sc2W K P w (gName 1) (iTup K (tVar 1)) (gName 2) (tSl (rSlT K) (tVar 2) tNoPart (tPart (tC (V.int 2)))) [1, 2] [2] [o, none, none] Q (Itt K a) H := by
  intro D hD
  have len : xs.length = ss.length := by
    have z := hx.len
    rwa [List.length_map] at z
  have few : ∀ {L : List (Addr × List Key)} {p : List Key → Prop}, (L.map Prod.snd).Nodup → (∀ k, k ∈ L.map Prod.snd ↔ p k) → (∀ k, p k → ∃ st ∈ ss, ∃ x ∈ st, k = evK (evOf x)) → L.length ≤ 24 := fun {L p} nd me im => by
    have z := nodup_most (L.map Prod.snd) (es.map evK) nd fun k hk => by
      obtain ⟨st, m1, x, m2, rfl⟩ := im k ((me k).mp hk)
      exact List.mem_map.mpr ⟨_, hes st m1 x m2, rfl⟩
    rw [List.length_map, List.length_map] at z
    omega
  refine ⟨fun i m H2 => m = xs.length - i ∧ i ≤ xs.length ∧ Evs P w H H2 D fun k => ∃ st ∈ ss.take i, ∃ x ∈ st, k = evK (evOf x), ⟨_, rfl, Nat.zero_le _, same_new hD, [], upd_same, (fun q m => nomatch m), List.nodup_nil, fun k => by simp⟩, fun i m H2 ⟨em, le, ev⟩ => ?_⟩
  subst em
  have ha2 := ev.same _ _ ha
  rcases Nat.lt_or_ge i xs.length with lt | ge
  · obtain ⟨x, ex⟩ : ∃ x, xs[i]? = some x := ⟨_, List.getElem?_eq_getElem lt⟩
    obtain ⟨d, ed, td⟩ := hx.get ex
    rw [List.getElem?_map] at ed
    obtain ⟨st, est, rfl⟩ := Option.map_eq_some_iff.mp ed
    obtain ⟨b, ys, rfl, hb, hy⟩ := td.ref_of
    have stm : st ∈ ss := List.mem_of_getElem? est
    have leny : ys.length = st.length := by
      have z := hy.len
      rwa [List.length_map] at z
    refine .inr ⟨⟨xs, _, SqT.of ha2, ex⟩, fun H3 => Evs P w H H3 D fun k => ∃ st ∈ ss.take (i + 1), ∃ x ∈ st, k = evK (evOf x), fun H3 e3 => ⟨_, by omega, rfl, lt, e3⟩, fun v H3 yl => ?_⟩
    obtain ⟨eH, yv⟩ := yl
    subst eH
    have e0 : xs[i]? = some v := yv _ (SqT.of ha2)
    rw [ex] at e0
    cases e0
    have hb2 := ev.same _ _ hb
    refine ⟨rfl, _, rfl, b, rfl, ⟨_, SqT.of hb2⟩, fun j m H4 => m = ys.length - j ∧ j ≤ ys.length ∧ Evs P w H H4 D fun k => (∃ st ∈ ss.take i, ∃ x ∈ st, k = evK (evOf x)) ∨ ∃ x ∈ st.take j, k = evK (evOf x), ⟨_, rfl, Nat.zero_le _, ev.like fun k => by simp⟩, fun j k H4 ⟨ek, lej, ev4⟩ => ?_⟩
    subst ek
    have hb4 := ev4.same _ _ hb
    rcases Nat.lt_or_ge j ys.length with ltj | gej
    · obtain ⟨y, ey⟩ : ∃ y, ys[j]? = some y := ⟨_, List.getElem?_eq_getElem ltj⟩
      obtain ⟨d, ed, td4⟩ := hy.get ey
      rw [List.getElem?_map] at ed
      obtain ⟨sx, esx, rfl⟩ := Option.map_eq_some_iff.mp ed
      obtain ⟨c, rfl, hc⟩ := step_of td4
      refine .inr ⟨⟨ys, _, SqT.of hb4, ey⟩, fun H5 => Evs P w H H5 D fun k => (∃ st ∈ ss.take i, ∃ x ∈ st, k = evK (evOf x)) ∨ ∃ x ∈ st.take (j + 1), k = evK (evOf x), fun H5 e5 => ⟨_, by omega, rfl, ltj, e5⟩, fun v H5 yl => ?_⟩
      obtain ⟨eH, yv⟩ := yl
      subst eH
      have e0 : ys[j]? = some v := yv _ (SqT.of hb4)
      rw [ey] at e0
      cases e0
      obtain ⟨s4, L, l1, l2, l3, l4⟩ := ev4
      have hc4 := s4 _ _ hc
      refine ⟨rfl, _, rfl, 2, rfl, c, _, rfl, SqT.of hc4, (fun z => absurd (show HT.sIx 3 3 (some 2) = 3 from z.2) (by decide)), fun p hp => ?_⟩
      have at_ : ∀ q ∈ L, (upd H5 p (.tup (cutV [V.str sx.1, V.str sx.2.1, V.int sx.2.2] none (some 2)))) q.1 = some (.tup (q.2.map kV)) := fun q m => by
        rw [upd_ne (ne_of_none (l2 q m) hp)]
        exact l2 q m
      have atD : (upd H5 p (.tup (cutV [V.str sx.1, V.str sx.2.1, V.int sx.2.2] none (some 2)))) D = some (SetO P w D L) := by
        rw [upd_ne (ne_of_none l1 hp)]
        exact l1
      have llen : L.length ≤ 24 := few l3 l4 fun k h => by
        rcases h with ⟨st', m1, x, m2, e⟩ | ⟨x, m2, e⟩
        · exact ⟨st', List.mem_of_mem_take m1, x, m2, e⟩
        · exact ⟨st, stm, x, List.mem_of_mem_take m2, e⟩
      refine ⟨p, evK (evOf sx), L, rfl, SqT.of upd_same, atD, fun q m => SqT.of (at_ q m), fun _ => by omega, fun L' c1 c2 => ?_⟩
      have tk : st.take (j + 1) = st.take j ++ [sx] := by rw [List.take_succ, esx]; rfl
      have tup2 : ∀ {b : Addr} {zs : List V}, (upd H5 p (.tup (cutV [V.str sx.1, V.str sx.2.1, V.int sx.2.2] none (some 2)))) b = some (.tup zs) → (upd (upd H5 p (.tup (cutV [V.str sx.1, V.str sx.2.1, V.int sx.2.2] none (some 2)))) D (SetO P w D L')) b = some (.tup zs) := fun {b zs} e => by
        rw [upd_ne fun z => by rw [z, atD] at e; cases e]
        exact e
      refine ⟨same_at (s4.trans (same_new hp)) hD, L', upd_same, fun q m => ?_, ?_, fun k => ?_⟩
      · by_cases h : evK (evOf sx) ∈ L.map Prod.snd
        · rw [c1 h] at m
          exact tup2 (at_ q m)
        · rcases List.mem_cons.mp ((c2 h).mem_iff.mp m) with e | m
          · rw [e]
            exact tup2 upd_same
          · exact tup2 (at_ q m)
      · by_cases h : evK (evOf sx) ∈ L.map Prod.snd
        · rw [c1 h]
          exact l3
        · exact ((c2 h).map Prod.snd).nodup_iff.mpr (List.nodup_cons.mpr ⟨h, l3⟩)
      · have step : k ∈ L'.map Prod.snd ↔ k = evK (evOf sx) ∨ k ∈ L.map Prod.snd := by
          by_cases h : evK (evOf sx) ∈ L.map Prod.snd
          · rw [c1 h]
            exact ⟨.inr, fun z => z.elim (fun e => by rw [e]; exact h) id⟩
          · rw [((c2 h).map Prod.snd).mem_iff, List.map_cons, List.mem_cons]
        rw [step, l4 k, tk]
        simp only [List.mem_append, List.mem_singleton]
        constructor
        · rintro (e | e | ⟨x, m, e⟩)
          · exact .inr ⟨sx, .inr rfl, e⟩
          · exact .inl e
          · exact .inr ⟨x, .inl m, e⟩
        · rintro (e | ⟨x, m | m, e⟩)
          · exact .inr (.inl e)
          · exact .inr (.inr ⟨x, m, e⟩)
          · rw [m] at e
            exact .inl e
    · have e : j = ys.length := by omega
      subst e
      refine .inl ⟨⟨ys, SqT.of hb4, Nat.le_refl _⟩, ev4.like fun k => ?_⟩
      have tk : ss.take (i + 1) = ss.take i ++ [st] := by rw [List.take_succ, est]; rfl
      rw [leny, List.take_length, tk]
      simp only [List.mem_append, List.mem_singleton]
      constructor
      · rintro (⟨s, m, z⟩ | z)
        · exact ⟨s, .inl m, z⟩
        · exact ⟨st, .inr rfl, z⟩
      · rintro ⟨s, m | m, z⟩
        · exact .inl ⟨s, m, z⟩
        · rw [m] at z
          exact .inr z
  · have e : i = xs.length := by omega
    subst e
    obtain ⟨s2, L, l1, l2, l3, l4⟩ := ev
    rw [len, List.take_length] at l4
    exact .inl ⟨⟨xs, SqT.of ha2, Nat.le_refl _⟩, q D H2 L s2 l1 l2 l3 l4 (few l3 l4 fun k h => h)⟩
def rLenQ (K : PySem.W.Frag) : List V → Hp → VK → Prop := fun xs H Q => ∃ p ys, xs = [.ref p] ∧ (SqL K H p ys ∨ SqT K H p ys) ∧ Q (.int ys.length) H
def spStates : Sp := fun vs H Q _ => ∃ (a : Addr) (ss : List (List Stp)), vs = [.ref a] ∧ TD H (.ref a) (statesD ss) ∧ KOk ss ∧ ∀ H', Same H H' → Q (.bl true) H'
section
variable {P : Program} {w : World} {K : PySem.W.Frag} {mg : Str → Option Value} {base : Heap}
abbrev nSs : List Str := ["thing", "state", "step"]
theorem scSs : FnScope nSs ["thing"] (defScope sStates) := ⟨rfl, rfl, rfl, by decide +kernel, rfl, by decide +kernel, by decide +kernel⟩
theorem ok_states {f fS : Addr} {fd fdS : FuncData} (F : Fun K "is_states" "is_states" sStates f fd) (G : Gs mg)
    (GS : FnOk P w K mg base CX0 3 fS fdS ["thing", "many"] spState) (mS : mg "_is_state" = some (.ref fS)) (kS : PySem.W.keepIn K (.ref fS) = true) (bS : Binds K fdS ["thing", "many"] []) :
    FnOk P w K mg base CX0 4 f fd ["thing"] spStates := by
  obtain ⟨t40, m40⟩ := G.c40
  obtain ⟨t24, m24⟩ := G.c24
  refine F.ok scSs (fun vs H Q E h => ?_) (fun cdv A outer s H vs Q E hr h => ?_)
  · obtain ⟨a, ss, rfl, _⟩ := h
    rfl
  · obtain ⟨a, ss, rfl, hx, so, k⟩ := h
    have hu := hr.units
    have hu2 : (A.deeper (envOfC "is_states" (defScope sStates) s.heap.objs.size f cdv)).units + 2 < cLine := by omega
    refine ⟨_, pss_cons (ps_if (PW.pt (pw_or (pt_not (pt_val (pe_callB call_isi (by rfl) G.isi boot_isinstance (pa_cons (pv 0) (pa_cons (pe_bltn (v := .ty "tuple") (by rfl) G.tuple PyProof.Rows.boot_tuple rfl) pa_nil)))))
          (pw_or1 (pt_not (pt_chain op_le op_le pe_int (pe_callB call_len_seq (by rfl) G.len PySem.boot_len (pa_cons (pv 0) pa_nil)) (pe_glob (v := .int 40) (by rfl) m40 ⟨_, rfl⟩)))))) (pss_one (ps_ret pe_bl)) pss_nil)
      (pss_cons (ps_if (pt_not (pt_val (pe_callB (cr_all rfl) (by rfl) G.all PyProof.Rows.boot_all (pa_cons (pe_lc (own := [("state", 1)]) (g := gName 1) (tt := tYes) rfl scSs.nd (pi_tup (pv 0)) (blkOk_by (N := nSs) (sc := defScope sStates) (by decide +kernel))
            (fun _ _ _ _ _ => pg_name (i := 1) scSs.nd rfl (Or.inl rfl)) (fun _ _ _ _ _ => pts_nil) (fun _ _ _ _ _ => pe_call GS hr (by rfl) mS kS bS .nil pass0 (pa_cons (pv 1) (pa_cons (pe_callB (r := rLenQ K) call_len_seq (by rfl) G.len PySem.boot_len (pa_cons (pv 0) pa_nil)) pa_nil)))) pa_nil)))) (pss_one (ps_ret pe_bl)) pss_nil)
      (pss_one (ps_ret (pe_cmpR op_le (pe_callB cr_lenS (by rfl) G.len PySem.boot_len (pa_cons (pe_sc2 (own := [("state", 1), ("step", 2)]) (us := [2]) (wa := iTup K (tVar 0)) (wb := iTup K (tVar 1)) (te := tSl (rSlT K) (tVar 2) tNoPart (tPart (tC (V.int 2)))) rfl scSs.nd hu2 (pi_tup (pv 0)) (blkOk_by (N := nSs) (sc := defScope sStates) (by decide +kernel)) (by decide)
            (fun _ _ _ _ _ => pg_name (i := 1) scSs.nd rfl (Or.inl rfl)) (fun _ _ _ _ _ => pi_tup (pv 1)) (fun _ _ _ _ _ => pg_name (i := 2) scSs.nd rfl (Or.inl rfl)) (fun _ _ _ _ _ => pe_slice (r := rSlT K) sl_tup (pv 2) po_none (po_some pe_int))) pa_nil)) (pe_glob (v := .int 24) (by rfl) m24 ⟨_, rfl⟩) (nomark _))))), ?_⟩
    obtain ⟨xs, ha, hxs⟩ := hx.tup_of
    have len : xs.length = ss.length := by
      have z := hxs.len
      rwa [List.length_map] at z
    have l1 := so.one
    have l2 := so.most
    refine ⟨_, rfl, _, _, _, _, _, rfl, .ty "tuple", .base (.tup ha), kit_ty (a := "tuple") (b := "tuple") (r := true) (by decide +kernel), _, rfl, iteF ?_⟩
    refine ⟨_, rfl, a, _, rfl, .inr (SqT.of ha), _, _, rfl, rfl, _, rfl, ?_⟩
    rw [decide_eq_true (show (1 : Int) ≤ xs.length by omega)]
    refine iteT ⟨_, _, rfl, rfl, _, rfl, ?_⟩
    rw [decide_eq_true (show (xs.length : Int) ≤ 40 by omega)]
    refine iteF ?_
    refine ⟨_, rfl, a, rfl, ⟨_, SqT.of ha⟩, fun D hD => lc_tup (K := K) (a := a) (xs := xs) (fun i H2 => Same H H2 ∧ H2 D = some (.lst ((List.replicate i true).map V.bl))) ⟨same_new hD, upd_same⟩ (fun i H2 _ ⟨s2, _⟩ => SqT.of (s2 _ _ ha)) (fun i x H2 ex ⟨s2, d2⟩ => ?_) fun H2 ⟨s2, d2⟩ => ?_⟩
    · obtain ⟨d, ed, td⟩ := hxs.get ex
      rw [List.getElem?_map] at ed
      obtain ⟨st, ey, rfl⟩ := Option.map_eq_some_iff.mp ed
      obtain ⟨b, ys, rfl, _⟩ := td.ref_of
      have lt : i < ss.length := (List.getElem?_eq_some_iff.mp ey).1
      refine ⟨rfl, _, rfl, _, rfl, a, _, rfl, .inr (SqT.of (s2 _ _ ha)), b, st, ss.length, by rw [len]; rfl, td.to (Tup.of s2), so.all st (List.mem_of_getElem? ey), fun H3 s3 => ⟨_, s3 _ _ d2, ?_, same_at (s2.trans s3) hD, ?_⟩⟩
      · rw [List.length_map, List.length_replicate]
        exact small_lt (m := 40) (by omega)
      · rw [upd_same, List.replicate_succ', List.map_append]
        rfl
    · refine ⟨D, _, rfl, SqL.of d2, _, rfl, ?_⟩
      have e : ((List.replicate xs.length true).all id) = true := by simp
      rw [e]
      refine iteF ?_
      obtain ⟨es, e1, e2⟩ := so.evs
      refine ⟨_, rfl, a, rfl, ⟨_, SqT.of (s2 _ _ ha)⟩, ev_set (K := K) (P := P) (w := w) (o := some (V.ref a)) (Q := fun x H1 => rLenS P w [x] H1 fun y H2 => rI0 (fun i j => V.bl (decide (i ≤ j))) y (.int 24) H2 Q) (s2 _ _ ha) (hxs.to (Tup.of s2)) e1 e2 fun D2 H3 L s3 h1 h2 h3 h4 h5 => ⟨D2, L, rfl, h1, _, _, rfl, rfl, ?_⟩⟩
      show Q (V.bl (decide ((L.length : Int) ≤ 24))) H3
      rw [decide_eq_true (show (L.length : Int) ≤ 24 by omega)]
      exact k _ (s2.trans s3)
end
end My

-- ===== K61F =====
set_option Elab.async false
set_option linter.all false
set_option maxRecDepth 100000
set_option maxHeartbeats 4000000
namespace My
open PySem L2 PyProof.Rows PySem.Spec Kd
def DcW (ga : TG) (tk tv : TE) (vs : List Nat) (σ : L2.St) (Q : VK) (J : It) (H1 : Hp) : Prop := ∀ D, H1 D = none → ∃ W : Nat → Nat → Hp → Prop, (∃ m, W 0 m (upd H1 D (.dT []))) ∧ ∀ i m H2, W i m H2 →
  (J.stop i H2 ∧ Q (.ref D) H2) ∨ (J.go i H2 ∧ ∃ Nx : Hp → Prop, (∀ H3, Nx H3 → ∃ m', m' < m ∧ W (i + 1) m' H3) ∧ ∀ x H3, J.yld i H2 x H3 → ga x (wipe σ vs) H3 fun σ4 H4 => wipe σ4 vs = wipe σ vs ∧ tk σ4 H4 fun y H5 => tv σ4 H5 fun z H6 =>
    ∃ (kvs : List (List Key × V)) (k : List Key) (b : Addr), y = .ref b ∧ H6 b = some (.tup (k.map kV)) ∧ H6 D = some (.dT kvs) ∧ kvs.length < sizeLine ∧ Nx (upd H6 D (.dT (putK kvs k z))))
def mvOf (x : Stp) : List Key × V := (evK (evOf x), .int x.2.2)
theorem putK_new {kvs : List (List Key × V)} {k : List Key} {v : V} (h : ∀ p ∈ kvs, p.1 ≠ k) : putK kvs k v = kvs ++ [(k, v)] := by
  unfold putK
  rw [if_neg]
  intro z
  obtain ⟨p, m, e⟩ := List.any_eq_true.mp z
  exact h p m (of_decide_eq_true e)
theorem mv_dict {K : PySem.W.Frag} {o0 o1 : Option V} {b : Addr} {ys : List V} {st : List Stp} {H : Hp} (hb : H b = some (.tup ys)) (hy : TDs H ys (st.map stepD)) (asc : (st.map evOf).Pairwise evLt) (few : st.length ≤ 24) {Q : VK}
    (q : ∀ D H', Same H H' → H' D = some (.dT (st.map mvOf)) → Q (.ref D) H') :
    DcW (gTup K 3 (gCons (gName 2) (gCons (gName 3) (gCons (gName 4) gNil)))) (tTup (tCons (tVar 2) (tCons (tVar 3) tNil))) (tVar 4) [2, 3, 4] [o0, o1, none, none, none] Q (Itt K b) H := by
  intro D hD
  have len : ys.length = st.length := by
    have z := hy.len
    rwa [List.length_map] at z
  refine ⟨fun i m H2 => m = ys.length - i ∧ i ≤ ys.length ∧ Same H H2 ∧ H2 D = some (.dT ((st.take i).map mvOf)), ⟨_, rfl, Nat.zero_le _, same_new hD, by simp [upd_same]⟩, fun i m H2 ⟨em, le, s2, d2⟩ => ?_⟩
  subst em
  have hb2 := s2 _ _ hb
  rcases Nat.lt_or_ge i ys.length with lt | ge
  · obtain ⟨y, ey⟩ : ∃ y, ys[i]? = some y := ⟨_, List.getElem?_eq_getElem lt⟩
    obtain ⟨d, ed, td⟩ := hy.get ey
    rw [List.getElem?_map] at ed
    obtain ⟨x, ex, rfl⟩ := Option.map_eq_some_iff.mp ed
    obtain ⟨c, rfl, hc⟩ := step_of td
    refine .inr ⟨⟨ys, _, SqT.of hb2, ey⟩, fun H3 => Same H H3 ∧ H3 D = some (.dT ((st.take (i + 1)).map mvOf)), fun H3 ⟨s3, d3⟩ => ⟨_, by omega, rfl, lt, s3, d3⟩, fun v H3 yl => ?_⟩
    obtain ⟨eH, yv⟩ := yl
    have e0 : ys[i]? = some v := yv _ (SqT.of hb2)
    rw [ey] at e0
    cases e0
    subst eH
    have hc3 := s2 _ _ hc
    refine ⟨c, _, rfl, SqT.of hc3, rfl, _, _, rfl, _, _, rfl, _, _, rfl, rfl, rfl, ?_⟩
    refine ⟨_, rfl, _, rfl, by show 2 ≤ sizeLine; decide, fun p hp => ⟨_, rfl, (st.take i).map mvOf, evK (evOf x), p, rfl, upd_same, ?_, ?_, ?_, ?_⟩⟩
    · rw [upd_ne (ne_of_none d2 hp)]
      exact d2
    · rw [List.length_map, List.length_take]
      exact small_lt (m := 24) (by omega)
    · exact same_at (s2.trans (same_new hp)) hD
    · have tk : st.take (i + 1) = st.take i ++ [x] := by rw [List.take_succ, ex]; rfl
      rw [upd_same, tk, List.map_append, putK_new]
      · rfl
      · intro p hp e
        obtain ⟨z, hz, rfl⟩ := List.mem_map.mp hp
        have e2 : evOf z = evOf x := evK_inj e
        have nd := asc_nodup asc
        have sub : (st.take (i + 1)).map evOf = (st.map evOf).take (i + 1) := List.map_take
        have nd2 : ((st.take (i + 1)).map evOf).Nodup := by
          rw [sub]
          exact List.Pairwise.sublist (List.take_sublist _ _) nd
        rw [tk, List.map_append] at nd2
        exact (List.nodup_append.mp nd2).2.2 (evOf z) (List.mem_map.mpr ⟨z, hz, rfl⟩) (evOf x) (by simp) e2
  · have e : i = ys.length := by omega
    subst e
    rw [len, List.take_length] at d2
    exact .inl ⟨⟨ys, SqT.of hb2, Nat.le_refl _⟩, q D H2 s2 d2⟩
/-- the moves of a kind stand at m -/
def MovesAt (H : Hp) (m : Addr) (ss : List (List Stp)) : Prop := ∃ bs : List Addr, H m = some (.lst (bs.map V.ref)) ∧ bs.length = ss.length ∧ ∀ (i : Nat) (b : Addr) (st : List Stp), bs[i]? = some b → ss[i]? = some st → H b = some (.dT (st.map mvOf))
def spMoves : Sp := fun vs H Q _ => ∃ (a : Addr) (ss : List (List Stp)), vs = [.ref a] ∧ TD H (.ref a) (statesD ss) ∧ KOk ss ∧ ∀ m H', Same H H' → H m = none → MovesAt H' m ss → Q (.ref m) H'
def lcScope : Stmt → Scope
  | .FunctionDef _ _ [.Return (some (.ListComp _ _ sc _)) _] .. => sc
  | _ => { kind := .function, names := [], isGenerator := false, isCoroutine := false }
section
variable {P : Program} {w : World} {K : PySem.W.Frag} {mg : Str → Option Value} {base : Heap}
abbrev nMv : List Str := ["states", "state", "operation", "answer", "goal"]
theorem scMv : FnScope nMv ["states"] (defScope sMoves) := ⟨rfl, rfl, rfl, by decide +kernel, rfl, by decide +kernel, by decide +kernel⟩
theorem ok_moves {f : Addr} {fd : FuncData} (F : Fun K "moves_of" "moves_of" sMoves f fd) : FnOk P w K mg base CX0 1 f fd ["states"] spMoves := by
  refine F.ok scMv (fun vs H Q E h => ?_) (fun cdv A outer s H vs Q E hr h => ?_)
  · obtain ⟨a, ss, rfl, _⟩ := h
    rfl
  · obtain ⟨a, ss, rfl, hx, so, k⟩ := h
    have hu := hu_of hr
    have hu2 : (A.deeper (envOfC "moves_of" (defScope sMoves) s.heap.objs.size f cdv)).units + 2 < cLine := by have := hr.units; omega
    refine ⟨_, pss_one (ps_ret (pe_lc (own := [("state", 1)]) (g := gName 1) (tt := tYes) (te := tDcT (iTup K (tVar 1)) (gTup K 3 (gCons (gName 2) (gCons (gName 3) (gCons (gName 4) gNil)))) (tTup (tCons (tVar 2) (tCons (tVar 3) tNil))) (tVar 4) [2, 3, 4]) rfl scMv.nd (pi_tup (pv 0)) (blkOk_by (N := nMv) (sc := defScope sMoves) (by decide +kernel))
            (fun _ _ _ _ _ => pg_name (i := 1) scMv.nd rfl (Or.inl rfl)) (fun _ _ _ _ _ => pts_nil)
            (fun _ _ _ _ _ => pe_dcT (own := [("operation", 2), ("answer", 3), ("goal", 4)]) rfl scMv.nd hu2 (pi_tup (pv 1)) (blkOk_by (N := nMv) (sc := relS (lcScope sMoves) (defScope sMoves)) (by decide +kernel))
              (fun _ _ _ _ _ => pg_tup (by rfl) (pgs_cons (pg_name (i := 2) scMv.nd rfl (Or.inl rfl)) (pgs_cons (pg_name (i := 3) scMv.nd rfl (Or.inl rfl)) (pgs_cons (pg_name (i := 4) scMv.nd rfl (Or.inl rfl)) pgs_nil))))
              (fun _ _ _ _ _ => pe_tup (pa_cons (pv 2) (pa_cons (pv 3) pa_nil))) (fun _ _ _ _ _ => pv 4)))), ?_⟩
    obtain ⟨xs, ha, hxs⟩ := hx.tup_of
    have len : xs.length = ss.length := by
      have z := hxs.len
      rwa [List.length_map] at z
    have l2 := so.most
    refine ⟨_, rfl, a, rfl, ⟨_, SqT.of ha⟩, fun D hD => lc_tup (K := K) (a := a) (xs := xs) (fun i H2 => Same H H2 ∧ ∃ bs : List Addr, H2 D = some (.lst (bs.map V.ref)) ∧ bs.length = i ∧ ∀ (j : Nat) (b : Addr) (st : List Stp), bs[j]? = some b → ss[j]? = some st → H2 b = some (.dT (st.map mvOf)))
      ⟨same_new hD, [], upd_same, rfl, fun j b st e => by simp at e⟩ (fun i H2 _ ⟨s2, _⟩ => SqT.of (s2 _ _ ha)) (fun i x H2 ex ⟨s2, bs, d2, bl, hbs⟩ => ?_) fun H2 ⟨s2, bs, d2, bl, hbs⟩ => ?_⟩
    · obtain ⟨d, ed, td⟩ := hxs.get ex
      rw [List.getElem?_map] at ed
      obtain ⟨st, ey, rfl⟩ := Option.map_eq_some_iff.mp ed
      obtain ⟨b, ys, rfl, hb, hy⟩ := td.ref_of
      have lt : i < ss.length := (List.getElem?_eq_some_iff.mp ey).1
      have sto := so.all st (List.mem_of_getElem? ey)
      refine ⟨rfl, _, rfl, b, rfl, ⟨_, SqT.of (s2 _ _ hb)⟩, mv_dict (K := K) (o0 := some (V.ref a)) (o1 := some (V.ref b)) (Q := fun y H4 => ∃ acc, H4 D = some (.lst acc) ∧ acc.length < sizeLine ∧ Same H (upd H4 D (.lst (acc ++ [y]))) ∧ ∃ bs : List Addr, (upd H4 D (.lst (acc ++ [y]))) D = some (.lst (bs.map V.ref)) ∧ bs.length = i + 1 ∧ ∀ (j : Nat) (b : Addr) (st : List Stp), bs[j]? = some b → ss[j]? = some st → (upd H4 D (.lst (acc ++ [y]))) b = some (.dT (st.map mvOf)))
        (s2 _ _ hb) (hy.to (Tup.of s2)) sto.asc sto.few fun D2 H3 s3 d3 => ⟨_, s3 _ _ d2, ?_, same_at (s2.trans s3) hD, bs ++ [D2], ?_, ?_, fun j c sj ec es => ?_⟩⟩
      · rw [List.length_map]
        exact small_lt (m := 40) (by omega)
      · rw [upd_same, List.map_append]
        rfl
      · rw [List.length_append, bl]
        rfl
      · have at_ : H3 c = some (.dT (sj.map mvOf)) := by
          rcases Nat.lt_or_ge j bs.length with l | g
          · rw [List.getElem?_append_left l] at ec
            exact s3 _ _ (hbs j c sj ec es)
          · rw [List.getElem?_append_right g] at ec
            have ej : j - bs.length = 0 := by
              have z := (List.getElem?_eq_some_iff.mp ec).1
              simp at z
              omega
            have ej2 : j = i := by omega
            rw [ej] at ec
            have e2 : D2 = c := Option.some.inj ec
            rw [ej2, ey] at es
            rw [← Option.some.inj es, ← e2]
            exact d3
        rw [upd_ne fun z => by rw [z, s3 _ _ d2] at at_; cases at_]
        exact at_
    · exact k D H2 s2 hD ⟨bs, d2, by rw [bl, len], hbs⟩
end
end My

-- ===== K61G =====
set_option Elab.async false
set_option linter.all false
set_option maxRecDepth 100000
set_option maxHeartbeats 4000000
namespace My
open PySem L2 PyProof.Rows PySem.Spec Kd StX ClX
abbrev sKind : Stmt := top 29
abbrev sInit : Stmt := inClass sKind 0
abbrev sOf : Stmt := inClass sKind 1
abbrev sRead : Stmt := inClass sKind 2
abbrev sEq : Stmt := inClass sKind 3
abbrev sKtext : Stmt := inClass sKind 8
/-! ### C(*xs), C in a local name -/
section
variable {X : Cx} {CX : CXT} {k i : Nat} {f C : Addr} {sp : Sp} {E : XK} {x : PySem.Str} {e : Expr} {te : TE} {p sp_ pos : Pos}
theorem pe_makeL (M : Mk X.K C f) (F : FnR X.prog X.w X.K X.mg X.base CX k f sp) (hr : Room (k + 1) X.A) (hN : X.N[i]? = some x) (hv : Vis X.env.scope x) (hx : Passes CX X E) (he : PE X e te) (hdb : (x == ("__debug__" : PySem.Str)) = false := by decide) (hcd : (x == ("__classdict__" : PySem.Str)) = false := by decide)
    (hst : starEach [.Starred e sp_] X.env = [(true, eval e X.env)] := by rfl) :
    PE X (.Call (.Name x p) [.Starred e sp_] [] pos) (fun σ H Q => σ[i]? = some (some (.ref C)) ∧ te σ H fun y H1 => ∃ a xs, y = V.ref a ∧ (SqT X.K H1 a xs ∨ SqL X.K H1 a xs) ∧ ∀ o dx, H1 o = none → H1 dx = none → dx ≠ o →
      sp (V.ref o :: xs) (upd (upd H1 dx (.own o)) o (.ins C dx [])) (fun v H2 => v = .non ∧ Q (.ref o) H2) E) := by
  refine ⟨fun pins s σ H Q I h => ?_⟩
  obtain ⟨hs, ht⟩ := h
  refine wpAny_Call_Name_kw (thn ((pe_var (pos := p) hN hv hdb hcd).run pins s σ H (fun v H1 => v = .ref C ∧ H1 = H) I ⟨.ref C, hs, rfl, rfl⟩) fun u s1 ⟨v, H1, I1, r1, q1⟩ => ?_)
  obtain ⟨rfl, rfl⟩ := q1
  cases r1
  refine PySem.W.callWith_S (h₀ := X.base) I.ok.mod.kin M.kp (thn (he.run pins s1 σ _ _ I1 ht) fun w s2 ⟨y, H2, I2, ry, a, xs, ey, hxs, q⟩ => ?_) hst
  subst ey
  obtain rfl : w = Value.ref a := ry
  exact star_any I2 hxs fun us s3 I3 rv => ⟨I3.kIn, run_makeR M F hr hx I3 rv q⟩
end
/-! ### the class -/
def KindAt (C : Addr) (H : Hp) (v : V) (ss : List (List Stp)) : Prop := ∃ o dx a m, v = .ref o ∧ H o = some (.ins C dx [("states", .ref a), ("moves", .ref m)]) ∧ TD H (.ref a) (statesD ss) ∧ MovesAt H m ss
theorem MovesAt.same {H H' : Hp} {m : Addr} {ss : List (List Stp)} (s : Same H H') (h : MovesAt H m ss) : MovesAt H' m ss := by
  obtain ⟨bs, h1, h2, h3⟩ := h
  exact ⟨bs, s _ _ h1, h2, fun i b st e1 e2 => s _ _ (h3 i b st e1 e2)⟩
theorem KindAt.same {C : Addr} {H H' : Hp} {v : V} {ss : List (List Stp)} (s : Same H H') (h : KindAt C H v ss) : KindAt C H' v ss := by
  obtain ⟨o, dx, a, m, e, h1, h2, h3⟩ := h
  exact ⟨o, dx, a, m, e, s _ _ h1, h2.to (Tup.of s), h3.same s⟩
/-- as it was but for one address -/
def But (o : Addr) (H H' : Hp) : Prop := ∀ b u, H b = some u → b ≠ o → H' b = some u
def spInit (C : Addr) : Sp := fun vs H Q _ => ∃ (o t dx : Addr) (ss : List (List Stp)), vs = [.ref o, .ref t] ∧ H o = some (.ins C dx []) ∧ TD H (.ref t) (statesD ss) ∧ KOk ss ∧
  ∀ H' m, But o H H' → H' o = some (.ins C dx [("states", .ref t), ("moves", .ref m)]) → MovesAt H' m ss → Q .non H'
def spInitR (C : Addr) : Sp := fun vs H Q E => ∃ ws rest, vs = ws ++ rest ∧ ws.length = ["self"].length ∧ rest.length ≤ sizeLine ∧ ∀ p, H p = Option.none → spInit C (ws ++ [V.ref p]) (upd H p (.tup rest)) Q E
def spOf (C : Addr) : Sp := fun vs H Q _ => ∃ (a : Addr) (ss : List (List Stp)), vs = [.ref C, .ref a] ∧ TD H (.ref a) (statesD ss) ∧ KOk ss ∧ ∀ v H', Same H H' → KindAt C H' v ss → Q v H'
section
variable {P : Program} {w : World} {K : PySem.W.Frag} {mg : Str → Option Value} {base : Heap}
theorem scIn : FnScope ["self", "states"] ["self", "states"] (defScope sInit) := ⟨rfl, rfl, rfl, by decide +kernel, rfl, by decide +kernel, by decide +kernel⟩
theorem ok_init {f C fS fM : Addr} {fd fdS fdM : FuncData} (F : Fun K "__init__" "Kind.__init__" sInit f fd) (cl : Cls K C) (n1 : NoAttr K C "states") (n2 : NoAttr K C "moves")
    (GS : FnOk P w K mg base CX0 4 fS fdS ["thing"] spStates) (mS : mg "is_states" = some (.ref fS)) (kS : PySem.W.keepIn K (.ref fS) = true) (bS : Binds K fdS ["thing"] [])
    (GM : FnOk P w K mg base CX0 1 fM fdM ["states"] spMoves) (mM : mg "moves_of" = some (.ref fM)) (kM : PySem.W.keepIn K (.ref fM) = true) (bM : Binds K fdM ["states"] []) :
    FnR P w K mg base CX0 5 f (spInitR C) := by
  obtain ⟨oc, od, kV, doc, pm, an, cdv, ct, osl, rfl, lk, hcd⟩ := F.ex
  refine fn_star (ps := ["self"]) (pv := "states") (sp := spInit C) lk hcd scIn cxUp_none (bind_star1 (B := fun l => bindArgs (PySem.W.fnOf "__init__" "Kind.__init__" (defArgs sInit) (defBody sInit) (defScope sInit) .none kV doc pm an cdv ct) ⟨l, []⟩) (p1 := "self") (pv := "states") (fun a => rfl) (fun a r rs => rfl)) fun A outer s H vs Q E hr h => ?_
  obtain ⟨o, t, dx, ss, rfl, ho, hx, so, k⟩ := h
  refine ⟨_, PSs.nox (pss_cons (ps_if (pt_not (pt_val (pe_call GS hr (by rfl) mS kS bS .nil pass0 (pa_cons (pv 1) pa_nil)))) (pss_one ps_never) pss_nil)
      (pss_cons (ps_fld (pv 0) (pv 1) rfl) (pss_one (ps_fld (pv 0) (pe_call GM (hr.mono (by decide)) (by rfl) mM kM bM .nil pass0 (pa_cons (pv 1) pa_nil)) rfl)))), ?_⟩
  refine ⟨_, rfl, t, ss, rfl, hx, so, fun H1 s1 => ⟨true, rfl, iteF ?_⟩⟩
  refine ⟨_, rfl, _, rfl, o, C, dx, [], rfl, s1 _ _ ho, cl, n1, by decide, ?_⟩
  have tp : Tup H1 (upd H1 o (.ins C dx [("states", .ref t)])) := Tup.at_ (s1 _ _ ho) fun xs z => nomatch z
  refine ⟨_, rfl, t, ss, rfl, (hx.to (Tup.of s1)).to tp, so, fun m H3 s3 nm mv => ?_⟩
  have ho3 : H3 o = some (.ins C dx [("states", .ref t)]) := s3 _ _ upd_same
  refine ⟨_, rfl, o, C, dx, _, rfl, ho3, cl, n2, (by show (1 : Nat) < 1000; decide), ?_⟩
  refine k _ m (fun b u e ne => ?_) upd_same ?_
  · rw [upd_ne ne]
    exact s3 _ _ (by rw [upd_ne ne]; exact s1 _ _ e)
  · obtain ⟨bs, h1, h2, h3⟩ := mv
    have ne : ∀ {b : Addr} {u : HO}, H3 b = some u → (∀ C dx fs, u ≠ .ins C dx fs) → (upd H3 o (.ins C dx (putF "moves" (V.ref m) [("states", .ref t)]))) b = some u := fun {b u} e n => by
      rw [upd_ne fun z => by rw [z, ho3] at e; exact n _ _ _ (Option.some.inj e).symm]
      exact e
    exact ⟨bs, ne h1 (fun _ _ _ z => nomatch z), h2, fun i b st e1 e2 => ne (h3 i b st e1 e2) (fun _ _ _ z => nomatch z)⟩
theorem scOf : FnScope ["cls", "states"] ["cls", "states"] (defScope sOf) := ⟨rfl, rfl, rfl, by decide +kernel, rfl, by decide +kernel, by decide +kernel⟩
theorem ok_of {f C fI : Addr} {fd : FuncData} (F : Fun K "of" "Kind.of" sOf f fd) (G : Gs mg) (M : Mk K C fI) (FI : FnR P w K mg base CX0 5 fI (spInitR C)) : FnOk P w K mg base CX0 7 f fd ["cls", "states"] (spOf C) := by
  refine F.ok scOf (fun vs H Q E h => ?_) (fun cdv A outer s H vs Q E hr h => ?_)
  · obtain ⟨a, ss, rfl, _⟩ := h
    rfl
  · obtain ⟨a, ss, rfl, hx, so, k⟩ := h
    refine ⟨_, pss_cons (ps_if (pt_not (pt_val (pe_callB call_isi (by rfl) G.isi boot_isinstance (pa_cons (pv 1) (pa_cons (pe_bltn (v := .ty "tuple") (by rfl) G.tuple PyProof.Rows.boot_tuple rfl) pa_nil))))) (pss_one ps_never) pss_nil)
      (pss_one (ps_ret (pe_makeL (i := 0) M FI hr rfl (.inl rfl) pass0 (pv 1)))), ?_⟩
    obtain ⟨xs, ha, hxs⟩ := hx.tup_of
    have l2 := so.most
    have len : xs.length = ss.length := by
      have z := hxs.len
      rwa [List.length_map] at z
    refine ⟨_, rfl, _, _, _, _, _, rfl, .ty "tuple", .base (.tup ha), kit_ty (a := "tuple") (b := "tuple") (r := true) (by decide +kernel), _, rfl, iteF ?_⟩
    refine ⟨rfl, _, rfl, a, xs, rfl, .inl (SqT.of ha), fun o dx no nd ne => ?_⟩
    refine ⟨[.ref o], xs, rfl, rfl, small_len (m := 40) (by omega), fun p hp => ?_⟩
    have hp1 : p ≠ o := fun z => by
      rw [z, upd_same] at hp
      cases hp
    have hp2 : (upd H dx (.own o)) p = none := by
      rw [upd_ne hp1] at hp
      exact hp
    have hp3 : p ≠ dx := fun z => by
      rw [z, upd_same] at hp2
      cases hp2
    have hp0 : H p = none := by
      rw [upd_ne hp3] at hp2
      exact hp2
    have no1 : (upd H dx (.own o)) o = none := by
      rw [upd_ne (Ne.symm ne)]
      exact no
    have s0 : Same H (upd (upd (upd H dx (.own o)) o (.ins C dx [])) p (.tup xs)) := ((same_new nd).trans (same_new no1)).trans (same_new hp)
    refine ⟨o, p, dx, ss, rfl, by rw [upd_ne (Ne.symm hp1)]; exact upd_same, .tup upd_same (hxs.to (Tup.of s0)), so, fun H' m but ho mv => ⟨rfl, ?_⟩⟩
    have s1 : Same H H' := fun b u e => but b u (s0 b u e) (ne_of_none e no)
    refine k _ _ s1 ⟨o, dx, p, m, rfl, ho, .tup (but p _ upd_same hp1) ?_, mv⟩
    exact hxs.to (Tup.of s1)
end
end My

-- ===== KS10 =====
set_option Elab.async false
set_option linter.all false
set_option maxRecDepth 100000
set_option maxHeartbeats 4000000
namespace Kd
open PySem L2 PyProof.Rows PySem.Spec
/-! ### enumerate of a tuple -/
theorem meets_enum1 {v : Value} {o : Obj} {H : Heap → Prop} (B : Begins v o H) :
    Meets (Builtin.«enumerate.__new__» ⟨[.type "enumerate", v], []⟩) (fun _ R s => H s.heap ∧
      R (.ok (.ret (.ref (s.heap.push o).objs.size))) { s with heap := (s.heap.push o).push { cls := .type "enumerate", data := .fields #[.none, .bool false, .ref s.heap.objs.size, rawInt 0, .none, .none] } }) :=
  .of_wp fun prog w A R s h => by
    obtain ⟨hp, g, d, tk, os⟩ := s
    obtain ⟨h1, h⟩ := h
    have hsub := sub_enumerate
    have it : ∀ {A' : Around} {E : Value → Shared → Prop} {Q : Value → Shared → Prop}, Q (.ref hp.objs.size) ⟨hp.push o, g, d, tk, os⟩ → wpAny (model prog w) A' (pyIter v) Q E ⟨hp, g, d, tk, os⟩ :=
      fun q => B.iter prog w _ _ ⟨hp, g, d, tk, os⟩ _ h1 q
    wp_walk using it
    refine wpAny_stack_any fun st => wpAny_pure ?_
    split
    · rename_i c _ _ _ _ _
      cases (c == Value.type "enumerate") <;> (wp_walk using it; exact ⟨_, rfl, h⟩)
    · wp_walk using it
      exact ⟨_, rfl, h⟩
theorem enum_tuple {prog : Program} {w : World} {A : Around} {E : Value → Shared → Prop} {s : Shared} {t : Addr} {items : Array Value} {Q : Value → Shared → Prop} (ht : s.heap.IsTuple t items)
    (h : ∀ h', IsEnum h' (s.heap.objs.size + 1) s.heap.objs.size 0 .none → h'.IsTupleIter s.heap.objs.size t 0 → (∀ b o, s.heap.get? b = some o → h'.get? b = some o) → Q (.ref (s.heap.objs.size + 1)) { s with heap := h' }) :
    wpAny (model prog w) A (call (.type "enumerate") [.ref t]) Q E s := by
  refine callType_new F.called_enumerate (by decide) (F.typeCall_enumerate_1 _) (F.newCall_enumerate_1 _) (fun obj => F.args_object_init_2 obj _) F.entry_enumerate_new (meets_enum1 (begins_tuple t items)) ⟨ht, ?_⟩
  generalize ho : ({ cls := .type "tuple_iterator", data := .fields #[.ref t, .int 0 0] } : Obj) = o
  have sz : (s.heap.push o).objs.size = s.heap.objs.size + 1 := Heap.size_push ..
  have e1 : ((s.heap.push o).push { cls := .type "enumerate", data := .fields #[.none, .bool false, .ref s.heap.objs.size, rawInt 0, .none, .none] }).get? (s.heap.push o).objs.size = some _ := Heap.get?_push_size _ rfl
  rw [sz] at e1
  show _ ∧ _
  rw [sz]
  subst ho
  exact ⟨⟨_, e1, rfl⟩, h _ e1 ⟨_, Heap.get?_push_of_some _ (Heap.get?_push_size _ rfl), rfl, rfl⟩ fun b u x => Heap.get?_push_of_some _ (Heap.get?_push_of_some _ x)⟩
/-- the tuple at a, each item beside its place in a new pair -/
def IteT (K : PySem.W.Frag) (a : Addr) : It :=
  ⟨fun i H => ∃ (xs : List V) (x : V), SqT K H a xs ∧ xs[i]? = some x, fun i H v H' => ∃ T x, v = .ref T ∧ H T = none ∧ H' = upd H T (.tup [.int (i : Nat), x]) ∧ ∀ xs, SqT K H a xs → xs[i]? = some x, fun i H => ∃ xs : List V, SqT K H a xs ∧ xs.length = i⟩
theorem turn_enumT {P : Program} {w : World} {K : PySem.W.Frag} {elts : List Expr} {kk : Nat} {tpos : Pos} (a e it : Addr) :
    Turn P w K (.Tuple elts kk tpos) (IteT K a) [e, it] e (fun i h => (∃ old, IsEnum h e it ((i : Nat) : Int) old) ∧ h.IsTupleIter it a i ∧ e ≠ it ∧ a ≠ it ∧ a ≠ e) where
  mem := by simp
  obj := fun i h st b hb => by
    obtain ⟨⟨old, he⟩, ⟨o, ho, _, hd⟩, _⟩ := st
    rcases (show b = e ∨ b = it by simpa using hb) with z | z
    · rw [z]
      exact ⟨_, he, fun v q => nomatch q⟩
    · rw [z]
      exact ⟨o, ho, fun v q => by rw [hd] at q; cases q⟩
  keep := fun i h h' st k => let ⟨⟨old, he⟩, hi, ne⟩ := st; ⟨⟨old, k e (by simp) _ he⟩, hi.at fun o q => k it (by simp) o q, ne⟩
  item := by
    intro X hP hw hK hc i pins s σ H E I hf st hg
    subst hP hw hK
    obtain ⟨⟨old, he⟩, hit, ne, nai, nae⟩ := st
    obtain ⟨xs, x, hq, hx⟩ := hg
    obtain ⟨its, rv, p, _⟩ := I.tuple hq
    obtain ⟨u, hu, ru⟩ := rv.get hx
    have pt : s.heap.IsTuple a its.toArray := p
    have lt : i < its.toArray.size := by
      rw [List.size_toArray]
      exact (List.getElem?_eq_some_iff.mp hu).1
    have el : e < s.heap.objs.size := Heap.lt_size he
    have il : it < s.heap.objs.size := by obtain ⟨_, q, _⟩ := hit; exact Heap.lt_size q
    refine wpAny_pyNext_enum_itemD (n := its.toArray.size) (Draws.tuple (A := X.A.in1) (I.ok.hd hc) it a nai its.toArray) he ⟨hit, pt⟩ lt ne (by simp [ne, Ne.symm nae]) fun y h' tk hy ho hst hT hsz hk => ?_
    have ey : y = u := by
      have z : its.toArray[i]? = some y := hy
      rw [show its.toArray[i]? = some u by simpa using hu] at z
      exact (Option.some.inj z).symm
    subst ey
    refine ⟨_, rfl, wpAny_letOwnedTupleGo_enum (s := { s with heap := h', toks := tk + 1 }) ho fun h'' he' sb => ?_⟩
    have hT2 : h''.get? s.heap.objs.size = some { cls := .type "tuple", data := .seq #[.int i tk, y] } := (sb.2 _ (Nat.ne_of_gt el)).trans hT
    have new : ObjOk X.prog X.w (upd H s.heap.objs.size (.tup [.int (i : Nat), x])) h'' s.heap.objs.size (.tup [.int (i : Nat), x]) :=
      ⟨by show 2 ≤ sizeLine; decide, [.int i tk, y], .cons ⟨_, rfl⟩ (.cons ru .nil), ⟨_, hT2, rfl, _, rfl⟩⟩
    have I1 : Inv X pins σ (upd H s.heap.objs.size (.tup [.int (i : Nat), x])) { s with heap := h'', toks := tk + 1 } :=
      I.turnedNew (ch := [e, it]) (fun b ob hb q => (sb.2 b (fun z => hb (by simp [z]))).trans (hk b ob (fun z => hb (by simp [z])) (fun z => hb (by simp [z])) q)) hf (Nat.le_refl _) new
    refine ⟨.ref s.heap.objs.size, _, I1, rfl, ⟨_, x, rfl, I.hok.fresh (Nat.le_refl _), rfl, fun ys hy => by rw [I.tuple_inj hy hq]; exact hx⟩, ⟨⟨y, ?_⟩, hst.1.at fun o q => (sb.2 it (Ne.symm ne)).trans q, ne, nai, nae⟩, fun b hb => ?_⟩
    · rw [show ((i + 1 : Nat) : Int) = (i : Int) + 1 by omega]
      exact he'
    · have bl : b < s.heap.objs.size := by
        rcases (show b = e ∨ b = it by simpa using hb) with z | z
        · rw [z]; exact el
        · rw [z]; exact il
      rw [upd_ne (Nat.ne_of_lt bl)]
      exact (hf b hb).1
  done := by
    intro X hP hw hK hc i pins s σ H E I hf st hg
    subst hP hw hK
    obtain ⟨⟨old, he⟩, hit, ne, nai, nae⟩ := st
    obtain ⟨xs, hq, hx⟩ := hg
    obtain ⟨its, rv, p, _⟩ := I.tuple hq
    obtain ⟨f0, f1, f2, f3, f4, f5⟩ := hf it (by simp)
    have hl := rv.length
    have pt : s.heap.IsTuple a its.toArray := p
    have hst : s.heap.IsTupleIter it a its.toArray.size ∧ s.heap.IsTuple a its.toArray := ⟨by rw [show its.toArray.size = i by rw [List.size_toArray]; omega]; exact hit, pt⟩
    exact wpAny_pyNext_enum_endD (n := its.toArray.size) (Draws.tuple (A := X.A.in1) (I.ok.hd hc) it a nai its.toArray) he hst fun h' eb => ⟨rfl, I.turned (t' := s.toks) (fun b o hb q => eb b o hb q) f0 f1 f3 f4 f5⟩
  self := fun A i s Q E st h => let ⟨⟨_, he⟩, _⟩ := st; wpAny_pyIter_enum he h
def iEnumT (K : PySem.W.Frag) (ta : TA) : TI := fun σ H R => ta σ H fun vs H1 => ∃ a xs, vs = [.ref a] ∧ SqT K H1 a xs ∧ R (IteT K a) H1
theorem pi_enumT {X : Cx} {e : Expr} {ta : TA} {p pos tpos : Pos} {elts : List Expr} {kk : Nat} (hg : Gl X "enumerate") (hm : X.mg "enumerate" = none) (ha : PA X [e] ta) (hs : starEach [e] X.env = [(false, eval e X.env)] := by rfl) :
    PI X (.Tuple elts kk tpos) (.Call (.Name "enumerate" p) [e] [] pos) (iEnumT X.K ta) := by
  refine ⟨fun pins s σ H R I h => ?_⟩
  refine Call_ (ld_blt I hg hm boot_enumerate (PyProof.Rows.callWith_type1 (thn (ha.run pos pins s σ H _ I h) fun us s1 ⟨vs, H1, I1, r1, q1⟩ => ?_) hs rfl))
  obtain ⟨a, xs, ex, hq, q⟩ := q1
  subst ex
  cases r1 with
  | cons r rr =>
    cases rr
    cases r
    obtain ⟨its, rv, p', _⟩ := I1.tuple hq
    have pt : s1.heap.IsTuple a its.toArray := p'
    have al : a < s1.heap.objs.size := by obtain ⟨_, z, _⟩ := pt; exact Heap.lt_size z
    refine enum_tuple pt fun h' he hit hk => wpAny_pyIter_enum he ?_
    have I2 : Inv X pins σ H1 { s1 with heap := h' } := I1.kept (t' := s1.toks) hk
    refine ⟨s1.heap.objs.size + 1, [s1.heap.objs.size + 1, s1.heap.objs.size], _, _, H1, rfl, I2, turn_enumT a (s1.heap.objs.size + 1) s1.heap.objs.size, ⟨⟨.none, he⟩, hit, Nat.succ_ne_self _, Nat.ne_of_lt al, Nat.ne_of_lt (Nat.lt_succ_of_lt al)⟩, fun b hb => ?_, q⟩
    have le : s1.heap.objs.size ≤ b := by
      rcases (show b = s1.heap.objs.size + 1 ∨ b = s1.heap.objs.size by simpa using hb) with z | z
      · rw [z]; exact Nat.le_add_right _ _
      · rw [z]; exact Nat.le_refl _
    exact I1.fpOk le (I1.hok.fresh le)
end Kd

-- ===== KS11 =====
set_option Elab.async false
set_option linter.all false
set_option maxRecDepth 100000
set_option maxHeartbeats 4000000
namespace Kd
open PySem L2 PyProof.Rows PySem.Spec PySem.W Builtin
/-! ### x != y where the class has __eq__ alone -/
section
variable {prog : Program} {w : World} {A : Around} {E : Value → Shared → Prop} {s : Shared} {K : Frag} {x C f : Addr} {ox : Obj} {od : Option Obj}
theorem bound_slot {M : Model} {id : String} {name : Str} {args : List Value} {Q : Option Value → Shared → Prop} (X : K.In s.heap) (I : InstAt s.heap x ox C od) (hs : findIn K (.ref C) name = some (some (.builtin id)))
    (hb : bindSpecial (.builtin id) (.ref x) = pure (.builtin id, [.ref x])) (h : wpAny M A (call (.builtin id) (.ref x :: args)) (fun v => Q (some v)) E s) : wpAny M A (callSpecialIfBound? (.ref x) name args) Q E s := by
  simp only [callSpecialIfBound?, bindSpecialIfBound?]
  refine wpAny_holding (wpAny_bind (wpAny_bind (wpAny_bind (I.type.here ((looks_findIn X hs).here ?_)))))
  simp only [hb]
  have fin : wpAny M A (call (.builtin id) ([.ref x] ++ args) >>= fun v => pure (some v)) Q E s := wpAny_bind (wpAny_mono h (fun v s' h' => wpAny_pure h') fun _ _ h' => h')
  refine wpAny_bind (wpAny_askSetting (wpAny_ite ?_))
  split
  · exact wpAny_bind (wpAny_pure (wpAny_pure fin))
  · exact wpAny_tryCatch (wpAny_bind (wpAny_pure (wpAny_pure fin)))
theorem obj_ne {y : Addr} {Q : Fin → Shared → Prop} (X : K.In s.heap) (I : InstAt s.heap x ox C od) (hs : findIn K (.ref C) "__eq__" = some (some (.ref f))) (hf : isFn K (.ref f) = true) (hu : A.units < cLine)
    (h : wpAny (model prog w) A (call (.ref f) [.ref x, .ref y]) (fun v s' => ∃ b, v = .bool b ∧ Q (.done (.ret (.bool (!b)))) s') E s) : wpAny (model prog w) A (Builtin.«object.__ne__» ⟨[.ref x, .ref y], []⟩) Q E s := by
  unfold Builtin.«object.__ne__»
  repeat (first
    | with_reducible refine wpAny_cRoomFor hu ?_
    | (refine wpAny_bind (m := callSpecialIfBound? (.ref x) (Str.ofString "__eq__") [.ref y]) (ifBound_K X I hs hf (wpAny_mono h (fun r s' hr => by
          obtain ⟨b, rfl, hq⟩ := hr
          repeat (first | exact hq | exact wpAny_pure hq | exact wpAny_truthy_bool hq | (refine wpAny_bind (m := truthy (.bool _)) (wpAny_truthy_bool ?_)) | wp_step)) fun _ _ e => e)))
    | wp_step)
theorem try_ne {y : Addr} {Q : Option Value → Shared → Prop} (X : K.In s.heap) (I : InstAt s.heap x ox C od) (hs : findIn K (.ref C) "__eq__" = some (some (.ref f))) (hf : isFn K (.ref f) = true)
    (hn : findIn K (.ref C) "__ne__" = some (some (.builtin "object.__ne__"))) (ho : subIn K (.ref C) (.type "object") = some true) (hu : A.units + 1 < cLine)
    (h : wpAny (model prog w) A.in1 (call (.ref f) [.ref x, .ref y]) (fun v s' => ∃ b, v = .bool b ∧ Q (some (.bool (!b))) s') E s) : wpAny (model prog w) A (tryCompare (.ref x) "__ne__" (.ref y)) Q E s := by
  simp only [tryCompare]
  refine wpAny_bind (bound_slot X I hn (PySem.F.cmp_object.ne.bind _) (wpAny_call (codeAny_call_builtin PySem.F.cmp_object.ne.plain PySem.F.cmpEntry_ne
    (check_slot PySem.F.cmpKind_ne PySem.F.cmpSplit_ne (I.type.andThen (looks_subIn X ho)) (PySem.F.cmpArgs_ne _ _) (obj_ne (A := A.in1) X I hs hf hu (wpAny_mono h (fun v s' hv => ?_) fun _ _ e => e))))))
  obtain ⟨b, rfl, hq⟩ := hv
  first | exact ⟨b, rfl, wpAny_pure hq⟩ | exact ⟨b, rfl, wpAny_pure (wpAny_pure hq)⟩ | exact ⟨b, rfl, hq⟩
theorem ne_own {m : Str → Option Value} {h₀ : Heap} {L y : Addr} {oy : Obj} {ody : Option Obj} {Q : Value → Shared → Prop} (X₀ : K.In h₀) (F : Fr h₀ L s.heap m) (I : InstAt s.heap x ox C od) (J : InstAt s.heap y oy C ody) (hs : findIn K (.ref C) "__eq__" = some (some (.ref f))) (hf : isFn K (.ref f) = true)
    (hn : findIn K (.ref C) "__ne__" = some (some (.builtin "object.__ne__"))) (ho : subIn K (.ref C) (.type "object") = some true) (hu : A.units + 1 < cLine)
    (h : wpAny (model prog w) A.in1 (call (.ref f) [.ref x, .ref y]) (fun v s' => ∃ b, v = .bool b ∧ Q (.bool (!b)) s') E s) : wpAny (model prog w) A (compareOp .NotEq (.ref x) (.ref y)) Q E s := by
  have X := X₀.keeps F.keep
  show wpAny _ _ (richCompare .NotEq (.ref x) (.ref y)) Q E s
  unfold richCompare
  simp only [oneThing_ref]
  refine wpAny_holding (wpAny_bind (wpAny_cRoomFor (Nat.lt_of_succ_lt hu) ?_))
  rw [cmpInfo_NotEq]
  dsimp only
  refine wpAny_bind (I.type.here (wpAny_bind (J.type.here ?_)))
  rw [show (Value.ref C != Value.ref C) = false from by simp]
  simp only [Bool.false_eq_true, if_false]
  refine wpAny_bind (wpAny_pure ?_)
  simp only [Bool.false_eq_true, if_false]
  refine wpAny_bind (try_ne X I hs hf hn ho hu (wpAny_mono h (fun v s' hv => ?_) fun _ _ e => e))
  obtain ⟨b, rfl, hq⟩ := hv
  first | exact ⟨b, rfl, wpAny_pure hq⟩ | exact ⟨b, rfl, wpAny_pure (wpAny_pure hq)⟩
end
/-- x != y, both of the class at C, whose __eq__ is at g -/
def rNeIns (C : Addr) (sp : Sp) (E : XK) : R2 := fun x y H Q => ∃ a b dx dy fs gs, x = .ref a ∧ y = .ref b ∧ H a = some (.ins C dx fs) ∧ H b = some (.ins C dy gs) ∧ sp [x, y] H (fun v H' => ∃ k, v = .bl k ∧ Q (.bl (!k)) H') E
section
variable {X : Cx} {CX : CXT} {n : Nat} {C g : Addr} {sp : Sp} {E : XK}
theorem op_neIns (hs : findIn X.K (.ref C) "__eq__" = some (some (.ref g))) (hf : isFn X.K (.ref g) = true) (hn : findIn X.K (.ref C) "__ne__" = some (some (.builtin "object.__ne__"))) (ho : subIn X.K (.ref C) (.type "object") = some true)
    (F : FnR X.prog X.w X.K X.mg X.base CX n g sp) (hr : Room (n + 1) X.A) (hx : Passes CX X E) : OpR X (compareOp .NotEq) (rNeIns C sp E) := by
  intro pins s σ H x y v u Q I rx ry h
  obtain ⟨a, b, dx, dy, fs, gs, rfl, rfl, ha, hb, q⟩ := h
  cases (show v = Value.ref a from rx)
  cases (show u = Value.ref b from ry)
  obtain ⟨mA, J, _⟩ := ins_get I.hok ha
  obtain ⟨mB, J', _⟩ := ins_get I.hok hb
  obtain ⟨od, J, _⟩ := J.look
  obtain ⟨od', J', _⟩ := J'.look
  obtain ⟨m, hF⟩ := I.fr
  refine ne_own I.ok.mod.kin hF J J' hs hf hn ho (by have := hr.un; omega) ?_
  refine wpAny_mono (wpAny_call (SlX.run_at (us := [.ref a, .ref b]) (ws := [.ref a, .ref b]) F hr.in1 I.env0.in1 hx I (.cons rfl (.cons rfl .nil)) q)) (fun r s' z => ?_) fun _ _ x => x
  obtain ⟨z', H', I', rz, k, ek, qz⟩ := z
  subst ek
  cases (show r = Value.bool k from rz)
  exact ⟨k, rfl, .bl (!k), H', I', rfl, qz⟩
end
end Kd

-- ===== KS12 =====
set_option Elab.async false
set_option linter.all false
set_option maxRecDepth 100000
set_option maxHeartbeats 4000000
namespace Kd
open PySem L2 PyProof.Rows PySem.Spec PySem.W PySem.Calls
/-! ### sorted(d), the keys being tuples -/
theorem walk_raw {prog : Program} {w : World} {A : Around} {it d : Addr} {od : Obj} {es : Array DictEntry} {ep : Nat} (hh : A.handled = none) (ne : d ≠ it) (hd : od.data = .dict es ep) :
    Walks prog w A it [it, d] [it] es.size (fun i v => ∃ en, es[i]? = some en ∧ v = en.key) (fun i h => h.IsKeyIter it d i es.size ep ∧ h.get? d = some od) where
  sub := fun b hb => by simp at hb; simp [hb]
  frame := fun _ _ _ st hk => ⟨st.1.at fun o e => hk it (by simp) o e, hk d (by simp) _ st.2⟩
  item := fun i s Q E hi st hQ => by
    obtain ⟨en, hx⟩ : ∃ en, es[i]? = some en := ⟨es[i], by simp [hi]⟩
    refine next_key_item st.1 st.2 hd rfl hx fun h' st' sb => hQ en.key h' s.toks ⟨en, hx, rfl⟩ ⟨st', (sb.2 d ne).trans st.2⟩ fun b o hb e => (sb.2 b fun z => hb (by simp [z])).trans e
  done := fun s Q E st hQ => next_key_end hh st.1 st.2 hd rfl (Nat.le_refl _) fun h' eb => hQ h' s.toks fun b o hb e => eb b o (fun z => hb (by simp [z])) e
  self := fun _ _ _ _ st hQ => wpAny_pyIter_keyiter st.1 hQ
theorem src_raw {prog : Program} {w : World} {d : Addr} {od : Obj} {es : Array DictEntry} {ep : Nat} (lo : (d == sysModules) = false) (ex : od.ExactDict) (hd : od.data = .dict es ep) :
    KdlSrc prog w "dict" d d es.size (fun i v => ∃ en, es[i]? = some en ∧ v = en.key) (fun h => h.get? d = some od) where
  type := fun _ hm => ⟨od, hm, ex.1⟩
  there := fun _ hm => ⟨Heap.lt_size hm, Heap.lt_size hm⟩
  keep := fun _ _ hm hk => hk d (.inl rfl) _ hm
  notList := by decide
  notTuple := by decide
  hint := fun _ _ _ _ hm hq => kdl_hint_dict ⟨od, hm, ex.1⟩ hq
  iter := fun _ _ hh hm => ⟨_, _, (fun _ _ hq => iter_keys lo hm ex hd hq), walk_raw hh (Nat.ne_of_lt (Heap.lt_size hm)) hd, ⟨⟨_, Heap.get?_push_size _ rfl, rfl, rfl⟩, Heap.get?_push_of_some _ hm⟩⟩
/-- one for each place -/
theorem pick_each {α : Type} (R : Nat → α → Prop) : ∀ n : Nat, (∀ i, i < n → ∃ x, R i x) → ∃ L : List α, L.length = n ∧ ∀ i x, L[i]? = some x → R i x
  | 0, _ => ⟨[], rfl, fun i x e => by simp at e⟩
  | n + 1, h => by
    obtain ⟨L, l, g⟩ := pick_each R n fun i hi => h i (by omega)
    obtain ⟨y, hy⟩ := h n (by omega)
    refine ⟨L ++ [y], by rw [List.length_append, l]; rfl, fun i x e => ?_⟩
    rcases Nat.lt_or_ge i L.length with lt | ge
    · rw [List.getElem?_append_left lt] at e
      exact g i x e
    · rw [List.getElem?_append_right ge] at e
      have ei : i - L.length = 0 := by
        have z := (List.getElem?_eq_some_iff.mp e).1
        simp at z
        omega
      rw [ei] at e
      have e2 : y = x := Option.some.inj e
      rw [← e2, show i = n by omega]
      exact hy
def rSortD : List V → Hp → VK → Prop := fun vs H Q => ∃ (a : Addr) (kvs : List (List Key × V)), vs = [V.ref a] ∧ H a = some (.dT kvs) ∧ kvs.length < 64 ∧ AllAlike (kvs.map fun p => tD p.1) ∧ Sortable (kvs.map fun p => tD p.1) ∧
  ∀ (L : List (Addr × List Key)) p, L.map Prod.snd = kvs.map Prod.fst → (∀ q ∈ L, H q.1 = some (.tup (q.2.map kV))) → H p = none → Q (.ref p) (upd H p (.lst ((L.mergeSort (dataLe false fun q => tD q.2)).map fun q => V.ref q.1)))
section
variable {X : Cx}
theorem cr_sortD (hc : X.calm = true) (hu : X.A.units + 64 < cLine) : CallR X (.builtin "sorted") rSortD := by
  intro pins s σ H vs us Q I r h
  obtain ⟨a, kvs, rfl, ha, less, al, so, q⟩ := h
  rw [Vals.ref1 r]
  obtain ⟨od, J⟩ := I.lock ha trivial
  obtain ⟨lo, hod, hex, es, ep, hdt, hsz, ent⟩ := J.frzT upd_same
  obtain ⟨L, ll, hL⟩ := pick_each (fun i (q : Addr × List Key) => (∃ v, kvs[i]? = some (q.2, v)) ∧ (∃ en, es[i]? = some en ∧ en.key = Value.ref q.1) ∧ H q.1 = some (.tup (q.2.map kV))) kvs.length fun i hi => by
    obtain ⟨⟨k, v⟩, hkv⟩ : ∃ p, kvs[i]? = some p := ⟨kvs[i], List.getElem?_eq_getElem hi⟩
    obtain ⟨en, b, hen, hkey, hb⟩ := ent i k v hkv
    refine ⟨(b, k), ⟨v, hkv⟩, ⟨en, hen, hkey⟩, ?_⟩
    rw [upd_ne fun z => by rw [z, upd_same] at hb; cases hb] at hb
    exact hb
  have keys : L.map Prod.snd = kvs.map Prod.fst := by
    refine List.ext_getElem? fun i => ?_
    rw [List.getElem?_map, List.getElem?_map]
    rcases Nat.lt_or_ge i L.length with lt | ge
    · obtain ⟨⟨v, e⟩, _⟩ := hL i L[i] (List.getElem?_eq_getElem lt)
      rw [List.getElem?_eq_getElem lt, e]
      rfl
    · rw [List.getElem?_eq_none ge, List.getElem?_eq_none (by omega)]
      rfl
  have tups : ∀ q ∈ L, H q.1 = some (.tup (q.2.map kV)) := fun q m => by
    obtain ⟨i, e⟩ := List.mem_iff_getElem?.mp m
    exact (hL i q e).2.2
  have en2 : (L.map fun q => tD q.2) = kvs.map fun p => tD p.1 := by
    have z := congrArg (List.map tD) keys
    rw [List.map_map, List.map_map] at z
    exact z
  refine Calls.call_function_entry kind_sorted plain_sorted entry_sorted (args_sorted1 _) ?_
  unfold Builtin.«sorted»
  refine wpAny_bind (m := checkCount "sorted" 1 1 _) (wpAny_pure ?_)
  refine wpAny_bind (kdu_collect (A := X.A.in1) (src_raw lo hex hdt) (I.ok.hd hc) hod (by rw [hsz, sizeLine_eq]; omega) fun h' tk acc hk hacc => ?_)
  have I1 : Inv X pins σ H { s with heap := h', toks := tk } := I.kept hk
  have ev : acc.toList = L.map fun q => Value.ref q.1 := by
    refine List.ext_getElem? fun i => ?_
    rw [List.getElem?_map]
    have al : acc.size = L.length := by rw [hacc.1, hsz, ll]
    rcases Nat.lt_or_ge i L.length with lt | ge
    · obtain ⟨v, hv⟩ : ∃ v, acc[i]? = some v := ⟨acc[i]'(by omega), by simp [al, lt]⟩
      obtain ⟨en, h1, rfl⟩ := hacc.2 i v hv
      obtain ⟨_, ⟨en', h2, h3⟩, _⟩ := hL i L[i] (List.getElem?_eq_getElem lt)
      rw [h1] at h2
      cases h2
      rw [Array.getElem?_toList, hv, h3, List.getElem?_eq_getElem lt]
      rfl
    · rw [List.getElem?_eq_none ge, List.getElem?_eq_none (by rw [Array.length_toList]; omega)]
      rfl
  rw [ev]
  refine wpAny_bind (wpAny_newList ?_ (by rw [List.length_map, sizeLine_eq]; omega))
  have oL : (h'.push (seqObj "list" (L.map fun q => Value.ref q.1).toArray 0)).get? h'.objs.size = some (seqObj "list" (L.map fun q => Value.ref q.1).toArray 0) := Heap.get?_push_size _ rfl
  have each : ∀ (R : Value → Addr × List Key → Prop) (M : List (Addr × List Key)), (∀ q ∈ M, R (.ref q.1) q) → EachIs R (M.map fun q => Value.ref q.1) M := by
    intro R M
    induction M with
    | nil => exact fun _ => .nil
    | cons x M ih => exact fun g => .cons (g x List.mem_cons_self) (ih fun y m => g y (List.mem_cons_of_mem _ m))
  refine wpAny_bind (wpAny_holding (list_sort_data (s := { s with heap := h'.push (seqObj "list" (L.map fun q => Value.ref q.1).toArray 0), toks := tk }) (R := fun v q => v = Value.ref q.1) (enc := fun q : Addr × List Key => tD q.2) (bs := L) oL (each _ L fun q _ => rfl)
    (each _ L fun q m => ⟨[], PyProof.Rows.Reads.keeps (fun b u e => Heap.get?_push_of_some _ e) (key_raw I1 (SqT.of (tups q m))).2, fun z => nomatch z⟩)
    (by rw [en2]; exact al) ?_ (by rw [sizeLine_eq]; omega) (fun b _ => by have z := tD_depth b.2; have y : X.A.in1.units ≤ X.A.units + 32 := (by simp only [Around.in1]; omega); omega) fun out lo2 eo => ?_))
  · rw [← en2] at so
    rcases so with g | g
    · exact .inl fun d m => g d m
    · exact .inr fun d m => g d m
  · have eout : ∀ {o : List Value} {M : List (Addr × List Key)}, EachIs (fun v q => v = Value.ref q.1) o M → o = M.map fun q => Value.ref q.1 := by
      intro o M z
      induction z with
      | nil => rfl
      | cons e _ ih => rw [e, ih]; rfl
    have eo' := eout eo
    subst eo'
    obtain ⟨c, hc2⟩ := sortedHeap_at (vs := L.map fun q => Value.ref q.1) (out := (List.toArray ((L.mergeSort (dataLe false fun q => tD q.2)).map fun q => Value.ref q.1))) oL
    have kp2 : ∀ b u, h'.get? b = some u → (sortedHeap (h'.push (seqObj "list" (L.map fun q => Value.ref q.1).toArray 0)) h'.objs.size (L.map fun q => Value.ref q.1) (List.toArray ((L.mergeSort (dataLe false fun q => tD q.2)).map fun q => Value.ref q.1))).get? b = some u := fun b u z => by
      have lt := Heap.lt_size z
      rw [sortedHeap_old (Nat.ne_of_lt lt) (by rw [size_push']; exact Nat.lt_succ_of_lt lt)]
      exact Heap.get?_push_of_some _ z
    have lz : ((L.mergeSort (dataLe false fun q => tD q.2)).map fun q => V.ref q.1).length ≤ sizeLine := by
      rw [List.length_map, List.length_mergeSort, sizeLine_eq]
      omega
    refine wpAny_pure ⟨_, rfl, ?_⟩
    exact ⟨.ref h'.objs.size, upd H h'.objs.size (.lst ((L.mergeSort (dataLe false fun q => tD q.2)).map fun q => V.ref q.1)), I1.laid (t' := tk) kp2 (Nat.le_refl _) ⟨lz, _, c, refs_vals Prod.fst _, hc2⟩, rfl, q L _ keys tups (I1.hok.fresh (Nat.le_refl _))⟩
end
end Kd

-- ===== KS13 =====
set_option Elab.async false
set_option linter.all false
set_option maxRecDepth 100000
set_option maxHeartbeats 4000000
namespace Kd
open PySem L2 PyProof.Rows PySem.Spec ClX
/-! ### C.m(k = v), m a classmethod -/
def tCMethK (C : Addr) (sp : Sp) (gV : List V → List V → List V) (E : XK) (ta : TE) (tk : TA) : TE := fun σ H Q => ta σ H fun x H1 => x = .ref C ∧ tk σ H1 fun zs H2 => sp (gV [.ref C] zs) H2 Q E
section
variable {X : Cx} {CX : CXT} {k : Nat} {C p g : Addr} {mc : Value} {fd : FuncData} {ps ks : List Str} {sp : Sp} {E : XK} {o : Expr} {kws : List Keyword} {m : Str} {pos apos : Pos} {ta : TE} {tk : TA} {pl : Sem Bool} {gg : List Value → List Value → List Value} {gV : List V → List V → List V}
theorem pe_cmethK (he : PE X o ta) (r : CRead X.K C mc) (c : CMet X.K C mc m p g) (F : FnOk X.prog X.w X.K X.mg X.base CX k g fd ps sp) (hr : Room k X.A) (hb : KBinds X.K fd ps ks gg gV) (hx : Passes CX X E) (hkw : PK X kws tk)
    (hall : (backToKw pos (keywordEach kws X.env)).all (·.1.isSome) = true := by rfl) (hks : (backToKw pos (keywordEach kws X.env)).filterMap (·.1) = ks := by rfl)
    (hpl : ((backTo pos (starEach [] X.env)).any (·.1) || (backToKw pos (keywordEach kws X.env)).any (·.1.isNone)) = false := by rfl)
    (ht : eval (.Call (.Attribute o m apos) [] kws pos) X.env = (do
      let ov ← eval o X.env
      standAt apos.atName
      let (f, first) ← holding [ov] (getMethod ov m pl)
      callWith pos f first (backTo pos (starEach [] X.env)) (backToKw pos (keywordEach kws X.env))) := by rfl) :
    PE X (.Call (.Attribute o m apos) [] kws pos) (tCMethK C sp gV E ta tk) := by
  refine ⟨fun pins s σ H Q I h => ?_⟩
  refine PySem.W.methodCall_KW (pl := pl) (thn (he.run pins s σ H _ I h) fun u s1 ⟨x, H1, I1, rx, ex, q⟩ => ?_) ht
  subst ex
  obtain rfl : u = Value.ref C := rx
  refine getmethcm_ok I1 r c fun s2 I2 => ?_
  refine PySem.W.callWith_of hpl (PySem.W.keeps_M c.fi) (evalArgs_kw2_nil hall (thn (hkw.run pos _ s2 σ H1 _ I2 q) fun ws s3 ⟨zs, H2, I3, rz, q2⟩ => ⟨⟨pin_at I3, I3.kIn⟩, ?_⟩))
  rw [hks]
  have r2 := hb.rel (.cons (show RelV (.ref C) (.ref C) from rfl) .nil : Vals [.ref C] [.ref C]) rz
  have hl : (gg [.ref C] ws).length = ps.length := by rw [← r2.length]; exact F.len _ _ _ _ q2
  have z : wpAny (model X.prog X.w) X.A (call (.ref s1.heap.objs.size) [] (ks.zip ws)) (EP X ((s1.heap.objs.size, PySem.W.methodObj (.ref g) (.ref C)) :: pins) σ Q) X.xe s3 := by
    refine wpAny_call (PySem.W.method_call (pin_at I3) (codeAny_mono (F.run X.A X.stack s3 H2 ⟨[.ref C], ks.zip ws⟩ (gg [.ref C] ws) (gV [.ref C] zs) Q E hr I3.env0 (hb.to s3 [.ref C] ws I3.kIn hl) r2 q2) fun r s' hq => ?_))
    cases r with
    | error e => exact (hx _ σ H2 s3 e s' I3 hq)
    | ok fl =>
      cases fl with
      | ret u => exact I3.after hq
      | next => exact False.elim hq
      | brk => exact False.elim hq
      | cont => exact False.elim hq
  exact thn z fun _ _ y => unpinE y
end
end Kd

-- ===== K61K =====
set_option Elab.async false
set_option linter.all false
set_option maxRecDepth 100000
set_option maxHeartbeats 4000000
namespace My
open PySem L2 PyProof.Rows PySem.Spec Kd TL StX ClX
/-! ### kinds' data compared -/
theorem lay_steps {n : Nat} : ∀ st : List Stp, (∀ x ∈ st, StpOk n x) → PyData.canLayAll0 (st.map stepD) = true
  | [], _ => by simp only [List.map_nil, PyData.canLayAll0]
  | x :: st, h => by
    have h0 := h x List.mem_cons_self
    have h1 := wrd_ok h0.w1
    have h2 := wrd_ok h0.w2
    simp only [List.map_cons, stepD, PyData.canLayAll0, PyData.canLay0, h1, h2, lay_steps st fun y m => h y (List.mem_cons_of_mem _ m), Bool.and_self]
theorem lay_states {n : Nat} : ∀ ss : List (List Stp), (∀ st ∈ ss, StOk n st) → PyData.canLayAll0 (ss.map stateD) = true
  | [], _ => by simp only [List.map_nil, PyData.canLayAll0]
  | st :: ss, h => by
    have h0 := lay_steps st (h st List.mem_cons_self).all
    simp only [List.map_cons, stateD, PyData.canLayAll0, PyData.canLay0, h0, lay_states ss fun y m => h y (List.mem_cons_of_mem _ m), Bool.and_self]
theorem deep_steps : ∀ st : List Stp, PyData.depthAll (st.map stepD) ≤ 2
  | [] => by simp only [List.map_nil, PyData.depthAll]; omega
  | x :: st => by
    have h := deep_steps st
    simp only [List.map_cons, stepD, PyData.depthAll, PyData.depth]
    omega
theorem deep_states : ∀ ss : List (List Stp), PyData.depthAll (ss.map stateD) ≤ 3
  | [] => by simp only [List.map_nil, PyData.depthAll]; omega
  | st :: ss => by
    have h1 := deep_steps st
    have h := deep_states ss
    simp only [List.map_cons, stateD, PyData.depthAll, PyData.depth]
    omega
theorem lay_kind {ss : List (List Stp)} (h : KOk ss) : PyData.canLay0 (statesD ss) = true := by
  unfold statesD
  simp only [PyData.canLay0]
  exact lay_states ss h.all
theorem deep_kind (ss : List (List Stp)) : PyData.depth (statesD ss) ≤ 4 := by
  have h := deep_states ss
  unfold statesD
  simp only [PyData.depth]
  omega
theorem shaped_kind {ss : List (List Stp)} (h : KOk ss) : SeqAt.shaped (statesD ss) = true := by
  unfold SeqAt.shaped
  rw [Bool.and_eq_true]
  have z := deep_kind ss
  exact ⟨lay_kind h, decide_eq_true (by omega)⟩
theorem eqv_map {α : Type} [DecidableEq α] (f : α → PyData) (h : ∀ x y, PyData.eqv (f x) (f y) = decide (x = y)) : ∀ l m : List α, PyData.eqvAll (l.map f) (m.map f) = decide (l = m)
  | [], [] => by simp [PyData.eqvAll]
  | [], _ :: _ => by simp [PyData.eqvAll]
  | _ :: _, [] => by simp [PyData.eqvAll]
  | x :: l, y :: m => by
    simp only [List.map_cons, PyData.eqvAll, h, eqv_map f h l m, List.cons.injEq]
    exact (Bool.decide_and _ _).symm
theorem eqv_step (x y : Stp) : PyData.eqv (stepD x) (stepD y) = decide (x = y) := by
  obtain ⟨a, b, i⟩ := x
  obtain ⟨c, d, j⟩ := y
  unfold stepD
  simp only [PyData.eqvAll, PyData.eqv, eqv_str, Prod.mk.injEq, Bool.and_true, Bool.decide_and]
  first | rfl | simp
theorem eqv_state (x y : List Stp) : PyData.eqv (stateD x) (stateD y) = decide (x = y) := by
  unfold stateD
  rw [← eqv_map stepD eqv_step]
  simp only [PyData.eqv]
theorem eqv_kind (x y : List (List Stp)) : PyData.eqv (statesD x) (statesD y) = decide (x = y) := by
  unfold statesD
  rw [← eqv_map stateD eqv_state]
  simp only [PyData.eqv]
/-- what the module's class has -/
structure KCls (K : PySem.W.Frag) (C : Addr) : Prop where
  cl : Cls K C
  n1 : NoAttr K C "states"
  n2 : NoAttr K C "moves"
  ha : PySem.W.findIn K (.ref C) "__class__" = some (some (.builtin "object.__class__"))
  hn : PySem.W.specialIn K (.builtin "object.__class__") "__get__" = some (some (.builtin "getset_descriptor.__get__"))
  htk : PySem.W.takesIn K (.builtin "object.__class__") = some true
  hm : PySem.W.mroIn K C (.type "object") = some true
  one : PySem.W.kitOne K (.ref C) (.ref C) = some true
/-! ### numbers as texts -/
def numT (i : Int) : Str := (toString i : String)
theorem num_tl (n : Nat) : tl (numT n) = numL n := tl_num n
theorem num_len {i : Int} (h0 : 0 ≤ i) (h1 : i < 100) : (numT i).length ≤ 2 := by
  obtain ⟨n, rfl⟩ := Int.eq_ofNat_of_zero_le h0
  rw [len_tl, num_tl]
  exact numL_len (by decide) (by omega)
theorem num_log {i : Int} (h0 : 0 ≤ i) (h1 : i < 100) : i.natAbs.log2 < 1920 := by
  rcases Nat.eq_zero_or_pos i.natAbs with e | e
  · rw [e]
    decide
  · have h : i.natAbs < 2 ^ 7 := by omega
    exact Nat.lt_trans ((Nat.log2_lt (by omega)).mpr h) (by decide)
end My

-- ===== K61Q =====
set_option Elab.async false
set_option linter.all false
set_option maxRecDepth 100000
set_option maxHeartbeats 4000000
namespace My
open PySem L2 PyProof.Rows PySem.Spec
/-! ### a def's promise under a condition on what is around -/
structure FnG (c : Bool) (G : Around → Prop) (P : Program) (w : World) (K : PySem.W.Frag) (mg : Str → Option Value) (base : Heap) (CX : CXT) (k : Nat) (f : Addr) (fd : FuncData) (ps : List Str) (sp : Sp) : Prop where
  len : ∀ vs H Q E, sp vs H Q E → vs.length = ps.length
  run : ∀ (A : Around) (outer : List Env) (s : Shared) (H : Hp) (args : Args) (us : List Value) (vs : List V) (Q : VK) (E : XK), (c = true → A.handled = none) → G A → L2H.RoomH k A →
    Env0 P w K mg base A outer s H → BindsTo s fd args (ps.zip us) → Vals vs us → sp vs H Q E → codeAny (model P w) A (.call (.ref f) args) (CR CX outer P w H s Q E) s
def cxG (c : Bool) (CX : CXT) (P : Program) (w : World) (K : PySem.W.Frag) (mg : Str → Option Value) (base : Heap) (N : List Str) (qual : Str) (scope : Scope) (f : Addr) (cd : Value) (A : Around) (outer : List Env) (s : Shared) (H : Hp) (E : XK) : Cx :=
  { cxOf CX P w K mg base N qual scope f cd A outer s H E with calm := c }
section
variable {c : Bool} {G : Around → Prop} {CX : CXT} {P : Program} {w : World} {K : PySem.W.Frag} {mg : Str → Option Value} {base : Heap} {N ps : List Str} {qual : Str} {scope : Scope} {f : Addr} {cd : Value} {A : Around} {outer : List Env} {s s1 : Shared} {H : Hp} {E : XK}
theorem inv_startG {us : List Value} {vs : List V} (S : FnScope N ps scope) (hd : c = true → A.handled = none) (e0 : Env0 P w K mg base A outer s H) (hl : vs.length = ps.length) (r : Vals vs us)
    (x : InCallC s s.heap.objs.size (bindL (envOfC qual scope s.heap.objs.size f cd).kindOf (ps.zip us) fun _ => none) (cellsFrom (s.heap.objs.size + 1) scope.names []) (bindC (envOfC qual scope s.heap.objs.size f cd).kindOf (ps.zip us) fun _ => none) s1) :
    Inv (cxG c CX P w K mg base N qual scope f cd A outer s H E) [] (start N vs) H s1 := by
  have J : Inv (cxOf CX P w K mg base N qual scope f cd { A with handled := none } outer s H E) [] (start N vs) H s1 := inv_start S rfl ⟨e0.frames, e0.mod, e0.bs, e0.bsz, e0.funs, e0.frf, e0.hok, e0.bare⟩ hl r x
  have o := J.ok
  exact ⟨⟨o.mod, o.kind, o.glob, o.blt, o.above, o.inj, o.has, o.cab, hd, Around.frames_deeper e0.frames, o.stk, o.exf, o.bs, o.bsz, o.noex, o.exfs, o.funs, o.frf⟩, J.os, J.bare, J.base, J.loc, J.cell, J.free, J.freeC, J.pin, J.hok, J.len⟩
theorem fn_ofG {k : Nat} {name : Str} {params : Arguments} {body : List Stmt} {dV kV doc pm cdv ct oc : Value} {an od : Option Addr} {osl : Array (Option Value)} {sp : Sp}
    (lk : K.lookup f = some ⟨oc, od, .func (PySem.W.fnOf name qual params body scope dV kV doc pm an cdv ct), osl⟩) (hcd : PySem.W.codeIn K cdv qual = true) (S : FnScope N ps scope) (len : ∀ vs H Q E, sp vs H Q E → vs.length = ps.length)
    (hbody : ∀ (A : Around) (outer : List Env) (s : Shared) (H : Hp) (vs : List V) (Q : VK) (E : XK), (c = true → A.handled = none) → G A → L2H.RoomH k (A.deeper (envOfC qual scope s.heap.objs.size f cdv)) → sp vs H Q E →
      ∃ t, PSs (cxG c CX P w K mg base N qual scope f cdv A outer s H E) body t ∧ t { nx := fun _ H' => Q .non H', rt := Q } (start N vs) H) :
    FnG c G P w K mg base CX (k + 1) f (PySem.W.fnOf name qual params body scope dV kV doc pm an cdv ct) ps sp := by
  refine ⟨len, fun A outer s H args us vs Q E hh hG hr e0 hb r hsp => ?_⟩
  have hl := len _ _ _ _ hsp
  have KX : K.In s.heap := e0.mod.kin.keeps fun b o e => (e0.bs b o e).1
  have lim : s.heap.NoLimit := e0.mod.nolimit.keeps fun b o e => (e0.bs b o e).1
  refine codeAny_call_function hr.depth (KX _ _ lk) rfl S.co S.gen rfl (PySem.W.codeRec_of KX hcd) (hb _ _ _ _ ?_)
  refine wpAny_newFunctionEnv_cells S.kind (fun ⟨n, v⟩ hy => ?_) fun env he s1 x => ?_
  · rcases S.par n (List.of_mem_zip hy).1 with q | q
    · exact .inl q
    · exact .inr ⟨q, PySem.W.cellsFrom_some _ _ _ (.inl q)⟩
  subst he
  refine ⟨lim.keeps x.toInCall.keep, codeAny_func ?_⟩
  obtain ⟨t, ht, hq⟩ := hbody A outer s H vs Q E hh hG (hr.deeper _) hsp
  refine wpAny_mono (ht.run [] s1 (start N vs) H _ (inv_startG S hh e0 hl r x) hq) (fun fl s' hs => ?_) fun e s' hs => hs
  cases fl with
  | ret u =>
    obtain ⟨v, σ', H', J, rv, q⟩ := hs
    exact ⟨v, H', J.os, J.bare, J.base, J.hok, rv, q⟩
  | next =>
    obtain ⟨σ', H', J, q⟩ := hs
    exact ⟨V.non, H', J.os, J.bare, J.base, J.hok, rfl, q⟩
  | brk =>
    obtain ⟨_, _, _, q⟩ := hs
    exact False.elim q
  | cont =>
    obtain ⟨_, _, _, q⟩ := hs
    exact False.elim q
/-- by its body, nothing is raised -/
theorem okG {x : Str} {st : Stmt} {fd : FuncData} {k : Nat} {sp : Sp} (F : Fun K x qual st f fd) (S : FnScope N ps (defScope st)) (len : ∀ vs H Q E, sp vs H Q E → vs.length = ps.length)
    (hbody : ∀ (cdv : Value) (A : Around) (outer : List Env) (s : Shared) (H : Hp) (vs : List V) (Q : VK) (E : XK), (c = true → A.handled = none) → G A → L2H.RoomH k (A.deeper (envOfC qual (defScope st) s.heap.objs.size f cdv)) → sp vs H Q E →
      ∃ t, PSs (cxG c CX P w K mg base N qual (defScope st) f cdv A outer s H E) (defBody st) t ∧ t { nx := fun _ H' => Q .non H', rt := Q } (start N vs) H) : FnG c G P w K mg base CX (k + 1) f fd ps sp := by
  obtain ⟨oc, od, kV, doc, pm, an, cdv, ct, osl, rfl, lk, hcd⟩ := F.ex
  exact fn_ofG lk hcd S len fun A outer s H vs Q E hh hG hr hsp => hbody cdv A outer s H vs Q E hh hG hr hsp
end
section
variable {c : Bool} {G : Around → Prop} {X : Cx} {CX : CXT} {k : Nat} {f : Addr} {fd : FuncData} {ps : List Str} {sp : Sp} {x : Str} {p pos : Pos} {e : Expr} {es : List Expr} {t : TA} {E : XK}
theorem pe_callG (F : FnG c G X.prog X.w X.K X.mg X.base CX k f fd ps sp) (hh : c = true → X.A.handled = none) (hG : G X.A) (hr : L2H.RoomH k X.A) (hg : Gl X x) (hm : X.mg x = some (.ref f)) (hk : PySem.W.keepIn X.K (.ref f) = true) (hb : Binds X.K fd ps []) (hx : Passes CX X E)
    (ha : PA X (e :: es) t) (hdb : (x == ("__debug__" : Str)) = false := by decide) (he : starEach (e :: es) X.env = (false, eval e X.env) :: starEach es X.env := by rfl) (hpl : (backTo pos (starEach es X.env)).any (·.1) = false := by rfl) :
    PE X (.Call (.Name x p) (e :: es) [] pos) (tCall sp [] E t) := by
  refine ⟨fun pins s σ H Q I h => ?_⟩
  refine wpAny_Call_Name_kw (ld_glob I hg hm ?_ hdb)
  refine PySem.W.callWith_K (h₀ := X.base) I.ok.mod.kin hk (thn (ha.run pos pins s σ H _ I h) fun us s1 ⟨vs, H1, I1, r, q⟩ => ⟨I1.kIn, ?_⟩) he hpl
  have r2 : Vals (vs ++ []) (us ++ []) := by rw [List.append_nil, List.append_nil]; exact r
  have hl : (us ++ []).length = ps.length := by rw [← r2.length]; exact F.len _ _ _ _ q
  refine wpAny_call (codeAny_mono (F.run X.A X.stack s1 H1 ⟨us, []⟩ (us ++ []) (vs ++ []) Q E hh hG hr I1.env0 (hb s1 us I1.kIn hl) r2 q) fun r s' hq => ?_)
  cases r with
  | error e => exact hx pins σ H1 s1 e s' I1 hq
  | ok fl =>
    cases fl with
    | ret u => exact I1.after hq
    | next => exact False.elim hq
    | brk => exact False.elim hq
    | cont => exact False.elim hq
end
theorem law_callG {P : Program} {w : World} {K : PySem.W.Frag} {mg mb : Str → Option Value} {CX : CXT} {k : Nat} {fa a : Addr} {fd : FuncData} {x : Str} {sp : Sp} {s₁ : Shared} {vs : List Value} {ns : List Int}
    (KX : K.In s₁.heap) (hns : s₁.heap.Ns mainGlobals mg) (hb : s₁.heap.Ns builtinsNs mb) (hbb : ∀ x : Str, x ≠ "__name__" → mb x = bootBuiltins x) (hlim : s₁.heap.NoLimit) (hg : s₁.gens = #[])
    (ha : s₁.heap.get? a = some { cls := .type "list", data := .seq vs.toArray }) (hi : IntsAre vs ns) (hl : ns.length ≤ sizeLine) (hr : Room k callerA)
    (F : ∀ base : Heap, K.In base → base.Ns mainGlobals mg → FnG true (fun A => A.guards = some []) P w K mg base CX k fa fd [x] sp) (hbind : ∀ (s : Shared) (u : Value), BindsTo s fd ⟨[u], []⟩ [(x, u)])
    (hsp : ∀ H : Hp, Only H → SqL K H a (ns.map V.int) → sp [.ref a] H (fun v _ => v = .bl true) fun _ _ _ => False)
    (hCX : ∀ H e s', CX [] H s₁ (fun _ _ _ => False) e s' → False) :
    codeAny (model P w) callerA (.call (.ref fa) ⟨[.ref a], []⟩) (fun r s' => r = .ok (.ret (.bool true)) ∧ OldK s₁.heap s'.heap ∧ s'.os = s₁.os ∧ AllBare s'.gens) s₁ := by
  have rv := vals_ints hi
  have lenV := hi.length
  -- from an abstract heap in which nothing but the script may be tracked
  have core : ∀ H : Hp, Only H → SqL K H a (ns.map V.int) → HOk P w H s₁.heap → (∀ b, H b ≠ none → b = a) → (H a ≠ none → K.lookup a = none) →
      codeAny (model P w) callerA (.call (.ref fa) ⟨[.ref a], []⟩) (fun r s' => r = .ok (.ret (.bool true)) ∧ OldK s₁.heap s'.heap ∧ s'.os = s₁.os ∧ AllBare s'.gens) s₁ := by
    intro H hO hS hok hA hK
    have base_of : ∀ {b : Addr} {o : Obj}, s₁.heap.get? b = some o → H b = none → (hidT s₁.heap H).get? b = some o := fun e n => hidT_get e n
    have noA : ∀ {b : Addr} {o : Obj} {es : Array DictEntry} {ep : Nat}, s₁.heap.get? b = some o → o.data = .dict es ep → H b = none := fun {b o es ep} e d => by
      cases q : H b with
      | none => rfl
      | some u =>
        have e' : b = a := hA b (by rw [q]; simp)
        subst e'
        rw [ha] at e; cases e
        have d' : Data.seq vs.toArray _ = Data.dict es ep := d
        cases d'
    have nsK : ∀ {b : Addr} {m : Str → Option Value}, s₁.heap.Ns b m → (hidT s₁.heap H).Ns b m := fun {b m} ⟨o, es, ep, e, d, r⟩ => ⟨o, es, ep, base_of e (noA e d), d, r⟩
    have hKb : K.In (hidT s₁.heap H) := fun b o e => base_of (KX b o e) (by
      cases q : H b with
      | none => rfl
      | some u =>
        have e' : b = a := hA b (by rw [q]; simp)
        subst e'
        rw [hK (by rw [q]; simp)] at e; cases e)
    have hM : Mod K mg (hidT s₁.heap H) := ⟨hKb, nsK hns, ⟨mb, nsK hb, hbb⟩, let ⟨mc, h1, h2⟩ := hlim; ⟨mc, nsK h1, h2⟩⟩
    have e0 : Env0 P w K mg (hidT s₁.heap H) callerA [] s₁ H := ⟨rfl, hM, fun b o e => of_hidT e, Nat.le_of_eq (hidT_size _ _), trivial, fun b hb => absurd (show b ∈ ([] : List Addr) from hb) (by simp), hok, .of_eq hg⟩
    refine codeAny_mono ((F _ hKb (nsK hns)).run callerA [] s₁ H ⟨[.ref a], []⟩ [.ref a] [.ref a] _ _ (fun _ => rfl) rfl (L2H.roomH_of hr) e0 (hbind s₁ (.ref a)) (.cons rfl .nil) (hsp H hO hS)) fun r s' h => ?_
    cases r with
    | error e => exact (hCX H e s' h).elim
    | ok fl =>
      cases fl with
      | next => exact False.elim h
      | brk => exact False.elim h
      | cont => exact False.elim h
      | ret u =>
        obtain ⟨v, H', os, bare, un, hok', r', q⟩ := h
        have q' : v = .bl true := q
        subst q'
        obtain rfl : u = Value.bool true := r'
        refine ⟨rfl, OldK.of_keep fun b o e => ?_, os, bare⟩
        cases q : H b with
        | none => exact un.keep b o e q (by intro z; exact absurd (show b ∈ ([] : List Addr) from z) (by simp)) (by simp)
        | some u =>
          rcases hO b with z | ⟨ob, xs, z⟩
          · rw [q] at z; cases z
          · have z2 := un.frzs b ob _ z
            obtain ⟨e1, _⟩ := hok b _ z
            obtain ⟨e2, _⟩ := hok' b _ z2
            rw [e] at e1; cases e1
            exact e2
  cases hk : K.lookup a with
  | some o =>
    -- the script is one of the module's own objects
    have e := KX a o hk
    rw [ha] at e
    cases e
    refine core (fun _ => none) (fun _ => .inl rfl) (.inr ⟨_, vs.toArray, _, hk, rfl, rfl, rfl, by rw [List.size_toArray, lenV]; exact hl, by simpa using rv⟩) (fun b u z => by have z' : (none : Option HO) = some u := z; cases z') (fun b z => absurd rfl z) fun z => absurd rfl z
  | none =>
    refine core (fun b => if b = a then some (.frz { cls := .type "list", data := .seq vs.toArray } (.lst (ns.map V.int))) else none) (fun b => ?_) (.inl (.inr ⟨{ cls := .type "list", data := .seq vs.toArray }, if_pos rfl⟩)) (fun b u z => ?_) (fun b z => ?_) fun _ => hk
    · by_cases hb : b = a
      · exact .inr ⟨_, _, if_pos hb⟩
      · exact .inl (if_neg hb)
    · by_cases hb : b = a
      · have z' := (if_pos hb).symm.trans z
        cases z'
        subst hb
        exact ⟨ha, by rw [List.length_map]; exact hl, vs, _, rv, ha⟩
      · have z' := (if_neg hb).symm.trans z
        cases z'
    · by_cases hb : b = a
      · exact hb
      · exact absurd (if_neg hb) z

theorem walk_ofG {l : PySem.W.OpenLaw} {n k : Nat} {q : Program} {loose : List Str} {XP : (Str → Option Value) → Heap → Prop} {YP : World → Heap → Prop} {d : DefRec} {K : Params → PySem.W.Frag} {sp : PySem.W.Frag → Sp} {x : Str}
    (hn : l.most = some n) (hn2 : n ≤ sizeLine) (hdf : d.params.defaults = []) (hr : Room k callerA) (hY : ∀ (w : World) (h : Heap), YP w h → (K w.params).In h)
    (F : ∀ (w : World) (mg : Str → Option Value) (fa : Addr) (h : Heap), (K w.params).In h → h.Ns mainGlobals mg → mg d.name = some (.ref fa) →
      ∃ fd : FuncData, (∀ (s : Shared) (u : Value), BindsTo s fd ⟨[u], []⟩ [(x, u)]) ∧ ∀ base : Heap, (K w.params).In base → base.Ns mainGlobals mg → FnG true (fun A => A.guards = some []) l.prog w (K w.params) mg base CX0 k fa fd [x] (sp (K w.params)))
    (hsp : ∀ (K : PySem.W.Frag) (H : Hp) (a : Addr) (ns : List Int), ns.length ≤ n → (∀ z ∈ ns, Builtin.Int.intBits z ≤ 1048576) → Only H → SqL K H a (ns.map V.int) → sp K [.ref a] H (fun v _ => v = .bl true) fun _ _ _ => False) :
    PySem.W.WalkO q loose XP YP l.row.toRowW d [] (fun f vs => PySem.call f vs) := by
  refine Att.attach_callB hn hdf fun w s₀ s₁ mg mb fa o pm cd doc a vs ns G Y ho hd hcd hmg hobj hints hlen hbits hg => ?_
  have KX := hY w _ Y
  obtain ⟨fd, hb, hF⟩ := F w mg fa _ KX G.T.g hmg
  exact law_callG KX G.T.g G.T.b G.T.builtins G.T.nolimit hg hobj hints (Nat.le_trans hlen hn2) hr hF hb (fun H hO hS => hsp _ H a ns hlen hbits hO hS) fun _ _ _ z => z
/-! ### displays, told that the new object is none of the model's own -/
def tLstL (t : TA) : TE := fun σ H Q => t σ H fun xs H1 => xs.length ≤ sizeLine ∧ ∀ q, H1 q = none → sysModules < q → Q (.ref q) (upd H1 q (.lst xs))
theorem pe_lstL {X : Cx} {es : List Expr} {t : TA} {pos : Pos} (h : PA X es t) : PE X (.List es pos) (tLstL t) := by
  refine ⟨fun pins s σ H Q I hq => ?_⟩
  refine wpAny_List_spliced (thn (h.run pos pins s σ H _ I hq) fun us s1 hh => ?_)
  obtain ⟨xs, H1, I1, r, z, q⟩ := hh
  have big := I1.big
  exact ⟨by rw [← r.length]; exact z, .ref s1.heap.objs.size, _, I1.laid (t' := s1.toks) (o := .lst xs) (fun b u e => Heap.get?_push_of_some _ e) (Nat.le_refl _) ⟨z, us, 0, r, Heap.get?_push_size _ rfl⟩, rfl, q _ (I1.hok.fresh (Nat.le_refl _)) big⟩

open Kd TL
theorem num_low {i : Int} (h : 0 ≤ i) {c : Nat} (m : c ∈ tl (numT i)) : c < 256 := by
  obtain ⟨n, rfl⟩ := Int.eq_ofNat_of_zero_le h
  rw [num_tl] at m
  have := numL_digits n c m
  omega
theorem wrd_low {z : Str} (h : Wrd z) {c : Nat} (m : c ∈ tl z) : c < 256 := by
  have low : ∀ c ∈ LETS.cps.toList, c < 256 := by decide +kernel
  exact low c (h.2.2 c m)
theorem repr_len {z : Str} {k : Nat} (hl : z.length ≤ k) (hc : ∀ c ∈ tl z, c < 256) : (reprText z).length ≤ 10 * k + 2 := by
  have := PySem.StrLaws.reprText_len z fun c m => Nat.lt_trans (hc c m) (by decide)
  omega
/-- data that is shown within k signs -/
structure Sh (k : Nat) (d : PyData) : Prop where
  sh : d.showable = true
  sz : d.shown.length ≤ k
theorem sh_all {k : Nat} : ∀ {ds : List PyData}, (∀ d ∈ ds, Sh k d) → PyData.showableAll ds = true ∧ ((PyData.shownAll ds).map (·.length)).sum ≤ ds.length * k ∧ (PyData.shownAll ds).length = ds.length
  | [], _ => ⟨by simp only [PyData.showableAll], by simp [PyData.shownAll], by simp [PyData.shownAll]⟩
  | d :: r, h => by
    have g := h d List.mem_cons_self
    obtain ⟨h1, h3, h4⟩ := sh_all (ds := r) fun x hx => h x (List.mem_cons_of_mem _ hx)
    have := g.sz
    refine ⟨by simp only [PyData.showableAll, g.sh, h1, Bool.and_true], ?_, by simp only [PyData.shownAll, List.length_cons, h4]⟩
    simp only [PyData.shownAll, List.map_cons, List.sum_cons, List.length_cons]
    rw [Nat.succ_mul]
    omega
theorem sh_tuple {k m : Nat} {ds : List PyData} (h : ∀ d ∈ ds, Sh k d) (hl : ds.length ≤ m) : Sh (m * k + 2 * m + 3) (.tuple ds) := by
  obtain ⟨h1, h3, h4⟩ := sh_all h
  refine ⟨by simp only [PyData.showable, h1], ?_⟩
  have h5 := tupleText_len_le (PyData.shownAll ds)
  simp only [PyData.shown]
  rw [h4] at h5
  have h6 : ds.length * k ≤ m * k := Nat.mul_le_mul_right _ hl
  omega
theorem sh_mono {k m : Nat} {d : PyData} (h : Sh k d) (l : k ≤ m) : Sh m d := ⟨h.sh, Nat.le_trans h.sz l⟩
theorem sh_step {n : Nat} {x : Stp} (h : StpOk n x) (hn : n ≤ 40) : Sh 375 (stepD x) := by
  refine sh_tuple (k := 122) (m := 3) (fun d hd => ?_) (Nat.le_refl _)
  rcases List.mem_cons.mp hd with rfl | hd
  · exact ⟨by simp only [PyData.showable], repr_len h.w1.2.1 fun c m => wrd_low h.w1 m⟩
  rcases List.mem_cons.mp hd with rfl | hd
  · exact ⟨by simp only [PyData.showable], repr_len h.w2.2.1 fun c m => wrd_low h.w2 m⟩
  · rw [List.mem_singleton.mp hd]
    have lo := h.lo
    have hi := h.hi
    have z := num_len lo (by omega)
    have z2 := num_log lo (by omega)
    refine ⟨by simp [PyData.showable, z2], ?_⟩
    simp only [PyData.shown]
    exact Nat.le_trans z (by decide)
theorem sh_state {n : Nat} {st : List Stp} (h : StOk n st) (hn : n ≤ 40) : Sh 9051 (stateD st) :=
  sh_tuple (k := 375) (m := 24) (fun d hd => by
    obtain ⟨x, m, rfl⟩ := List.mem_map.mp hd
    exact sh_step (h.all x m) hn) (by rw [List.length_map]; exact h.few)
theorem sh_kind {ss : List (List Stp)} (h : KOk ss) : Sh 362123 (statesD ss) :=
  sh_tuple (k := 9051) (m := 40) (fun d hd => by
    obtain ⟨x, m, rfl⟩ := List.mem_map.mp hd
    exact sh_state (h.all x m) h.most) (by rw [List.length_map]; exact h.most)
end My

-- ===== K61L =====
set_option Elab.async false
set_option linter.all false
set_option maxRecDepth 100000
set_option maxHeartbeats 4000000
namespace My
open PySem L2 PyProof.Rows PySem.Spec Kd TL
abbrev sPick : Stmt := top 60
abbrev sLaw : Stmt := top 72
theorem FeedAt.same {H H' : Hp} {p c : Addr} {ks : List Int} {w n : Int} (s : Same H H') (F : FeedAt H p c ks w n) : FeedAt H' p c ks w n := ⟨s _ _ F.ob, s _ _ F.cs, F.bits, F.len, F.w0, F.w1, F.n0⟩
open PySem.W in
theorem sorted_asc (L : List (Addr × List Key)) (key : ∀ q ∈ L, ∃ e, q.2 = evK e) (nd : (L.map Prod.snd).Nodup) :
    ∃ es : List (Str × Str), (L.mergeSort (PySem.W.dataLe false fun q : Addr × List Key => tD q.2)).map Prod.snd = es.map evK ∧ es.Pairwise evLt ∧ ∀ e ∈ es, evK e ∈ L.map Prod.snd := by
  have tot := sortLe_total (listOrd itemOrd) false fun q : Addr × List Key => keyToks (tD q.2)
  have srt : (L.mergeSort (PySem.W.dataLe false fun q : Addr × List Key => tD q.2)).Pairwise fun q r => PySem.W.dataLe false (fun q : Addr × List Key => tD q.2) q r = true := List.pairwise_mergeSort tot.trans (fun a b => by rw [Bool.or_eq_true]; exact tot.total a b) L
  have pm : (L.mergeSort (PySem.W.dataLe false fun q : Addr × List Key => tD q.2)).Perm L := List.mergeSort_perm _ _
  generalize L.mergeSort (PySem.W.dataLe false fun q : Addr × List Key => tD q.2) = M at srt pm
  have keyM : ∀ q ∈ M, ∃ x, q.2 = evK x := fun q hq => key q (pm.mem_iff.mp hq)
  have ndM : (M.map Prod.snd).Nodup := (pm.map Prod.snd).nodup_iff.mpr nd
  have back : ∃ xs : List (Str × Str), M.map Prod.snd = xs.map evK := by
    clear srt pm ndM
    induction M with
    | nil => exact ⟨[], rfl⟩
    | cons q M ih =>
      obtain ⟨x, e⟩ := keyM q List.mem_cons_self
      obtain ⟨xs, e2⟩ := ih fun r hr => keyM r (List.mem_cons_of_mem _ hr)
      exact ⟨x :: xs, by rw [List.map_cons, List.map_cons, e, e2]⟩
  obtain ⟨xs, ex⟩ := back
  have sx : xs.Pairwise fun x y => ¬ evLt y x := by
    have z : (M.map Prod.snd).Pairwise fun k l => ∀ x y, k = evK x → l = evK y → ¬ evLt y x := List.pairwise_map.mpr (List.Pairwise.imp (fun {q r} h x y e1 e2 => (le_evK e1 e2).mp h) srt)
    rw [ex] at z
    exact List.Pairwise.imp (fun {x y} h => h x y rfl rfl) (List.pairwise_map.mp z)
  rw [ex] at ndM
  have nx : xs.Pairwise fun x y => x ≠ y := List.Pairwise.imp (fun {x y} h e => h (by rw [e])) (List.pairwise_map.mp ndM)
  refine ⟨xs, ex, List.Pairwise.imp₂ (fun x y h1 h2 => Classical.byContradiction fun z => h2 (evLt_tri x y z h1)) sx nx, fun e he => ?_⟩
  rw [← (pm.map Prod.snd).mem_iff, ex]
  exact List.mem_map.mpr ⟨e, he, rfl⟩
theorem putK_keys {kvs : List (List Key × V)} {k : List Key} {v : V} : (k ∈ kvs.map Prod.fst → (putK kvs k v).map Prod.fst = kvs.map Prod.fst) ∧ (k ∉ kvs.map Prod.fst → (putK kvs k v).map Prod.fst = kvs.map Prod.fst ++ [k]) := by
  refine ⟨fun h => ?_, fun h => ?_⟩
  · unfold putK
    rw [if_pos]
    · rw [List.map_map]
      refine List.map_congr_left fun p _ => ?_
      show (if p.1 = k then (p.1, v) else p).1 = p.1
      split <;> rfl
    · obtain ⟨p, m, e⟩ := List.mem_map.mp h
      exact List.any_eq_true.mpr ⟨p, m, decide_eq_true e⟩
  · rw [putK_new fun p m e => h (List.mem_map.mpr ⟨p, m, e⟩), List.map_append]
    rfl
/-- what the menu holds -/
structure Menu (kvs : List (List Key × V)) : Prop where
  nd : (kvs.map Prod.fst).Nodup
  ev : ∀ p ∈ kvs, ∃ e : Str × Str, p.1 = evK e ∧ Wrd e.1 ∧ Wrd e.2
theorem Menu.put {kvs : List (List Key × V)} {e : Str × Str} {v : V} (m : Menu kvs) (h1 : Wrd e.1) (h2 : Wrd e.2) : Menu (putK kvs (evK e) v) ∧ (putK kvs (evK e) v).length ≤ kvs.length + 1 := by
  have keys := putK_keys (kvs := kvs) (k := evK e) (v := v)
  have len : ∀ l : List (List Key × V), l.length = (l.map Prod.fst).length := fun l => List.length_map .. |>.symm
  by_cases h : evK e ∈ kvs.map Prod.fst
  · have k1 := keys.1 h
    refine ⟨⟨by rw [k1]; exact m.nd, fun p hp => ?_⟩, by rw [len, k1, ← len]; omega⟩
    have z : p.1 ∈ kvs.map Prod.fst := by rw [← k1]; exact List.mem_map.mpr ⟨p, hp, rfl⟩
    obtain ⟨q, mq, eq⟩ := List.mem_map.mp z
    rw [← eq]
    exact m.ev q mq
  · have k1 := keys.2 h
    refine ⟨⟨by rw [k1]; exact List.nodup_append.mpr ⟨m.nd, by simp, fun a ha b hb => by rw [List.mem_singleton.mp hb]; exact fun z => h (by rw [← z]; exact ha)⟩, fun p hp => ?_⟩, by rw [len, k1, List.length_append, ← len]; exact Nat.le_refl _⟩
    have z : p.1 ∈ kvs.map Prod.fst ++ [evK e] := by rw [← k1]; exact List.mem_map.mpr ⟨p, hp, rfl⟩
    rcases List.mem_append.mp z with z | z
    · obtain ⟨q, mq, eq⟩ := List.mem_map.mp z
      rw [← eq]
      exact m.ev q mq
    · rw [List.mem_singleton.mp z]
      exact ⟨e, rfl, h1, h2⟩
theorem Save.tup {H H' : Hp} {p c : Addr} {ks : List Int} {w n : Int} (F : FeedAt H p c ks w n) (s : Save p c H H') : Tup H H' := fun a xs e =>
  s a _ e (fun z => by rw [z, F.ob] at e; cases e) (fun z => by rw [z, F.cs] at e; cases e)
theorem Save.wr {H H2 : Hp} {p c D : Addr} {o : HO} (s : Save p c H H2) (n : H D = none) : Save p c H (upd H2 D o) := fun b u e h1 h2 => by
  rw [upd_ne (ne_of_none e n)]
  exact s b u e h1 h2
theorem FeedAt.wr {H : Hp} {p c D : Addr} {o : HO} {ks : List Int} {w n : Int} (F : FeedAt H p c ks w n) (h1 : D ≠ p) (h2 : D ≠ c) : FeedAt (upd H D o) p c ks w n :=
  ⟨by rw [upd_ne (Ne.symm h1)]; exact F.ob, by rw [upd_ne (Ne.symm h2)]; exact F.cs, F.bits, F.len, F.w0, F.w1, F.n0⟩
theorem cutTo (xs : List V) (n : Nat) : cutV xs none (some (n : Int)) = xs.take n := by
  unfold cutV HT.sIx
  simp [List.take_eq_take_min, show ¬ ((n : Int) < 0) from by omega]
theorem at_nat {α : Type} {xs : List α} {i : Int} (h0 : 0 ≤ i) (h1 : i < xs.length) : ∃ x, x ∈ xs ∧ atI xs i = some x := by
  have lt : i.toNat < xs.length := by omega
  have z := atI_nat (List.getElem?_eq_getElem lt)
  rw [Int.toNat_of_nonneg h0] at z
  exact ⟨xs[i.toNat], List.getElem_mem lt, z⟩
/-- one of a list's items -/
def spPick : Sp := fun vs H Q _ => ∃ (p c a : Addr) (ks : List Int) (xs : List V) (w n : Int), vs = [.ref p, .ref a] ∧ FeedAt H p c ks w n ∧ n < 999999 ∧ H a = some (.lst xs) ∧ a ≠ p ∧ a ≠ c ∧ 1 ≤ xs.length ∧ xs.length ≤ 100 ∧
  ∀ (v : V) (ks' : List Int) (H' : Hp), v ∈ xs → FeedAt H' p c ks' w (n + 1) → Save p c H H' → Q v H'
section
variable {P : Program} {w : World} {K : PySem.W.Frag} {mg : Str → Option Value} {base : Heap}
theorem scPi : FnScope ["_law_deck_here", "_law_some"] ["_law_deck_here", "_law_some"] (defScope sPick) := ⟨rfl, rfl, rfl, by decide +kernel, rfl, by decide +kernel, by decide +kernel⟩
theorem ok_pick {f fD : Addr} {fd fdD : FuncData} (F : Fun K "_law_pick" "_law_pick" sPick f fd) (mlen : mg "len" = none)
    (GD : FnOk P w K mg base CX0 1 fD fdD ["_law_deck_here", "_law_many"] spDigit) (mD : mg "_law_draw" = some (.ref fD)) (kD : PySem.W.keepIn K (.ref fD) = true) (bD : Binds K fdD ["_law_deck_here", "_law_many"] []) :
    FnOk P w K mg base CX0 2 f fd ["_law_deck_here", "_law_some"] spPick := by
  refine F.ok scPi (fun vs H Q E h => ?_) (fun cdv A outer s H vs Q E hr h => ?_)
  · obtain ⟨p, c, a, ks, xs, y, n, rfl, _⟩ := h
    rfl
  · obtain ⟨p, c, a, ks, xs, y, n, rfl, FA, hn, ha, np, nc, l0, l1, k⟩ := h
    refine ⟨_, pss_one (ps_ret (pe_ix ix_list (pv 1) (pe_call GD hr (by rfl) mD kD bD .nil pass0 (pa_cons (pv 0) (pa_cons (pe_callB (r := rLenQ K) call_len_seq (by rfl) mlen PySem.boot_len (pa_cons (pv 1) pa_nil)) pa_nil))) (fun _ _ => rfl))), ?_⟩
    refine ⟨_, rfl, _, rfl, _, rfl, a, _, rfl, .inl (SqL.of ha), p, c, ks, y, n, _, rfl, FA, by omega, by omega, by omega, fun i ks' H' i0 i1 FA' sv => ?_⟩
    obtain ⟨x, hx, e⟩ := at_nat (xs := xs) i0 i1
    exact ⟨a, _, i, _, rfl, rfl, SqL.of (sv a _ ha np nc), e, k x ks' H' hx FA' sv⟩
end
end My

-- ===== KC1 =====
set_option Elab.async false
set_option linter.all false
set_option maxRecDepth 100000
set_option maxHeartbeats 4000000
/-! A def that is handed a function made by a def in another def, and calls it. -/
namespace Kd
open PySem PySem.Spec PyProof.Rows L2 LamX NdefX
/-- a promise that speaks of the frames around and of the heap at the call, too -/
abbrev SpH := List Env → Heap → Sp
structure FnS (P : Program) (w : World) (K : PySem.W.Frag) (mg : Str → Option Value) (base : Heap) (CX : CXT) (k : Nat) (f : Addr) (fd : FuncData) (ps : List Str) (sp : SpH) : Prop where
  len : ∀ o h vs H Q E, sp o h vs H Q E → vs.length = ps.length
  run : ∀ (A : Around) (outer : List Env) (s : Shared) (H : Hp) (args : Args) (us : List Value) (vs : List V) (Q : VK) (E : XK), Room k A → Env0 P w K mg base A outer s H → BindsTo s fd args (ps.zip us) → Vals vs us → sp outer s.heap vs H Q E →
    codeAny (model P w) A (.call (.ref f) args) (CR CX outer P w H s Q E) s
theorem fnS_of {CX : CXT} {P : Program} {w : World} {K : PySem.W.Frag} {mg : Str → Option Value} {base : Heap} {k : Nat} {f : Addr} {name qual : Str} {params : Arguments} {body : List Stmt} {scope : Scope} {dV kV doc pm cdv ct oc : Value} {an od : Option Addr}
    {osl : Array (Option Value)} {N ps : List Str} {sp : SpH} (lk : K.lookup f = some ⟨oc, od, .func (PySem.W.fnOf name qual params body scope dV kV doc pm an cdv ct), osl⟩) (hcd : PySem.W.codeIn K cdv qual = true) (S : FnScope N ps scope)
    (len : ∀ o h vs H Q E, sp o h vs H Q E → vs.length = ps.length)
    (hbody : ∀ (A : Around) (outer : List Env) (s : Shared) (H : Hp) (vs : List V) (Q : VK) (E : XK), Room k (A.deeper (envOfC qual scope s.heap.objs.size f cdv)) → sp outer s.heap vs H Q E →
      ∃ t, PSs (cxOf CX P w K mg base N qual scope f cdv A outer s H E) body t ∧ t { nx := fun _ H' => Q .non H', rt := Q } (start N vs) H) :
    FnS P w K mg base CX (k + 1) f (PySem.W.fnOf name qual params body scope dV kV doc pm an cdv ct) ps sp := by
  refine ⟨len, fun A outer s H args us vs Q E hr e0 hb r hsp => ?_⟩
  have hl := len _ _ _ _ _ _ hsp
  have KX : K.In s.heap := e0.mod.kin.keeps fun b o e => (e0.bs b o e).1
  have lim : s.heap.NoLimit := e0.mod.nolimit.keeps fun b o e => (e0.bs b o e).1
  have kinds : ∀ y ∈ ps.zip us, scope.names.lookup y.1 = some .local ∨ (scope.names.lookup y.1 = some .cell ∧ ((cellsFrom (s.heap.objs.size + 1) scope.names []).lookup y.1).isSome = true) := fun ⟨n, v⟩ hy => (S.par n (List.of_mem_zip hy).1).imp id fun q => ⟨q, PySem.W.cellsFrom_some _ _ _ (.inl q)⟩
  refine codeAny_call_function hr.depth (KX _ _ lk) rfl S.co S.gen rfl (PySem.W.codeRec_of KX hcd) (hb _ _ _ _ ?_)
  refine wpAny_newFunctionEnv_cells S.kind kinds fun env he s1 x => ?_
  subst he
  refine ⟨lim.keeps x.toInCall.keep, codeAny_func ?_⟩
  obtain ⟨t, ht, hq⟩ := hbody A outer s H vs Q E (hr.deeper _) hsp
  have I : Inv (cxOf CX P w K mg base N qual scope f cdv A outer s H E) [] (L2.start N vs) H s1 := inv_start S hr.hd e0 hl r x
  refine wpAny_mono (ht.run [] s1 (L2.start N vs) H _ I hq) (fun fl s' hs => ?_) fun e s' hs => hs
  have done : ∀ {σ' : L2.St} {H' : Hp} {v : V} {u : Value}, Inv (cxOf CX P w K mg base N qual scope f cdv A outer s H E) [] σ' H' s' → RelV v u → Q v H' → CE outer P w H s Q u s' :=
    fun {σ' H' v u} J rv q => ⟨v, H', J.os, J.bare, J.base, J.hok, rv, q⟩
  cases fl with
  | ret u =>
    obtain ⟨v, σ', H', J, rv, q⟩ := hs
    exact done J rv q
  | next =>
    obtain ⟨σ', H', J, q⟩ := hs
    exact done (v := V.non) (u := Value.none) J rfl q
  | brk =>
    obtain ⟨_, _, _, q⟩ := hs
    exact False.elim q
  | cont =>
    obtain ⟨_, _, _, q⟩ := hs
    exact False.elim q
section
variable {P : Program} {w : World} {K : PySem.W.Frag} {mg : Str → Option Value} {base : Heap}
/-- a def by its body -/
theorem okS {CX : CXT} {x qual : Str} {st : Stmt} {f : Addr} {fd : FuncData} {N ps : List Str} {k : Nat} {sp : SpH} (F : Fun K x qual st f fd) (S : FnScope N ps (defScope st)) (len : ∀ o h vs H Q E, sp o h vs H Q E → vs.length = ps.length)
    (hbody : ∀ (cdv : Value) (A : Around) (outer : List Env) (s : Shared) (H : Hp) (vs : List V) (Q : VK) (E : XK), Room k (A.deeper (envOfC qual (defScope st) s.heap.objs.size f cdv)) → sp outer s.heap vs H Q E →
      ∃ t, PSs (cxOf CX P w K mg base N qual (defScope st) f cdv A outer s H E) (defBody st) t ∧ t { nx := fun _ H' => Q .non H', rt := Q } (L2.start N vs) H) : FnS P w K mg base CX (k + 1) f fd ps sp := by
  obtain ⟨oc, od, kV, doc, pm, an, cdv, ct, osl, rfl, lk, hcd⟩ := F.ex
  exact fnS_of lk hcd S len fun A outer s H vs Q E hr hsp => hbody cdv A outer s H vs Q E hr hsp
end
section
variable {X : Cx} {CX : CXT} {k : Nat} {f : Addr} {fd : FuncData} {ps : List Str} {sp : SpH} {x : Str} {p pos : Pos} {e : Expr} {es : List Expr} {t : TA} {E : XK}
/-- f(..), f a global name; what is promised of the heap is told by the frame's invariant -/
theorem pe_callH {T : L2.St → List V → Hp → VK → Prop} (F : FnS X.prog X.w X.K X.mg X.base CX k f fd ps sp) (lift : ∀ {pins : List (Addr × Obj)} {σ : L2.St} {H : Hp} {s : Shared} {vs : List V} {Q : VK}, Inv X pins σ H s → T σ vs H Q → sp X.stack s.heap vs H Q E)
    (hr : Room k X.A) (hg : Gl X x) (hm : X.mg x = some (.ref f)) (hk : PySem.W.keepIn X.K (.ref f) = true) (hb : Binds X.K fd ps []) (hx : Passes CX X E)
    (ha : PA X (e :: es) t) (hdb : (x == ("__debug__" : Str)) = false := by decide) (he : starEach (e :: es) X.env = (false, eval e X.env) :: starEach es X.env := by rfl) (hpl : (backTo pos (starEach es X.env)).any (·.1) = false := by rfl) :
    PE X (.Call (.Name x p) (e :: es) [] pos) (fun σ H Q => t σ H fun vs H1 => T σ vs H1 Q) := by
  refine ⟨fun pins s σ H Q I h => ?_⟩
  refine wpAny_Call_Name_kw (ld_glob I hg hm ?_ hdb)
  refine PySem.W.callWith_K (h₀ := X.base) I.ok.mod.kin hk (thn (ha.run pos pins s σ H _ I h) fun us s1 ⟨vs, H1, I1, r, q⟩ => ⟨I1.kIn, ?_⟩) he hpl
  have q1 := lift I1 q
  have r2 : Vals (vs ++ []) (us ++ []) := by rw [List.append_nil, List.append_nil]; exact r
  have q2 : sp X.stack s1.heap (vs ++ []) H1 Q E := by rw [List.append_nil]; exact q1
  have hl : (us ++ []).length = ps.length := by rw [← r2.length]; exact F.len _ _ _ _ _ _ q2
  refine wpAny_call (codeAny_mono (F.run X.A X.stack s1 H1 ⟨us, []⟩ (us ++ []) (vs ++ []) Q E hr I1.env0 (hb s1 us I1.kIn hl) r2 q2) fun r s' hq => ?_)
  cases r with
  | error e => exact hx pins σ H1 s1 e s' I1 hq
  | ok fl =>
    cases fl with
    | ret u => exact I1.after hq
    | next => exact False.elim hq
    | brk => exact False.elim hq
    | cont => exact False.elim hq
end
/-! ### a function that was handed on -/
/-- at f the function F, made in a frame around; what its captured cells hold -/
structure CloAt (outer : List Env) (h : Heap) (H : Hp) (f : Addr) (F : NF) (fr : List Str) (ws : List (Option V)) : Prop where
  fn : H f = some (FnO f F)
  code : H F.c = some (CodeO F.c F.qual)
  cells : CellsAt F.cl fr ws h H
  nf : ∀ y c, F.cl.lookup y = some c → c ∉ frs outer
/-- of a function that the running frame has made -/
theorem cloAt_of {X : Cx} {pins : List (Addr × Obj)} {σ : L2.St} {H : Hp} {s : Shared} {f : Addr} {F : NF} {fr : List Str} {js : List Nat} (I : Inv X pins σ H s) (cp : Caps X F.cl fr js) (hfn : ∀ x, X.fn x = true) (hf : H f = some (FnO f F)) (hc : H F.c = some (CodeO F.c F.qual)) :
    CloAt X.stack s.heap H f F fr (js.map (slotAt σ)) := by
  refine ⟨hf, hc, cells_of I cp, fun y c e m => ?_⟩
  have ec := cp.sub y c e
  have ne : c ≠ X.env.locals := fun z => by
    obtain ⟨v, o, ho, hd⟩ := I.cell y c ec
    obtain ⟨m, ⟨o', es, ep, e', d', _⟩, _⟩ := I.loc
    rw [z, e'] at ho
    cases ho
    rw [d'] at hd
    cases hd
  have old : c ∉ X.fs := fun z => by
    obtain ⟨_, o, ho, _⟩ := I.ok.funs.mem z
    have l1 : c < X.s_0.heap.objs.size := Heap.lt_size ho
    have l2 : X.s_0.heap.objs.size ≤ c := I.ok.cab y c (hfn y) ec
    exact absurd l1 (Nat.not_lt.mpr l2)
  rcases List.mem_cons.mp (I.stkSub c m) with z | z
  · exact ne z
  · exact old z
section
variable {X : Cx} {CX : CXT} {k i : Nat} {f : Addr} {F : NF} {ps fr : List Str} {ws : List (Option V)} {spF : List (Option V) → Sp} {x : Str} {p pos : Pos} {e : Expr} {es : List Expr} {t : TA} {E : XK}
/-- f(..), f a name that holds a function handed on when the frame began -/
def tCallV (i : Nat) (f : Addr) (F : NF) (ws : List (Option V)) (spF : List (Option V) → Sp) (E : XK) (t : TA) : TE := fun σ H Q => σ[i]? = some (some (.ref f)) ∧ H f = some (FnO f F) ∧ t σ H fun vs H1 => H1 f = some (FnO f F) ∧ H1 F.c = some (CodeO F.c F.qual) ∧ spF ws vs H1 Q E
theorem pe_callv (Fn : NOk X.prog X.w X.K X.mg X.base CX k f F ps fr spF) (C : CloAt X.outer X.s_0.heap X.H_0 f F fr ws) (hex : X.ex = []) (hr : Room k X.A) (hx : Passes CX X E) (hN : X.N[i]? = some x) (hv : Vis X.env.scope x) (ha : PA X (e :: es) t)
    (hd : (x == ("__debug__" : Str)) = false := by decide) (hcd : (x == ("__classdict__" : Str)) = false := by decide)
    (he : starEach (e :: es) X.env = (false, eval e X.env) :: starEach es X.env := by rfl) (hpl : (backTo pos (starEach es X.env)).any (·.1) = false := by rfl) :
    PE X (.Call (.Name x p) (e :: es) [] pos) (tCallV i f F ws spF E t) := by
  refine ⟨fun pins s σ H Q I h => ?_⟩
  obtain ⟨hs, hf, ht⟩ := h
  refine wpAny_Call_Name_kw (thn ((pe_var (pos := p) hN hv hd hcd).run pins s σ H (fun v H1 => v = .ref f ∧ H1 = H) I ⟨.ref f, hs, rfl, rfl⟩) fun u s1 ⟨v, H1, I1, r1, q1⟩ => ?_)
  obtain ⟨ev, eH⟩ := q1
  subst ev
  rw [eH] at I1
  obtain rfl : u = Value.ref f := r1
  refine PySem.W.callWith_F (first := []) (fnAt_of I1 hf) (thn (ha.run pos pins s1 σ H _ I1 ht) fun us s2 ⟨vs, H2, I2, r, h1, h2, q⟩ => ⟨fnAt_of I2 h1, ?_⟩) he hpl
  show wpAny _ _ (call (.ref f) us) _ _ _
  refine wpAny_call (codeAny_mono (Fn.run X.A X.stack s2 H2 us vs ws Q E hr I2.env0 h1 h2 (C.cells.later C.nf (fun y c _ => by rw [hex]; exact List.not_mem_nil) I2) r q) fun r s' hq => ?_)
  cases r with
  | error e => exact hx pins σ H2 s2 e s' I2 hq
  | ok fl =>
    cases fl with
    | ret u => exact I2.after hq
    | next => exact False.elim hq
    | brk => exact False.elim hq
    | cont => exact False.elim hq
end
end Kd

-- ===== KS14 =====
set_option Elab.async false
set_option linter.all false
set_option maxRecDepth 100000
set_option maxHeartbeats 4000000
namespace Kd
open PySem L2 PyProof.Rows PySem.Spec ClX
/-! ### o.m(k = v, ..), m a def of o's class -/
def tMethK (C : Addr) (m : Str) (sp : Sp) (gV : List V → List V → List V) (E : XK) (ta : TE) (tk : TA) : TE := fun σ H Q => ta σ H fun x H1 => ∃ a dx fs, x = .ref a ∧ H1 a = some (.ins C dx fs) ∧ fs.lookup m = none ∧ tk σ H1 fun zs H2 => sp (gV [.ref a] zs) H2 Q E
section
variable {X : Cx} {CX : CXT} {k : Nat} {C g : Addr} {fd : FuncData} {ps ks : List Str} {sp : Sp} {E : XK} {o : Expr} {kws : List Keyword} {m : Str} {pos apos : Pos} {ta : TE} {tk : TA} {pl : Sem Bool} {gg : List Value → List Value → List Value} {gV : List V → List V → List V}
theorem pe_methK (he : PE X o ta) (c : Cls X.K C) (hm : Meth X.K C m g) (F : FnOk X.prog X.w X.K X.mg X.base CX k g fd ps sp) (hr : Room k X.A) (hb : KBinds X.K fd ps ks gg gV) (hx : Passes CX X E) (hkw : PK X kws tk)
    (hall : (backToKw pos (keywordEach kws X.env)).all (·.1.isSome) = true := by rfl) (hks : (backToKw pos (keywordEach kws X.env)).filterMap (·.1) = ks := by rfl)
    (hpl : ((backTo pos (starEach [] X.env)).any (·.1) || (backToKw pos (keywordEach kws X.env)).any (·.1.isNone)) = false := by rfl)
    (ht : eval (.Call (.Attribute o m apos) [] kws pos) X.env = (do
      let ov ← eval o X.env
      standAt apos.atName
      let (f, first) ← holding [ov] (getMethod ov m pl)
      callWith pos f first (backTo pos (starEach [] X.env)) (backToKw pos (keywordEach kws X.env))) := by rfl) :
    PE X (.Call (.Attribute o m apos) [] kws pos) (tMethK C m sp gV E ta tk) := by
  refine ⟨fun pins s σ H Q I h => ?_⟩
  refine PySem.W.methodCall_KW (pl := pl) (thn (he.run pins s σ H _ I h) fun u s1 ⟨x, H1, I1, rx, a, dx, fs, ex, ea, l, q⟩ => ?_) ht
  subst ex
  obtain rfl : u = Value.ref a := rx
  refine getmeth_ok I1 ea c hm l ?_
  refine PySem.W.callWith_KW0 (first := [.ref a]) (h₀ := X.base) I.ok.mod.kin hm.kp hall (thn (hkw.run pos pins s1 σ H1 _ I1 q) fun ws s2 ⟨zs, H2, I2, rz, q2⟩ => ⟨I2.kIn, ?_⟩) hpl
  rw [hks]
  exact run_fnk (us := [.ref a]) (vs := [.ref a]) F hr hb hx I2 (.cons rfl .nil) rz q2
end
end Kd

-- ===== KS15 =====
set_option Elab.async false
set_option linter.all false
set_option maxRecDepth 100000
set_option maxHeartbeats 4000000
namespace Kd
open PySem L2 PyProof.Rows PySem.Spec
/-! ### dict(xs) of pairs whose keys are tuples -/
/-- pairs one behind the other into a dict -/
def pour (kvs : List (List Key × V)) (ps : List (Addr × List Key × V)) : List (List Key × V) := ps.foldl (fun acc q => putK acc q.2.1 q.2.2) kvs
theorem pour_le : ∀ (ps : List (Addr × List Key × V)) (kvs : List (List Key × V)), (pour kvs ps).length ≤ kvs.length + ps.length
  | [], kvs => Nat.le_refl _
  | q :: ps, kvs => by
    have h := pour_le ps (putK kvs q.2.1 q.2.2)
    have h2 := length_putK kvs q.2.1 q.2.2
    show (pour (putK kvs q.2.1 q.2.2) ps).length ≤ _
    rw [List.length_cons]
    omega
/-- the pair at b -/
def PairAt (H : Hp) (q : Addr × List Key × V) : Prop := ∃ kb, H q.1 = some (.tup [.ref kb, q.2.2]) ∧ H kb = some (.tup (q.2.1.map kV))
section
variable {X : Cx} {pins : List (Addr × Obj)} {σ : L2.St} {H : Hp} {A : Around}
theorem pour_loop {R : Result → Shared → Prop} {S I l : Addr} {all : List (Addr × List Key × V)} {res : Value} (hh : A.handled = none) (hu : A.units + 40 < cLine) (hl : H l = some (.lst (all.map fun q => V.ref q.1))) (hS : H S = none) (fI : FpOk X pins H I) (nSI : S ≠ I) (ok : ∀ q ∈ all, PairAt H q) :
    ∀ (rest : List (Addr × List Key × V)) (i : Nat) (acc : List (List Key × V)) (ix : Int) (t : Tok) (s : Shared), all.drop i = rest → acc.length + rest.length ≤ 1000 → Inv X pins σ (upd H S (.dT acc)) s → s.heap.IsListIter I l i →
      (∀ s', Inv X pins σ (upd H S (.dT (pour acc rest))) s' → R (.ok (.ret res)) s') → codeAny (model X.prog X.w) A (.builtin "dict.update.loop" ⟨[.ref S, .ref I, .int ix t, res], []⟩) R s := by
  intro rest
  induction rest with
  | nil =>
    intro i acc ix t s ed hln J hit hR
    have nlS : l ≠ S := fun z => by rw [z, hS] at hl; cases hl
    have hl2 : (upd H S (.dT acc)) l = some (.lst (all.map fun q => V.ref q.1)) := by rw [upd_ne nlS]; exact hl
    obtain ⟨its, rv, pl, hz⟩ := J.list (SqL.of hl2)
    refine codeAny_builtin ud_entry ?_
    rw [Around.under_plainId ud_plain _]
    show wpAny _ A.in1 (pyNext (.ref I) >>= _) _ _ s
    have le : all.length ≤ i := List.drop_eq_nil_iff.mp ed
    have lz := rv.length
    rw [List.length_map] at lz
    refine wpAny_bind (wpAny_pyNext_list_end (A := A.in1) hh hit pl.isList (by simp; omega) fun h' he => ?_)
    show wpAny _ A.in1 (Builtin.Dict.addKeywords S [] >>= _) _ _ _
    refine wpAny_bind (wpAny_pure (wpAny_pure ?_))
    have f2 : FpOk X pins (upd H S (.dT acc)) I := ⟨by rw [upd_ne (Ne.symm nSI)]; exact fI.1, fI.2.1, fI.2.2.1, fI.2.2.2.1, fI.2.2.2.2.1, fI.2.2.2.2.2⟩
    obtain ⟨f0, f1, _, f3, f4, f5⟩ := f2
    exact hR _ (J.turned (t' := s.toks) (fun b o hb e => he b o hb e) f0 f1 f3 f4 f5)
  | cons q rest ih =>
    intro i acc ix t s ed hln J hit hR
    rw [List.length_cons] at hln
    have ei : all[i]? = some q := by
      have z : (all.drop i)[0]? = some q := by rw [ed]; rfl
      rwa [List.getElem?_drop, Nat.add_zero] at z
    have ed2 : all.drop (i + 1) = rest := by rw [← List.tail_drop, ed]; rfl
    have nlS : l ≠ S := fun z => by rw [z, hS] at hl; cases hl
    have hl2 : (upd H S (.dT acc)) l = some (.lst (all.map fun q => V.ref q.1)) := by rw [upd_ne nlS]; exact hl
    obtain ⟨its, rv, pl, hz⟩ := J.list (SqL.of hl2)
    have eits := refs_raw (fun q : Addr × List Key × V => q.1) rv
    subst eits
    obtain ⟨kb, e1, e2⟩ := ok q (List.mem_of_getElem? ei)
    have n1 : q.1 ≠ S := ne_of_none e1 hS
    have n2 : kb ≠ S := ne_of_none e2 hS
    have e1' : (upd H S (.dT acc)) q.1 = some (.tup [.ref kb, q.2.2]) := by rw [upd_ne n1]; exact e1
    have e2' : (upd H S (.dT acc)) kb = some (.tup (q.2.1.map kV)) := by rw [upd_ne n2]; exact e2
    have f2 : FpOk X pins (upd H S (.dT acc)) I := ⟨by rw [upd_ne (Ne.symm nSI)]; exact fI.1, fI.2.1, fI.2.2.1, fI.2.2.2.1, fI.2.2.2.2.1, fI.2.2.2.2.2⟩
    obtain ⟨f0, f1, _, f3, f4, f5⟩ := f2
    refine codeAny_builtin ud_entry ?_
    rw [Around.under_plainId ud_plain _]
    show wpAny _ A.in1 (pyNext (.ref I) >>= _) _ _ s
    refine wpAny_bind (wpAny_pyNext_list_item (x := .ref q.1) hit pl.isList (by simp [ei]) fun h1 hit1 hs1 => ?_)
    have J1 : Inv X pins σ (upd H S (.dT acc)) { s with heap := h1 } := J.turned (t' := s.toks) (fun b o hb e => (hs1.2 b hb).trans e) f0 f1 f3 f4 f5
    obtain ⟨its2, rv2, ⟨o, ho, hc, n, hd⟩, _⟩ := J1.tuple (SqT.of e1')
    obtain ⟨u, y, ex, ru, ry⟩ := vals2 rv2
    subst ex
    cases (show u = Value.ref kb from ru)
    show wpAny _ A.in1 (holding [Value.ref q.1] _ >>= _) _ _ _
    refine wpAny_bind (wpAny_holding ?_)
    refine wpAny_bind (wpAny_tryCatch ?_)
    unfold Builtin.Dict.pairItems
    refine wpAny_bind (wpAny_typeOf (T := "tuple") ⟨o, ho, hc⟩ ?_)
    rw [if_pos (by first | decide | rfl | simp)]
    refine wpAny_bind (wpAny_seqItems ho hd (wpAny_pure ?_))
    show wpAny _ A.in1 (holding [Value.ref kb, y] (dictSet S (.ref kb) y)) _ _ _
    obtain ⟨z, nsys, xs, rel, dd⟩ := dt_of J1.hok (upd_same (H := H) (a := S) (o := .dT acc))
    have xz : xs.length ≤ sizeLine := by rw [← Paired.length rel]; exact z
    have big := sizeLine_eq
    have pz : (putK acc q.2.1 q.2.2).length ≤ sizeLine := by have := length_putK acc q.2.1 q.2.2; omega
    refine wpAny_holding (wpAny_dictSet_heap (hsz := xz) (show A.in1.units < cLine by simp only [Around.in1]; omega) (key_of J1.hok e2') dd fun h2 dd2 sb => ?_)
    obtain ⟨o2, es, ep, g1, g2, g3, g4, _, g5⟩ := dd2
    have J2 : ∀ t2, Inv X pins σ (upd (upd H S (.dT acc)) S (.dT (putK acc q.2.1 q.2.2))) { s with heap := h2, toks := t2 } := fun t2 => by
      refine d_write (s := { s with heap := h1 }) (t' := t2) J1 (by rw [upd_same]; exact True.intro) sb ⟨o2, g1⟩ ⟨pz, nsys, _, (rel.put q.2.1 e2' ry).keeps fun c ys e => ?_, o2, es, ep, g1, g2, g3, g4, g5⟩
      rw [upd_ne (ne_of e upd_same (fun z => nomatch z))]
      exact e
    rw [L2.upd_upd] at J2
    refine wpAny_pure ⟨plainId_quiet ud_plain _, ih (i + 1) (putK acc q.2.1 q.2.2) (ix + 1) 0 _ ed2 (by have := length_putK acc q.2.1 q.2.2; omega) (J2 _) (hit1.at fun o e => (sb.2 I (Ne.symm nSI)).trans e) hR⟩
/-- dict(xs), xs a list of pairs -/
theorem call_dictT (hc : X.calm = true) (hu : X.A.units + 200 < cLine) : CallR X (.type "dict") (fun xs H Q => ∃ (a : Addr) (all : List (Addr × List Key × V)), xs = [.ref a] ∧ H a = some (.lst (all.map fun q => V.ref q.1)) ∧ (∀ q ∈ all, PairAt H q) ∧ all.length ≤ 1000 ∧
    ∀ p, H p = none → Q (.ref p) (upd H p (.dT (pour [] all)))) := by
  intro pins s σ H xs us Q I r h
  obtain ⟨a, all, rfl, ha, ok, few, q⟩ := h
  rw [Vals.ref1 r]
  have hh : X.A.handled = none := I.ok.hd hc
  have hS : H s.heap.objs.size = none := I.hok.fresh (Nat.le_refl _)
  refine callType_codes (Q₁ := fun obj s₁ => obj = .ref s.heap.objs.size ∧ s₁ = { s with heap := s.heap.push { cls := .type "dict", data := .dict #[] } }) PySem.F.kt_called_dict (PySem.F.kt_typeCall_dict_1 _) PySem.F.entry_dict_init (kt_code_dict_new _ ⟨rfl, rfl⟩) ?_
  rintro obj s₁ ⟨rfl, rfl⟩
  have I1 : Inv X pins σ (upd H s.heap.objs.size (.dT [])) { s with heap := s.heap.push { cls := .type "dict", data := .dict #[] } } := I.laid (t' := s.toks) (fun _ _ z => Heap.get?_push_of_some _ z) (Nat.le_refl _) (dt_empty s.heap I.big)
  have oS : (s.heap.push { cls := .type "dict", data := .dict #[] }).get? s.heap.objs.size = some { cls := .type "dict", data := .dict #[] } := Heap.get?_push_size _ rfl
  have tS : Shared.TypeIs { s with heap := s.heap.push { cls := .type "dict", data := .dict #[] } } (.ref s.heap.objs.size) "dict" := ⟨_, oS, rfl⟩
  have nS : a ≠ s.heap.objs.size := ne_of_none ha hS
  obtain ⟨its, rv, ⟨ol, n, hol, hcl, hdn, hdat⟩, hz⟩ := I1.list (SqL.of (show (upd H s.heap.objs.size (.dT [])) a = some (.lst (all.map fun q => V.ref q.1)) by rw [upd_ne nS]; exact ha))
  refine ⟨tS, PySem.F.args_dict_init_2 _ _, ?_⟩
  unfold Builtin.«dict.__init__»
  refine wpAny_bind ?_
  unfold Builtin.Dict.selfAndRest
  refine wpAny_bind (wpAny_notOrdered_dict tS ?_)
  show wpAny _ _ (pure (s.heap.objs.size, [Value.ref a])) _ _ _
  refine wpAny_pure ?_
  show wpAny _ _ (Builtin.Dict.updateFrom "dict.__init__" s.heap.objs.size (.ref a) [] .none) _ _ _
  unfold Builtin.Dict.updateFrom
  refine wpAny_bind (wpAny_typeOf (T := "list") ⟨ol, hol, hcl⟩ ?_)
  rw [if_pos (by first | decide | rfl | simp)]
  refine wpAny_bind (miss_list hol hcl hdat hdn hh fun h1 tk1 hk1 => ?_)
  rw [if_pos (show (none : Option Value).isNone = true from rfl)]
  refine wpAny_bind (wpAny_rule ?_)
  have I2 : Inv X pins σ (upd H s.heap.objs.size (.dT [])) { s with heap := h1, toks := tk1 } := I1.kept hk1
  have l1 : h1.IsList a its.toArray := ⟨ol, hk1 _ _ hol, hcl, n, hdat⟩
  have lS : s.heap.objs.size < h1.objs.size := Heap.lt_size (hk1 _ _ oS)
  refine wpAny_bind (wpAny_pyIter_list l1 ?_)
  have I3 : Inv X pins σ (upd H s.heap.objs.size (.dT [])) { s with heap := h1.push { cls := .type "list_iterator", data := .fields #[.ref a, .int 0 0] }, toks := tk1 } := I2.kept (t' := tk1) fun b o e => Heap.get?_push_of_some _ e
  have fI : FpOk X pins H h1.objs.size := I2.fpOk (Nat.le_refl _) (I.hok.fresh (Nat.le_of_lt lS))
  have key := pour_loop (X := X) (A := X.A.in1) (R := wants (fun r s₂ => r = .none ∧ EP X pins σ Q (.ref s.heap.objs.size) s₂) X.xe) (res := Value.none) hh (by simp only [Around.in1]; omega) ha hS fI (Nat.ne_of_lt lS) ok all 0 [] 0 0
    { s with heap := h1.push { cls := .type "list_iterator", data := .fields #[.ref a, .int 0 0] }, toks := tk1 } rfl (by rw [List.length_nil]; omega) I3 ⟨_, Heap.get?_push_size _ rfl, rfl, rfl⟩ (fun s' J => ⟨rfl, .ref _, _, J, rfl, q _ hS⟩)
  first
    | exact wpAny_pure ⟨plainId_quiet ud_plain _, key⟩
    | exact wpAny_bind (wpAny_pure (wpAny_pure ⟨plainId_quiet ud_plain _, key⟩))
end
end Kd

-- ===== KS16 =====
set_option Elab.async false
set_option linter.all false
set_option maxRecDepth 100000
set_option maxHeartbeats 4000000
namespace Kd
open PySem L2 PyProof.Rows PySem.Spec PySem.W
/-! ### for v in d.values(), the keys being tuples -/
section
variable {X : Cx} {pins : List (Addr × Obj)} {σ : L2.St} {H : Hp} {s : Shared} {d : Addr} {o : Obj}
theorem frz_vals {kvs : List (List Key × V)} (I : Inv X pins σ H s) (h : H d = some (.frz o (.dT kvs))) :
    s.heap.get? d = some o ∧ o.ExactDict ∧ ∃ (es : Array DictEntry) (ep : Nat), o.data = .dict es ep ∧ es.size = kvs.length ∧ ∀ (i : Nat) (k : List Key) (v : V), kvs[i]? = some (k, v) → ∃ en : DictEntry, es[i]? = some en ∧ RelV v en.val := by
  obtain ⟨hd, z, hs, xs, pr, o', es, ep, ho, hx, hdt, he, _⟩ := I.hok d _ h
  rw [hd] at ho
  cases ho
  refine ⟨hd, hx, es, ep, hdt, ?_, fun i k v e => ?_⟩
  · have l1 : es.size = xs.length := size_of_entries he
    have l2 : kvs.length = xs.length := Paired.length pr
    omega
  · obtain ⟨b, hb, _, _, e3⟩ := paired_get pr e
    have q := entry_at he i
    rw [hb] at q
    exact ⟨_, q, e3⟩
end
/-- the values, in their order -/
def ItdT (d : Addr) (o : Obj) (kvs : List (List Key × V)) : It :=
  ⟨fun i H => H d = some (.frz o (.dT kvs)) ∧ i < kvs.length, fun i H x H' => H' = H ∧ ∃ k, kvs[i]? = some (k, x), fun i H => H d = some (.frz o (.dT kvs)) ∧ kvs.length = i⟩
theorem turn_valsT {P : Program} {w : World} {K : Frag} {tg : Expr} {d : Addr} {o : Obj} {es : Array DictEntry} {ep : Nat} {kvs : List (List Key × V)} (it : Addr) (ni : d ≠ it) (hod : o.data = .dict es ep) (hz : es.size = kvs.length) :
    Turn P w K tg (ItdT d o kvs) [it] it (fun i h => h.IsValIter it d i es.size ep) where
  mem := by simp
  obj := fun i h st b hb => by
    have e : b = it := by simpa using hb
    subst e
    obtain ⟨oi, e, _, dd⟩ := st
    exact ⟨oi, e, fun v z => by rw [dd] at z; cases z⟩
  keep := fun i h h' st k => st.at fun oi e => k it (by simp) oi e
  item := by
    intro X hP hw hK hc i pins s σ H E I hf st hg
    subst hP hw hK
    obtain ⟨hd, hi⟩ := hg
    obtain ⟨f0, f1, f2, f3, f4, f5⟩ := hf it (by simp)
    obtain ⟨hgd, hx, es', ep', hdt, hsz, ent⟩ := frz_vals I hd
    obtain ⟨rfl, rfl⟩ := dict_ep hod hdt
    obtain ⟨⟨k, v⟩, hkv⟩ : ∃ p, kvs[i]? = some p := ⟨kvs[i], List.getElem?_eq_getElem hi⟩
    obtain ⟨en, hen, rv⟩ := ent i k v hkv
    have W := Walks.rawValues (prog := X.prog) (w := X.w) (I.ok.hd hc) it d ni es' ep'
    refine W.item i s _ _ (by omega) ⟨st, o, hgd, hx, hdt⟩ fun u h' tk hu st' kk => ?_
    obtain ⟨lt, rfl⟩ := hu
    have eu : en = es'[i] := by
      rw [Array.getElem?_eq_getElem lt] at hen
      exact (Option.some.inj hen).symm
    subst eu
    have I1 : Inv X pins σ H { s with heap := h', toks := tk } := I.turned (fun b o hb e => kk b o (by simpa using hb) e) f0 f1 f3 f4 f5
    obtain ⟨oi, e, c, dd⟩ := id st'.1
    exact ⟨_, rfl, go_of (s := { s with heap := h', toks := tk }) e c dd (by decide) ⟨v, H, I1, rv, ⟨rfl, k, hkv⟩, st'.1, fun b hb => (hf b hb).1⟩⟩
  done := by
    intro X hP hw hK hc i pins s σ H E I hf st hg
    subst hP hw hK
    obtain ⟨hd, hi⟩ := hg
    obtain ⟨f0, f1, f2, f3, f4, f5⟩ := hf it (by simp)
    obtain ⟨hgd, hx, es', ep', hdt, hsz, ent⟩ := frz_vals I hd
    obtain ⟨rfl, rfl⟩ := dict_ep hod hdt
    have W := Walks.rawValues (prog := X.prog) (w := X.w) (I.ok.hd hc) it d ni es' ep'
    have e : i = es'.size := by omega
    subst e
    exact W.done s _ _ ⟨st, o, hgd, hx, hdt⟩ fun h' tk eb => ⟨rfl, I.turned (fun b o hb q => eb b o (by simpa using hb) q) f0 f1 f3 f4 f5⟩
  self := fun A i s Q E st h => wpAny_pyIter_valiter st h
/-- the dict is locked (tLock, or by the caller) -/
def iValsT (td : TE) : TI := fun σ H R => td σ H fun x H1 => ∃ d o kvs, x = .ref d ∧ H1 d = some (.frz o (.dT kvs)) ∧ R (ItdT d o kvs) H1
theorem walk_valsT {d : Addr} {o : Obj} {kvs : List (List Key × V)} : Walk (ItdT d o kvs) kvs.length (fun H => H d = some (.frz o (.dT kvs))) (fun i H x H' => H' = H ∧ ∃ k, kvs[i]? = some (k, x)) :=
  ⟨fun _ _ hi q => ⟨q, hi⟩, fun _ q => ⟨q, rfl⟩, fun _ _ _ _ _ _ y => y⟩
section
variable {X : Cx} {tg e : Expr} {td : TE} {apos cpos : Pos}
theorem pi_valuesT (he : PE X e td) (hbase : attributeBase e "values" X.env (eval e X.env) = eval e X.env := by rfl) (hline : (apos.endLine == cpos.line) = true := by rfl) : PI X tg (.Call (.Attribute e "values" apos) [] [] cpos) (iValsT td) := by
  refine ⟨fun pins s σ H R I h => ?_⟩
  refine wpAny_Call_method (T := "dict") (id := "dict.values") hbase rfl hline F.plainAttrs_dict F.slot_dict_values F.type_dict_values (thn (he.run pins s σ H _ I h) fun u s1 ⟨x, H1, I1, rx, d, o, kvs, ex, hd, q⟩ => ?_)
  subst ex
  obtain rfl : u = Value.ref d := rx
  have lo := (I1.frzT hd).1
  obtain ⟨hgd, hx, es, ep, hdt, hsz, ent⟩ := frz_vals I1 hd
  have raw : s1.heap.DictRaw d es ep := ⟨o, hgd, hx, hdt⟩
  have ty : s1.TypeIs (.ref d) "dict" := ⟨o, hgd, hx.1⟩
  refine ⟨ty, (fun b z => by cases z; exact ⟨o, hgd, hx.2.1⟩), ?_⟩
  have I2 : Inv X pins σ H1 { s1 with heap := s1.heap.push { cls := .type "dict_values", data := .fields #[.ref d] } } := I1.kept (t' := s1.toks) fun b ob z => Heap.get?_push_of_some _ z
  have lt : d < s1.heap.objs.size := Heap.lt_size hgd
  have fin : wpAny (model X.prog X.w) X.A (pyIter (.ref s1.heap.objs.size)) (PIE X pins σ tg R) X.xe { s1 with heap := s1.heap.push { cls := .type "dict_values", data := .fields #[.ref d] } } := by
    refine wpAny_pyIter_values_raw (d := d) ⟨_, Heap.get?_push_size _ rfl, rfl, rfl⟩ (raw.push _) (pi_one (tk := s1.toks) I2 _ (turn_valsT _ (Nat.ne_of_lt (by show d < (s1.heap.push _).objs.size; rw [Heap.size_push]; exact Nat.lt_succ_of_lt lt)) hdt hsz) ⟨_, Heap.get?_push_size _ rfl, rfl, rfl⟩ q)
  show wpAny _ _ (callWith cpos (.builtin "dict.values") [.ref d] [] []) _ X.xe s1
  exact method_meetsIn F.slot_dict_values F.entry_dict_values rfl (PySem.evalArgs_none ⟨rfl, ty, F.args_dict_values_1 _, _, meets_dict_values_raw d lo, ⟨es, ep, raw⟩, fin⟩)
end
end Kd

-- ===== KS17 =====
set_option Elab.async false
set_option linter.all false
set_option maxRecDepth 100000
set_option maxHeartbeats 4000000
namespace Kd
open PySem L2 PyProof.Rows PySem.Spec
/-! ### dicts whose keys are nested tuples, their values whole numbers -/
mutual
/-- v is the key k -/
inductive NkV (H : Hp) : V → NestedKey → Prop
  | num (i : Int) : NkV H (.int i) (.num i)
  | text (x : Str) : NkV H (.str x) (.text x)
  | tup {a : Addr} {vs : List V} {ks : List NestedKey} : H a = some (.tup vs) → NkVs H vs ks → NkV H (.ref a) (.tup ks)
inductive NkVs (H : Hp) : List V → List NestedKey → Prop
  | nil : NkVs H [] []
  | cons {v : V} {vs : List V} {k : NestedKey} {ks : List NestedKey} : NkV H v k → NkVs H vs ks → NkVs H (v :: vs) (k :: ks)
end
mutual
theorem NkV.to {H H' : Hp} (s : ∀ a xs, H a = some (.tup xs) → H' a = some (.tup xs)) : ∀ {v : V} {k : NestedKey}, NkV H v k → NkV H' v k
  | _, _, .num i => .num i
  | _, _, .text x => .text x
  | _, _, .tup h1 h2 => .tup (s _ _ h1) (NkVs.to s h2)
theorem NkVs.to {H H' : Hp} (s : ∀ a xs, H a = some (.tup xs) → H' a = some (.tup xs)) : ∀ {vs : List V} {ks : List NestedKey}, NkVs H vs ks → NkVs H' vs ks
  | _, _, .nil => .nil
  | _, _, .cons h1 h2 => .cons (NkV.to s h1) (NkVs.to s h2)
end
section
variable {X : Cx} {pins : List (Addr × Obj)} {σ : L2.St} {H : Hp} {s : Shared}
mutual
theorem nk_is (I : Inv X pins σ H s) : ∀ (k : NestedKey) {v : V} {u : Value}, NkV H v k → RelV v u → NestedIs s.heap k u
  | .none, _, _, h, _ => by cases h
  | .num i, _, _, h, r => by
    cases h
    obtain ⟨t, rfl⟩ := r
    exact .int i t
  | .text x, _, _, h, r => by
    cases h
    obtain ⟨t, rfl⟩ := r
    exact .text x t
  | .tup ks, _, _, h, r => by
    cases h with
    | tup h1 h2 =>
      cases r
      obtain ⟨_, its, rv, o, ho, hc, n, hd⟩ := (show ObjOk X.prog X.w H s.heap _ (.tup _) from I.hok _ _ h1)
      exact .tup ho hc hd (by simpa using nks_are I ks h2 rv)
theorem nks_are (I : Inv X pins σ H s) : ∀ (ks : List NestedKey) {vs : List V} {us : List Value}, NkVs H vs ks → Vals vs us → NestedAll s.heap ks us
  | [], _, _, h, r => by
    cases h
    cases r
    exact .nil
  | k :: ks, _, _, h, r => by
    cases h with
    | cons h1 h2 =>
      cases r with
      | cons r1 r2 => exact .cons (nk_is I k h1 r1) (nks_are I ks h2 r2)
end
end
/-- a key, where its tuple stands, its number -/
abbrev NRow := NestedKey × Addr × Int
def NRows (L : List NRow) (xs : List (NestedKey × Addr × Value)) : Prop := Paired (fun (p : NRow) x => p.1 = x.1 ∧ p.2.1 = x.2.1 ∧ ∃ t, x.2.2 = Value.int p.2.2 t) L xs
theorem paired_snoc {α β : Type} {R : α → β → Prop} {l : List α} {m : List β} {a : α} {b : β} (r : Paired R l m) (h : R a b) : Paired R (l ++ [a]) (m ++ [b]) := by
  induction r with
  | nil => exact .cons h .nil
  | cons x _ ih => exact .cons x ih
def NHeld (P : Program) (w : World) (a : Addr) (L : List NRow) (h : Heap) : Prop := ∃ (xs : List (NestedKey × Addr × Value)) (o : Obj) (es : Array DictEntry) (ep : Nat), h.get? a = some o ∧ o.ExactDict ∧ o.data = .dict es ep ∧ es.toList = xs.map (entryOfKey (nestedKind P w)) ∧ (xs.map (·.1)).Nodup ∧ NRows L xs ∧ (a == sysModules) = false ∧ L.length ≤ 1000
def NDict (P : Program) (w : World) (a : Addr) (L : List NRow) : HO := .ext (NHeld P w a L)
theorem ndict_ok {P : Program} {w : World} {H : Hp} {h : Heap} {a : Addr} {L : List NRow} (x : NHeld P w a L h) : ObjOk P w H h a (NDict P w a L) := by
  refine ⟨x, ?_, fun h1 h2 y k => ?_⟩
  · obtain ⟨_, o, _, _, ho, _⟩ := x
    exact ⟨o, ho⟩
  · obtain ⟨xs, o, es, ep, ho, r⟩ := y
    exact ⟨xs, o, es, ep, k o ho, r⟩
/-- the keys' tuples stand -/
def NKeys (H : Hp) (L : List NRow) : Prop := ∀ p ∈ L, NkV H (.ref p.2.1) p.1 ∧ p.1.depth ≤ 8
def valN (L : List NRow) (k : NestedKey) : Option Int := (L.find? fun p => decide (p.1 = k)).map (·.2.2)
theorem rows_at {L : List NRow} {xs : List (NestedKey × Addr × Value)} (r : NRows L xs) (k : NestedKey) : (∀ i, valN L k = some i → ∃ b t, atKey xs k = some (b, .int i t)) ∧ (valN L k = none → atKey xs k = none) := by
  unfold NRows at r
  induction r with
  | nil => exact ⟨fun i e => (nomatch (show (none : Option Int) = some i from e)), fun _ => rfl⟩
  | @cons p x ps xs h t ih =>
    obtain ⟨h1, h2, tk, h3⟩ := h
    unfold valN atKey at ih ⊢
    rw [List.find?_cons, List.find?_cons, ← h1]
    by_cases e : p.1 = k
    · rw [decide_eq_true e]
      refine ⟨fun i q => ?_, fun q => by cases q⟩
      have q2 : p.2.2 = i := Option.some.inj q
      exact ⟨x.2.1, tk, by rw [← q2, ← h3]; rfl⟩
    · rw [decide_eq_false e]
      exact ih
section
variable {X : Cx} {pins : List (Addr × Obj)} {σ : L2.St} {H : Hp} {s : Shared}
theorem ndict_rd {a : Addr} {L : List NRow} (I : Inv X pins σ H s) (ha : H a = some (NDict X.prog X.w a L)) (ks : NKeys H L) : ∃ xs, s.heap.DictOfH (nestedKind X.prog X.w) a xs ∧ NRows L xs ∧ (a == sysModules) = false ∧ L.length ≤ 1000 := by
  obtain ⟨xs, o, es, ep, ho, hx, hd, he, hn, r, lo, few⟩ := (show NHeld X.prog X.w a L s.heap from (I.hok a _ ha).1)
  refine ⟨xs, ⟨o, es, ep, ho, hx, hd, he, fun x hx => ?_, hn⟩, r, lo, few⟩
  have all : ∀ {L : List NRow} {xs : List (NestedKey × Addr × Value)}, NRows L xs → NKeys H L → ∀ x ∈ xs, NestedIs s.heap x.1 (.ref x.2.1) ∧ x.1.depth ≤ 8 := by
    intro L xs r
    unfold NRows at r
    induction r with
    | nil => exact fun _ x m => nomatch m
    | @cons p y ps ys h t ih =>
      intro k x m
      rcases List.mem_cons.mp m with rfl | m
      · obtain ⟨h1, h2, _⟩ := h
        rw [← h1, ← h2]
        have q := k p List.mem_cons_self
        exact ⟨nk_is I _ q.1 rfl, q.2⟩
      · exact ih (fun q mq => k q (List.mem_cons_of_mem _ mq)) x m
  exact all r ks x hx
end
/-- {}, to be such a dict -/
def tDNewN (P : Program) (w : World) : TE := fun _ H Q => ∀ p, H p = none → Q (.ref p) (upd H p (NDict P w p []))
/-- row not in d -/
def rNotN (P : Program) (w : World) : R2 := fun x y H Q => ∃ b a k L, x = .ref b ∧ y = .ref a ∧ NkV H (.ref b) k ∧ k.depth ≤ 8 ∧ H a = some (NDict P w a L) ∧ NKeys H L ∧ Q (.bl (!(valN L k).isSome)) H
/-- d[row] -/
def tGetN (P : Program) (w : World) (td ty : TE) : TE := fun σ H Q => td σ H fun x H1 => ty σ H1 fun y H2 => ∃ a b k L i, x = .ref a ∧ y = .ref b ∧ NkV H2 (.ref b) k ∧ k.depth ≤ 8 ∧ H2 a = some (NDict P w a L) ∧ NKeys H2 L ∧ valN L k = some i ∧ Q (.int i) H2
/-- d[row] = i, the row being new there -/
def sPutN (P : Program) (w : World) (td ty tv : TE) : TS := fun D σ H => tv σ H fun v H1 => td σ H1 fun x H2 => ty σ H2 fun y H3 => ∃ a b k L i, v = .int i ∧ x = .ref a ∧ y = .ref b ∧ NkV H3 (.ref b) k ∧ k.depth ≤ 8 ∧ H3 a = some (NDict P w a L) ∧ NKeys H3 L ∧ valN L k = none ∧ L.length < 1000 ∧
  D.nx σ (upd H3 a (NDict P w a (L ++ [(k, b, i)])))
/-- len(d) -/
def rLenN (P : Program) (w : World) : List V → Hp → VK → Prop := fun xs H Q => ∃ a L, xs = [.ref a] ∧ H a = some (NDict P w a L) ∧ NKeys H L ∧ Q (.int L.length) H
section
variable {X : Cx} {o i e value : Expr} {pos pos' : Pos} {td ty tv : TE}
theorem pe_dnewN : PE X (.Dict [] [] pos) (tDNewN X.prog X.w) := ⟨fun pins s σ H Q I h =>
  wpAny_Dict_empty ⟨.ref s.heap.objs.size, _, I.laid (a := s.heap.objs.size) (t' := s.toks) (fun _ _ q => Heap.get?_push_of_some _ q) (Nat.le_refl _)
    (ndict_ok ⟨[], _, #[], 0, Heap.get?_push_size _ rfl, ⟨rfl, rfl, rfl⟩, rfl, rfl, List.nodup_nil, .nil, beq_eq_false_iff_ne.mpr (Ne.symm (Nat.ne_of_lt I.big)), Nat.zero_le _⟩), rfl, h _ (I.hok.fresh (Nat.le_refl _))⟩⟩
theorem op_notN (hu : X.A.units + 64 < cLine) : OpR X (compareOp .NotIn) (rNotN X.prog X.w) := by
  intro pins s σ H x y v u Q I rx ry h
  obtain ⟨b, a, k, L, rfl, rfl, hk, hd, ha, ks, q⟩ := h
  cases (show v = Value.ref b from rx)
  cases (show u = Value.ref a from ry)
  obtain ⟨xs, D, r, lo, few⟩ := ndict_rd I ha ks
  have room : (nestedKind X.prog X.w).room X.A.in1 := (show X.A.in1.units + 8 < cLine by simp only [Around.in1]; omega)
  refine wpAny_notIn_heap room ⟨nk_is I k hk rfl, hd⟩ lo D ⟨.bl (!(valN L k).isSome), H, I.tok _, ?_, q⟩
  have z := rows_at r k
  cases e : valN L k with
  | none => rw [z.2 e]; rfl
  | some i =>
    obtain ⟨c, t, q⟩ := z.1 i e
    rw [q]
    rfl
theorem pe_getN (hu : X.A.units + 64 < cLine) (ho : PE X o td) (hi : PE X i ty) (hs : NoSl i) : PE X (.Subscript o i pos) (tGetN X.prog X.w td ty) := by
  refine ⟨fun pins s σ H Q I h => ?_⟩
  refine subD_of PySem.F.slot_dict_getitem.lookup hs (thn (ho.run pins s σ H _ I h) fun u s1 ⟨x, H1, I1, rx, q1⟩ => thn (hi.run pins s1 σ H1 _ I1 q1) fun iv s2 ⟨y, H2, I2, ry, a, b, k, L, j, ex, ey, hk, hd, ha, ks, hv, q2⟩ => ?_)
  subst ex ey
  obtain rfl : u = Value.ref a := rx
  obtain rfl : iv = Value.ref b := ry
  obtain ⟨xs, D, r, lo, few⟩ := ndict_rd I2 ha ks
  obtain ⟨c, t, q⟩ := (rows_at r k).1 j hv
  have room : (nestedKind X.prog X.w).room X.A.in1 := (show X.A.in1.units + 8 < cLine by simp only [Around.in1]; omega)
  exact ⟨D.typeIs, wpAny_getItem_heap room ⟨nk_is I2 k hk rfl, hd⟩ D q ⟨.int j, H2, I2.tok _, ⟨t, rfl⟩, q2⟩⟩
theorem ps_putN (hu : X.A.units + 64 < cLine) (ho : PE X o td) (hi : PE X i ty) (hv : PE X value tv) (hs : swapsWith value (some (.Subscript o i pos')) pos.line X.env = pure false) :
    PS X (.Assign [.Subscript o i pos'] value pos) (sPutN X.prog X.w td ty tv) := by
  refine ⟨fun pins s σ H D I h => ?_⟩
  refine wpAny_Assign_Subscript (thn (hv.run pins s σ H _ I h) fun r s1 ⟨v, H1, I1, rv, q1⟩ => thn (ho.run pins s1 σ H1 _ I1 q1) fun u s2 ⟨x, H2, I2, rx, q2⟩ => thn (hi.run pins s2 σ H2 _ I2 q2) fun iv s3 ⟨y, H3, I3, ry, a, b, k, L, j, ev, ex, ey, hk, hd, ha, ks, hn, few, q3⟩ => ?_) hs
  subst ex ey ev
  obtain rfl : u = Value.ref a := rx
  obtain rfl : iv = Value.ref b := ry
  obtain ⟨t, rfl⟩ := (show ∃ t, r = Value.int j t from rv)
  obtain ⟨xs, Dd, rr, lo, _⟩ := ndict_rd I3 ha ks
  have lx : L.length = xs.length := Paired.length rr
  have big := sizeLine_eq
  have room : (nestedKind X.prog X.w).room X.A.in1 := (show X.A.in1.units + 8 < cLine by simp only [Around.in1]; omega)
  refine wpAny_setItem_heap (hsz := by omega) room ⟨nk_is I3 k hk rfl, hd⟩ Dd fun h' D2 sb => ?_
  rw [storedH_new ((rows_at rr k).2 hn)] at D2
  obtain ⟨o2, es, ep, g1, g2, g3, g4, _, g5⟩ := D2
  refine ⟨σ, _, d_write I3 (by rw [ha]; exact True.intro) sb ⟨o2, g1⟩ (ndict_ok ⟨xs ++ [(k, b, .int j t)], o2, es, ep, g1, g2, g3, g4, g5, ?_, lo, by rw [List.length_append]; exact few⟩), q3⟩
  exact paired_snoc rr ⟨rfl, rfl, t, rfl⟩
theorem call_lenN : CallR X (.builtin "len") (rLenN X.prog X.w) := by
  intro pins s σ H vs us Q I r h
  obtain ⟨a, L, rfl, ha, ks, q⟩ := h
  rw [Vals.ref1 r]
  obtain ⟨xs, D, rr, lo, few⟩ := ndict_rd I ha ks
  have lx : L.length = xs.length := Paired.length rr
  refine call_len_dictH lo D (by omega) ?_
  rw [← lx]
  exact ⟨.int ((L.length : Nat) : Int), H, I.tok _, ⟨_, rfl⟩, q⟩
end
end Kd

-- ===== KS18 =====
set_option Elab.async false
set_option linter.all false
set_option maxRecDepth 100000
set_option maxHeartbeats 3200000
namespace Kd
open PySem PySem.Spec PyProof.Rows L2
/-! ### set(xs), xs a list or a tuple of whole numbers -/
section
variable {P : Program} {w : World} {A : Around} {E : Value → Shared → Prop} {s : Shared}
def IntsMade (w : World) (s : Shared) (ns : List Int) (s2 : Shared) : Prop :=
  ∃ h' tk c, s2 = { s with heap := h', toks := tk } ∧ L2.SetR w h' s.heap.objs.size (fun j => decide (j ∈ ns)) c ∧ c ≤ ns.length ∧ ∀ b o, s.heap.get? b = some o → h'.get? b = some o
theorem call_set_ints {l : Addr} {its : Array Value} (ns : List Int) {Q : Value → Shared → Prop} (calm : A.handled = none) (il : s.heap.IsList l its) (ev : IntsAre its.toList ns)
    (less : ns.length + 1 < scanBound) (q : ∀ s2, IntsMade w s ns s2 → Q (.ref s.heap.objs.size) s2) : wpAny (model P w) A (call (.type "set") [.ref l]) Q E s := by
  have isz : its.size = ns.length := by rw [← Array.length_toList]; exact IntsAre.length ev
  obtain ⟨c, tl, mro⟩ := F.called_set.mro
  have made := F.called_set.made
  have sub := F.called_set.sub
  refine wpAny_call (codeAny_of_tree ?_)
  show wpAny _ _ (callAny (.type "set") _) _ _ _
  refine wpAny_pure ⟨Code.quiet_builtin _ (by decide +kernel), codeAny_builtin F.entry_type_call ?_⟩
  rw [Around.under_plain (weight_type_call_type "set" [.ref l] []) rfl]
  have z1 := F.called_set.notType
  have z2 := F.called_set.canCreate
  have z3 := F.typeCall_set_1 (.ref l)
  repeat (any_goals (first | assumption | wp_step))
  refine codeAny_mono (code_set_led1 (.ref l) (E := E) (Q₁ := fun v s1 => v = .ref s.heap.objs.size ∧ s1 = { s with heap := s.heap.push (newO w) }) ⟨rfl, rfl⟩) fun r s1 hr => ?_
  rcases r with e | fl
  · exact hr
  cases fl with
  | ret obj =>
    obtain ⟨rfl, rfl⟩ := hr
    have at0 : (s.heap.push (newO w)).get? s.heap.objs.size = some (newO w) := Heap.get?_push_size _ rfl
    have T0 : Shared.TypeIs { s with heap := s.heap.push (newO w) } (.ref s.heap.objs.size) "set" := ⟨_, at0, rfl⟩
    have li := F.called_set.init.lookup
    have bi := F.called_set.init.bind (.ref s.heap.objs.size)
    repeat (any_goals (first | assumption | wp_step))
    refine codeAny_mono (codeAny_call_builtin (R := wants (fun r s2 => r = .none ∧ IntsMade w s ns s2) E) F.called_set.init.plain F.entry_set_init (check_set_init_1 T0 ?_)) fun r s2 hr => ?_
    · obtain ⟨⟨oc, od, ob, os⟩, ol, oc', on, ob'⟩ := il
      simp only at oc' ob'
      subst oc'
      subst ob'
      have ol2 := Heap.get?_push_of_some (newO w) ol
      have y1 := F.sub_list_set
      have y2 := F.sub_list_frozenset
      have y3 : (Value.type "list" == Value.type "dict") = false := by decide
      have il2 : (s.heap.push (newO w)).IsList l its := ⟨_, ol2, rfl, on, rfl⟩
      unfold Builtin.«set.__init__» noKeywords Builtin.Frozenset.updateFrom
      generalize hPI : pyIter = PI
      wp_walk
      subst hPI
      refine wpAny_pyIter_list il2 (wpAny_bind (wpAny_runValue ?_))
      have lS : l < s.heap.objs.size := Heap.lt_size ol
      have calm3 : A.in1.in1.in1.handled = none := by simp [calm]
      have szp : (s.heap.push (newO w)).objs.size = s.heap.objs.size + 1 := Heap.size_push ..
      have lI : l ≠ (s.heap.push (newO w)).objs.size := by
        rw [szp]
        exact Nat.ne_of_lt (Nat.lt_succ_of_lt lS)
      refine L2.set_update_ints ((Walks.list calm3 _ l lI its).toS) s.heap.objs.size (fun m => ?_) ns isz less (fun i v e => ?_) (its.size - 0) 0 _ rfl (Nat.zero_le _)
        ⟨⟨_, Heap.get?_push_size _ rfl, rfl, rfl⟩, il2.push _⟩ ⟨0, Nat.le_refl 0, L2.setR_new_at (Heap.get?_push_of_some _ at0)⟩ fun s' c' mv le Z => ?_
      · rcases List.mem_cons.mp m with e | m
        · rw [szp] at e
          exact absurd e (Nat.ne_of_lt (Nat.lt_succ_self _))
        · have e := List.mem_singleton.mp m
          rw [← e] at lS
          exact absurd lS (Nat.lt_irrefl _)
      · have lt : i < ns.length := by rw [← isz]; exact (Array.getElem?_eq_some_iff.mp e).1
        obtain ⟨t, e2⟩ := IntsAre.int_at ev i v (by rw [Array.getElem?_toList]; exact e)
        exact ⟨ns[i], t, List.getElem?_eq_getElem lt, by rw [e2, List.getD_eq_getElem?_getD, List.getElem?_eq_getElem lt]; rfl⟩
      · obtain ⟨h', g', d', tk, os'⟩ := s'
        obtain rfl : g' = s.gens := mv.gens
        obtain rfl : d' = s.drawn := mv.drawn
        obtain rfl : os' = s.os := mv.os
        show wpAny _ _ _ _ _ _
        refine wpAny_pure ?_
        show wpAny _ _ (ret Value.none) _ _ _
        rw [isz] at le
        refine wpAny_pure ⟨rfl, h', tk, c', rfl, Z, le, fun b o e => ?_⟩
        have lb : b < s.heap.objs.size := Heap.lt_size e
        refine mv.heap b o (fun m => ?_) (Heap.get?_push_of_some _ (Heap.get?_push_of_some _ e))
        rcases List.mem_cons.mp m with z | m
        · exact absurd z (Nat.ne_of_lt lb)
        · have z := List.mem_singleton.mp m
          have y : b = s.heap.objs.size + 1 := z.trans szp
          rw [y] at lb
          exact absurd lb (Nat.not_lt.mpr (Nat.le_succ _))
    · rcases r with e | fl
      · exact hr
      cases fl with
      | ret r =>
        obtain ⟨rfl, mk⟩ := hr
        repeat (any_goals (first | assumption | wp_step))
        exact q _ mk
      | _ => exact hr.elim
  | _ => exact hr.elim
end
section

variable {X : Cx}
/-- set(xs), xs whole numbers -/
def rSetZ (K : PySem.W.Frag) (w : World) : List V → Hp → VK → Prop := fun vs H Q => ∃ (l : Addr) (ns : List Int), vs = [V.ref l] ∧ (SqL K H l (ns.map V.int) ∨ SqT K H l (ns.map V.int)) ∧ ns.length < 64 ∧
  ∀ a c, H a = none → c ≤ ns.length → Q (.ref a) (upd H a (L2.SetO w a (fun j => decide (j ∈ ns)) c))
theorem cr_setZ (hc : X.calm = true) : CallR X (.type "set") (rSetZ X.K X.w) := by
  intro pins s σ H vs us Q I r h
  obtain ⟨l, ns, rfl, hl, hf, q⟩ := h
  rw [Vals.ref1 r]
  have small : ns.length + 1 < scanBound := by unfold scanBound; omega
  have fin : ∀ s2, IntsMade X.w s ns s2 → EP X pins σ Q (.ref s.heap.objs.size) s2 := fun s2 mk => by
    obtain ⟨h', tk, c, rfl, Z, le, kp⟩ := mk
    exact ⟨.ref s.heap.objs.size, _, I.laid (t' := tk) kp (Nat.le_refl _) (setO_new Z), rfl, q _ c (I.hok.fresh (Nat.le_refl _)) le⟩
  rcases hl with hl | hl
  · obtain ⟨its, rv, il, _⟩ := I.list hl
    exact call_set_ints ns (I.ok.hd hc) il.isList (by simpa using ints_of_vals rv) small fin
  · obtain ⟨its, rv, il, _⟩ := I.tuple hl
    refine call_set_tupI ns (I.ok.hd hc) (show s.heap.IsTuple l its.toArray from il) (by simpa using ints_of_vals rv) small fun h' tk c Z le kp => fin _ ⟨h', tk, c, rfl, Z, le, kp⟩
end
end Kd

-- ===== KX7 =====
set_option Elab.async false
set_option linter.all false
set_option maxRecDepth 100000
set_option maxHeartbeats 4000000
namespace Kd
open PySem PySem.Spec PyProof.Rows L2
section
variable {P : Program} {w : World} {K : Type} [DecidableEq K] {knd : HeapKind P w K} {A : Around} {E : Value → Shared → Prop} {s : Shared}
theorem call_set_keysT (S : SetKind knd) {l : Addr} {its : Array Value} (ks : List (Addr × K)) {Q : Value → Shared → Prop} (calm : A.handled = none) (il : s.heap.IsTuple l its) (ev : its.toList = ks.map fun q => Value.ref q.1) (kk : ∀ q ∈ ks, knd.is s.heap q.2 q.1)
    (less : ∃ ds : List K, (∀ q ∈ ks, q.2 ∈ ds) ∧ ds.length < 64) (room : knd.room A.in1.in1.in1) (q : ∀ s2, SetMade knd s ks s2 → Q (.ref s.heap.objs.size) s2) : wpAny (model P w) A (call (.type "set") [.ref l]) Q E s := by
  have isz : its.size = ks.length := by rw [← Array.length_toList, ev, List.length_map]
  obtain ⟨c, tl, mro⟩ := F.called_set.mro
  have made := F.called_set.made
  have sub := F.called_set.sub
  refine wpAny_call (codeAny_of_tree ?_)
  show wpAny _ _ (callAny (.type "set") _) _ _ _
  refine wpAny_pure ⟨Code.quiet_builtin _ (by decide +kernel), codeAny_builtin F.entry_type_call ?_⟩
  rw [Around.under_plain (weight_type_call_type "set" [.ref l] []) rfl]
  have z1 := F.called_set.notType
  have z2 := F.called_set.canCreate
  have z3 := F.typeCall_set_1 (.ref l)
  repeat (any_goals (first | assumption | wp_step))
  refine codeAny_mono (code_set_led1 (.ref l) (E := E) (Q₁ := fun v s1 => v = .ref s.heap.objs.size ∧ s1 = { s with heap := s.heap.push (newO w) }) ⟨rfl, rfl⟩) fun r s1 hr => ?_
  rcases r with e | fl
  · exact hr
  cases fl with
  | ret obj =>
    obtain ⟨rfl, rfl⟩ := hr
    have at0 : (s.heap.push (newO w)).get? s.heap.objs.size = some (newO w) := Heap.get?_push_size _ rfl
    have T0 : Shared.TypeIs { s with heap := s.heap.push (newO w) } (.ref s.heap.objs.size) "set" := ⟨_, at0, rfl⟩
    have li := F.called_set.init.lookup
    have bi := F.called_set.init.bind (.ref s.heap.objs.size)
    repeat (any_goals (first | assumption | wp_step))
    refine codeAny_mono (codeAny_call_builtin (R := wants (fun r s2 => r = .none ∧ SetMade knd s ks s2) E) F.called_set.init.plain F.entry_set_init (check_set_init_1 T0 ?_)) fun r s2 hr => ?_
    · obtain ⟨⟨oc, od, ob, os⟩, ol, oc', on, ob'⟩ := il
      simp only at oc' ob'
      subst oc'
      subst ob'
      have ol2 := Heap.get?_push_of_some (newO w) ol
      have y1 := F.sub_tuple_set
      have y2 := F.sub_tuple_frozenset
      have y3 : (Value.type "tuple" == Value.type "dict") = false := by decide
      have il2 : (s.heap.push (newO w)).IsTuple l its := ⟨_, ol2, rfl, on, rfl⟩
      unfold Builtin.«set.__init__» noKeywords Builtin.Frozenset.updateFrom
      generalize hPI : pyIter = PI
      wp_walk
      subst hPI
      refine wpAny_pyIter_tuple il2 (wpAny_bind (wpAny_runValue ?_))
      have lS : l < s.heap.objs.size := Heap.lt_size ol
      have calm3 : A.in1.in1.in1.handled = none := by simp [calm]
      have szp : (s.heap.push (newO w)).objs.size = s.heap.objs.size + 1 := Heap.size_push ..
      have lI : l ≠ (s.heap.push (newO w)).objs.size := by
        rw [szp]
        exact Nat.ne_of_lt (Nat.lt_succ_of_lt lS)
      have free : ∀ b, s.heap.objs.size ≤ b → s.heap.get? b = none := fun b le => by
        cases e : s.heap.get? b with
        | none => rfl
        | some o => exact absurd (Heap.lt_size e) (Nat.not_lt.mpr le)
      refine filled S ((Walks.tuple calm3 _ l lI its).toS) (B := s.heap.objs.size) (fun m => ?_) ks isz less (fun i v e => ?_) s.heap kk (free _ (Nat.le_refl _)) (fun b m => free b ?_) room (its.size - 0) 0 _ rfl (Nat.zero_le _)
        ⟨⟨_, Heap.get?_push_size _ rfl, rfl, rfl⟩, il2.push _⟩ (fun b o e => Heap.get?_push_of_some _ (Heap.get?_push_of_some _ e)) ⟨[], #[], 0, _, setH_new (Heap.get?_push_of_some _ at0), fun q m => (nomatch m), fun q m => (by simp at m), Nat.le_refl _⟩ fun s' L es ep t mv Z c kp => ?_
      · rcases List.mem_cons.mp m with e | m
        · rw [szp] at e
          exact absurd e (Nat.ne_of_lt (Nat.lt_succ_self _))
        · have e := List.mem_singleton.mp m
          rw [← e] at lS
          exact absurd lS (Nat.lt_irrefl _)
      · have e2 : its.toList[i]? = some v := by rw [Array.getElem?_toList]; exact e
        rw [ev, List.getElem?_map] at e2
        obtain ⟨q, e3, e4⟩ := Option.map_eq_some_iff.mp e2
        exact ⟨q, e3, e4.symm⟩
      · rw [List.mem_singleton.mp m, szp]
        exact Nat.le_succ _
      · obtain ⟨h', g', d', tk, os'⟩ := s'
        obtain rfl : g' = s.gens := mv.gens
        obtain rfl : d' = s.drawn := mv.drawn
        obtain rfl : os' = s.os := mv.os
        show wpAny _ _ _ _ _ _
        refine wpAny_pure ?_
        show wpAny _ _ (ret Value.none) _ _ _
        rw [isz] at c
        exact wpAny_pure ⟨rfl, h', tk, L, es, ep, t, rfl, Z, c, kp⟩
    · rcases r with e | fl
      · exact hr
      cases fl with
      | ret r =>
        obtain ⟨rfl, mk⟩ := hr
        repeat (any_goals (first | assumption | wp_step))
        exact q _ mk
      | _ => exact hr.elim
  | _ => exact hr.elim
end
section
variable {X : Cx}
/-- set(t), t a tuple of tuples -/
def rSetTT (K : PySem.W.Frag) (P : Program) (w : World) : List V → Hp → VK → Prop := fun vs H Q => ∃ (l : Addr) (ks : List (Addr × List Key)), vs = [V.ref l] ∧ SqT K H l (ks.map fun q => V.ref q.1) ∧ (∀ q ∈ ks, SqT K H q.1 (q.2.map kV)) ∧ ks.length < 64 ∧
  ∀ a L, H a = none → (∀ q ∈ L, q ∈ ks) → (∀ q ∈ ks, q.2 ∈ L.map Prod.snd) → (L.map Prod.snd).Nodup → Q (.ref a) (upd H a (SetO P w a L))
theorem cr_setTT (hc : X.calm = true) (hu : X.A.units + 64 < cLine) : CallR X (.type "set") (rSetTT X.K X.prog X.w) := by
  intro pins s σ H vs us Q I r h
  obtain ⟨l, ks, rfl, hl, hk, hf, q⟩ := h
  rw [Vals.ref1 r]
  obtain ⟨its, rv, il, _⟩ := I.tuple hl
  refine call_set_keysT (P := X.prog) (w := X.w) (knd := tupleKind (mixKind X.prog X.w)) mixSet ks (I.ok.hd hc) (show s.heap.IsTuple l its.toArray from il) (by simpa using refs_raw Prod.fst rv) (fun p hp => (key_raw I (hk p hp)).1) ⟨ks.map Prod.snd, fun q m => List.mem_map.mpr ⟨q, m, rfl⟩, by rw [List.length_map]; exact hf⟩ (by show X.A.in1.in1.in1.units < cLine; have z : X.A.in1.in1.in1.units ≤ X.A.units + 64 := (by simp only [Around.in1]; omega); omega) fun s2 mk => ?_
  obtain ⟨h', tk, L, es, ep, t, rfl, Z, c, kp⟩ := mk
  exact ⟨.ref s.heap.objs.size, upd H s.heap.objs.size (SetO X.prog X.w s.heap.objs.size L), I.laid (t' := tk) kp (Nat.le_refl _) (setO_ok Z.held), rfl, q _ L (I.hok.fresh (Nat.le_refl _)) (fun p m => List.mem_of_mem_take (c.inn p m)) (fun p m => c.got p (by rw [List.take_length]; exact m)) Z.nd⟩
/-- set(xs), xs many whole numbers -/
def rSetZ4 (K : PySem.W.Frag) (w : World) : List V → Hp → VK → Prop := fun vs H Q => ∃ (l : Addr) (ns : List Int), vs = [V.ref l] ∧ (SqL K H l (ns.map V.int) ∨ SqT K H l (ns.map V.int)) ∧ ns.length < 4000 ∧
  ∀ a c, H a = none → (∀ D : List Int, (∀ n ∈ ns, n ∈ D) → c ≤ D.length) → Q (.ref a) (upd H a (L2.SetO w a (fun j => decide (j ∈ ns)) c))
theorem cr_setZ4 (hc : X.calm = true) : CallR X (.type "set") (rSetZ4 X.K X.w) := by
  intro pins s σ H vs us Q I r h
  obtain ⟨l, ns, rfl, hl, hf, q⟩ := h
  rw [Vals.ref1 r]
  have small : ns.length + 1 < scanBound := by unfold scanBound; omega
  have fin : ∀ s2, IntsMade X.w s ns s2 → EP X pins σ Q (.ref s.heap.objs.size) s2 := fun s2 mk => by
    obtain ⟨h', tk, c, rfl, Z, le, kp⟩ := mk
    refine ⟨.ref s.heap.objs.size, _, I.laid (t' := tk) kp (Nat.le_refl _) (setO_new Z), rfl, q _ c (I.hok.fresh (Nat.le_refl _)) fun D sub => ?_⟩
    obtain ⟨o, es, ep, t, _, _, _, _, nd, mem, _, _, sz, _⟩ := Z
    have z := nodup_most _ D nd fun x m => sub x (of_decide_eq_true ((mem x).mpr m))
    rw [List.length_map, Array.length_toList, sz] at z
    exact z
  rcases hl with hl | hl
  · obtain ⟨its, rv, il, _⟩ := I.list hl
    exact call_set_ints ns (I.ok.hd hc) il.isList (by simpa using ints_of_vals rv) small fin
  · obtain ⟨its, rv, il, _⟩ := I.tuple hl
    refine call_set_tupI ns (I.ok.hd hc) (show s.heap.IsTuple l its.toArray from il) (by simpa using ints_of_vals rv) small fun h' tk c Z le kp => fin _ ⟨h', tk, c, rfl, Z, le, kp⟩
end
end Kd

-- ===== KX10 =====
set_option Elab.async false
set_option linter.all false
set_option maxRecDepth 100000
set_option maxHeartbeats 4000000
namespace Kd
open PySem PySem.Spec PyProof.Rows L2
section
variable {X : Cx}
/-- len(set(t)), t a tuple of whole numbers, no two alike -/
def tLenSetZ (K : PySem.W.Frag) (ta : TE) : TE := fun σ H Q => ta σ H fun x H1 => ∃ (l : Addr) (ns : List Int), x = V.ref l ∧ SqT K H1 l (ns.map V.int) ∧ ns.length < 4000 ∧ ns.Nodup ∧ Q (.int (ns.length : Int)) H1
theorem pe_lenSetZ {a : Expr} {ta : TE} {p p2 q pos : Pos} (hc : X.calm = true) (hg : Gl X "len") (hm : X.mg "len" = none) (hg2 : Gl X "set") (hm2 : X.mg "set" = none) (ha : PE X a ta)
    (na : starEach [a] X.env = (false, eval a X.env) :: starEach [] X.env := by rfl) : PE X (.Call (.Name "len" p) [.Call (.Name "set" p2) [a] [] q] [] pos) (tLenSetZ X.K ta) := by
  refine ⟨fun pins s σ H Q I h => ?_⟩
  refine Call_ (ld_blt I hg hm PySem.boot_len (PyProof.Rows.callWith_builtin1 (PyProof.Rows.args_cons ?_ rfl) rfl rfl))
  refine Call_ (ld_blt I hg2 hm2 PyProof.Rows.boot_set (PyProof.Rows.callWith_type1 (PyProof.Rows.args_cons (thn (ha.run pins s σ H _ I h) fun v s1 ⟨x, H1, I1, r1, q1⟩ => PyProof.Rows.args_nil ?_) na) na rfl))
  obtain ⟨l, ns, rfl, hq, few, nd, q1⟩ := q1
  cases r1
  obtain ⟨its, rv, il, _⟩ := I1.tuple hq
  have small : ns.length + 1 < scanBound := by unfold scanBound; omega
  refine call_set_tupI ns (I1.ok.hd hc) (show s1.heap.IsTuple l its.toArray from il) (by simpa using ints_of_vals rv) small fun h' tk c Z le kp => ?_
  obtain ⟨o, es, ep, t, ho, hex, hd, r4, nd2, mem, r7, hf, sz, r10⟩ := Z
  have ge : ns.length ≤ c := by
    have z := nodup_most ns (es.toList.map keyOf) nd fun x m => (mem x).mp (decide_eq_true m)
    have e1 : (es.toList.map keyOf).length = es.size := by rw [List.length_map, Array.length_toList]
    omega
  have ec : c = ns.length := Nat.le_antisymm le ge
  have I2 : Inv X pins σ H1 { s1 with heap := h', toks := tk } := I1.kept fun b o e => kp b o e
  refine PyProof.Rows.args_nil (call_len_set ho hex hd hf (by rw [sz]; omega) ⟨.int ns.length, H1, I2.tok _, ⟨_, by rw [sz, ec]⟩, q1⟩)
end
end Kd

-- ===== KX11 =====
set_option Elab.async false
set_option linter.all false
set_option maxRecDepth 100000
set_option maxHeartbeats 3200000
/-! Sets of texts: set(t) of a tuple of texts, len, sorted. -/
namespace Kd
open PySem PySem.Spec PyProof.Rows L2
def keyS (e : Int × Value) : Str := match e.2 with
  | .str x _ => x
  | _ => Str.empty
def TxE (w : World) (e : Int × Value) : Prop := ∃ u, e.2 = Value.str (keyS e) u ∧ e.1 = hashStr w (keyS e)
/-- a set of texts at a; its members L as they stand in the table -/
def HeldS (w : World) (h : Heap) (a : Addr) (L : List Str) : Prop := ∃ o es ep t, h.get? a = some o ∧ o.ExactSet ∧ o.data = .set es ep t ∧ (∀ e ∈ es.toList, TxE w e) ∧ es.toList.map keyS = L ∧ L.Nodup ∧ es.size < scanBound ∧ t.fits es.size = true ∧ Ris t.place.toList ∧ (w.params.followText "set-order" = true ∨ t.led = true)
section
variable {P : Program} {w : World} {A : Around} {E : Value → Shared → Prop} {s : Shared} {h h' : Heap} {a : Addr} {L : List Str}
theorem HeldS.at_ (R : HeldS w h a L) (k : ∀ o, h.get? a = some o → h'.get? a = some o) : HeldS w h' a L := by
  obtain ⟨o, es, ep, t, ho, r⟩ := R
  exact ⟨o, es, ep, t, k o ho, r⟩
theorem tx_is (e : Int × Value) (g : TxE w e) (x : Str) : (strKind P w).is x e.2 = true ↔ keyS e = x := by
  obtain ⟨u, e1, _⟩ := g
  refine ⟨fun z => ?_, fun z => ?_⟩
  · rw [e1] at z
    exact (strKind P w).inj _ _ _ (strKind_is _ _ _ _) z
  · rw [e1, ← z]
    exact strKind_is _ _ _ _
theorem tx_elems {l : List (Int × Value)} (g : ∀ e ∈ l, TxE w e) : ElemsOf (strKind P w) l := fun e he => by
  obtain ⟨u, e1, e2⟩ := g e he
  exact ⟨⟨keyS e, by rw [e1]; exact strKind_is _ _ _ _, e2⟩, by rw [e1]; rfl⟩
theorem held_new : HeldS w (s.heap.push (newO w)) s.heap.objs.size [] := by
  refine ⟨_, #[], 0, _, Heap.get?_push_size _ rfl, ⟨rfl, rfl, rfl⟩, rfl, fun e he => by simp at he, rfl, List.nodup_nil, by decide, by rfl, List.Pairwise.nil, ?_⟩
  show _ ∨ (!w.params.followText "set-order") = true
  cases w.params.followText "set-order"
  · exact .inr rfl
  · exact .inl rfl
/-- the end of an add -/
theorem held_tail {g : Bool → Sem Unit} (hg : ∀ (b : Bool) (t : Shared) (R : Unit → Shared → Prop), R () t → wpAny (model P w) A (g b) R E t)
    {o : Obj} {es es1 : Array (Int × Value)} {ep : Nat} {t t1 : SetTable} (ho : s.heap.get? a = some o) (hex : o.ExactSet) (hd : o.data = .set es ep t)
    (g1 : ∀ e ∈ es1.toList, TxE w e) (nd : (es1.toList.map keyS).Nodup) (b1 : es1.size < scanBound) (f1 : t1.fits es1.size = true) (r1 : Ris t1.place.toList) (l1 : w.params.followText "set-order" = true ∨ t1.led = true) {dum : Bool} {R : Option Bool → Shared → Prop}
    (k : ∀ h' L', Heap.SameBut a s.heap h' → HeldS w h' a L' → L'.Perm (es1.toList.map keyS) → R (some true) { s with heap := h' }) :
    wpAny (model P w) A (do
        storeSet a es1 t1
        if (!dum && t1.tooFull) = true then do
            g (relayAll t1 es1 (SetTable.grown es1.size)).2.2
            storeSet a (relayAll t1 es1 (SetTable.grown es1.size)).1 (relayAll t1 es1 (SetTable.grown es1.size)).2.1
            pure (some true)
          else pure (some true)) R E s := by
  refine wpAny_bind (wpAny_storeSet_of ho hd ?_ (fits_of_scanBound b1))
  have ho1 := store_at (es' := es1) (t' := t1) ho hd
  have sb := Heap.SameBut.update s.heap a (Obj.putSet es1 t1)
  by_cases full : (!dum && t1.tooFull) = true
  · refine wp_if_pos full ?_
    have pm := relayAll_perm t1 es1 (SetTable.grown es1.size)
    have f2 := relayAll_fits t1 es1 (SetTable.grown es1.size)
    have r2 := relayAll_ris t1 es1 (SetTable.grown es1.size)
    have l2 := relayAll_led t1 es1 (SetTable.grown es1.size)
    generalize relayAll t1 es1 (SetTable.grown es1.size) = Z at pm f2 r2 l2 ⊢
    obtain ⟨es2, t2, gave⟩ := Z
    dsimp only at pm f2 r2 l2 ⊢
    have sz : es2.size = es1.size := by rw [← Array.length_toList, pm.length_eq, Array.length_toList]
    refine wpAny_bind (hg _ _ _ (wpAny_bind (wpAny_storeSet_of ho1 rfl (wpAny_pure (k _ (es2.toList.map keyS) (sb.trans (Heap.SameBut.update _ a _)) ?_ (pm.map keyS))) (fits_of_scanBound (by rw [sz]; exact b1)))))
    exact ⟨_, es2, _, t2, store_at (es' := es2) (t' := t2) ho1 rfl, hex, rfl, fun e he => g1 e (pm.mem_iff.mp he), rfl, (pm.map keyS).nodup_iff.mpr nd, by rw [sz]; exact b1, f2, r2, l1.imp id fun z => by rw [l2]; exact z⟩
  · exact wp_if_neg full (wpAny_pure (k _ _ sb ⟨_, es1, _, t1, ho1, hex, rfl, g1, rfl, nd, b1, f1, r1, l1⟩ (List.Perm.refl _)))
/-- a text added -/
theorem held_add {x : Str} {u : Tok} {Q : Bool → Shared → Prop} (R : HeldS w s.heap a L) (room : L.length + 1 < scanBound) (q1 : x ∈ L → Q false s)
    (q2 : x ∉ L → ∀ h' L', Heap.SameBut a s.heap h' → HeldS w h' a L' → L'.Perm (x :: L) → Q true { s with heap := h' }) : wpAny (model P w) A (setAddHashed a (.str x u) ((strKind P w).hash x)) Q E s := by
  obtain ⟨o, es, ep, t, ho, hex, hd, g, eL, nd, hb, hf, r, ld⟩ := R
  have el : ElemsOf (strKind P w) es.toList := tx_elems g
  have len : es.size = L.length := by rw [← eL, List.length_map, Array.length_toList]
  have key : (strKind P w).is x (.str x u) = true := strKind_is _ _ _ _
  unfold setAddHashed setAddHashedIn
  refine wpAny_holding (wpAny_bind (wpAny_setState_of ho hd hf ?_))
  dsimp only
  rw [byScan_of rfl hb el]
  simp only [if_true]
  unfold setAddByScan
  refine wpAny_bind (wpAny_bind (wpAny_rule (wpAny_bind (wpAny_setScan_of key ho hd hf el ?_))))
  cases hr : List.findIdx? (fun e => (strKind P w).is x e.2) es.toList with
  | some j =>
    dsimp only
    obtain ⟨lj, pj, _⟩ := List.findIdx?_eq_some_iff_getElem.mp hr
    have mx : x ∈ L := by
      rw [← eL]
      have mj := List.getElem_mem lj
      exact List.mem_map.mpr ⟨_, mj, (tx_is (P := P) _ (g _ mj) x).mp pj⟩
    exact wpAny_pure (wpAny_pure (q1 mx))
  | none =>
    dsimp only
    have nx : x ∉ L := fun m => by
      rw [← eL] at m
      obtain ⟨e, me, ee⟩ := List.mem_map.mp m
      have z := List.findIdx?_eq_none_iff.mp hr e me
      rw [(tx_is (P := P) e (g e me) x).mpr ee] at z
      cases z
    have told : ∀ (b : Bool) (t : Shared) (R : Unit → Shared → Prop), R () t → wpAny (model P w) A (match b with | true => rule "set.scan.the-table-gave-way" | false => pure ()) R E t := fun b t R q => by
      cases b <;> first | exact wpAny_pure q | exact wpAny_rule q
    have pm := layNew_perm t es ((strKind P w).hash x) (.str x u)
    have f1 := layNew_fits t es ((strKind P w).hash x) (.str x u)
    have r1 := layNew_ris t es ((strKind P w).hash x) (.str x u) r
    have l1 := layNew_led t es ((strKind P w).hash x) (.str x u)
    generalize layNew t es ((strKind P w).hash x) (.str x u) = Z at pm f1 r1 l1 ⊢
    obtain ⟨es1, t1, dum, gave⟩ := Z
    dsimp only at pm f1 r1 l1 ⊢
    rw [Array.toList_push] at pm
    have g1 : ∀ e ∈ es1.toList, TxE w e := fun e he => by
      rcases List.mem_append.mp (pm.mem_iff.mp he) with m | m
      · exact g e m
      · rw [List.mem_singleton.mp m]
        exact ⟨u, rfl, rfl⟩
    have pk : (es1.toList.map keyS).Perm (x :: L) := by
      have z := pm.map keyS
      rw [List.map_append, eL] at z
      exact z.trans (List.perm_append_comm.trans (List.Perm.refl _))
    have nd1 : (es1.toList.map keyS).Nodup := pk.nodup_iff.mpr (List.nodup_cons.mpr ⟨nx, nd⟩)
    have sz1 : es1.size < scanBound := by
      rw [← Array.length_toList, pm.length_eq, List.length_append, Array.length_toList, len]
      exact room
    have ld1 : w.params.followText "set-order" = true ∨ t1.led = true := ld.imp id fun z => by rw [l1]; exact z
    refine wpAny_bind (told _ _ _ ?_)
    by_cases pl : t1.plain = true
    · refine wp_if_pos pl (wpAny_bind ?_)
      rw [hashByValue_scannable 8 rfl]
      refine wpAny_pure ?_
      refine held_tail told ho hex hd g1 nd1 sz1 ?_ ?_ ?_ fun h' L' sb Z p => ?_
      · split
        · exact f1
        · exact SetTable.fits_plain_off f1
      · split <;> exact r1
      · split <;> exact ld1
      · exact wpAny_pure (q2 nx h' L' sb Z (p.trans pk))
    · refine wp_if_neg pl (wpAny_bind (wpAny_pure ?_))
      simp only [if_true]
      refine held_tail told ho hex hd g1 nd1 sz1 f1 r1 ld1 fun h' L' sb Z p => ?_
      exact wpAny_pure (q2 nx h' L' sb Z (p.trans pk))
end
end Kd

-- ===== KX12 =====
set_option Elab.async false
set_option linter.all false
set_option maxRecDepth 100000
set_option maxHeartbeats 4000000
namespace Kd
open PySem PySem.Spec PyProof.Rows L2
/-- what came of the first i texts -/
structure CameS (ks : List Str) (i : Nat) (L : List Str) : Prop where
  inn : ∀ x ∈ L, x ∈ ks.take i
  got : ∀ x ∈ ks.take i, x ∈ L
  most : L.length ≤ i
theorem CameS.step {ks L L' : List Str} {i : Nat} {x : Str} (c : CameS ks i L) (e : ks[i]? = some x) (h1 : x ∈ L → L' = L) (h2 : x ∉ L → L'.Perm (x :: L)) : CameS ks (i + 1) L' := by
  have tk : ks.take (i + 1) = ks.take i ++ [x] := by rw [List.take_succ, e]; rfl
  by_cases m : x ∈ L
  · rw [h1 m]
    refine ⟨fun q hq => by rw [tk]; exact List.mem_append_left _ (c.inn q hq), fun q hq => ?_, Nat.le_succ_of_le c.most⟩
    rw [tk] at hq
    rcases List.mem_append.mp hq with z | z
    · exact c.got q z
    · rw [List.mem_singleton.mp z]
      exact m
  · have pm := h2 m
    refine ⟨fun q hq => ?_, fun q hq => ?_, by rw [pm.length_eq]; exact Nat.succ_le_succ c.most⟩
    · rw [tk]
      rcases List.mem_cons.mp (pm.mem_iff.mp hq) with z | z
      · rw [z]
        exact List.mem_append_right _ List.mem_cons_self
      · exact List.mem_append_left _ (c.inn q z)
    · rw [pm.mem_iff]
      rw [tk] at hq
      rcases List.mem_append.mp hq with z | z
      · exact List.mem_cons_of_mem _ (c.got q z)
      · rw [List.mem_singleton.mp z]
        exact List.mem_cons_self
section
variable {P : Program} {w : World} {A : Around} {E : Value → Shared → Prop}
theorem held_any {s : Shared} {a : Addr} {L : List Str} {x : Str} {u : Tok} {Q : Bool → Shared → Prop} (R : HeldS w s.heap a L) (room : L.length + 1 < scanBound)
    (q : ∀ b h' L', Heap.SameBut a s.heap h' → HeldS w h' a L' → (x ∈ L → L' = L) → (x ∉ L → L'.Perm (x :: L)) → Q b { s with heap := h' }) : wpAny (model P w) A (setAddHashed a (.str x u) ((strKind P w).hash x)) Q E s :=
  held_add R room (fun m => q false s.heap L (Heap.SameBut.refl a s.heap) R (fun _ => rfl) fun n => absurd m n) fun n h' L' sb Z p => q true h' L' sb Z (fun m => absurd m n) fun _ => p
theorem filledS {I B : Addr} {fp wr : List Addr} {G : Array GenState → Array GenState → Prop} {n : Nat} {Pv : Nat → Value → Prop} {St : Nat → Shared → Prop} {R : Result → Shared → Prop} (W : WalksS P w A.in1 I fp wr G n Pv St) (hB : B ∉ fp)
    (ks : List Str) (hn : n = ks.length) (few : ks.length + 1 < scanBound) (val : ∀ i v, Pv i v → ∃ x u, ks[i]? = some x ∧ v = Value.str x u) (g : Heap) (gB : g.get? B = none) (gw : ∀ b ∈ wr, g.get? b = none) :
    ∀ (m i : Nat) (s : Shared), n - i = m → i ≤ n → St i s → (∀ b o, g.get? b = some o → s.heap.get? b = some o) → (∃ L, HeldS w s.heap B L ∧ CameS ks i L) →
      (∀ s' L, Moved (B :: wr) G s s' → HeldS w s'.heap B L → CameS ks n L → (∀ b o, g.get? b = some o → s'.heap.get? b = some o) → R (.ok (.ret .none)) s') →
      codeAny (model P w) A (.builtin "set.update.loop" ⟨[.ref B, .ref I], []⟩) R s := by
  have nBw : B ∉ wr := fun m => hB (W.sub _ m)
  have more : ∀ b ∈ wr, b ∈ B :: wr := fun b m => List.mem_cons_of_mem _ m
  have on : ∀ {s s' : Shared}, Moved wr G s s' → (∀ b o, g.get? b = some o → s.heap.get? b = some o) → ∀ b o, g.get? b = some o → s'.heap.get? b = some o := fun mv k b o e =>
    mv.heap b o (fun m => by rw [gw b m] at e; cases e) (k b o e)
  intro m
  induction m with
  | zero =>
    intro i s em le st kp ⟨L, Z, c⟩ fin
    obtain rfl : i = n := by omega
    refine codeAny_builtin F.entry_set_update_loop ?_
    rw [Around.under_plainId F.plain_set_update_loop _]
    show wpAny _ A.in1 (pyNext (.ref I) >>= _) _ _ s
    refine wpAny_bind (W.done s _ _ st fun s' mv => ?_)
    show wpAny _ A.in1 (ret Value.none) _ _ s'
    exact wpAny_pure (fin s' L (mv.mono more) (Z.at_ fun o e => mv.heap B o nBw e) c (on mv kp))
  | succ m ih =>
    intro i s em le st kp ⟨L, Z, c⟩ fin
    have lt : i < n := by omega
    refine codeAny_builtin F.entry_set_update_loop ?_
    rw [Around.under_plainId F.plain_set_update_loop _]
    show wpAny _ A.in1 (pyNext (.ref I) >>= _) _ _ s
    refine wpAny_bind (W.item i s _ _ lt st fun v s' pv st' mv => ?_)
    obtain ⟨x, u, eq, rfl⟩ := val i v pv
    have kp' := on mv kp
    have Z' : HeldS w s'.heap B L := Z.at_ fun o e => mv.heap B o nBw e
    have lL := c.most
    show wpAny _ A.in1 (holding [Value.str x u] (setAdd B (.str x u)) >>= _) _ _ s'
    refine wpAny_bind (wpAny_holding ?_)
    unfold setAdd
    refine wpAny_holding (wpAny_bind ((strKind P w).pyHash (strKind_is _ _ _ _) ?_))
    have nB : ∀ b o, g.get? b = some o → b ≠ B := fun b o e z => by
      rw [z, gB] at e
      cases e
    refine held_any (s := { s' with toks := s'.toks + 1 }) Z' (by omega) fun b h' L' sb Z2 c1 c2 => ?_
    have kp2 : ∀ b o, g.get? b = some o → h'.get? b = some o := fun b o e => (sb.2 b (nB b o e)).trans (kp' b o e)
    refine wpAny_pure ⟨plainId_quiet F.plain_set_update_loop _, ih (i + 1) _ (by omega) lt (W.frame _ s' _ _ st' (Nat.le_add_right _ _) fun b m o e => ?_) kp2 ⟨L', Z2, c.step eq c1 c2⟩ fun s'' L2 mv2 Z3 c3 kp3 => ?_⟩
    · rw [sb.2 b fun z => hB (z ▸ m)]
      exact e
    · refine fin s'' L2 (Moved.trans W.gtrans ((mv.mono more).then_heap (Nat.le_add_right _ _) fun b o m e => ?_) mv2) Z3 c3 kp3
      rw [sb.2 b fun z => m (by rw [z]; exact List.mem_cons_self)]
      exact e
/-- what is left when set(..) has run -/
def TextsMade (w : World) (s : Shared) (ks : List Str) (s2 : Shared) : Prop := ∃ h' tk L, s2 = { s with heap := h', toks := tk } ∧ HeldS w h' s.heap.objs.size L ∧ CameS ks ks.length L ∧ ∀ b o, s.heap.get? b = some o → h'.get? b = some o
theorem call_set_texts {s : Shared} {l : Addr} {its : Array Value} (ks : List Str) {Q : Value → Shared → Prop} (calm : A.handled = none) (il : s.heap.IsTuple l its) (ev : ∀ (i : Nat) v, its[i]? = some v → ∃ x u, ks[i]? = some x ∧ v = Value.str x u) (isz : its.size = ks.length)
    (few : ks.length + 1 < scanBound) (q : ∀ s2, TextsMade w s ks s2 → Q (.ref s.heap.objs.size) s2) : wpAny (model P w) A (call (.type "set") [.ref l]) Q E s := by
  obtain ⟨c, tl, mro⟩ := F.called_set.mro
  have made := F.called_set.made
  have sub := F.called_set.sub
  refine wpAny_call (codeAny_of_tree ?_)
  show wpAny _ _ (callAny (.type "set") _) _ _ _
  refine wpAny_pure ⟨Code.quiet_builtin _ (by decide +kernel), codeAny_builtin F.entry_type_call ?_⟩
  rw [Around.under_plain (weight_type_call_type "set" [.ref l] []) rfl]
  have z1 := F.called_set.notType
  have z2 := F.called_set.canCreate
  have z3 := F.typeCall_set_1 (.ref l)
  repeat (any_goals (first | assumption | wp_step))
  refine codeAny_mono (code_set_led1 (.ref l) (E := E) (Q₁ := fun v s1 => v = .ref s.heap.objs.size ∧ s1 = { s with heap := s.heap.push (newO w) }) ⟨rfl, rfl⟩) fun r s1 hr => ?_
  rcases r with e | fl
  · exact hr
  cases fl with
  | ret obj =>
    obtain ⟨rfl, rfl⟩ := hr
    have at0 : (s.heap.push (newO w)).get? s.heap.objs.size = some (newO w) := Heap.get?_push_size _ rfl
    have T0 : Shared.TypeIs { s with heap := s.heap.push (newO w) } (.ref s.heap.objs.size) "set" := ⟨_, at0, rfl⟩
    have li := F.called_set.init.lookup
    have bi := F.called_set.init.bind (.ref s.heap.objs.size)
    repeat (any_goals (first | assumption | wp_step))
    refine codeAny_mono (codeAny_call_builtin (R := wants (fun r s2 => r = .none ∧ TextsMade w s ks s2) E) F.called_set.init.plain F.entry_set_init (check_set_init_1 T0 ?_)) fun r s2 hr => ?_
    · obtain ⟨⟨oc, od, ob, os⟩, ol, oc', on, ob'⟩ := il
      simp only at oc' ob'
      subst oc'
      subst ob'
      have ol2 := Heap.get?_push_of_some (newO w) ol
      have y1 := F.sub_tuple_set
      have y2 := F.sub_tuple_frozenset
      have y3 : (Value.type "tuple" == Value.type "dict") = false := by decide
      have il2 : (s.heap.push (newO w)).IsTuple l its := ⟨_, ol2, rfl, on, rfl⟩
      unfold Builtin.«set.__init__» noKeywords Builtin.Frozenset.updateFrom
      generalize hPI : pyIter = PI
      wp_walk
      subst hPI
      refine wpAny_pyIter_tuple il2 (wpAny_bind (wpAny_runValue ?_))
      have lS : l < s.heap.objs.size := Heap.lt_size ol
      have calm3 : A.in1.in1.in1.handled = none := by simp [calm]
      have szp : (s.heap.push (newO w)).objs.size = s.heap.objs.size + 1 := Heap.size_push ..
      have lI : l ≠ (s.heap.push (newO w)).objs.size := by
        rw [szp]
        exact Nat.ne_of_lt (Nat.lt_succ_of_lt lS)
      have free : ∀ b, s.heap.objs.size ≤ b → s.heap.get? b = none := fun b le => by
        cases e : s.heap.get? b with
        | none => rfl
        | some o => exact absurd (Heap.lt_size e) (Nat.not_lt.mpr le)
      refine filledS ((Walks.tuple calm3 _ l lI its).toS) (B := s.heap.objs.size) (fun m => ?_) ks isz few (fun i v e => ev i v e) s.heap (free _ (Nat.le_refl _)) (fun b m => free b ?_) (its.size - 0) 0 _ rfl (Nat.zero_le _)
        ⟨⟨_, Heap.get?_push_size _ rfl, rfl, rfl⟩, il2.push _⟩ (fun b o e => Heap.get?_push_of_some _ (Heap.get?_push_of_some _ e)) ⟨[], (held_new (w := w) (s := s)).at_ fun o e => Heap.get?_push_of_some _ e, fun q m => (nomatch m), fun q m => (by simp at m), Nat.le_refl _⟩ fun s' L mv Z c kp => ?_
      · rcases List.mem_cons.mp m with e | m
        · rw [szp] at e
          exact absurd e (Nat.ne_of_lt (Nat.lt_succ_self _))
        · have e := List.mem_singleton.mp m
          rw [← e] at lS
          exact absurd lS (Nat.lt_irrefl _)
      · rw [List.mem_singleton.mp m, szp]
        exact Nat.le_succ _
      · obtain ⟨h', g', d', tk, os'⟩ := s'
        obtain rfl : g' = s.gens := mv.gens
        obtain rfl : d' = s.drawn := mv.drawn
        obtain rfl : os' = s.os := mv.os
        show wpAny _ _ _ _ _ _
        refine wpAny_pure ?_
        show wpAny _ _ (ret Value.none) _ _ _
        rw [isz] at c
        exact wpAny_pure ⟨rfl, h', tk, L, rfl, Z, c, kp⟩
    · rcases r with e | fl
      · exact hr
      cases fl with
      | ret r =>
        obtain ⟨rfl, mk⟩ := hr
        repeat (any_goals (first | assumption | wp_step))
        exact q _ mk
      | _ => exact hr.elim
  | _ => exact hr.elim
end
end Kd

-- ===== KN2 =====
set_option Elab.async false
set_option linter.all false
set_option maxRecDepth 100000
set_option maxHeartbeats 4000000
namespace Kd
open PySem L2 PyProof.Rows PySem.Spec PySem.W
section
variable {X : Cx} {CX : CXT} {k : Nat} {f : Addr} {fd : FuncData} {ps ks : List Str} {sp : Sp} {x : Str} {p pos : Pos} {tk : TA} {E : XK} {kws : List Keyword} {g : List Value → List Value → List Value} {gV : List V → List V → List V}
/-- f(k = v, ..), nothing by position -/
theorem pe_callK0 (F : FnOk X.prog X.w X.K X.mg X.base CX k f fd ps sp) (hr : Room k X.A) (hg : Gl X x) (hm : X.mg x = some (.ref f)) (hk : PySem.W.keepIn X.K (.ref f) = true) (hb : KBinds X.K fd ps ks g gV) (hx : Passes CX X E)
    (hkw : PK X kws tk) (hall : (backToKw pos (keywordEach kws X.env)).all (·.1.isSome) = true := by rfl) (hks : (backToKw pos (keywordEach kws X.env)).filterMap (·.1) = ks := by rfl)
    (hdb : (x == ("__debug__" : Str)) = false := by decide)
    (hpl : ((backTo pos (starEach [] X.env)).any (·.1) || (backToKw pos (keywordEach kws X.env)).any (·.1.isNone)) = false := by rfl) :
    PE X (.Call (.Name x p) [] kws pos) (tCallK sp gV E tNil tk) := by
  refine ⟨fun pins s σ H Q I h => ?_⟩
  refine wpAny_Call_Name_kw (ld_glob I hg hm ?_ hdb)
  refine PySem.W.callWith_KW0 (h₀ := X.base) I.ok.mod.kin hk hall (thn (hkw.run pos pins s σ H _ I h) fun ws s2 ⟨zs, H2, I2, rz, q2⟩ => ⟨I2.kIn, ?_⟩) hpl
  rw [hks]
  exact run_fnk F hr hb hx I2 (us := []) (vs := []) .nil rz q2
end
section
variable {X : Cx}
/-- x in t, t a tuple of data -/
def rInDT (K : PySem.W.Frag) : R2 := fun x y H Q => ∃ d ds, Dp K H x d ∧ Dp K H y (.tuple ds) ∧ SeqAt.shaped d = true ∧ SeqAt.shaped (.tuple ds) = true ∧ Q (.bl (ds.any fun z => PyData.eqv z d)) H
theorem op_inDT (hu : X.A.units + 65 < cLine) : OpR X (compareOp .In) (rInDT X.K) := by
  intro pins s σ H x y v u Q I rx ry h
  obtain ⟨d, ds, hd, he, sd, se, q⟩ := h
  obtain ⟨as, r1⟩ := Dp.reads I d x v hd rx
  obtain ⟨bs, r2⟩ := Dp.reads I (.tuple ds) y u he ry
  exact SeqAt.in_tuple_reads r2 r1 (SeqAt.canLay_of_shaped se) (SeqAt.canLay_of_shaped sd) (room_in_shaped sd hu) ⟨.bl _, H, I, rfl, q⟩
/-- a list times an int; the new list is none of the model's own -/
def rRepL : R2 := fun x y H Q => ∃ l k xs, x = .ref l ∧ y = .int k ∧ H l = some (.lst xs) ∧ -(2 ^ 63) ≤ k ∧ k < 2 ^ 63 ∧ xs.length * k.toNat ≤ sizeLine ∧
  ∀ p, H p = none → sysModules < p → Q (.ref p) (upd H p (.lst (List.replicate k.toNat xs).flatten))
theorem op_repL : OpR X (binaryOp .Mult) rRepL := by
  intro pins s σ H x y v u Q I rx ry h
  obtain ⟨l, k, xs, rfl, rfl, hH, h1, h2, hz, q⟩ := h
  cases rx
  obtain ⟨t, rfl⟩ := ry
  obtain ⟨z, its, n, r, hl, e⟩ := I.lstM hH
  have hlen : its.toArray.size * k.toNat ≤ sizeLine := by rw [List.size_toArray, ← hl]; exact hz
  have hcap : ¬ its.toArray.size * k.toNat > (2 ^ 63 - 1) / 8 := by
    have : (sizeLine : Nat) ≤ (2 ^ 63 - 1) / 8 := by decide
    omega
  have hfit : ¬ (!Builtin.List.listFitsIndex k) = true := by
    rw [fitsIndex_both h1 h2]
    exact Bool.false_ne_true
  have hlong : ¬ Builtin.List.listTooLong (its.toArray.size * k.toNat) = true := by
    rw [notLongL hlen]
    exact Bool.false_ne_true
  have hnew : List.foldl (fun x1 x2 => x1 ++ x2) #[] (List.replicate (if its.toArray.isEmpty = true then 0 else k.toNat) its.toArray) = (List.replicate k.toNat its).flatten.toArray := by
    have f0 : ∀ m : Nat, List.foldl (fun x1 x2 => x1 ++ x2) #[] (List.replicate m its.toArray) = (List.replicate m its).flatten.toArray := fun m => by
      have := foldl_rep its m []
      rw [List.nil_append] at this
      exact this
    rw [f0]
    cases its with
    | nil => simp
    | cons a r' => rw [if_neg (by simp)]
  refine wpAny_binaryOp_repeat_ref (T := "list") (U := "int") (by decide) ⟨_, e, rfl⟩ (fun s' => typeIs_int s' k t) noFill_list_mul F.fills_int_mul F.slot_int_rmul repeat_list F.slot_int_index.lookup
    (call_meets F.slot_int_rmul (typeIs_int s k t) F.entry_int_rmul (F.args_int_rmul_2 _ _) (int___rmul___int_list k t l its.toArray n)
      ⟨e, rfl, ⟨_, e, rfl⟩, call_meets F.slot_list_mul ⟨_, e, rfl⟩ F.entry_list_mul (F.args_list_mul_2 _ _) (AutoListH.list___mul___list_int_3 l its.toArray n k t hfit hcap hlong) ⟨e, ?_⟩⟩)
  rw [hnew]
  exact ⟨.ref _, _, I.lnew (t' := s.toks) (r.rep k.toNat) (by rw [PyProof.Rows.lm_len_rep_flat, Nat.mul_comm]; exact hz), rfl, q _ I.fresh I.big⟩
end
/-- what is read off stands -/
theorem reads_in {h : Heap} {v : Value} {d : PyData} {as : List Addr} (r : Reads h v d as) : ∀ a ∈ as, ∃ o, h.get? a = some o :=
  Reads.rec (motive_1 := fun _ _ as _ => ∀ a ∈ as, ∃ o, h.get? a = some o) (motive_2 := fun _ _ as _ => ∀ a ∈ as, ∃ o, h.get? a = some o)
    (fun a m => nomatch m) (fun _ a m => nomatch m) (fun _ _ a m => nomatch m) (fun _ _ a m => nomatch m)
    (fun ho _ _ _ ih a m => by
      rcases List.mem_cons.mp m with e | m
      · exact ⟨_, by rw [e]; exact ho⟩
      · exact ih a m)
    (fun _ _ _ _ ih a m => ih a m)
    (fun ho _ _ _ _ ih1 ih2 a m => by
      rcases List.mem_append.mp m with m | m
      · rcases List.mem_cons.mp m with e | m
        · exact ⟨_, by rw [e]; exact ho⟩
        · exact ih1 a m
      · exact ih2 a m)
    (fun a m => nomatch m)
    (fun _ _ ih1 ih2 a m => by
      rcases List.mem_append.mp m with m | m
      · exact ih1 a m
      · exact ih2 a m) r
/-! ### sorted(xs), xs a list or a tuple of data -/
/-- items told with the data that they are -/
def DpRows {β : Type} (enc : β → PyData) (K : PySem.W.Frag) (H : Hp) (L : List (Addr × β)) : Prop := ∀ q ∈ L, Dp K H (.ref q.1) (enc q.2)
def rSortX {β : Type} (enc : β → PyData) (K : PySem.W.Frag) : List V → Hp → VK → Prop := fun vs H Q => ∃ (a : Addr) (L : List (Addr × β)), vs = [V.ref a] ∧ (SqL K H a (L.map fun q => V.ref q.1) ∨ SqT K H a (L.map fun q => V.ref q.1)) ∧ DpRows enc K H L ∧ AllAlike (L.map fun q => enc q.2) ∧ Sortable (L.map fun q => enc q.2) ∧ (∀ q ∈ L, (enc q.2).depth ≤ 60) ∧ L.length ≤ 100000 ∧
  ∀ p, H p = none → Q (.ref p) (upd H p (.lst ((L.mergeSort (dataLe false fun q => enc q.2)).map fun q => V.ref q.1)))
section
variable {X : Cx} {β : Type} {enc : β → PyData}
theorem refs_of : ∀ {L : List (Addr × β)} {us : List Value}, Vals (L.map fun q => V.ref q.1) us → us = L.map fun q => Value.ref q.1
  | [], _, .nil => rfl
  | q :: ks, _, .cons r t => by
    cases r
    rw [refs_of t]
    rfl
theorem refs_are : ∀ (L : List (Addr × β)), Vals (L.map fun q => V.ref q.1) (L.map fun q => Value.ref q.1)
  | [] => .nil
  | q :: ks => .cons rfl (refs_are ks)
theorem cr_sortX (hu : X.A.units + 80 < cLine) : CallR X (.builtin "sorted") (rSortX enc X.K) := by
  intro pins s σ H vs us Q I r h
  obtain ⟨a, L, rfl, hl, hk, al, so, dp, sz, q⟩ := h
  rw [Vals.ref1 r]
  have big := sizeLine_eq
  have each : ∀ (R : Value → Addr × β → Prop) (M : List (Addr × β)), (∀ q ∈ M, R (.ref q.1) q) → EachIs R (M.map fun q => Value.ref q.1) M := by
    intro R M
    induction M with
    | nil => exact fun _ => .nil
    | cons x M ih => exact fun g => .cons (g x List.mem_cons_self) (ih fun y m => g y (List.mem_cons_of_mem _ m))
  have eout : ∀ {o : List Value} {M : List (Addr × β)}, EachIs (fun v q => v = Value.ref q.1) o M → o = M.map fun q => Value.ref q.1 := by
    intro o M z
    induction z with
    | nil => rfl
    | cons e _ ih => rw [e, ih]; rfl
  have rd : ∀ q ∈ L, ∃ as, Reads s.heap (.ref q.1) (enc q.2) as := fun q m => Dp.reads I (enc q.2) (.ref q.1) (.ref q.1) (hk q m) rfl
  have lz : ((L.mergeSort (dataLe false fun q => enc q.2)).map fun q => V.ref q.1).length ≤ sizeLine := by
    rw [List.length_map, List.length_mergeSort]
    omega
  rcases hl with hl | hl
  · obtain ⟨its, rv, il, _⟩ := I.list hl
    have ei := refs_of rv
    subst ei
    refine sorted_data (R := fun v q => v = Value.ref q.1) (enc := fun q : Addr × β => enc q.2) (bs := L) il.isList (each _ L fun q _ => rfl) (each _ L rd) al so (by omega) (fun b m => by have z := dp b m; omega) fun out lo eo => ?_
    have eo' := eout eo
    subst eo'
    obtain ⟨ep, he⟩ := PyProof.Rows.sortedAll_at s.heap (L.map fun q => Value.ref q.1) (((L.mergeSort (dataLe false fun q => enc q.2)).map fun q => Value.ref q.1).toArray)
    exact ⟨.ref _, upd H (s.heap.objs.size + 1) (.lst ((L.mergeSort (dataLe false fun q => enc q.2)).map fun q => V.ref q.1)), I.laid (t' := s.toks) (fun _ _ => PyProof.Rows.sortedAll_old) (Nat.le_succ _) ⟨lz, _, ep, refs_are _, he⟩, rfl, q _ (I.hok.fresh (Nat.le_succ _))⟩
  · obtain ⟨its, rv, ⟨o, ho, hc, n, hd⟩, _⟩ := I.tuple hl
    have ei := refs_of rv
    subst ei
    refine Calls.call_function_entry kind_sorted plain_sorted entry_sorted (args_sorted1 _) ?_
    unfold Builtin.«sorted»
    refine wpAny_bind (m := checkCount "sorted" 1 1 _) (wpAny_pure ?_)
    refine wpAny_bind (wpAny_collect_seq (A := X.A.in1) a (.inr rfl) ho hc hd (hsz := by rw [List.size_toArray, List.length_map]; omega) fun h' hk' => ?_)
    have I1 : Inv X pins σ H { s with heap := h' } := I.kept (t' := s.toks) hk'
    rw [show (L.map fun q => Value.ref q.1).toArray.toList = L.map fun q => Value.ref q.1 by simp]
    refine wpAny_bind (wpAny_newList ?_ (by rw [List.length_map]; omega))
    have oL : (h'.push (seqObj "list" (L.map fun q => Value.ref q.1).toArray 0)).get? h'.objs.size = some (seqObj "list" (L.map fun q => Value.ref q.1).toArray 0) := Heap.get?_push_size _ rfl
    have al' : ∀ q ∈ L, ∃ as, Reads (h'.push (seqObj "list" (L.map fun q => Value.ref q.1).toArray 0)) (.ref q.1) (enc q.2) as ∧ h'.objs.size ∉ as := fun q m => by
      obtain ⟨as, r1⟩ := Dp.reads I1 (enc q.2) (.ref q.1) (.ref q.1) (hk q m) rfl
      refine ⟨as, PyProof.Rows.Reads.keeps (fun b u e => Heap.get?_push_of_some _ e) r1, fun z => ?_⟩
      obtain ⟨o2, e2⟩ := reads_in r1 _ z
      exact absurd (Heap.lt_size e2) (Nat.lt_irrefl _)
    refine wpAny_bind (wpAny_holding (list_sort_data (s := { s with heap := h'.push (seqObj "list" (L.map fun q => Value.ref q.1).toArray 0) }) (R := fun v q => v = Value.ref q.1) (enc := fun q : Addr × β => enc q.2) (bs := L) oL (each _ L fun q _ => rfl)
      (each _ L al') al so (by omega) (fun b m => by have z := dp b m; have y : X.A.in1.units ≤ X.A.units + 1 := (by simp only [Around.in1]; omega); omega) fun out lo eo => ?_))
    have eo' := eout eo
    subst eo'
    obtain ⟨c, hc2⟩ := sortedHeap_at (vs := L.map fun q => Value.ref q.1) (out := (List.toArray ((L.mergeSort (dataLe false fun q => enc q.2)).map fun q => Value.ref q.1))) oL
    have kp2 : ∀ b u, h'.get? b = some u → (sortedHeap (h'.push (seqObj "list" (L.map fun q => Value.ref q.1).toArray 0)) h'.objs.size (L.map fun q => Value.ref q.1) (List.toArray ((L.mergeSort (dataLe false fun q => enc q.2)).map fun q => Value.ref q.1))).get? b = some u := fun b u z => by
      have lt := Heap.lt_size z
      rw [sortedHeap_old (Nat.ne_of_lt lt) (by rw [size_push']; exact Nat.lt_succ_of_lt lt)]
      exact Heap.get?_push_of_some _ z
    refine wpAny_pure ⟨_, rfl, ?_⟩
    exact ⟨.ref h'.objs.size, upd H h'.objs.size (.lst ((L.mergeSort (dataLe false fun q => enc q.2)).map fun q => V.ref q.1)), I1.laid (t' := s.toks) kp2 (Nat.le_refl _) ⟨lz, _, c, refs_are _, hc2⟩, rfl, q _ (I1.hok.fresh (Nat.le_refl _))⟩
/-- what is sorted, without the places -/
theorem sort_snd (L : List (Addr × β)) : (L.mergeSort (dataLe false fun q => enc q.2)).map Prod.snd = (L.map Prod.snd).mergeSort (dataLe false enc) := List.map_mergeSort fun _ _ _ _ => rfl
end
/-! ### {k: v for ..}, the keys nested tuples, each new -/
/-- in each block of a comprehension -/
abbrev BlksV (X : Cx) (scope : Scope) (p : Cx → Prop) : Prop := ∀ (s : Shared) (H : Hp) (C : Addr) (cl : List (PySem.Str × Addr)) (fp : List Addr), p (X.blk s H scope (compEnvC scope cl C X.env) fp)
section
variable {X : Cx} {pins : List (Addr × Obj)} {σ : L2.St} {H : Hp} {s : Shared}
theorem put_okV {E : Value → Shared → Prop} {D b : Addr} {L : List VRow} {k : NestedKey} {v : V} {r : Value} {Q : Unit → Shared → Prop} (hu : X.A.units + 64 < cLine) (I : Inv X pins σ H s) (hD : H D = some (VDict X.prog X.w D L)) (ks : VKeys H L) (hb : NqV H (.ref b) k) (hd : k.depth ≤ 8) (hn : valW L k = none) (few : L.length < 1000) (rv : RelV v r)
    (h : ∀ s', Inv X pins σ (upd H D (VDict X.prog X.w D (L ++ [(k, b, v)]))) s' → Q () s') : wpAny (model X.prog X.w) X.A (dictSet D (.ref b) r) Q E s := by
  obtain ⟨xs, Dd, rr, lo, _⟩ := vdict_rd I hD ks
  have lx : L.length = xs.length := Paired.length rr
  have big := sizeLine_eq
  refine wpAny_dictSet_heap (knd := nestedKind X.prog X.w) (hsz := by omega) (show X.A.units + 8 < cLine by omega) ⟨nq_is I k hb rfl, hd⟩ Dd fun h' D2 sb => h _ ?_
  have VH := vheld_put rr rv lo hn few D2
  obtain ⟨_, o2, _, _, g1, _⟩ := id VH
  exact d_write I (by rw [hD]; exact True.intro) sb ⟨o2, g1⟩ (vdict_ok VH)
end
section
variable {X : Cx}
/-- {key: val for ta in ia}, the key a nested tuple: D the new dict -/
def tDcV (P : Program) (w : World) (wa : TI) (ga : TG) (tk tv : TE) (vs : List Nat) : TE := fun σ H Q => wa σ H fun J H1 => ∀ D, H1 D = none → ∃ W : Nat → Nat → Hp → Prop, (∃ m, W 0 m (upd H1 D (VDict P w D []))) ∧ ∀ i m H2, W i m H2 →
  (J.stop i H2 ∧ Q (.ref D) H2) ∨ (J.go i H2 ∧ ∃ Nx : Hp → Prop, (∀ H3, Nx H3 → ∃ m', m' < m ∧ W (i + 1) m' H3) ∧ ∀ x H3, J.yld i H2 x H3 → ga x (wipe σ vs) H3 fun σ4 H4 => wipe σ4 vs = wipe σ vs ∧ tk σ4 H4 fun y H5 => tv σ4 H5 fun z H6 =>
    ∃ (L : List VRow) (k : NestedKey) (b : Addr), y = .ref b ∧ NqV H6 (.ref b) k ∧ k.depth ≤ 8 ∧ H6 D = some (VDict P w D L) ∧ VKeys H6 L ∧ valW L k = none ∧ L.length < 1000 ∧ Nx (upd H6 D (VDict P w D (L ++ [(k, b, z)]))))
theorem pe_dcV {kx vx ta ia : Expr} {scope : Scope} {own : List (PySem.Str × Nat)} {pos : Pos} {wa : TI} {ga : TG} {tk tv : TE} (hc : X.calm = true) (hN : X.N.Nodup) (hu : X.A.units + 64 < cLine) (hia : PI X ta ia wa) (ok : BlkOk X.N X.env.scope scope own)
    (hga : BlksV X scope fun Y => PG Y ta ga) (hk : BlksV X scope fun Y => PE Y kx tk) (hv : BlksV X scope fun Y => PE Y vx tv) (pa : ∀ x, foldedSetIterable ia X.env x = pure x := by intro _; rfl) :
    PE X (.DictComp kx vx [⟨ta, ia, [], 0⟩] scope pos) (tDcV X.prog X.w wa ga tk tv (own.map (·.2))) := by
  refine ⟨fun pins s σ H Q I h => ?_⟩
  rw [arm_eval_DictComp]
  have caught : ∀ y ∈ scope.names, y.2 = .free → ∃ c, X.env.cells.lookup y.1 = some c := fun y m e => (ok.free y m e).elim (fun k => I.ok.has _ (.inl k)) (fun k => I.ok.has _ (.inr k))
  refine wpAny_comprehension_free (use := none) rfl pa (closure_ok caught) ok.kind (fun y m e => by rw [ok.uniq y m, e]) (thn (hia.run pins s σ H _ I h) fun xv s1 hx => thn hx fun itv s2 h2 => ?_)
  obtain ⟨it, fp, tn, J, H2, rfl, I2, T, st2, f2, q⟩ := h2
  refine wpAny_newObj_type (newEnv_comp ?_)
  generalize eD : s2.heap.objs.size = D
  have D0 : H2 D = none := I2.hok.fresh (Nat.le_of_eq eD)
  obtain ⟨W, ⟨m0, w0⟩, turn⟩ := q D D0
  generalize e3 : ({ s2 with heap := s2.heap.push { cls := .type "dict", data := .dict #[] } } : Shared) = s3
  have hp3 : s3.heap = s2.heap.push { cls := .type "dict", data := .dict #[] } := by rw [← e3]
  have I3 : Inv X pins σ (upd H2 D (VDict X.prog X.w D [])) s3 := by
    rw [← e3]
    refine I2.laid (t' := s2.toks) (fun b o e => Heap.get?_push_of_some _ e) (Nat.le_of_eq eD) ?_
    rw [← eD]
    exact vdict_ok (vheld_new s2.heap I2.big)
  have low : ∀ b ∈ fp, b < s2.heap.objs.size := fun b m => by
    obtain ⟨o, e, _⟩ := T.obj _ _ st2 b m
    exact Heap.lt_size e
  have f3 : ∀ b ∈ fp, FpOk X pins (upd H2 D (VDict X.prog X.w D [])) b ∧ b < s3.heap.objs.size := fun b m => by
    refine ⟨⟨?_, (f2 b m).2⟩, by rw [hp3, Heap.size_push]; exact Nat.lt_succ_of_lt (low b m)⟩
    rw [upd_ne (by rw [← eD]; exact Nat.ne_of_lt (low b m))]
    exact (f2 b m).1
  have st3 : tn 0 s3.heap := T.keep _ _ _ st2 fun b _ o e => by rw [hp3]; exact Heap.get?_push_of_some _ e
  have I4 := block_start I3 ok hN f3
  have ga4 := hga s3 (upd H2 D (VDict X.prog X.w D [])) s3.heap.objs.size (cellsFrom (s3.heap.objs.size + 1) scope.names (cloFrom X.env.cells scope.names [])) fp
  have k4 := hk s3 (upd H2 D (VDict X.prog X.w D [])) s3.heap.objs.size (cellsFrom (s3.heap.objs.size + 1) scope.names (cloFrom X.env.cells scope.names [])) fp
  have v4 := hv s3 (upd H2 D (VDict X.prog X.w D [])) s3.heap.objs.size (cellsFrom (s3.heap.objs.size + 1) scope.names (cloFrom X.env.cells scope.names [])) fp
  show codeAny _ _ (.compStart (.DictComp kx vx [⟨ta, ia, [], 0⟩] scope pos) 0 (.ref it) (.ref D) (compEnvC scope (cellsFrom (s3.heap.objs.size + 1) scope.names (cloFrom X.env.cells scope.names [])) s3.heap.objs.size X.env)) (compPost (model X.prog X.w) X.A X.xe none _ (.ref D) s3.heap.objs.size) { s3 with heap := pushCells (s3.heap.push { cls := .type "dict", data := .dict #[] }) scope.names }
  have fp0 : ∀ b ∈ fp, (upd H2 D (VDict X.prog X.w D [])) b = none := fun b m => (f3 b m).1.1
  generalize ece : compEnvC scope (cellsFrom (s3.heap.objs.size + 1) scope.names (cloFrom X.env.cells scope.names [])) s3.heap.objs.size X.env = ce at I4 ga4 k4 v4 ⊢
  have loc : ce.locals = s3.heap.objs.size := by subst ece; rfl
  generalize upd H2 D (VDict X.prog X.w D []) = H3 at I3 I4 ga4 k4 v4 w0 fp0 f3
  generalize e4 : ({ s3 with heap := pushCells (s3.heap.push { cls := .type "dict", data := .dict #[] }) scope.names } : Shared) = s4 at I4 ⊢
  have st4 : tn 0 s4.heap := T.keep _ _ _ st3 fun b _ o e => by rw [← e4]; exact pushCells_keeps _ _ _ _ (Heap.get?_push_of_some _ e)
  have still : ∀ {τ : L2.St} {G : Hp} {u : Shared}, Inv (X.blk s3 H3 scope ce fp) [] τ G u → (∀ b ∈ fp, G b = none) → ∀ b ∈ fp, FpOk (X.blk s3 H3 scope ce fp) [] G b := fun {τ G u} Iu no b m =>
    ⟨no b m, (Iu.ok.exf b m).1, Iu.ok.exfs b m, .inl m, fun x c e => (Iu.ok.exf b m).2 x c e, fun p z => absurd (show p ∈ ([] : List (Addr × Obj)) ++ [] from z) (by simp)⟩
  refine codeAny_compStart_dict ?loop (T.self X.A 0 _ _ _ st4 ?loop)
  refine compLoop_anyD (fun n u => ∃ i G, Inv (X.blk s3 H3 scope ce fp) [] (wipe σ (own.map (·.2))) G u ∧ tn i u.heap ∧ (∀ b ∈ fp, G b = none) ∧ W i n G) (fun n s5 hI => ?_) m0 ⟨0, H3, I4, st4, fp0, w0⟩
  obtain ⟨i, H5, I5, st5, no5, w5⟩ := hI
  rcases turn i n H5 w5 with ⟨stop, fin⟩ | ⟨go, Nx, hNx, step⟩
  · refine thnF (T.done (X.blk s3 H3 scope ce fp) rfl rfl rfl hc i [] s5 _ H5 (fun _ _ => False) I5 (still I5 no5) st5 stop) fun r s6 ⟨hr, I6⟩ => ?_
    subst hr
    have I7 : Inv X pins σ H5 s6 := I3.call' (ch := fp) I6.os I6.base I6.hok I6.bare fun b m => ⟨(f3 b m).1.2.2.2.1, (f3 b m).1.2.1, (f3 b m).1.2.2.2.2.1, (f3 b m).1.2.2.2.2.2⟩
    have none5 : H5 s3.heap.objs.size = none := by
      have z : H5 ce.locals = none := I6.free
      rwa [loc] at z
    obtain ⟨m, hn, _⟩ := I6.loc
    have hn : s6.heap.Ns ce.locals m := hn
    rw [loc] at hn
    obtain ⟨g0, g1, g2, g3, g4, g5⟩ := I3.fpOk (Nat.le_refl _) none5
    exact ⟨m, hn, fun h'' sb => ⟨.ref D, H5, I7.turned (t' := s6.toks) (fun b o ne e => (sb.2 b ne).trans e) g0 g1 g3 g4 g5, rfl, fin⟩⟩
  · refine thnF (T.item (X.blk s3 H3 scope ce fp) rfl rfl rfl hc i [] s5 _ H5 (fun _ _ => False) I5 (still I5 no5) st5 go) fun r s6 ⟨u, hr, h6⟩ => ?_
    subst hr
    refine thnF h6 fun _ s7 ⟨x, H7, I7, r7, y7, st7, no7⟩ => ?_
    have I7p := I7.pinned (still I7 no7) (T.obj _ _ st7)
    refine thnF (ga4.run _ s7 _ H7 x u _ I7p r7 (step x H7 y7)) fun _ s8 ⟨σ8, H8, I8, wp8, q8⟩ => ?_
    refine thnF ((pts_nil (X := X.blk s3 H3 scope ce fp)).run _ s8 σ8 H8 (fun b G => b = true ∧ tk σ8 G _) I8 ⟨rfl, q8⟩) fun b s9 ⟨H9, I9, eb, q9⟩ => ?_
    subst eb
    simp only [if_true]
    refine thnF (k4.run _ s9 σ8 H9 _ I9 q9) fun z1 s10 ⟨yk, H10, I10, r10, q10⟩ => ?_
    refine thnF (v4.run _ s10 σ8 H10 _ I10 q10) fun z2 s11 ⟨yv, H11, I11, r11, L, k, b, ek, hb, hdp, hD, hks, hnew, room, nx⟩ => ?_
    subst ek
    cases r10
    refine put_okV (X := X.blk s3 H3 scope ce fp) hu I11 hD hks hb hdp hnew room r11 fun s12 I12 => ?_
    obtain ⟨m', lt, w'⟩ := hNx _ nx
    have pinned : ∀ c ∈ fp, ∀ o, s7.heap.get? c = some o → s12.heap.get? c = some o ∧ (upd H11 D (VDict X.prog X.w D (L ++ [(k, b, yv)]))) c = none := fun c m o e =>
      have z := I12.pin (c, o) (List.mem_append_right _ (List.mem_append_right _ (mem_pinsAt m e)))
      ⟨z.1, z.2.1⟩
    refine ⟨m', lt, i + 1, _, (I12.unpinned (pins := [])).weak (by rw [← wp8, wipe_length]) (fun j v e => by rw [← wp8] at e; exact (wipe_some e).1), T.keep _ _ _ st7 fun b m o e => (pinned b m o e).1, fun b m => ?_, w'⟩
    obtain ⟨o, e, _⟩ := T.obj _ _ st7 b m
    exact (pinned b m o e).2
theorem pe_dcVP {P : Program} {w : World} {kx vx ta ia : Expr} {scope : Scope} {own : List (PySem.Str × Nat)} {pos : Pos} {wa : TI} {ga : TG} {tk tv : TE} (hc : X.calm = true) (hN : X.N.Nodup) (hu : X.A.units + 64 < cLine) (hia : PI X ta ia wa) (ok : BlkOk X.N X.env.scope scope own)
    (hga : BlksV X scope fun Y => PG Y ta ga) (hk : BlksV X scope fun Y => PE Y kx tk) (hv : BlksV X scope fun Y => PE Y vx tv) (hP : X.prog = P := by rfl) (hw : X.w = w := by rfl) (pa : ∀ x, foldedSetIterable ia X.env x = pure x := by intro _; rfl) :
    PE X (.DictComp kx vx [⟨ta, ia, [], 0⟩] scope pos) (tDcV P w wa ga tk tv (own.map (·.2))) := by
  subst hP hw
  exact pe_dcV hc hN hu hia ok hga hk hv pa
end
/-! ### the same, the program and the world by their own letters -/
section
variable {X : Cx} {P : Program} {w : World} {o i e f value tg : Expr} {pos pos' apos cpos : Pos} {td ty tv tx : TE}
theorem pe_dnewVP (hP : X.prog = P := by rfl) (hw : X.w = w := by rfl) : PE X (.Dict [] [] pos) (tDNewV P w) := by
  subst hP hw
  exact pe_dnewV
theorem op_inVP (hu : X.A.units + 64 < cLine) (hP : X.prog = P := by rfl) (hw : X.w = w := by rfl) : OpR X (compareOp .In) (rInV P w) := by
  subst hP hw
  exact op_inV hu
theorem pe_getVP (hu : X.A.units + 64 < cLine) (ho : PE X o td) (hi : PE X i ty) (hs : NoSl i) (hP : X.prog = P := by rfl) (hw : X.w = w := by rfl) : PE X (.Subscript o i pos) (tGetV P w td ty) := by
  subst hP hw
  exact pe_getV hu ho hi hs
theorem ps_putVP (hu : X.A.units + 64 < cLine) (ho : PE X o td) (hi : PE X i ty) (hv : PE X value tv) (hs : swapsWith value (some (.Subscript o i pos')) pos.line X.env = pure false) (hP : X.prog = P := by rfl) (hw : X.w = w := by rfl) :
    PS X (.Assign [.Subscript o i pos'] value pos) (sPutV P w td ty tv) := by
  subst hP hw
  exact ps_putV hu ho hi hv hs
theorem pe_setdVP (hu : X.A.units + 64 < cLine) (ho : PE X o td) (he : PE X e ty) (hf : PE X f tx) (m : M2 X o "setdefault" apos e f cpos) (hP : X.prog = P := by rfl) (hw : X.w = w := by rfl) : PE X (.Call (.Attribute o "setdefault" apos) [e, f] [] cpos) (tSetdV P w td ty tx) := by
  subst hP hw
  exact pe_setdV hu ho he hf m
theorem pi_valuesVP (he : PE X e td) (hP : X.prog = P := by rfl) (hw : X.w = w := by rfl) (hbase : attributeBase e "values" X.env (eval e X.env) = eval e X.env := by rfl) (hline : (apos.endLine == cpos.line) = true := by rfl) : PI X tg (.Call (.Attribute e "values" apos) [] [] cpos) (iValsV P w td) := by
  subst hP hw
  exact pi_valuesV he hbase hline
end
end Kd

-- ===== KX13 =====
set_option Elab.async false
set_option linter.all false
set_option maxRecDepth 100000
set_option maxHeartbeats 4000000
namespace Kd
open PySem PySem.Spec PyProof.Rows PySem.W L2
/-- the set of texts at a, its members as they stand in the table -/
def SetTx (w : World) (a : Addr) (L : List Str) : HO := .ext fun h => HeldS w h a L
theorem setTx_ok {P : Program} {w : World} {H : Hp} {h : Heap} {a : Addr} {L : List Str} (R : HeldS w h a L) : ObjOk P w H h a (SetTx w a L) := by
  obtain ⟨o, _, _, _, ho, _⟩ := id R
  exact ⟨R, ⟨o, ho⟩, fun g1 g2 (R1 : HeldS w g1 a L) k => R1.at_ k⟩
abbrev IsTx (v : Value) (x : Str) : Prop := ∃ t, v = Value.str x t
theorem each_tx : ∀ {L : List Str} {us : List Value}, Vals (L.map V.str) us → EachIs IsTx us L
  | [], _, .nil => .nil
  | x :: L, _, .cons r t => by
    obtain ⟨k, rfl⟩ := r
    exact .cons ⟨k, rfl⟩ (each_tx t)
theorem tx_vals {us : List Value} {L : List Str} (e : EachIs IsTx us L) : Vals (L.map V.str) us := by
  induction e with
  | nil => exact .nil
  | cons e _ ih =>
    obtain ⟨t, rfl⟩ := e
    exact .cons ⟨t, rfl⟩ ih
theorem each_len {us : List Value} {L : List Str} (e : EachIs IsTx us L) : us.length = L.length := by
  have z := (tx_vals e).length
  rw [List.length_map] at z
  exact z.symm
theorem each_at {us : List Value} {L : List Str} (e : EachIs IsTx us L) : ∀ (i : Nat) v, us[i]? = some v → ∃ x u, L[i]? = some x ∧ v = Value.str x u := by
  induction e with
  | nil => exact fun i v e => by simp at e
  | @cons v' x us' L' h1 _ ih =>
    intro i v e2
    cases i with
    | zero =>
      obtain ⟨t, rfl⟩ := h1
      exact ⟨x, t, rfl, (Option.some.inj e2).symm⟩
    | succ i => exact ih i v e2
theorem alike_tx (L : List Str) : AllAlike (L.map PyData.str) := fun d hd d' hd' => by
  obtain ⟨x, _, rfl⟩ := List.mem_map.mp hd
  obtain ⟨y, _, rfl⟩ := List.mem_map.mp hd'
  rfl
theorem sortable_tx (L : List Str) : Sortable (L.map PyData.str) := .inr fun d hd => by
  obtain ⟨x, _, rfl⟩ := List.mem_map.mp hd
  exact ⟨(fun z => by cases z), (fun xs z => by cases z)⟩
def srtS (L : List Str) : List Str := L.mergeSort (dataLe false PyData.str)
section
variable {X : Cx}
/-- set(t), t a tuple of texts -/
def rSetX (K : PySem.W.Frag) (w : World) : List V → Hp → VK → Prop := fun vs H Q => ∃ (l : Addr) (ks : List Str), vs = [V.ref l] ∧ SqT K H l (ks.map V.str) ∧ ks.length < 1000 ∧ ∀ a L, H a = none → (∀ x ∈ L, x ∈ ks) → (∀ x ∈ ks, x ∈ L) → L.Nodup → Q (.ref a) (upd H a (SetTx w a L))
theorem cr_setX (hc : X.calm = true) : CallR X (.type "set") (rSetX X.K X.w) := by
  intro pins s σ H vs us Q I r h
  obtain ⟨l, ks, rfl, hl, hf, q⟩ := h
  rw [Vals.ref1 r]
  obtain ⟨its, rv, il, _⟩ := I.tuple hl
  have ev := each_tx rv
  refine call_set_texts ks (I.ok.hd hc) (show s.heap.IsTuple l its.toArray from il) (fun i v e => ?_) (by rw [List.size_toArray]; exact each_len ev) (by unfold scanBound; omega) fun s2 mk => ?_
  · have e2 : its[i]? = some v := by simpa using e
    exact each_at ev i v e2
  · obtain ⟨h', tk, L, rfl, Z, c, kp⟩ := mk
    have nd : L.Nodup := by
      obtain ⟨_, _, _, _, _, _, _, _, _, nd, _⟩ := Z
      exact nd
    exact ⟨.ref s.heap.objs.size, _, I.laid (t' := tk) kp (Nat.le_refl _) (setTx_ok Z), rfl, q _ L (I.hok.fresh (Nat.le_refl _)) (fun x m => List.mem_of_mem_take (c.inn x m)) (fun x m => c.got x (by rw [List.take_length]; exact m)) nd⟩
def rLenX (w : World) : List V → Hp → VK → Prop := fun vs H Q => ∃ (a : Addr) (L : List Str), vs = [V.ref a] ∧ H a = some (SetTx w a L) ∧ Q (.int (L.length : Int)) H
theorem cr_lenX : CallR X (.builtin "len") (rLenX X.w) := by
  intro pins s σ H vs us Q I r h
  obtain ⟨a, L, rfl, ha, q⟩ := h
  rw [Vals.ref1 r]
  have R : HeldS X.w s.heap a L := (I.hok a _ ha).1
  obtain ⟨o, es, ep, t, ho, hex, hd, g, eL, nd, hb, hf, _⟩ := R
  have len : es.size = L.length := by rw [← eL, List.length_map, Array.length_toList]
  refine call_len_set ho hex hd hf (by unfold scanBound at hb; omega) ⟨.int L.length, H, I.tok _, ⟨_, by rw [len]⟩, q⟩
/-- sorted(t), t a tuple of texts -/
def rSortTx (K : PySem.W.Frag) : List V → Hp → VK → Prop := fun vs H Q => ∃ (a : Addr) (L : List Str), vs = [V.ref a] ∧ SqT K H a (L.map V.str) ∧ L.length ≤ 1000 ∧ ∀ p, H p = none → Q (.ref p) (upd H p (.lst ((srtS L).map V.str)))
theorem cr_sortTx (hu : X.A.units + 80 < cLine) : CallR X (.builtin "sorted") (rSortTx X.K) := by
  intro pins s σ H vs us Q I r h
  obtain ⟨a, L, rfl, hl, sz, q⟩ := h
  rw [Vals.ref1 r]
  have big := sizeLine_eq
  have lz : ((srtS L).map V.str).length ≤ sizeLine := by
    unfold srtS
    rw [List.length_map, List.length_mergeSort]
    omega
  obtain ⟨its, rv, ⟨o, ho, hc, n, hd⟩, _⟩ := I.tuple hl
  have ev := each_tx rv
  have il := each_len ev
  refine Calls.call_function_entry kind_sorted plain_sorted entry_sorted (args_sorted1 _) ?_
  unfold Builtin.«sorted»
  refine wpAny_bind (m := checkCount "sorted" 1 1 _) (wpAny_pure ?_)
  refine wpAny_bind (wpAny_collect_seq (A := X.A.in1) a (.inr rfl) ho hc hd (hsz := by rw [List.size_toArray]; omega) fun h' hk' => ?_)
  have I1 : Inv X pins σ H { s with heap := h' } := I.kept (t' := s.toks) hk'
  rw [show its.toArray.toList = its by simp]
  refine wpAny_bind (wpAny_newList ?_ (by omega))
  have oL : (h'.push (seqObj "list" its.toArray 0)).get? h'.objs.size = some (seqObj "list" its.toArray 0) := Heap.get?_push_size _ rfl
  refine wpAny_bind (wpAny_holding (list_sort_data (s := { s with heap := h'.push (seqObj "list" its.toArray 0) }) (R := IsTx) (enc := PyData.str) (bs := L) oL ev
    (ev.mono fun v x ⟨t, e⟩ => ⟨[], by rw [e]; exact Reads.str x t, fun z => by cases z⟩) (alike_tx L) (sortable_tx L) (by omega) (fun b m => by have y : X.A.in1.units ≤ X.A.units + 1 := (by simp only [Around.in1]; omega); have z : (PyData.str b).depth = 0 := rfl; omega) fun out lo eo => ?_))
  obtain ⟨c, hc2⟩ := sortedHeap_at (vs := its) (out := out.toArray) oL
  have kp2 : ∀ b u, h'.get? b = some u → (sortedHeap (h'.push (seqObj "list" its.toArray 0)) h'.objs.size its out.toArray).get? b = some u := fun b u z => by
    have lt := Heap.lt_size z
    rw [sortedHeap_old (Nat.ne_of_lt lt) (by rw [size_push']; exact Nat.lt_succ_of_lt lt)]
    exact Heap.get?_push_of_some _ z
  exact wpAny_pure ⟨_, rfl, .ref h'.objs.size, upd H h'.objs.size (.lst ((srtS L).map V.str)), I1.laid (t' := s.toks) kp2 (Nat.le_refl _) ⟨lz, _, c, tx_vals eo, hc2⟩, rfl, q _ (I1.hok.fresh (Nat.le_refl _))⟩
def valS (v : Value) : Str := match v with
  | .str x _ => x
  | _ => Str.empty
theorem each_vals {vs : List Value} (h : ∀ v ∈ vs, ∃ x t, v = Value.str x t) : EachIs IsTx vs (vs.map valS) := by
  induction vs with
  | nil => exact .nil
  | cons v vs ih =>
    obtain ⟨x, t, rfl⟩ := h v List.mem_cons_self
    exact .cons ⟨t, rfl⟩ (ih fun u m => h u (List.mem_cons_of_mem _ m))
/-- sorted(s), s a set of texts -/
def rSortX2 (w : World) : List V → Hp → VK → Prop := fun vs H Q => ∃ (a : Addr) (L : List Str), vs = [V.ref a] ∧ H a = some (SetTx w a L) ∧ L.length ≤ 1000 ∧ ∀ (L1 : List Str) p, L1.Perm L → H p = none → Q (.ref p) (upd H p (.lst ((srtS L1).map V.str)))
theorem cr_sortX2 (hc : X.calm = true) (hu : X.A.units + 80 < cLine) : CallR X (.builtin "sorted") (rSortX2 X.w) := by
  intro pins s σ H vs us Q I r h
  obtain ⟨a, L, rfl, ha, sz, q⟩ := h
  rw [Vals.ref1 r]
  have big := sizeLine_eq
  have R : HeldS X.w s.heap a L := (I.hok a _ ha).1
  obtain ⟨o, es, ep, t, ho, hex, hd, g, eL, nd, hb, hf, ris, ld⟩ := R
  refine Calls.call_function_entry kind_sorted plain_sorted entry_sorted (args_sorted1 _) ?_
  unfold Builtin.«sorted»
  refine wpAny_bind (m := checkCount "sorted" 1 1 _) (wpAny_pure ?_)
  refine wpAny_bind (collect_set (A := X.A.in1) (I.ok.hd hc) ⟨o, ho, hex.1, hd⟩ hf hb ris ld fun s1 vs kp gr g1 o1 pm => ?_)
  have all : ∀ v ∈ vs, ∃ x t, v = Value.str x t := fun v m => by
    obtain ⟨e, me, rfl⟩ := List.mem_map.mp (pm.mem_iff.mp m)
    obtain ⟨u, eu, _⟩ := g e me
    exact ⟨_, u, eu⟩
  have ev := each_vals all
  have p1 : (vs.map valS).Perm L := by
    have z := pm.map valS
    rw [List.map_map] at z
    have e2 : es.toList.map (valS ∘ fun e => e.2) = L := by
      rw [← eL]
      exact List.map_congr_left fun e _ => rfl
    rw [e2] at z
    exact z
  generalize vs.map valS = L1 at ev p1
  have il := each_len ev
  have l1 := p1.length_eq
  have lz : ((srtS L1).map V.str).length ≤ sizeLine := by
    unfold srtS
    rw [List.length_map, List.length_mergeSort]
    omega
  refine wpAny_bind (wpAny_newList ?_ (by omega))
  have oL : (s1.heap.push (seqObj "list" vs.toArray 0)).get? s1.heap.objs.size = some (seqObj "list" vs.toArray 0) := Heap.get?_push_size _ rfl
  refine wpAny_bind (wpAny_holding (list_sort_data (s := { s1 with heap := s1.heap.push (seqObj "list" vs.toArray 0) }) (R := IsTx) (enc := PyData.str) (bs := L1) oL ev
    (ev.mono fun v x ⟨t, e⟩ => ⟨[], by rw [e]; exact Reads.str x t, fun z => by cases z⟩) (alike_tx L1) (sortable_tx L1) (by omega) (fun b m => by have y : X.A.in1.units ≤ X.A.units + 1 := (by simp only [Around.in1]; omega); have z : (PyData.str b).depth = 0 := rfl; omega) fun out lo eo => ?_))
  obtain ⟨c, hc2⟩ := sortedHeap_at (vs := vs) (out := out.toArray) oL
  have kp2 : ∀ b u, s.heap.get? b = some u → (sortedHeap (s1.heap.push (seqObj "list" vs.toArray 0)) s1.heap.objs.size vs out.toArray).get? b = some u := fun b u e => by
    have z := kp b u e
    have lt := Heap.lt_size z
    rw [sortedHeap_old (Nat.ne_of_lt lt) (by rw [size_push']; exact Nat.lt_succ_of_lt lt)]
    exact Heap.get?_push_of_some _ z
  have J : Inv X pins σ (upd H s1.heap.objs.size (.lst ((srtS L1).map V.str))) { s with heap := sortedHeap (s1.heap.push (seqObj "list" vs.toArray 0)) s1.heap.objs.size vs out.toArray, gens := s1.gens, drawn := s1.drawn, toks := s1.toks } :=
    I.call (ch := []) (Un.laid kp2 gr (I.hok.fresh gr)) (I.hok.laid kp2 gr ⟨lz, _, c, tx_vals eo, hc2⟩) (by rw [g1]; exact I.bare) (fun _ z => nomatch z)
  have es' : ({ s1 with heap := sortedHeap (s1.heap.push (seqObj "list" vs.toArray 0)) s1.heap.objs.size vs out.toArray } : Shared) = { s with heap := sortedHeap (s1.heap.push (seqObj "list" vs.toArray 0)) s1.heap.objs.size vs out.toArray, gens := s1.gens, drawn := s1.drawn, toks := s1.toks } := by
    rw [← o1]
  refine wpAny_pure ⟨_, rfl, ?_⟩
  rw [es']
  exact ⟨.ref s1.heap.objs.size, _, J, rfl, q L1 _ p1 (I.hok.fresh gr)⟩
end
end Kd

-- ===== KX1 =====
set_option Elab.async false
set_option linter.all false
set_option maxRecDepth 100000
set_option maxHeartbeats 4000000
namespace PySem.SeqAt
open AutoSeq1 (wpAny_loadPart')
open MeetsSeq
theorem dict_eq_declines_str (l : Addr) (es : Array DictEntry) (n : Nat) (dd : Option Addr) (sl : Array (Option Value)) (b : Str) (u : Tok) :
    Meets (Builtin.«dict.__eq__» ⟨[.ref l, .str b u], []⟩) (fun _ R s => s.heap.get? l = some { cls := .type "dict", dict := dd, data := .dict es n, slots := sl } ∧ R (.ok (.ret .notImplemented)) s) :=
  .of_wp fun prog w A R s h => by obtain ⟨hp, g, d, tk, os⟩ := s; obtain ⟨hl, h⟩ := h; have f1 := F.sub_str_dict; wp_walk using wpAny_loadPart' hl; exact ⟨_, rfl, h⟩
theorem str_eq_declines_dict (b : Str) (u : Tok) (l : Addr) (es : Array DictEntry) (n : Nat) (dd : Option Addr) (sl : Array (Option Value)) :
    Meets (Builtin.«str.__eq__» ⟨[.str b u, .ref l], []⟩) (fun _ R s => s.heap.get? l = some { cls := .type "dict", dict := dd, data := .dict es n, slots := sl } ∧ R (.ok (.ret .notImplemented)) s) :=
  .of_wp fun prog w A R s h => by obtain ⟨hp, g, d, tk, os⟩ := s; obtain ⟨hl, h⟩ := h; wp_walk using wpAny_loadPart' hl, wpAny_load hl; exact ⟨_, rfl, h⟩
end PySem.SeqAt
namespace PySem.SeqAt
open MeetsSeq
theorem RcAt.dict_str {A : Around} {s : Shared} {l : Addr} {es : Array DictEntry} {n : Nat} {dd : Option Addr} {sl : Array (Option Value)} (b : Str) (u : Tok) (ho : s.heap.get? l = some { cls := .type "dict", dict := dd, data := .dict es n, slots := sl }) (hu : A.units < cLine) : RcAt A s (.ref l) (.str b u) false := fun prog w E Q h =>
  rc_eq_decline_or (k := false) ⟨_, ho, rfl⟩ (typeIs_str s b u) (by decide) F.sub_str_dict F.slot_dict_eq F.slot_str_eq_refl
    (fun _ hq => call_meets F.slot_dict_eq ⟨_, ho, rfl⟩ F.entry_dict_eq (F.args_dict_eq_2 _ _) (dict_eq_declines_str l es n dd sl b u) ⟨ho, hq⟩)
    (fun _ hq => call_meets F.slot_str_eq_refl (typeIs_str s b u) F.entry_str_eq (F.args_str_eq_2 _ _) (str_eq_declines_dict b u l es n dd sl) ⟨ho, hq⟩)
    (fun _ hq => wpAny_of_eq (rfl : isSame (.ref l) (.str b u) = pure false) hq) (.inr hu) h
end PySem.SeqAt
namespace Kd
open PySem L2 PyProof.Rows PySem.Spec
/-! ### values of any kind: lists are not looked into, dicts are empty; N of where the lists stand -/
mutual
inductive TZ (N : Addr → Prop) (H : Hp) : V → PyData → Prop
  | non : TZ N H .non .none
  | bl (b : Bool) : TZ N H (.bl b) (.bool b)
  | int (i : Int) : TZ N H (.int i) (.int i)
  | str (x : Str) : TZ N H (.str x) (.str x)
  | lst {a : Addr} {xs : List V} : N a → H a = some (.lst xs) → TZ N H (.ref a) (.list [])
  | tup {a : Addr} {xs : List V} {ds : List PyData} : H a = some (.tup xs) → TZs N H xs ds → TZ N H (.ref a) (.tuple ds)
  | dct {a : Addr} : H a = some (.dK []) → TZ N H (.ref a) (.dict [])
inductive TZs (N : Addr → Prop) (H : Hp) : List V → List PyData → Prop
  | nil : TZs N H [] []
  | cons {v : V} {vs : List V} {d : PyData} {ds : List PyData} : TZ N H v d → TZs N H vs ds → TZs N H (v :: vs) (d :: ds)
end
/-- what a value is made of stands in another heap, too -/
structure Zf (N : Addr → Prop) (H H' : Hp) : Prop where
  l : ∀ a xs, N a → H a = some (.lst xs) → H' a = some (.lst xs)
  t : ∀ a xs, H a = some (.tup xs) → H' a = some (.tup xs)
  d : ∀ a, H a = some (.dK []) → H' a = some (.dK [])
theorem Zf.of {N : Addr → Prop} {H H' : Hp} (s : ∀ a o, H a = some o → H' a = some o) : Zf N H H' := ⟨fun a _ _ e => s a _ e, fun a _ e => s a _ e, fun a e => s a _ e⟩
theorem Zf.trans {N : Addr → Prop} {H H' H2 : Hp} (f : Zf N H H') (g : Zf N H' H2) : Zf N H H2 := ⟨fun a xs n e => g.l a xs n (f.l a xs n e), fun a xs e => g.t a xs (f.t a xs e), fun a e => g.d a (f.d a e)⟩
mutual
theorem TZ.to {N : Addr → Prop} {H H' : Hp} (f : Zf N H H') : ∀ {v : V} {d : PyData}, TZ N H v d → TZ N H' v d
  | _, _, .non => .non
  | _, _, .bl b => .bl b
  | _, _, .int i => .int i
  | _, _, .str x => .str x
  | _, _, .lst n e => .lst n (f.l _ _ n e)
  | _, _, .tup e r => .tup (f.t _ _ e) (TZs.to f r)
  | _, _, .dct e => .dct (f.d _ e)
theorem TZs.to {N : Addr → Prop} {H H' : Hp} (f : Zf N H H') : ∀ {vs : List V} {ds : List PyData}, TZs N H vs ds → TZs N H' vs ds
  | _, _, .nil => .nil
  | _, _, .cons h r => .cons (TZ.to f h) (TZs.to f r)
end
theorem TZs.len {N : Addr → Prop} {H : Hp} : ∀ {vs : List V} {ds : List PyData}, TZs N H vs ds → vs.length = ds.length
  | _, _, .nil => rfl
  | _, _, .cons _ r => by rw [List.length_cons, List.length_cons, r.len]
theorem TZs.at_ {N : Addr → Prop} {H : Hp} : ∀ {vs : List V} {ds : List PyData}, TZs N H vs ds → ∀ {i : Nat} {v : V}, vs[i]? = some v → ∃ d, ds[i]? = some d ∧ TZ N H v d
  | _, _, .nil, i, v, e => by simp at e
  | _, _, .cons h r, 0, v, e => ⟨_, rfl, by rw [← Option.some.inj e]; exact h⟩
  | _, _, .cons h r, i + 1, v, e => r.at_ (i := i) e
theorem TZs.app {N : Addr → Prop} {H : Hp} : ∀ {vs : List V} {ds : List PyData} {us : List V} {es : List PyData}, TZs N H vs ds → TZs N H us es → TZs N H (vs ++ us) (ds ++ es)
  | _, _, _, _, .nil, g => g
  | _, _, _, _, .cons h r, g => .cons h (r.app g)
theorem TZs.take {N : Addr → Prop} {H : Hp} : ∀ {vs : List V} {ds : List PyData} (n : Nat), TZs N H vs ds → TZs N H (vs.take n) (ds.take n)
  | _, _, 0, _ => .nil
  | _, _, n + 1, .nil => .nil
  | _, _, n + 1, .cons h r => .cons h (r.take n)
theorem TZs.drop {N : Addr → Prop} {H : Hp} : ∀ {vs : List V} {ds : List PyData} (n : Nat), TZs N H vs ds → TZs N H (vs.drop n) (ds.drop n)
  | _, _, 0, h => h
  | _, _, n + 1, .nil => .nil
  | _, _, n + 1, .cons h r => r.drop n
/-- the name of a value's type -/
def tyN : PyData → String
  | .none => "NoneType"
  | .bool _ => "bool"
  | .int _ => "int"
  | .str _ => "str"
  | .list _ => "list"
  | .tuple _ => "tuple"
  | .dict _ => "dict"
def isTup : PyData → Bool
  | .tuple _ => true
  | _ => false
def isStr : PyData → Bool
  | .str _ => true
  | _ => false
def isInt : PyData → Bool
  | .int _ => true
  | .bool _ => true
  | _ => false
def isBl : PyData → Bool
  | .bool _ => true
  | _ => false
theorem TZ.ty {K : PySem.W.Frag} {N : Addr → Prop} {H : Hp} {v : V} {d : PyData} (h : TZ N H v d) : TyX K H v (.type (tyN d)) := by
  cases h with
  | non => exact .base .non
  | bl b => exact .base (.bl b)
  | int i => exact .base (.int i)
  | str x => exact .base (.str x)
  | lst _ e => exact .base (.lst e)
  | tup e _ => exact .base (.tup e)
  | dct e => exact .base (.dK e)
theorem kb_all : ([("NoneType", false, false, false, false), ("bool", false, false, true, true), ("int", false, false, true, false), ("str", false, true, false, false), ("list", false, false, false, false), ("tuple", true, false, false, false), ("dict", false, false, false, false)] : List (String × Bool × Bool × Bool × Bool)).all (fun x =>
    kitB x.1 "tuple" == some x.2.1 && kitB x.1 "str" == some x.2.2.1 && kitB x.1 "int" == some x.2.2.2.1 && kitB x.1 "bool" == some x.2.2.2.2) = true := by decide +kernel
theorem kb_of (d : PyData) : kitB (tyN d) "tuple" = some (isTup d) ∧ kitB (tyN d) "str" = some (isStr d) ∧ kitB (tyN d) "int" = some (isInt d) ∧ kitB (tyN d) "bool" = some (isBl d) := by
  have z := kb_all
  simp only [List.all_cons, List.all_nil, Bool.and_true, Bool.and_eq_true, beq_iff_eq] at z
  obtain ⟨z1, z2, z3, z4, z5, z6, z7⟩ := z
  cases d with
  | none => exact ⟨z1.1.1.1, z1.1.1.2, z1.1.2, z1.2⟩
  | bool _ => exact ⟨z2.1.1.1, z2.1.1.2, z2.1.2, z2.2⟩
  | int _ => exact ⟨z3.1.1.1, z3.1.1.2, z3.1.2, z3.2⟩
  | str _ => exact ⟨z4.1.1.1, z4.1.1.2, z4.1.2, z4.2⟩
  | list _ => exact ⟨z5.1.1.1, z5.1.1.2, z5.1.2, z5.2⟩
  | tuple _ => exact ⟨z6.1.1.1, z6.1.1.2, z6.1.2, z6.2⟩
  | dict _ => exact ⟨z7.1.1.1, z7.1.1.2, z7.1.2, z7.2⟩
section
variable {K : PySem.W.Frag} {N : Addr → Prop} {H : Hp} {v : V} {d : PyData} {Q : VK}
theorem TZ.isi_tup (h : TZ N H v d) (q : Q (.bl (isTup d)) H) : rIsi K [v, .ty "tuple"] H Q := ⟨v, .ty "tuple", _, _, _, rfl, .ty "tuple", h.ty, kit_ty (kb_of d).1, q⟩
theorem TZ.isi_str (h : TZ N H v d) (q : Q (.bl (isStr d)) H) : rIsi K [v, .ty "str"] H Q := ⟨v, .ty "str", _, _, _, rfl, .ty "str", h.ty, kit_ty (kb_of d).2.1, q⟩
theorem TZ.isi_int (h : TZ N H v d) (q : Q (.bl (isInt d)) H) : rIsi K [v, .ty "int"] H Q := ⟨v, .ty "int", _, _, _, rfl, .ty "int", h.ty, kit_ty (kb_of d).2.2.1, q⟩
theorem TZ.isi_bl (h : TZ N H v d) (q : Q (.bl (isBl d)) H) : rIsi K [v, .ty "bool"] H Q := ⟨v, .ty "bool", _, _, _, rfl, .ty "bool", h.ty, kit_ty (kb_of d).2.2.2, q⟩
end
/-! ### == of values of any kind -/
def isS (t : Str) : PyData → Bool
  | .str s => decide (s = t)
  | _ => false
def rEqS (N : Addr → Prop) : R2 := fun x y H Q => ∃ d t, TZ N H x d ∧ y = .str t ∧ Q (.bl (isS t d)) H
def rEqE : R2 := fun x y H Q => ∃ a b xs, x = .ref a ∧ y = .ref b ∧ H a = some (.tup xs) ∧ H b = some (.tup []) ∧ Q (.bl xs.isEmpty) H
def rNeE : R2 := fun x y H Q => ∃ a b xs, x = .ref a ∧ y = .ref b ∧ H a = some (.tup xs) ∧ H b = some (.tup []) ∧ Q (.bl (!xs.isEmpty)) H
def rNeL : R2 := fun x y H Q => ∃ a b xs, x = .ref a ∧ y = .ref b ∧ H a = some (.lst xs) ∧ H b = some (.lst []) ∧ Q (.bl (!xs.isEmpty)) H
def rEq1 : R2 := fun x y H Q => ∃ a b s t xs, x = .ref a ∧ y = .ref b ∧ H a = some (.tup (.str s :: xs)) ∧ H b = some (.tup [.str t]) ∧ Q (.bl (decide (s = t) && xs.isEmpty)) H
section
variable {X : Cx} {N : Addr → Prop}
theorem tup_is {pins : List (Addr × Obj)} {σ : L2.St} {H : Hp} {s : Shared} (I : Inv X pins σ H s) {a : Addr} {xs : List V} (e : H a = some (.tup xs)) : ∃ its : List Value, Vals xs its ∧ s.heap.IsTuple a its.toArray := by
  obtain ⟨_, its, rv, o, h1, h2, n, h3⟩ := (show ObjOk X.prog X.w H s.heap a (.tup xs) from I.hok a _ e)
  exact ⟨its, rv, o, h1, h2, n, h3⟩
theorem lst_is {pins : List (Addr × Obj)} {σ : L2.St} {H : Hp} {s : Shared} (I : Inv X pins σ H s) {a : Addr} {xs : List V} (e : H a = some (.lst xs)) : ∃ its : List Value, Vals xs its ∧ s.heap.IsList a its.toArray := by
  obtain ⟨_, its, n, rv, h1⟩ := (show ObjOk X.prog X.w H s.heap a (.lst xs) from I.hok a _ e)
  exact ⟨its, rv, _, h1, rfl, n, rfl⟩
theorem op_eqS (hu : X.A.units < cLine) : OpR X (compareOp .Eq) (rEqS N) := by
  intro pins s σ H x y v u Q I rx ry h
  obtain ⟨d, t, hd, rfl, q⟩ := h
  obtain ⟨tk, rfl⟩ : ∃ tk, u = Value.str t tk := ry
  have fin : ∀ {b : Bool}, SeqAt.RcAt X.A s v (.str t tk) b → Q (.bl b) H → PySem.wpAny (model X.prog X.w) X.A (compareOp .Eq v (.str t tk)) (EP X pins σ Q) X.xe s := fun {b} r q => r X.prog X.w _ _ ⟨.bl b, H, I, rfl, q⟩
  cases hd with
  | non =>
    cases (show v = Value.none from rx)
    exact fin (SeqAt.RcAt.none_str t tk) q
  | bl b =>
    cases (show v = Value.bool b from rx)
    exact fin (SeqAt.RcAt.bool_str b t tk) q
  | int i =>
    obtain ⟨t2, rfl⟩ : ∃ t2, v = Value.int i t2 := rx
    exact fin (SeqAt.RcAt.int_str i t2 t tk) q
  | str z =>
    obtain ⟨t2, rfl⟩ : ∃ t2, v = Value.str z t2 := rx
    refine fin (SeqAt.RcAt.str_str z t2 t tk) ?_
    have e : (z == t) = decide (z = t) := by
      by_cases h : z = t
      · rw [h, decide_eq_true rfl, beq_self_eq_true]
      · rw [decide_eq_false h]
        exact beq_eq_false_iff_ne.mpr h
    rw [e]
    exact q
  | lst _ e =>
    cases (show v = Value.ref _ from rx)
    obtain ⟨its, _, hl⟩ := lst_is I e
    exact fin (SeqAt.RcAt.list_str t tk hl hu) q
  | tup e _ =>
    cases (show v = Value.ref _ from rx)
    obtain ⟨its, _, hl⟩ := tup_is I e
    exact fin (SeqAt.RcAt.tuple_str t tk hl hu) q
  | dct e =>
    cases (show v = Value.ref _ from rx)
    obtain ⟨_, _, vs, _, o, es, ep, h1, h2, h3, _⟩ := (show ObjOk X.prog X.w H s.heap _ (.dK []) from I.hok _ _ e)
    obtain ⟨cls, dd, data, sl⟩ := o
    simp only at h3
    subst h3
    have hc : cls = .type "dict" := h2.1
    subst hc
    exact fin (SeqAt.RcAt.dict_str t tk h1 hu) q
theorem op_eqE (hu : X.A.units < cLine) : OpR X (compareOp .Eq) rEqE := by
  intro pins s σ H x y v u Q I rx ry h
  obtain ⟨a, b, xs, rfl, rfl, ha, hb, q⟩ := h
  cases (show v = Value.ref a from rx)
  cases (show u = Value.ref b from ry)
  obtain ⟨its, rv, hl⟩ := tup_is I ha
  obtain ⟨its2, rv2, hl2⟩ := tup_is I hb
  cases rv2
  have r := SeqAt.RcAt.tuples (A := X.A) (e := fun _ => true) hl hl2 hu (fun j _ h2 => absurd h2 (Nat.not_lt_zero _))
  refine r X.prog X.w _ _ ⟨.bl xs.isEmpty, H, I, ?_, q⟩
  show Value.bool _ = Value.bool _
  cases rv with
  | nil => rfl
  | cons _ _ => simp
theorem op_neE (hu : X.A.units < cLine) : OpR X (compareOp .NotEq) rNeE := by
  intro pins s σ H x y v u Q I rx ry h
  obtain ⟨a, b, xs, rfl, rfl, ha, hb, q⟩ := h
  cases (show v = Value.ref a from rx)
  cases (show u = Value.ref b from ry)
  obtain ⟨its, rv, hl⟩ := tup_is I ha
  obtain ⟨its2, rv2, hl2⟩ := tup_is I hb
  cases rv2
  have r := SeqAt.RcNeAt.tuples (A := X.A) (e := fun _ => true) hl hl2 hu (fun j _ h2 => absurd h2 (Nat.not_lt_zero _))
  refine r X.prog X.w _ _ ⟨.bl (!xs.isEmpty), H, I, ?_, q⟩
  show Value.bool _ = Value.bool _
  cases rv with
  | nil => rfl
  | cons _ _ => simp
theorem op_neL (hu : X.A.units < cLine) : OpR X (compareOp .NotEq) rNeL := by
  intro pins s σ H x y v u Q I rx ry h
  obtain ⟨a, b, xs, rfl, rfl, ha, hb, q⟩ := h
  cases (show v = Value.ref a from rx)
  cases (show u = Value.ref b from ry)
  obtain ⟨its, rv, hl⟩ := lst_is I ha
  obtain ⟨its2, rv2, hl2⟩ := lst_is I hb
  cases rv2
  cases rv with
  | nil => exact SeqAt.RcNeAt.lists (A := X.A) (e := fun _ => true) hl hl2 rfl hu (fun j _ h2 => absurd h2 (Nat.not_lt_zero _)) X.prog X.w _ _ ⟨.bl _, H, I, rfl, q⟩
  | cons _ _ => exact SeqAt.RcNeAt.lists_lengths (A := X.A) hl hl2 (by simp) hu X.prog X.w _ _ ⟨.bl _, H, I, rfl, q⟩
theorem op_eq1 (hu : X.A.units < cLine) : OpR X (compareOp .Eq) rEq1 := by
  intro pins s σ H x y v u Q I rx ry h
  obtain ⟨a, b, z, t, xs, rfl, rfl, ha, hb, q⟩ := h
  cases (show v = Value.ref a from rx)
  cases (show u = Value.ref b from ry)
  obtain ⟨its, rv, hl⟩ := tup_is I ha
  obtain ⟨its2, rv2, hl2⟩ := tup_is I hb
  cases rv2 with
  | cons r2 n2 =>
    cases n2
    cases rv with
    | cons r1 n1 =>
      rename_i u1 us1
      obtain ⟨t2, rfl⟩ := (show ∃ t2, _ = Value.str t t2 from r2)
      obtain ⟨t1, rfl⟩ := (show ∃ t1, u1 = Value.str z t1 from r1)
      have r := SeqAt.RcAt.tuples (A := X.A) (e := fun _ => z == t) hl hl2 hu (fun j h1 h2 => by
        have ej : j = 0 := Nat.lt_one_iff.mp h2
        subst ej
        exact SeqAt.EqAt.str_str z t1 t t2)
      refine r X.prog X.w _ _ ⟨.bl _, H, I, ?_, q⟩
      show Value.bool _ = Value.bool _
      have e : (z == t) = decide (z = t) := by
        by_cases h : z = t
        · rw [h, decide_eq_true rfl, beq_self_eq_true]
        · rw [decide_eq_false h]
          exact beq_eq_false_iff_ne.mpr h
      rw [e]
      have l : xs.length = us1.length := n1.length
      cases n1 with
      | nil => simp
      | cons _ _ => simp
end
end Kd

-- ===== KX2 =====
set_option Elab.async false
set_option linter.all false
set_option maxRecDepth 100000
set_option maxHeartbeats 4000000
/-! list(zip(xs, ys)) of two lists -/
namespace Zx
open PySem PySem.Calls PyProof.Rows PyProof.V PySem.Spec PySem.W
theorem zip_len : typeLookup (.type "zip") "__len__" = pure none := am_miss_of_fast (by decide +kernel)
theorem zip_hint : typeLookup (.type "zip") "__length_hint__" = pure none := am_miss_of_fast (by decide +kernel)
/-- where a zip stands before turn i; T is the tuple that it gave out last -/
structure ZSt (z TI TO i1 i2 l1 l2 : Addr) (xs ys : Array Value) (S : Addr) (i : Nat) (h : Heap) : Prop where
  ti : IsPair h TI (.ref i1) (.ref i2)
  it1 : h.IsListIter i1 l1 i
  it2 : h.IsListIter i2 l2 i
  li1 : h.IsList l1 xs
  li2 : h.IsList l2 ys
  zz : (IsZip h z TI TO .none ∧ ∃ a b, IsPair h TO a b) ∨ ∃ T f oT, IsZipHeld h z TI TO T f ∧ h.get? T = some oT ∧ T ≠ z ∧ T ≠ i1 ∧ T ≠ i2 ∧ T ≠ S
structure Off (S z TI TO i1 i2 l1 l2 : Addr) : Prop where
  z : S ≠ z
  ti : S ≠ TI
  to : S ≠ TO
  i1 : S ≠ i1
  i2 : S ≠ i2
  l1 : S ≠ l1
  l2 : S ≠ l2
section
variable {z TI TO i1 i2 l1 l2 S : Addr} {xs ys : Array Value}
theorem ZSt.keep {h h' : Heap} {i : Nat} (x : ZSt z TI TO i1 i2 l1 l2 xs ys S i h) (o : Off S z TI TO i1 i2 l1 l2) (k : ∀ b u, b ≠ S → h.get? b = some u → h'.get? b = some u) : ZSt z TI TO i1 i2 l1 l2 xs ys S i h' := by
  refine ⟨k _ _ (Ne.symm o.ti) x.ti, x.it1.at fun u e => k _ u (Ne.symm o.i1) e, x.it2.at fun u e => k _ u (Ne.symm o.i2) e, x.li1.at fun u e => k _ u (Ne.symm o.l1) e, x.li2.at fun u e => k _ u (Ne.symm o.l2) e, ?_⟩
  rcases x.zz with ⟨q, a, b, q2⟩ | ⟨T, f, oT, q, q2, r1, r2, r3, r4⟩
  · exact .inl ⟨k _ _ (Ne.symm o.z) q, a, b, k _ _ (Ne.symm o.to) q2⟩
  · exact .inr ⟨T, f, oT, k _ _ (Ne.symm o.z) q, k _ _ r4 q2, r1, r2, r3, r4⟩
variable {prog : Program} {w : World} {A : Around} {E : Value → Shared → Prop} {s : Shared}
theorem zst_item {i : Nat} {x y : Value} {Q : Option Value → Shared → Prop} (D : ZipApart z TI TO i1 i2 l1 l2) (st : ZSt z TI TO i1 i2 l1 l2 xs ys S i s.heap) (hS : S < s.heap.objs.size) (ex : xs[i]? = some x) (ey : ys[i]? = some y)
    (k : ∀ h', ZSt z TI TO i1 i2 l1 l2 xs ys S (i + 1) h' → IsPair h' s.heap.objs.size x y → (∀ c o, c ≠ z → c ≠ TO → c ≠ i1 → c ≠ i2 → s.heap.get? c = some o → h'.get? c = some o) → Q (some (.ref s.heap.objs.size)) { s with heap := h' }) :
    wpAny (model prog w) A (pyNext (.ref z)) Q E s := by
  obtain ⟨ti, it1, it2, li1, li2, zz⟩ := st
  have lt : ∀ {c : Addr} {o : Obj}, s.heap.get? c = some o → s.heap.objs.size ≠ c := fun e => Nat.ne_of_gt (Heap.lt_size e)
  have n1 : s.heap.objs.size ≠ i1 := let ⟨_, e, _⟩ := it1; lt e
  have n2 : s.heap.objs.size ≠ i2 := let ⟨_, e, _⟩ := it2; lt e
  rcases zz with ⟨q, a, b, q2⟩ | ⟨T, f, oT, q, q2, r1, r2, r3, r4⟩
  · refine wpAny_pyNext_zip_item D q ti q2 it1 it2 li1 li2 ex ey fun h' a1 _ a3 a4 a5 _ hk => k h' ⟨hk _ _ D.TIz D.TITO D.TIi1 D.TIi2 ti, a3, a4, ?_, ?_, ?_⟩ a5 hk
    · exact li1.at fun o e => hk _ o D.l1z D.l1TO D.l1i1 D.l1i2 e
    · exact li2.at fun o e => hk _ o D.l2z D.l2TO D.l2i1 D.l2i2 e
    · exact .inr ⟨_, false, _, a1, a5, lt q, n1, n2, Nat.ne_of_gt hS⟩
  · refine wpAny_pyNext_zip_item_held D q q2 ti it1 it2 li1 li2 ex ey fun h' a1 a3 a4 a5 _ hk => k h' ⟨hk _ _ D.TIz D.TIi1 D.TIi2 ti, a3, a4, ?_, ?_, ?_⟩ a5 fun c o c1 _ c3 c4 e => hk c o c1 c3 c4 e
    · exact li1.at fun o e => hk _ o D.l1z D.l1i1 D.l1i2 e
    · exact li2.at fun o e => hk _ o D.l2z D.l2i1 D.l2i2 e
    · exact .inr ⟨T, true, oT, a1, hk _ _ r1 r2 r3 q2, r1, r2, r3, r4⟩
theorem zst_done {i : Nat} {Q : Option Value → Shared → Prop} (hh : A.handled = none) (D : ZipApart z TI TO i1 i2 l1 l2) (st : ZSt z TI TO i1 i2 l1 l2 xs ys S i s.heap) (ex : xs[i]? = none ∨ ys[i]? = none)
    (k : ∀ h', (∀ c o, c ≠ z → c ≠ TO → c ≠ i1 → c ≠ i2 → s.heap.get? c = some o → h'.get? c = some o) → Q none { s with heap := h' }) :
    wpAny (model prog w) A (pyNext (.ref z)) Q E s := by
  obtain ⟨ti, it1, it2, li1, li2, zz⟩ := st
  rcases zz with ⟨q, a, b, q2⟩ | ⟨T, f, oT, q, q2, r1, r2, r3, r4⟩
  · exact wpAny_pyNext_zip_end hh D q ti q2 it1 it2 li1 li2 ex k
  · exact wpAny_pyNext_zip_end_held hh D q q2 ti it1 it2 li1 li2 ex fun h' hk => k h' fun c o c1 _ c3 c4 e => hk c o c1 c3 c4 e
theorem gtne {a b c : Addr} (h : a < b) (g : b < c) : c ≠ a := Nat.ne_of_gt (Nat.lt_trans h g)
/-- the tuples made so far -/
structure ZG (xs ys : Array Value) (S : Addr) (h : Heap) (as : List Addr) : Prop where
  up : as.Pairwise (· < ·)
  lo : ∀ a ∈ as, S < a
  at_ : ∀ (j : Nat) (a : Addr), as[j]? = some a → ∃ x y, xs[j]? = some x ∧ ys[j]? = some y ∧ IsPair h a x y
variable {R : Result → Shared → Prop}
theorem zip_loop (hh : A.handled = none) (D : ZipApart z TI TO i1 i2 l1 l2) (of : Off S z TI TO i1 i2 l1 l2) (zlt : z < S ∧ TO < S ∧ i1 < S ∧ i2 < S) {n : Nat} (lx : xs.size = n) (ly : ys.size = n) (hn : n ≤ sizeLine) (res : Value) {h₁ : Heap}
    (hR : ∀ h' tk acc c as, (∀ b o, b ≠ S → b ≠ z → b ≠ TO → b ≠ i1 → b ≠ i2 → h₁.get? b = some o → h'.get? b = some o) → h'.get? S = some { cls := .type "list", dict := none, data := .seq acc c, slots := #[] } → as.length = n → ZG xs ys S h' as → acc.toList = as.map Value.ref → R (.ok (.ret res)) { s with heap := h', toks := tk }) :
    ∀ (k i : Nat) (h : Heap) (tk c : Nat) (acc : Array Value) (as : List Addr), n - i = k → i ≤ n → ZSt z TI TO i1 i2 l1 l2 xs ys S i h → (∀ b o, b ≠ S → b ≠ z → b ≠ TO → b ≠ i1 → b ≠ i2 → h₁.get? b = some o → h.get? b = some o) →
      h.get? S = some { cls := .type "list", dict := none, data := .seq acc c, slots := #[] } → acc.toList = as.map Value.ref → as.length = i → ZG xs ys S h as →
      codeAny (model prog w) A (.builtin "list.extend.loop" ⟨[.ref S, .ref z, res], []⟩) R { s with heap := h, toks := tk } := by
  intro k
  induction k with
  | zero =>
    intro i h tk c acc as ek hi st kp hS ha hl hG
    have ei : i = n := by omega
    refine codeAny_builtin PySem.F.entry_extend_loop ?_
    rw [Around.under_plainId PySem.F.plain_extend_loop _]
    show wpAny _ A.in1 (pyNext (.ref z) >>= _) _ _ _
    refine wpAny_bind (zst_done (s := { s with heap := h, toks := tk }) (A := A.in1) hh D st (.inl (Array.getElem?_eq_none (by omega))) fun h' hk => ?_)
    refine wpAny_pure (hR h' tk acc c as (fun b o b0 b1 b2 b3 b4 e => hk b o b1 b2 b3 b4 (kp b o b0 b1 b2 b3 b4 e)) (hk S _ of.z of.to of.i1 of.i2 hS) (by omega) ⟨hG.up, hG.lo, fun j a ej => ?_⟩ ha)
    obtain ⟨x, y, e1, e2, e3⟩ := hG.at_ j a ej
    have la := hG.lo a (List.mem_of_getElem? ej)
    exact ⟨x, y, e1, e2, hk a _ (gtne zlt.1 la) (gtne zlt.2.1 la) (gtne zlt.2.2.1 la) (gtne zlt.2.2.2 la) e3⟩
  | succ k ih =>
    intro i h tk c acc as ek hi st kp hS ha hl hG
    have lt : i < n := by omega
    obtain ⟨x, ex⟩ : ∃ x, xs[i]? = some x := ⟨_, Array.getElem?_eq_getElem (by omega)⟩
    obtain ⟨y, ey⟩ : ∃ y, ys[i]? = some y := ⟨_, Array.getElem?_eq_getElem (by omega)⟩
    have sz : acc.size = i := by rw [← Array.length_toList, ha, List.length_map, hl]
    have Sl : S < h.objs.size := Heap.lt_size hS
    refine codeAny_builtin PySem.F.entry_extend_loop ?_
    rw [Around.under_plainId PySem.F.plain_extend_loop _]
    show wpAny _ A.in1 (pyNext (.ref z) >>= _) _ _ _
    refine wpAny_bind (zst_item (s := { s with heap := h, toks := tk }) (A := A.in1) D st Sl ex ey fun h' st' hp hk => ?_)
    dsimp only at hp hk ⊢
    have hS' := hk S _ of.z of.to of.i1 of.i2 hS
    have up : ∀ b o, b ≠ S → h'.get? b = some o → (h'.update S (Obj.mapSeq (·.push (Value.ref h.objs.size)))).get? b = some o := fun b o hb e => (Heap.get?_update_other _ _ (Ne.symm hb)).trans e
    show wpAny _ A.in1 (updateSeq S (·.push (Value.ref h.objs.size)) >>= _) _ _ _
    refine wpAny_bind ?_
    refine wpAny_updateSeq hS' rfl (wpAny_pure ⟨plainId_quiet PySem.F.plain_extend_loop _, ih (i + 1) _ tk _ (acc.push (Value.ref h.objs.size)) (as ++ [h.objs.size]) (by omega) lt (st'.keep of fun b u b0 e => up b u b0 e)
      (fun b o b0 b1 b2 b3 b4 e => up b o b0 (hk b o b1 b2 b3 b4 (kp b o b0 b1 b2 b3 b4 e))) (Heap.get?_update_self _ hS' rfl) (by rw [Array.toList_push, ha, List.map_append]; rfl) (by rw [List.length_append, hl]; rfl) ⟨?_, ?_, ?_⟩⟩) (by rw [sz]; omega) (by show (acc.push (Value.ref h.objs.size)).size ≤ sizeLine + 1; rw [Array.size_push, sz]; omega)
    · refine List.pairwise_append.mpr ⟨hG.up, List.pairwise_singleton _ _, fun a ma b mb => ?_⟩
      rw [List.mem_singleton.mp mb]
      obtain ⟨j, ej⟩ := List.mem_iff_getElem?.mp ma
      obtain ⟨_, _, _, _, e⟩ := hG.at_ j a ej
      exact Heap.lt_size e
    · intro a ma
      rcases List.mem_append.mp ma with m | m
      · exact hG.lo a m
      · rw [List.mem_singleton.mp m]
        exact Sl
    · intro j b ej
      rcases Nat.lt_or_ge j as.length with l | g
      · rw [List.getElem?_append_left l] at ej
        obtain ⟨x', y', e1, e2, e3⟩ := hG.at_ j b ej
        have lb := hG.lo b (List.mem_of_getElem? ej)
        exact ⟨x', y', e1, e2, up b _ (Nat.ne_of_gt lb) (hk b _ (gtne zlt.1 lb) (gtne zlt.2.1 lb) (gtne zlt.2.2.1 lb) (gtne zlt.2.2.2 lb) e3)⟩
      · rw [List.getElem?_append_right g] at ej
        have e0 : j - as.length = 0 := by
          have := (List.getElem?_eq_some_iff.mp ej).1
          simp at this
          omega
        rw [e0] at ej
        have eb : h.objs.size = b := Option.some.inj ej
        have ej2 : j = i := by omega
        subst eb
        rw [ej2]
        exact ⟨x, y, ex, ey, up _ _ (Nat.ne_of_gt Sl) hp⟩
theorem zip_extend (hh : A.handled = none) (D : ZipApart z TI TO i1 i2 l1 l2) (of : Off S z TI TO i1 i2 l1 l2) (zlt : z < S ∧ TO < S ∧ i1 < S ∧ i2 < S) {n : Nat} (lx : xs.size = n) (ly : ys.size = n) (hn : n ≤ sizeLine) (res : Value) (c₀ : Nat)
    (hz : IsZip s.heap z TI TO .none) (st : ZSt z TI TO i1 i2 l1 l2 xs ys S 0 s.heap) (hS : s.heap.get? S = some { cls := .type "list", data := .seq #[] c₀ }) 
    (hR : ∀ h' tk acc c as, (∀ b o, b ≠ S → b ≠ z → b ≠ TO → b ≠ i1 → b ≠ i2 → s.heap.get? b = some o → h'.get? b = some o) → h'.get? S = some { cls := .type "list", dict := none, data := .seq acc c, slots := #[] } → as.length = n → ZG xs ys S h' as → acc.toList = as.map Value.ref → R (.ok (.ret res)) { s with heap := h', toks := tk }) :
    wpAny (model prog w) A.in1 (Builtin.List.listExtendWith (.ref S) (.ref z) res)
      (fun fin s' => match fin with | .done f => R (.ok f) s' | .again c' => c'.quiet = true ∧ codeAny (model prog w) A c' R s') (fun e s' => R (.error e) s') s := by
  have key : ∀ (h : Heap) (c₁ tk : Nat), (∀ b o, b ≠ S → s.heap.get? b = some o → h.get? b = some o) → h.get? S = some { cls := .type "list", data := .seq #[] c₁ } → codeAny (model prog w) A (.builtin "list.extend.loop" ⟨[.ref S, .ref z, res], []⟩) R { s with heap := h, toks := tk } := by
    intro h c₁ tk hk hS₁
    exact zip_loop (s := s) (h₁ := s.heap) hh D of zlt lx ly hn res hR n 0 h tk c₁ #[] [] (Nat.sub_zero _) (Nat.zero_le _) (st.keep of hk) (fun b o b0 _ _ _ _ e => hk b o b0 e) hS₁ rfl rfl ⟨List.Pairwise.nil, (fun _ m => nomatch m), fun j a ej => by simp at ej⟩
  unfold Builtin.List.listExtendWith
  refine wpAny_bind (wpAny_typeOf (T := "zip") ⟨_, hz, rfl⟩ ?_)
  have g1 : Builtin.List.listSameRef (.ref S) (.ref z) = false := by simp [Builtin.List.listSameRef, of.z]
  have g2 : (Value.type "zip" == Value.type "list") = false := by decide
  have g3 : (Value.type "zip" == Value.type "tuple") = false := by decide
  simp only [g1, g2, g3, Bool.or_false, Bool.false_eq_true, if_false]
  refine wpAny_bind (wpAny_pyIter_zip hz ?_)
  refine wpAny_bind (wpAny_holding ?_)
  unfold Builtin.List.listLengthHint
  refine wpAny_bind (wpAny_specialOf (T := "zip") ⟨_, hz, rfl⟩ zip_len ?_)
  show wpAny _ A.in1 (specialOf (Value.ref z) (Str.ofString "__length_hint__") >>= _) _ _ _
  refine wpAny_bind (wpAny_specialOf (T := "zip") ⟨_, hz, rfl⟩ zip_hint ?_)
  refine wpAny_pure ?_
  show wpAny _ A.in1 (rule "list.extend.makes-room" >>= fun _ => Builtin.List.listTouch (.ref S) >>= fun _ => again (.builtin "list.extend.loop" ⟨[.ref S, .ref z, res], []⟩)) _ _ _
  refine wpAny_bind (wpAny_rule ?_)
  refine wpAny_bind ?_
  show wpAny _ A.in1 (updateSeq S (·.push .none) >>= fun _ => updateSeq S (·.pop)) _ _ _
  refine wpAny_bind (wpAny_updateSeq hS rfl ?_)
  have hS₂ := Heap.get?_update_self (Obj.mapSeq (·.push Value.none)) hS rfl
  refine wpAny_updateSeq (hz := by seq_fits) hS₂ rfl ?_
  have hS₃ := Heap.get?_update_self (Obj.mapSeq (·.pop)) hS₂ rfl
  refine wpAny_pure ⟨plainId_quiet PySem.F.plain_extend_loop _, key _ _ _ (fun b o hb e => ?_) hS₃⟩
  exact (Heap.get?_update_other _ _ (Ne.symm hb)).trans ((Heap.get?_update_other _ _ (Ne.symm hb)).trans e)
theorem zip_list (hh : A.handled = none) (D : ZipApart z TI TO i1 i2 l1 l2) {n : Nat} (lx : xs.size = n) (ly : ys.size = n) (hn : n ≤ sizeLine) (lts : z < s.heap.objs.size ∧ TI < s.heap.objs.size ∧ TO < s.heap.objs.size ∧ i1 < s.heap.objs.size ∧ i2 < s.heap.objs.size ∧ l1 < s.heap.objs.size ∧ l2 < s.heap.objs.size)
    (hz : IsZip s.heap z TI TO .none) {a b : Value} (hTI : IsPair s.heap TI (.ref i1) (.ref i2)) (hTO : IsPair s.heap TO a b) (h1 : s.heap.IsListIter i1 l1 0) (h2 : s.heap.IsListIter i2 l2 0) (hl1 : s.heap.IsList l1 xs) (hl2 : s.heap.IsList l2 ys) {Q : Value → Shared → Prop}
    (k : ∀ h' tk acc c as, (∀ b o, b ≠ z → b ≠ TO → b ≠ i1 → b ≠ i2 → s.heap.get? b = some o → h'.get? b = some o) → h'.get? s.heap.objs.size = some { cls := .type "list", dict := none, data := .seq acc c, slots := #[] } → as.length = n → ZG xs ys s.heap.objs.size h' as → acc.toList = as.map Value.ref → Q (.ref s.heap.objs.size) { s with heap := h', toks := tk }) :
    wpAny (model prog w) A (call (.type "list") [.ref z]) Q E s := by
  refine callType_codes (Q₁ := fun obj s₁ => obj = .ref s.heap.objs.size ∧ s₁ = { s with heap := s.heap.push { cls := .type "list", data := .seq #[] } }) PySem.F.called_list (PySem.F.typeCall_list_1 _) PySem.F.entry_list_init (code_list_new _ ⟨rfl, rfl⟩) fun obj s₁ e₁ => ?_
  obtain ⟨rfl, rfl⟩ := e₁
  have hS : (s.heap.push { cls := .type "list", data := .seq #[] }).get? s.heap.objs.size = some { cls := .type "list", data := .seq #[] } := Heap.get?_push_size _ rfl
  have up0 : ∀ b o, s.heap.get? b = some o → (s.heap.push { cls := .type "list", data := .seq #[] }).get? b = some o := fun b o e => Heap.get?_push_of_some _ e
  obtain ⟨g1, g2, g3, g4, g5, g6, g7⟩ := lts
  have of : Off s.heap.objs.size z TI TO i1 i2 l1 l2 := ⟨Nat.ne_of_gt g1, Nat.ne_of_gt g2, Nat.ne_of_gt g3, Nat.ne_of_gt g4, Nat.ne_of_gt g5, Nat.ne_of_gt g6, Nat.ne_of_gt g7⟩
  refine ⟨⟨_, hS, rfl⟩, PySem.F.args_list_init_2 _ _, ?_⟩
  show wpAny _ _ (do let old ← Builtin.List.listItems (.ref s.heap.objs.size); Builtin.List.listUpdate (.ref s.heap.objs.size) (fun _ => #[]); letGo old.toList.reverse; Builtin.List.listExtendWith (.ref s.heap.objs.size) (.ref z) .none) _ _ _
  refine wpAny_bind ?_
  unfold Builtin.List.listItems
  refine wpAny_bind (wpAny_seqItems hS rfl (wpAny_pure ?_))
  show wpAny _ _ (updateSeq s.heap.objs.size (fun _ => #[]) >>= fun _ => letGo (#[] : Array Value).toList.reverse >>= fun _ => Builtin.List.listExtendWith (.ref s.heap.objs.size) (.ref z) .none) _ _ _
  refine wpAny_bind (wpAny_updateSeq hS rfl ?_)
  have hS₂ := Heap.get?_update_self (Obj.mapSeq (fun _ => (#[] : Array Value))) hS rfl
  have oth : ∀ b o, b ≠ s.heap.objs.size → s.heap.get? b = some o → ((s.heap.push { cls := .type "list", data := .seq #[] }).update s.heap.objs.size (Obj.mapSeq (fun _ => (#[] : Array Value)))).get? b = some o := fun b o hb e => (Heap.get?_update_other _ _ (Ne.symm hb)).trans (up0 b o e)
  refine wpAny_bind (wpAny_letGo ?_)
  refine zip_extend (A := A.in1) hh D of ⟨g1, g3, g4, g5⟩ lx ly hn .none _ (oth _ _ (Ne.symm of.z) hz) ⟨oth _ _ (Ne.symm of.ti) hTI, h1.at fun o e => oth _ o (Ne.symm of.i1) e, h2.at fun o e => oth _ o (Ne.symm of.i2) e, hl1.at fun o e => oth _ o (Ne.symm of.l1) e, hl2.at fun o e => oth _ o (Ne.symm of.l2) e, .inl ⟨oth _ _ (Ne.symm of.z) hz, a, b, oth _ _ (Ne.symm of.to) hTO⟩⟩ hS₂ fun h' tk acc c as hk hS' hl hG ha => ?_
  exact ⟨rfl, k h' tk acc c as (fun b o b1 b2 b3 b4 e => hk b o (Nat.ne_of_lt (Heap.lt_size e)) b1 b2 b3 b4 (oth b o (Nat.ne_of_lt (Heap.lt_size e)) e)) hS' hl hG ha⟩
end
end Zx
namespace Kd
open PySem PySem.Spec PyProof.Rows L2 Zx
section
variable {X : Cx} {pins : List (Addr × Obj)} {σ : L2.St} {H H' : Hp} {s : Shared} {h' : Heap}
/-- many new objects at once -/
theorem inv_many {tk : Nat} (I : Inv X pins σ H s) (k : ∀ b u, s.heap.get? b = some u → h'.get? b = some u) (kp : ∀ b u, H b = some u → H' b = some u) (old : ∀ b, b < s.heap.objs.size → H' b = H b)
    (new : ∀ b u, s.heap.objs.size ≤ b → H' b = some u → ObjOk X.prog X.w H' h' b u) : Inv X pins σ H' { s with heap := h', toks := tk } := by
  refine I.call' (ch := []) rfl ⟨fun b o q _ _ _ => k b o q, fun b o q _ _ _ => ⟨o.slots, k b o q⟩, fun b o q n _ => by rw [old b (Heap.lt_size q)]; exact n, fun b o q _ => ⟨o, k b o q⟩, fun b xs q => kp b _ q, fun b o u q => kp b _ q, fun b ps q => ⟨#[], by rw [kp b _ q]; simp⟩⟩ (fun b u q => ?_) I.bare fun b z => by simp at z
  rcases Nat.lt_or_ge b s.heap.objs.size with l | g
  · rw [old b l] at q
    exact (I.hok b u q).stay (fun d v _ y => k d v y) (fun d y => kp d _ y) fun d xs y => kp d _ y
  · exact new b u g q
end
/-- list(zip(xs, ys)), of two lists of one length -/
def tZipL (ta : TA) : TE := fun σ H Q => ta σ H fun vs H1 => ∃ (a b : Addr) (xs ys : List V), vs = [.ref a, .ref b] ∧ H1 a = some (.lst xs) ∧ H1 b = some (.lst ys) ∧ xs.length = ys.length ∧
  ∀ (H' : Hp) (p : Addr) (ts : List Addr), (∀ b o, H1 b = some o → H' b = some o) → H1 p = none → H' p = some (.lst (ts.map V.ref)) → ts.length = xs.length → (∀ (j : Nat) (t : Addr), ts[j]? = some t → H1 t = none ∧ ∃ x y, xs[j]? = some x ∧ ys[j]? = some y ∧ H' t = some (.tup [x, y])) → Q (.ref p) H'
section
variable {X : Cx} {e e2 : Expr} {ta : TA} {p p2 pos pos2 : Pos}
theorem pe_zipL (hc : X.calm = true) (hg : Gl X "list") (hm : X.mg "list" = none) (hg2 : Gl X "zip") (hm2 : X.mg "zip" = none) (ha : PA X [e, e2] ta)
    (h0 : starEach [.Call (.Name "zip" p2) [e, e2] [] pos2] X.env = (false, eval (.Call (.Name "zip" p2) [e, e2] [] pos2) X.env) :: starEach [] X.env := by rfl)
    (hs : starEach [e, e2] X.env = (false, eval e X.env) :: starEach [e2] X.env := by rfl) (hpl : (backTo pos2 (starEach [e2] X.env)).any (·.1) = false := by rfl) :
    PE X (.Call (.Name "list" p) [.Call (.Name "zip" p2) [e, e2] [] pos2] [] pos) (tZipL ta) := by
  refine ⟨fun pins s σ H Q I h => ?_⟩
  refine wpAny_Call_Name_kw (ld_blt I hg hm (show bootBuiltins "list" = some (.type "list") from by decide +kernel) ?_)
  refine PyProof.Rows.callWith_type1 ?_ h0 rfl
  rw [h0]
  show wpAny _ _ (spliced ((false, eval (.Call (.Name "zip" p2) [e, e2] [] pos2) X.env) :: backTo pos (starEach [] X.env))) _ _ s
  refine Calls.spliced_cons ?_
  refine wpAny_Call_Name_kw (ld_blt I hg2 hm2 PyProof.Rows.boot_zip (PyProof.Rows.callWith_type1 (thn (ha.run pos2 pins s σ H _ I h) fun us s1 ⟨vs, H1, I1, r1, q1⟩ => ?_) hs hpl))
  obtain ⟨a, b, xs, ys, ex, hx, hy, hl, q⟩ := q1
  subst ex
  cases r1 with
  | cons r rr =>
    cases rr with
    | cons r' rr =>
      cases rr
      cases r
      cases r'
      obtain ⟨zx, its, n1, rv, g1⟩ := I1.hok a _ hx
      obtain ⟨zy, its2, n2, rv2, g2⟩ := I1.hok b _ hy
      have L1 : s1.heap.IsList a its.toArray := ⟨_, g1, rfl, n1, rfl⟩
      have L2' : s1.heap.IsList b its2.toArray := ⟨_, g2, rfl, n2, rfl⟩
      have la : a < s1.heap.objs.size := Heap.lt_size g1
      have lb : b < s1.heap.objs.size := Heap.lt_size g2
      refine call_zip_2 L1 L2' fun h' hz hTI hTO i1 i2 hsz hk => ?_
      refine Calls.spliced_nil ?_
      have D := PySem.W.ktu_apart s1.heap.objs.size a b la lb
      have lx : its.toArray.size = xs.length := by rw [List.size_toArray]; exact rv.length.symm
      have ly : its2.toArray.size = xs.length := by rw [List.size_toArray, ← rv2.length]; exact hl.symm
      refine zip_list (s := { s1 with heap := h' }) (A := X.A) (I1.ok.hd hc) D lx ly zx (by show _ < h'.objs.size ∧ _; dsimp only; rw [hsz]; refine ⟨?_, ?_, ?_, ?_, ?_, ?_, ?_⟩ <;> (show (_ : Nat) < _; simp only [Addr] at *; omega)) hz hTI hTO i1 i2 (L1.at fun o e => hk _ o e) (L2'.at fun o e => hk _ o e) fun h2 tk acc c as hk2 hS hal hG hacc => ?_
      have nd : as.Nodup := hG.up.imp fun l => Nat.ne_of_lt l
      have Sn : h'.objs.size ∉ as := fun m => Nat.lt_irrefl _ (hG.lo _ m)
      have top : s1.heap.objs.size ≤ h'.objs.size := by rw [hsz]; exact Nat.le_add_right _ _
      have big : ∀ t ∈ as, s1.heap.objs.size ≤ t := fun t m => Nat.le_trans top (Nat.le_of_lt (hG.lo t m))
      have ix : ∀ (j : Nat) (t : Addr), as[j]? = some t → as.idxOf t = j := fun j t ej => by
        obtain ⟨l, e⟩ := List.getElem?_eq_some_iff.mp ej
        rw [← e]
        exact nd.idxOf_getElem j l
      have at_ : ∀ (j : Nat) (t : Addr), as[j]? = some t → ∃ (x y : V) (u u2 : Value), xs[j]? = some x ∧ ys[j]? = some y ∧ RelV x u ∧ RelV y u2 ∧ IsPair h2 t u u2 := fun j t ej => by
        obtain ⟨u, u2, e1, e2, e3⟩ := hG.at_ j t ej
        have lj := (List.getElem?_eq_some_iff.mp ej).1
        have ljx : j < xs.length := by omega
        have ljy : j < ys.length := by omega
        obtain ⟨v, hv, rvv⟩ := rv.get (List.getElem?_eq_getElem ljx)
        obtain ⟨v2, hv2, rvv2⟩ := rv2.get (List.getElem?_eq_getElem ljy)
        have f1 : its[j]? = some u := by simpa using e1
        have f2 : its2[j]? = some u2 := by simpa using e2
        rw [hv] at f1
        rw [hv2] at f2
        cases f1
        cases f2
        exact ⟨_, _, _, _, List.getElem?_eq_getElem ljx, List.getElem?_eq_getElem ljy, rvv, rvv2, e3⟩
      let HH : Hp := fun b => if b = h'.objs.size then some (.lst (as.map V.ref)) else if b ∈ as then some (.tup [xs.getD (as.idxOf b) .non, ys.getD (as.idxOf b) .non]) else H1 b
      have eS : HH h'.objs.size = some (.lst (as.map V.ref)) := if_pos rfl
      have eT : ∀ (j : Nat) (t : Addr) (x y : V), as[j]? = some t → xs[j]? = some x → ys[j]? = some y → HH t = some (.tup [x, y]) := fun j t x y ej ex ey => by
        have m := List.mem_of_getElem? ej
        show (if t = h'.objs.size then _ else if t ∈ as then _ else H1 t) = _
        rw [if_neg (fun z => Sn (by rw [← z]; exact m)), if_pos m, ix j t ej, List.getD_eq_getElem?_getD, List.getD_eq_getElem?_getD, ex, ey]
        rfl
      have eO : ∀ b, b < s1.heap.objs.size → HH b = H1 b := fun b l => by
        show (if b = h'.objs.size then _ else if b ∈ as then _ else H1 b) = _
        rw [if_neg (show ¬ b = h'.objs.size from fun z => absurd (show h'.objs.size < s1.heap.objs.size by rw [← z]; exact l) (Nat.not_lt.mpr top)), if_neg (fun m => absurd l (Nat.not_lt.mpr (big b m)))]
      have kp : ∀ b o, H1 b = some o → HH b = some o := fun b o e => by
        rw [eO b (I1.hok b o e).lt]
        exact e
      have keep2 : ∀ b u, s1.heap.get? b = some u → h2.get? b = some u := fun b u e => by
        have l := Heap.lt_size e
        exact hk2 b u (Nat.ne_of_lt (Nat.lt_of_lt_of_le l (Nat.le_add_right _ _))) (Nat.ne_of_lt (Nat.lt_of_lt_of_le l (Nat.le_add_right _ _))) (Nat.ne_of_lt l) (Nat.ne_of_lt (Nat.lt_of_lt_of_le l (Nat.le_add_right _ _))) (hk b u e)
      have J : L2.Inv X pins σ HH { s1 with heap := h2, toks := tk } := by
        refine inv_many I1 keep2 kp eO fun b u g e => ?_
        by_cases hS2 : b = h'.objs.size
        · subst hS2
          rw [eS] at e
          cases e
          refine ⟨by rw [List.length_map, hal]; exact zx, acc.toList, c, by rw [hacc]; exact LiI.vals_refs as, ?_⟩
          rw [Array.toArray_toList]
          exact hS
        · by_cases hb : b ∈ as
          · obtain ⟨j, ej⟩ := List.mem_iff_getElem?.mp hb
            obtain ⟨x, y, v, v2, e1, e2, r1, r2, e3⟩ := at_ j b ej
            rw [eT j b x y ej e1 e2] at e
            cases e
            exact ⟨by show 2 ≤ sizeLine; decide, [v, v2], .cons r1 (.cons r2 .nil), ⟨_, e3, rfl, _, rfl⟩⟩
          · have e4 : H1 b = some u := by
              have z : (if b = h'.objs.size then some (HO.lst (as.map V.ref)) else if b ∈ as then some (.tup [xs.getD (as.idxOf b) .non, ys.getD (as.idxOf b) .non]) else H1 b) = some u := e
              rwa [if_neg hS2, if_neg hb] at z
            exact absurd (I1.hok b u e4).lt (Nat.not_lt.mpr g)
      refine ⟨.ref _, HH, J, rfl, q HH _ as kp (I1.hok.fresh top) eS hal fun j t ej => ⟨I1.hok.fresh (big t (List.mem_of_getElem? ej)), ?_⟩⟩
      obtain ⟨x, y, _, _, e1, e2, _⟩ := at_ j t ej
      exact ⟨x, y, e1, e2, eT j t x y ej e1 e2⟩
end
end Kd

-- ===== KX3 =====
set_option Elab.async false
set_option linter.all false
set_option maxRecDepth 100000
set_option maxHeartbeats 4000000
namespace Kd
open PySem PySem.Spec PyProof.Rows L2
/-- an int or a bool, plus an int -/
def rAddN : R2 := fun x y H Q => ((∃ i, x = .int i) ∨ ∃ b, x = .bl b) ∧ (∃ j, y = .int j) ∧ ∀ r : Int, Q (.int r) H
theorem op_addN' {X : Cx} : OpR X (binaryOp .Add) rAddN := by
  intro pins s σ H x y v u Q I rx ry h
  obtain ⟨h1, ⟨j, rfl⟩, q⟩ := h
  obtain ⟨t2, rfl⟩ : ∃ t2, u = Value.int j t2 := ry
  rcases h1 with ⟨i, rfl⟩ | ⟨b, rfl⟩
  · obtain ⟨t, rfl⟩ : ∃ t, v = Value.int i t := rx
    exact add_int ⟨.int (i + j), H, I.tok _, ⟨_, rfl⟩, q _⟩
  · cases (show v = Value.bool b from rx)
    exact PySem.IntBool.add_bool_int ⟨.int _, H, I.tok _, ⟨_, rfl⟩, q _⟩
/-! ### values with bounds: of at most k levels, each tuple of at most n parts, texts in order -/
def Nice (n : Nat) : Nat → PyData → Prop
  | _, .str z => PyData.strOk z = true
  | 0, .tuple ds => ds = []
  | k + 1, .tuple ds => ds.length ≤ n ∧ ∀ d ∈ ds, Nice n k d
  | _, _ => True
theorem Nice.mono {n m : Nat} (h : n ≤ m) : ∀ {k l : Nat} {d : PyData}, Nice n k d → k ≤ l → Nice m l d
  | 0, l, .tuple ds, c, _ => by
    have e : ds = [] := c
    subst e
    cases l with
    | zero => exact rfl
    | succ l => exact ⟨Nat.zero_le _, fun d m => nomatch m⟩
  | k + 1, 0, .tuple ds, _, g => absurd g (Nat.not_succ_le_zero _)
  | k + 1, l + 1, .tuple ds, c, g => ⟨Nat.le_trans c.1 h, fun d md => Nice.mono h (c.2 d md) (Nat.le_of_succ_le_succ g)⟩
  | k, l, .str z, c, _ => by
    have e : PyData.strOk z = true := by cases k <;> exact c
    cases l <;> exact e
  | k, l, .none, _, _ => by cases l <;> exact True.intro
  | k, l, .bool _, _, _ => by cases l <;> exact True.intro
  | k, l, .int _, _, _ => by cases l <;> exact True.intro
  | k, l, .list _, _, _ => by cases l <;> exact True.intro
  | k, l, .dict _, _, _ => by cases l <;> exact True.intro
theorem Nice.non {n k : Nat} : Nice n k .none := by cases k <;> exact True.intro
theorem Nice.bool {n k : Nat} {b : Bool} : Nice n k (.bool b) := by cases k <;> exact True.intro
theorem Nice.int {n k : Nat} {b : Int} : Nice n k (.int b) := by cases k <;> exact True.intro
theorem Nice.lst {n k : Nat} {b : List PyData} : Nice n k (.list b) := by cases k <;> exact True.intro
theorem Nice.dct {n k : Nat} {b : List (PyData × PyData)} : Nice n k (.dict b) := by cases k <;> exact True.intro
theorem Nice.str {n k : Nat} {z : Str} (h : PyData.strOk z = true) : Nice n k (.str z) := by cases k <;> exact h
theorem Nice.len {n k : Nat} {ds : List PyData} (h : Nice n k (.tuple ds)) : ds.length ≤ n := by
  cases k with
  | zero => rw [show ds = [] from h]; exact Nat.zero_le _
  | succ k => exact h.1
theorem Nice.part {n k : Nat} {ds : List PyData} {d : PyData} (h : Nice n k (.tuple ds)) (m : d ∈ ds) : ∃ l, k = l + 1 ∧ Nice n l d := by
  cases k with
  | zero => rw [show ds = [] from h] at m; cases m
  | succ k => exact ⟨k, rfl, h.2 d m⟩
/-! ### slices -/
theorem cut_to (xs : List V) {i : Int} (h : 0 ≤ i) : cutV xs none (some i) = xs.take i.toNat := by
  obtain ⟨n, rfl⟩ := Int.eq_ofNat_of_zero_le h
  unfold cutV
  rw [HT.sIx_nat, HT.sIx_none, List.drop_zero, Nat.sub_zero, Int.toNat_natCast, List.take_eq_take_iff]
  omega
theorem cut_from (xs : List V) {i : Int} (h : 0 ≤ i) : cutV xs (some i) none = xs.drop i.toNat := by
  obtain ⟨n, rfl⟩ := Int.eq_ofNat_of_zero_le h
  unfold cutV
  rw [HT.sIx_nat, HT.sIx_none, Int.toNat_natCast, ← List.length_drop, List.take_length]
  rcases Nat.le_total n xs.length with l | g
  · rw [Nat.min_eq_left l]
  · rw [Nat.min_eq_right g, List.drop_length, List.drop_eq_nil_of_le g]
theorem not_whole_to {n : Nat} {i : Int} (h0 : 0 ≤ i) (h : i < n) : ¬ (HT.sIx n 0 none = 0 ∧ HT.sIx n n (some i) = n) := fun z => by
  obtain ⟨k, rfl⟩ := Int.eq_ofNat_of_zero_le h0
  have e := z.2
  rw [HT.sIx_nat] at e
  omega
theorem not_whole_from {n : Nat} {i : Int} (h0 : 0 < i) (h : 0 < n) : ¬ (HT.sIx n 0 (some i) = 0 ∧ HT.sIx n n none = n) := fun z => by
  obtain ⟨k, rfl⟩ := Int.eq_ofNat_of_zero_le (Int.le_of_lt h0)
  have e := z.1
  rw [HT.sIx_nat] at e
  omega
end Kd

-- ===== KX5 =====
set_option Elab.async false
set_option linter.all false
set_option maxRecDepth 100000
set_option maxHeartbeats 4000000
namespace Kd
open PySem PySem.Spec PyProof.Rows L2
/-! ### zip of a tuple and a list -/
structure Src (P : Program) (w : World) (j c : Addr) (us : Array Value) (St : Nat → Heap → Prop) : Prop where
  stay : ∀ {k : Nat} {h h' : Heap}, St k h → (∀ b o, b = j ∨ b = c → h.get? b = some o → h'.get? b = some o) → St k h'
  item : ∀ {A : Around} {E : Value → Shared → Prop} {s : Shared} {k : Nat} {u : Value} {Q : Value → Shared → Prop}, St k s.heap → us[k]? = some u → (∀ h', St (k + 1) h' → Heap.SameBut j s.heap h' → Q u { s with heap := h' }) → wpAny (model P w) A (Builtin.SmallTypes.nextOf (.ref j)) Q E s
  stop : ∀ {A : Around} {E : Value → Shared → Prop} {s : Shared} {k : Nat} {Q : Value → Shared → Prop}, A.handled = none → St k s.heap → us[k]? = none → (∀ h' e, Heap.ExtBut j s.heap h' → (∃ o, h'.get? e = some o ∧ o.cls = .type "StopIteration") → E (.ref e) { s with heap := h' }) → wpAny (model P w) A (Builtin.SmallTypes.nextOf (.ref j)) Q E s
theorem srcT {P : Program} {w : World} {j c : Addr} {us : Array Value} (ne : c ≠ j) : Src P w j c us fun k h => h.IsTupleIter j c k ∧ h.IsTuple c us where
  stay := fun ⟨x, y⟩ g => ⟨x.at fun o e => g j o (.inl rfl) e, let ⟨o, e, r⟩ := y; ⟨o, g c o (.inr rfl) e, r⟩⟩
  item := fun ⟨x, y⟩ e q => RZ.nextOf_tuple_item x y e fun h' x' sb => q h' ⟨x', y.extBut sb.extBut ne⟩ sb
  stop := fun hh ⟨x, y⟩ e q => RZ.nextOf_tuple_end hh x y e q
theorem srcL {P : Program} {w : World} {j c : Addr} {us : Array Value} (ne : c ≠ j) : Src P w j c us fun k h => h.IsListIter j c k ∧ h.IsList c us where
  stay := fun ⟨x, y⟩ g => ⟨x.at fun o e => g j o (.inl rfl) e, let ⟨o, e, r⟩ := y; ⟨o, g c o (.inr rfl) e, r⟩⟩
  item := fun ⟨x, y⟩ e q => wpAny_nextOf_list_item x y e fun h' x' sb => q h' ⟨x', y.extBut sb.extBut ne⟩ sb
  stop := fun hh ⟨x, y⟩ e q => wpAny_nextOf_list_end hh x y e q
section
variable {P : Program} {w : World} {A : Around} {E : Value → Shared → Prop} {s : Shared} {j0 jp jr j1 j2 c1 c2 : Addr} {us vs : Array Value} {S1 S2 : Nat → Heap → Prop}
/-- the zip's next pair, whatever its two sources are -/
theorem zs_item (Z : ZipApart j0 jp jr j1 j2 c1 c2) (X1 : Src P w j1 c1 us S1) (X2 : Src P w j2 c2 vs S2) {k1 k2 : Nat} {u v a b : Value} {Q : Value → Shared → Prop}
    (gz : IsZip s.heap j0 jp jr .none) (gp : IsPair s.heap jp (.ref j1) (.ref j2)) (gr : IsPair s.heap jr a b) (g1 : S1 k1 s.heap) (g2 : S2 k2 s.heap) (e1 : us[k1]? = some u) (e2 : vs[k2]? = some v)
    (q : ∀ h', IsZip h' j0 jp jr (rawInt s.heap.objs.size) → IsPair h' jr u v → S1 (k1 + 1) h' → S2 (k2 + 1) h' → IsPair h' s.heap.objs.size u v → h'.objs.size = s.heap.objs.size + 1 →
      (∀ c o, c ≠ j0 → c ≠ jr → c ≠ j1 → c ≠ j2 → s.heap.get? c = some o → h'.get? c = some o) → Q (.ref s.heap.objs.size) { s with heap := h' }) :
    wpAny (model P w) A (Builtin.«zip.__next__» ⟨[.ref j0], []⟩) (fun fin s' => ∃ v, fin = .done (.ret v) ∧ Q v s') E s := by
  show wpAny _ _ (field (.ref j0) 2 >>= _) _ _ _
  refine wpAny_bind (wpAny_field gz rfl (x := .bool false) rfl ?_)
  show wpAny _ _ (field (.ref j0) 3 >>= _) _ _ _
  refine wpAny_bind (wpAny_field gz rfl (x := .ref jp) rfl ?_)
  refine wpAny_bind (wpAny_seqItems gp rfl ?_)
  show wpAny _ _ (Builtin.SmallTypes.ownedTupleIsFree (.ref j0) >>= _) _ _ _
  refine wpAny_bind ?_
  unfold Builtin.SmallTypes.ownedTupleIsFree
  refine wpAny_bind (wpAny_field gz rfl (x := .none) rfl (wpAny_pure ?_))
  simp only [if_true]
  refine wpAny_bind (wpAny_rule ?_)
  refine wpAny_bind (wpAny_field gz rfl (x := .ref jr) rfl ?_)
  refine wpAny_bind (wpAny_setField_rec gz (by simp) fun ha za sa => ?_)
  replace za : IsZip ha j0 jp jr .ellipsis := za
  refine wpAny_bind ?_
  simp only [List.zipIdx_cons, List.zipIdx_nil, List.forIn_cons, List.forIn_nil]
  have n1 : ∀ b, b = j1 ∨ b = c1 → b ≠ j0 := fun b m => m.elim (fun e => e ▸ Z.i1z) fun e => e ▸ Z.l1z
  have n2 : ∀ b, b = j2 ∨ b = c2 → b ≠ j0 ∧ b ≠ j1 ∧ b ≠ jr := fun b m => m.elim (fun e => e ▸ ⟨Z.i2z, Z.i12.symm, Z.TOi2.symm⟩) fun e => e ▸ ⟨Z.l2z, Z.l2i1, Z.l2TO⟩
  refine wpAny_bind (wpAny_bind (wpAny_onRaise ?_))
  show wpAny _ _ (Builtin.SmallTypes.nextOf (.ref j1) >>= _) _ _ _
  refine wpAny_bind (X1.item (X1.stay g1 fun b o m e => sa.extBut b o (n1 b m) e) e1 fun hb x1 sb => wpAny_pure ?_)
  have rb : IsPair hb jr a b := sb.extBut _ _ Z.TOi1 (sa.extBut _ _ Z.TOz gr)
  refine wpAny_bind (wpAny_seqItems rb rfl ?_)
  refine wpAny_bind (wpAny_updateSeq_pair rb fun hc rc sc => ?_)
  replace rc : IsPair hc jr u b := rc
  refine wpAny_bind (wpAny_letGo (wpAny_pure ?_))
  refine wpAny_bind (wpAny_bind (wpAny_onRaise ?_))
  show wpAny _ _ (Builtin.SmallTypes.nextOf (.ref j2) >>= _) _ _ _
  refine wpAny_bind (X2.item (X2.stay g2 fun b o m e => sc.extBut b o (n2 b m).2.2 (sb.extBut b o (n2 b m).2.1 (sa.extBut b o (n2 b m).1 e))) e2 fun hd x2 sd => wpAny_pure ?_)
  have rd : IsPair hd jr u b := sd.extBut _ _ Z.TOi2 rc
  refine wpAny_bind (wpAny_seqItems rd rfl ?_)
  refine wpAny_bind (wpAny_updateSeq_pair rd fun he re se => ?_)
  replace re : IsPair he jr u v := re
  refine wpAny_bind (wpAny_letGo (wpAny_pure (wpAny_pure ?_)))
  refine wpAny_bind (wpAny_seqItems re rfl ?_)
  refine wpAny_bind (wpAny_newTuple ?_)
  have top : he.objs.size = s.heap.objs.size := by rw [se.1, sd.1, sc.1, sb.1, sa.1]
  have ze : IsZip he j0 jp jr .ellipsis := se.extBut _ _ Z.TOz.symm (sd.extBut _ _ Z.i2z.symm (sc.extBut _ _ Z.TOz.symm (sb.extBut _ _ Z.i1z.symm za)))
  have ke : ∀ c o, c ≠ j0 → c ≠ jr → c ≠ j1 → c ≠ j2 → s.heap.get? c = some o → he.get? c = some o := fun c o m1 m2 m3 m4 e =>
    se.extBut _ _ m2 (sd.extBut _ _ m4 (sc.extBut _ _ m2 (sb.extBut _ _ m3 (sa.extBut _ _ m1 e))))
  have n1' : ∀ b, b = j1 ∨ b = c1 → b ≠ j0 ∧ b ≠ jr ∧ b ≠ j2 := fun b m => m.elim (fun e => e ▸ ⟨Z.i1z, Z.TOi1.symm, Z.i12⟩) fun e => e ▸ ⟨Z.l1z, Z.l1TO, Z.l1i2⟩
  have x1e : S1 (k1 + 1) he := X1.stay x1 fun b o m e => se.extBut b o (n1' b m).2.1 (sd.extBut b o (n1' b m).2.2 (sc.extBut b o (n1' b m).2.1 e))
  have x2e : S2 (k2 + 1) he := X2.stay x2 fun b o m e => se.extBut b o (n2 b m).2.2 e
  have lz : j0 < he.objs.size := Heap.lt_size ze
  show wpAny _ _ (Builtin.SmallTypes.ownedTupleHandOut (.ref j0) (.ref he.objs.size) >>= _) _ _ _
  refine wpAny_bind ?_
  unfold Builtin.SmallTypes.ownedTupleHandOut
  have zf : IsZip (he.push { cls := .type "tuple", data := .seq #[u, v] }) j0 jp jr .ellipsis := Heap.get?_push_of_some _ ze
  refine wpAny_bind (wpAny_setField_rec zf (by simp) fun hg zg sg => ?_)
  replace zg : IsZip hg j0 jp jr (rawInt he.objs.size) := zg
  refine wpAny_setField_rec zg (by simp) fun hi zi si => ?_
  replace zi : IsZip hi j0 jp jr (rawInt he.objs.size) := zi
  have up : ∀ c o, c ≠ j0 → he.get? c = some o → hi.get? c = some o := fun c o m e => si.extBut _ _ m (sg.extBut _ _ m (Heap.get?_push_of_some _ e))
  have pi_ : IsPair hi he.objs.size u v := si.extBut _ _ (Nat.ne_of_gt lz) (sg.extBut _ _ (Nat.ne_of_gt lz) (Heap.get?_push_size _ rfl))
  have ti : hi.objs.size = he.objs.size + 1 := by rw [si.1, sg.1, Heap.size_push]
  rw [top] at zi pi_ ti
  refine wpAny_pure ⟨_, rfl, ?_⟩
  show Q (.ref he.objs.size) _
  rw [top]
  exact q hi zi (up _ _ Z.TOz re) (X1.stay x1e fun b o m e => up b o (n1 b m) e) (X2.stay x2e fun b o m e => up b o (n2 b m).1 e) pi_ ti fun c o m1 m2 m3 m4 e => up c o m1 (ke c o m1 m2 m3 m4 e)
theorem zs_stop (hh : A.handled = none) (Z : ZipApart j0 jp jr j1 j2 c1 c2) (X1 : Src P w j1 c1 us S1) (X2 : Src P w j2 c2 vs S2) {k1 k2 : Nat} {a b : Value} {Q : Fin → Shared → Prop}
    (gz : IsZip s.heap j0 jp jr .none) (gp : IsPair s.heap jp (.ref j1) (.ref j2)) (gr : IsPair s.heap jr a b) (g1 : S1 k1 s.heap) (g2 : S2 k2 s.heap) (e12 : us[k1]? = none ∨ vs[k2]? = none)
    (q : ∀ h' e, (∀ c o, c ≠ j0 → c ≠ jr → c ≠ j1 → c ≠ j2 → s.heap.get? c = some o → h'.get? c = some o) → (∃ o, h'.get? e = some o ∧ o.cls = .type "StopIteration") → E (.ref e) { s with heap := h' }) :
    wpAny (model P w) A (Builtin.«zip.__next__» ⟨[.ref j0], []⟩) Q E s := by
  show wpAny _ _ (field (.ref j0) 2 >>= _) _ _ _
  refine wpAny_bind (wpAny_field gz rfl (x := .bool false) rfl ?_)
  show wpAny _ _ (field (.ref j0) 3 >>= _) _ _ _
  refine wpAny_bind (wpAny_field gz rfl (x := .ref jp) rfl ?_)
  refine wpAny_bind (wpAny_seqItems gp rfl ?_)
  show wpAny _ _ (Builtin.SmallTypes.ownedTupleIsFree (.ref j0) >>= _) _ _ _
  refine wpAny_bind ?_
  unfold Builtin.SmallTypes.ownedTupleIsFree
  refine wpAny_bind (wpAny_field gz rfl (x := .none) rfl (wpAny_pure ?_))
  simp only [if_true]
  refine wpAny_bind (wpAny_rule ?_)
  refine wpAny_bind (wpAny_field gz rfl (x := .ref jr) rfl ?_)
  refine wpAny_bind (wpAny_setField_rec gz (by simp) fun ha za sa => ?_)
  replace za : IsZip ha j0 jp jr .ellipsis := za
  refine wpAny_bind ?_
  simp only [List.zipIdx_cons, List.zipIdx_nil, List.forIn_cons, List.forIn_nil]
  have n1 : ∀ b, b = j1 ∨ b = c1 → b ≠ j0 := fun b m => m.elim (fun e => e ▸ Z.i1z) fun e => e ▸ Z.l1z
  have n2 : ∀ b, b = j2 ∨ b = c2 → b ≠ j0 ∧ b ≠ j1 ∧ b ≠ jr := fun b m => m.elim (fun e => e ▸ ⟨Z.i2z, Z.i12.symm, Z.TOi2.symm⟩) fun e => e ▸ ⟨Z.l2z, Z.l2i1, Z.l2TO⟩
  have g1a := X1.stay g1 fun b o m e => sa.extBut b o (n1 b m) e
  refine wpAny_bind (wpAny_bind (wpAny_onRaise ?_))
  show wpAny _ _ (Builtin.SmallTypes.nextOf (.ref j1) >>= _) _ _ _
  cases e1 : us[k1]? with
  | none =>
    refine wpAny_bind (X1.stop hh g1a e1 fun hb e xb ⟨oe, ge, ce⟩ => ?_)
    have zb : IsZip hb j0 jp jr .ellipsis := xb _ _ Z.i1z.symm za
    have en : e ≠ j0 := fun x => by subst x; rw [zb] at ge; cases ge; simp at ce
    exact wpAny_setField_rec zb (by simp) fun hc _ sc => q hc e (fun c o m1 _ m3 _ x => sc.extBut _ _ m1 (xb _ _ m3 (sa.extBut _ _ m1 x))) ⟨oe, sc.extBut _ _ en ge, ce⟩
  | some u =>
    have e2 : vs[k2]? = none := e12.resolve_left fun z => by rw [e1] at z; cases z
    refine wpAny_bind (X1.item g1a e1 fun hb x1 sb => wpAny_pure ?_)
    have rb : IsPair hb jr a b := sb.extBut _ _ Z.TOi1 (sa.extBut _ _ Z.TOz gr)
    refine wpAny_bind (wpAny_seqItems rb rfl ?_)
    refine wpAny_bind (wpAny_updateSeq_pair rb fun hc rc sc => ?_)
    refine wpAny_bind (wpAny_letGo (wpAny_pure ?_))
    refine wpAny_bind (wpAny_bind (wpAny_onRaise ?_))
    show wpAny _ _ (Builtin.SmallTypes.nextOf (.ref j2) >>= _) _ _ _
    refine wpAny_bind (X2.stop hh (X2.stay g2 fun b o m e => sc.extBut b o (n2 b m).2.2 (sb.extBut b o (n2 b m).2.1 (sa.extBut b o (n2 b m).1 e))) e2 fun hd e xd ⟨oe, ge, ce⟩ => ?_)
    have zd : IsZip hd j0 jp jr .ellipsis := xd _ _ Z.i2z.symm (sc.extBut _ _ Z.TOz.symm (sb.extBut _ _ Z.i1z.symm za))
    have en : e ≠ j0 := fun x => by subst x; rw [zd] at ge; cases ge; simp at ce
    exact wpAny_setField_rec zd (by simp) fun hf _ sf => q hf e (fun c o m1 m2 m3 m4 x => sf.extBut _ _ m1 (xd _ _ m4 (sc.extBut _ _ m2 (sb.extBut _ _ m3 (sa.extBut _ _ m1 x))))) ⟨oe, sf.extBut _ _ en ge, ce⟩
theorem zs_next (Z : ZipApart j0 jp jr j1 j2 c1 c2) (X1 : Src P w j1 c1 us S1) (X2 : Src P w j2 c2 vs S2) {k1 k2 : Nat} {u v a b : Value} {Q : Option Value → Shared → Prop}
    (gz : IsZip s.heap j0 jp jr .none) (gp : IsPair s.heap jp (.ref j1) (.ref j2)) (gr : IsPair s.heap jr a b) (g1 : S1 k1 s.heap) (g2 : S2 k2 s.heap) (e1 : us[k1]? = some u) (e2 : vs[k2]? = some v)
    (q : ∀ h', IsZip h' j0 jp jr (rawInt s.heap.objs.size) → IsPair h' jr u v → S1 (k1 + 1) h' → S2 (k2 + 1) h' → IsPair h' s.heap.objs.size u v → h'.objs.size = s.heap.objs.size + 1 →
      (∀ c o, c ≠ j0 → c ≠ jr → c ≠ j1 → c ≠ j2 → s.heap.get? c = some o → h'.get? c = some o) → Q (some (.ref s.heap.objs.size)) { s with heap := h' }) :
    wpAny (model P w) A (pyNext (.ref j0)) Q E s := by
  have ty : s.TypeIs (.ref j0) "zip" := ⟨_, gz, rfl⟩
  unfold pyNext
  exact wpAny_bind (wpAny_attempt (wpAny_callSpecial?_slot (name := Str.ofString "__next__") ty F.slot_zip_next (wpAny_call_entry F.slot_zip_next ty F.entry_zip_next
    (zs_item Z X1 X2 gz gp gr g1 g2 e1 e2 fun h' a1 a2 a3 a4 a5 a6 a7 => wpAny_pure (q h' a1 a2 a3 a4 a5 a6 a7)) (F.args_zip_next_1 _))))
theorem zs_over (hh : A.handled = none) (Z : ZipApart j0 jp jr j1 j2 c1 c2) (X1 : Src P w j1 c1 us S1) (X2 : Src P w j2 c2 vs S2) {k1 k2 : Nat} {a b : Value} {Q : Option Value → Shared → Prop}
    (gz : IsZip s.heap j0 jp jr .none) (gp : IsPair s.heap jp (.ref j1) (.ref j2)) (gr : IsPair s.heap jr a b) (g1 : S1 k1 s.heap) (g2 : S2 k2 s.heap) (e12 : us[k1]? = none ∨ vs[k2]? = none)
    (q : ∀ h', (∀ c o, c ≠ j0 → c ≠ jr → c ≠ j1 → c ≠ j2 → s.heap.get? c = some o → h'.get? c = some o) → Q none { s with heap := h' }) : wpAny (model P w) A (pyNext (.ref j0)) Q E s := by
  have ty : s.TypeIs (.ref j0) "zip" := ⟨_, gz, rfl⟩
  unfold pyNext
  refine wpAny_bind (wpAny_attempt (wpAny_callSpecial?_slot (name := Str.ofString "__next__") ty F.slot_zip_next (wpAny_call_entry F.slot_zip_next ty F.entry_zip_next
    (zs_stop (A := A.in1) hh Z X1 X2 gz gp gr g1 g2 e12 fun h' e kp st => ?_) (F.args_zip_next_1 _))))
  obtain ⟨o, ho, hc⟩ := st
  refine wpAny_bind (wpAny_isInstance (T := "StopIteration") (b := true) ⟨o, ho, hc⟩ isSubtype_stop ?_)
  exact wpAny_pure (q _ kp)
end
end Kd

-- ===== KX6 =====
set_option Elab.async false
set_option linter.all false
set_option maxRecDepth 100000
set_option maxHeartbeats 4000000
namespace Kd
open PySem PySem.Spec PyProof.Rows L2
abbrev zm1 (h : Heap) (c : Addr) : Heap := h.push { cls := .type "tuple_iterator", data := .fields #[.ref c, .int 0 0] }
abbrev zm2 (h : Heap) (c d : Addr) : Heap := (zm1 h c).push { cls := .type "list_iterator", data := .fields #[.ref d, .int 0 0] }
abbrev zm3 (h : Heap) (c d : Addr) : Heap := (zm2 h c d).push { cls := .type "tuple", data := .seq #[.ref h.objs.size, .ref (zm1 h c).objs.size] }
abbrev zm4 (h : Heap) (c d : Addr) : Heap := (zm3 h c d).push { cls := .type "tuple", data := .seq #[.none, .none] }
abbrev zm5 (h : Heap) (c d : Addr) : Heap := (zm4 h c d).push { cls := .type "zip", data := .fields #[.none, .bool false, .bool false, .ref (zm2 h c d).objs.size, .ref (zm3 h c d).objs.size] }
theorem zm_new (c d : Addr) (us vs : Array Value) :
    Meets (Builtin.«zip.__new__» ⟨[.type "zip", .ref c, .ref d], []⟩) (fun _ R s => s.heap.IsTuple c us ∧ s.heap.IsList d vs ∧ R (.ok (.ret (.ref (zm4 s.heap c d).objs.size))) { s with heap := zm5 s.heap c d }) :=
  .of_wp fun prog w A R s q => by
    obtain ⟨hp, g, dr, tk, os⟩ := s
    obtain ⟨g1, g2, q⟩ := q
    have zsub := sub_zip
    have t1 : Heap.IsTuple (Shared.heap ⟨hp, g, dr, tk, os⟩) c us := g1
    have t2 : Heap.IsList (Shared.heap ⟨hp.push { cls := .type "tuple_iterator", data := .fields #[.ref c, .int 0 0] }, g, dr, tk, os⟩) d vs := Heap.IsList.push g2 _
    wp_walk using wpAny_pyIter_tuple t1, wpAny_pyIter_list t2
    exact ⟨_, rfl, q⟩
theorem call_zm {prog : Program} {w : World} {A : Around} {E : Value → Shared → Prop} {s : Shared} {c d : Addr} {us vs : Array Value} {Q : Value → Shared → Prop} (g1 : s.heap.IsTuple c us) (g2 : s.heap.IsList d vs)
    (q : ∀ h', IsZip h' (s.heap.objs.size + 4) (s.heap.objs.size + 2) (s.heap.objs.size + 3) .none → IsPair h' (s.heap.objs.size + 2) (.ref s.heap.objs.size) (.ref (s.heap.objs.size + 1)) → IsPair h' (s.heap.objs.size + 3) .none .none →
      h'.IsTupleIter s.heap.objs.size c 0 → h'.IsListIter (s.heap.objs.size + 1) d 0 → (∀ b o, s.heap.get? b = some o → h'.get? b = some o) → Q (.ref (s.heap.objs.size + 4)) { s with heap := h' }) :
    wpAny (model prog w) A (call (.type "zip") [.ref c, .ref d]) Q E s := by
  refine callType_new F.called_zip (by decide) (F.typeCall_zip_2 _ _) (F.newCall_zip_2 _ _) (fun o => F.args_object_init_3 o _ _) F.entry_zip_new (zm_new c d us vs) ⟨g1, g2, ?_⟩
  have n1 : (zm1 s.heap c).objs.size = s.heap.objs.size + 1 := Heap.size_push ..
  have n2 : (zm2 s.heap c d).objs.size = s.heap.objs.size + 2 := by rw [Heap.size_push, n1]
  have n3 : (zm3 s.heap c d).objs.size = s.heap.objs.size + 3 := by rw [Heap.size_push, n2]
  have n4 : (zm4 s.heap c d).objs.size = s.heap.objs.size + 4 := by rw [Heap.size_push, n3]
  have o5 : (zm5 s.heap c d).get? (zm4 s.heap c d).objs.size = some _ := Heap.get?_push_size _ rfl
  have o4 : (zm5 s.heap c d).get? (zm3 s.heap c d).objs.size = some _ := Heap.get?_push_of_some _ (Heap.get?_push_size _ rfl)
  have o3 : (zm5 s.heap c d).get? (zm2 s.heap c d).objs.size = some _ := Heap.get?_push_of_some _ (Heap.get?_push_of_some _ (Heap.get?_push_size _ rfl))
  have o2 : (zm5 s.heap c d).get? (zm1 s.heap c).objs.size = some _ := Heap.get?_push_of_some _ (Heap.get?_push_of_some _ (Heap.get?_push_of_some _ (Heap.get?_push_size _ rfl)))
  have o1 : (zm5 s.heap c d).get? s.heap.objs.size = some _ := Heap.get?_push_of_some _ (Heap.get?_push_of_some _ (Heap.get?_push_of_some _ (Heap.get?_push_of_some _ (Heap.get?_push_size _ rfl))))
  have kp : ∀ b o, s.heap.get? b = some o → (zm5 s.heap c d).get? b = some o := fun b o x => Heap.get?_push_of_some _ (Heap.get?_push_of_some _ (Heap.get?_push_of_some _ (Heap.get?_push_of_some _ (Heap.get?_push_of_some _ x))))
  show _ ∧ _
  rw [n2, n3, n4] at o5
  rw [n1, n2] at o3
  rw [n3] at o4
  rw [n1] at o2
  rw [n4]
  exact ⟨⟨_, o5, rfl⟩, q _ o5 o3 o4 ⟨_, o1, rfl, rfl⟩ ⟨_, o2, rfl, rfl⟩ kp⟩
/-- the tuple at a and the list at b as they stand at each turn -/
def ItzM (K : PySem.W.Frag) (a b : Addr) : It :=
  ⟨fun i H => ∃ (xs ys : List V) (x y : V), SqT K H a xs ∧ SqL K H b ys ∧ xs[i]? = some x ∧ ys[i]? = some y,
    fun i H v H' => ∃ T x y, v = .ref T ∧ H T = none ∧ H' = upd H T (.tup [x, y]) ∧ (∀ xs, SqT K H a xs → xs[i]? = some x) ∧ ∀ ys, SqL K H b ys → ys[i]? = some y,
    fun i H => ∃ xs ys : List V, SqT K H a xs ∧ SqL K H b ys ∧ (xs.length ≤ i ∨ ys.length ≤ i)⟩
theorem five {j0 jp jr j1 j2 c : Addr} (m : c ∈ [j0, jp, jr, j1, j2]) : c = j0 ∨ c = jp ∨ c = jr ∨ c = j1 ∨ c = j2 := by simpa using m
theorem turn_zm {P : Program} {w : World} {K : PySem.W.Frag} {elts : List Expr} {kk : Nat} {tp : Pos} {a b j0 jp jr j1 j2 : Addr} (Z : ZipApart j0 jp jr j1 j2 a b) :
    Turn P w K (.Tuple elts kk tp) (ItzM K a b) [j0, jp, jr, j1, j2] j0 (fun i h => IsZip h j0 jp jr .none ∧ IsPair h jp (.ref j1) (.ref j2) ∧ (∃ x y, IsPair h jr x y) ∧ h.IsTupleIter j1 a i ∧ h.IsListIter j2 b i) where
  mem := by simp
  obj := fun i h ⟨gz, gp, ⟨x, y, gr⟩, ⟨o1, e1, _, d1⟩, ⟨o2, e2, _, d2⟩⟩ c m => by
    rcases five m with rfl | rfl | rfl | rfl | rfl
    · exact ⟨_, gz, fun _ q => nomatch q⟩
    · exact ⟨_, gp, fun _ q => nomatch q⟩
    · exact ⟨_, gr, fun _ q => nomatch q⟩
    · exact ⟨o1, e1, fun _ q => by rw [d1] at q; cases q⟩
    · exact ⟨o2, e2, fun _ q => by rw [d2] at q; cases q⟩
  keep := fun i h h' ⟨gz, gp, ⟨x, y, gr⟩, g1, g2⟩ k => ⟨k j0 (by simp) _ gz, k jp (by simp) _ gp, ⟨x, y, k jr (by simp) _ gr⟩, g1.at fun o q => k j1 (by simp) o q, g2.at fun o q => k j2 (by simp) o q⟩
  item := by
    intro X hP hw hK hc i pins s σ H E I hf ⟨gz, gp, ⟨x0, y0, gr⟩, g1, g2⟩ ⟨xs, ys, x, y, qx, qy, ex, ey⟩
    subst hP hw hK
    obtain ⟨its, rv, p1, _⟩ := I.tuple qx
    obtain ⟨its2, rv2, p2, _⟩ := I.list qy
    obtain ⟨u, hu, ru⟩ := rv.get ex
    obtain ⟨u2, hu2, ru2⟩ := rv2.get ey
    have lz : j0 < s.heap.objs.size := Heap.lt_size gz
    refine zs_next Z (srcT (us := its.toArray) Z.l1i1) (srcL (us := its2.toArray) Z.l2i2) gz gp gr ⟨g1, p1⟩ ⟨g2, p2.isList⟩ (by simpa using hu) (by simpa using hu2) fun h' z' r' s1' s2' hT hsz kp => ?_
    refine ⟨_, rfl, wpAny_letOwnedTupleGo_zip (s := { s with heap := h' }) z' fun h2 z2 sb => ?_⟩
    have hT2 : h2.get? s.heap.objs.size = some { cls := .type "tuple", data := .seq #[u, u2] } := (sb.2 _ (Nat.ne_of_gt lz)).trans hT
    have new : ObjOk X.prog X.w (upd H s.heap.objs.size (.tup [x, y])) h2 s.heap.objs.size (.tup [x, y]) := ⟨by show 2 ≤ sizeLine; decide, [u, u2], .cons ru (.cons ru2 .nil), ⟨_, hT2, rfl, _, rfl⟩⟩
    have J : Inv X pins σ (upd H s.heap.objs.size (.tup [x, y])) { s with heap := h2 } :=
      I.turnedNew (t' := s.toks) (ch := [j0, jp, jr, j1, j2]) (fun c o hb q => (sb.2 c fun e => hb (by simp [e])).trans (kp c o (fun e => hb (by simp [e])) (fun e => hb (by simp [e])) (fun e => hb (by simp [e])) (fun e => hb (by simp [e])) q)) hf (Nat.le_refl _) new
    refine ⟨.ref s.heap.objs.size, _, J, rfl, ⟨_, x, y, rfl, I.hok.fresh (Nat.le_refl _), rfl, fun l hl => by rw [I.tuple_inj hl qx]; exact ex, fun l hl => by rw [I.list_inj hl qy]; exact ey⟩, ⟨z2, ?_, ⟨u, u2, ?_⟩, ?_, ?_⟩, fun c m => ?_⟩
    · exact (sb.2 _ Z.TIz).trans (kp _ _ Z.TIz Z.TITO Z.TIi1 Z.TIi2 gp)
    · exact (sb.2 _ Z.TOz).trans r'
    · exact s1'.1.at fun o q => (sb.2 _ Z.i1z).trans q
    · exact s2'.1.at fun o q => (sb.2 _ Z.i2z).trans q
    · have lt : c < s.heap.objs.size := by
        rcases five m with e | e | e | e | e
        · rw [e]; exact lz
        · rw [e]; exact Heap.lt_size gp
        · rw [e]; exact Heap.lt_size gr
        · rw [e]; obtain ⟨_, q, _⟩ := g1; exact Heap.lt_size q
        · rw [e]; obtain ⟨_, q, _⟩ := g2; exact Heap.lt_size q
      rw [upd_ne (Nat.ne_of_lt lt)]
      exact (hf c m).1
  done := by
    intro X hP hw hK hc i pins s σ H E I hf ⟨gz, gp, ⟨x0, y0, gr⟩, g1, g2⟩ ⟨xs, ys, qx, qy, over⟩
    subst hP hw hK
    obtain ⟨its, rv, p1, _⟩ := I.tuple qx
    obtain ⟨its2, rv2, p2, _⟩ := I.list qy
    have l1 := rv.length
    have l2 := rv2.length
    have e12 : its.toArray[i]? = none ∨ its2.toArray[i]? = none := over.imp (fun q => by simp; omega) fun q => by simp; omega
    exact zs_over (I.ok.hd hc) Z (srcT (us := its.toArray) Z.l1i1) (srcL (us := its2.toArray) Z.l2i2) gz gp gr ⟨g1, p1⟩ ⟨g2, p2.isList⟩ e12 fun h' kp => ⟨rfl, I.turnedL (t' := s.toks) (ch := [j0, jp, jr, j1, j2]) (fun c o hb q =>
      kp c o (fun e => hb (by simp [e])) (fun e => hb (by simp [e])) (fun e => hb (by simp [e])) (fun e => hb (by simp [e])) q) hf⟩
  self := fun A i s Q E st q => wpAny_pyIter_zip st.1 q
def iZipM (K : PySem.W.Frag) (ta : TA) : TI := fun σ H R => ta σ H fun vs H1 => ∃ a b xs ys, vs = [.ref a, .ref b] ∧ SqT K H1 a xs ∧ SqL K H1 b ys ∧ R (ItzM K a b) H1
theorem pi_zipM {X : Cx} {e e2 : Expr} {ta : TA} {p pos tp : Pos} {elts : List Expr} {kk : Nat} (hg : Gl X "zip") (hm : X.mg "zip" = none) (ha : PA X [e, e2] ta)
    (hs : starEach [e, e2] X.env = (false, eval e X.env) :: starEach [e2] X.env := by rfl) (hpl : (backTo pos (starEach [e2] X.env)).any (·.1) = false := by rfl) :
    PI X (.Tuple elts kk tp) (.Call (.Name "zip" p) [e, e2] [] pos) (iZipM X.K ta) := by
  refine ⟨fun pins s σ H R I h => ?_⟩
  refine Call_ (ld_blt I hg hm PyProof.Rows.boot_zip (PyProof.Rows.callWith_type1 (thn (ha.run pos pins s σ H _ I h) fun us s1 ⟨vs, H1, I1, r1, q1⟩ => ?_) hs hpl))
  obtain ⟨a, b, xs, ys, rfl, qx, qy, q⟩ := q1
  cases r1 with
  | cons ra rr =>
    cases rr with
    | cons rb rr =>
      cases rr
      cases ra
      cases rb
      obtain ⟨its, rv, p1, _⟩ := I1.tuple qx
      obtain ⟨its2, rv2, p2, _⟩ := I1.list qy
      obtain ⟨o1, ho1, _⟩ := id p1
      have top : ∀ c, c ∈ [s1.heap.objs.size + 4, s1.heap.objs.size + 2, s1.heap.objs.size + 3, s1.heap.objs.size, s1.heap.objs.size + 1] → FpOk X pins H1 c := fun c m => by
        have le : s1.heap.objs.size ≤ c := by
          rcases five m with e | e | e | e | e <;> rw [e] <;> first | exact Nat.le_refl _ | exact Nat.le_add_right _ _
        exact I1.fpOk le (I1.hok.fresh le)
      refine call_zm (us := its.toArray) p1 p2.isList fun h' z gp gr g1 g2 kp => wpAny_pyIter_zip z ?_
      exact ⟨s1.heap.objs.size + 4, [s1.heap.objs.size + 4, s1.heap.objs.size + 2, s1.heap.objs.size + 3, s1.heap.objs.size, s1.heap.objs.size + 1], _, _, H1, rfl, I1.kept (t' := s1.toks) kp, turn_zm (PySem.W.ktu_apart s1.heap.objs.size a b (Heap.lt_size ho1) p2.lt), ⟨z, gp, ⟨_, _, gr⟩, g1, g2⟩, top, q⟩
/-- a loop over zip of a tuple and a list of one length -/
theorem for_zipM {K : PySem.W.Frag} {a b : Addr} {xs ys : List V} {g : TG} {tb : TS} {D : Ends} {σ : L2.St} {H : Hp} (len : xs.length = ys.length) (J : Nat → L2.St → Hp → Prop) (j0 : J 0 σ H) (stay : ∀ i σ H, J i σ H → SqT K H a xs ∧ SqL K H b ys)
    (turn : ∀ (i : Nat) (x y : V) (T : Addr) (σ : L2.St) (H : Hp), xs[i]? = some x → ys[i]? = some y → J i σ H → H T = none → g (.ref T) σ (upd H T (.tup [x, y])) fun σ2 H2 => tb { D with nx := J (i + 1), ct := J (i + 1), bk := D.nx } σ2 H2) (over : ∀ σ H, J xs.length σ H → D.nx σ H) :
    ∃ W : Nat → Nat → L2.St → Hp → Prop, (∃ m, W 0 m σ H) ∧ ∀ i m σ H, W i m σ H →
      ((ItzM K a b).stop i H ∧ D.nx σ H) ∨ ((ItzM K a b).go i H ∧ ∃ N : L2.St → Hp → Prop, (∀ σ' H', N σ' H' → ∃ m', m' < m ∧ W (i + 1) m' σ' H') ∧ ∀ v H', (ItzM K a b).yld i H v H' → g v σ H' fun σ2 H2 => tb { D with nx := N, ct := N, bk := D.nx } σ2 H2) := by
  refine ⟨fun i m σ H => m = xs.length - i ∧ i ≤ xs.length ∧ J i σ H, ⟨xs.length, rfl, Nat.zero_le _, j0⟩, ?_⟩
  rintro i m σ H ⟨rfl, hi, p⟩
  obtain ⟨qx, qy⟩ := stay i σ H p
  rcases Nat.lt_or_ge i xs.length with lt | ge
  · have ex : xs[i]? = some xs[i] := List.getElem?_eq_getElem lt
    have ey : ys[i]? = some (ys[i]'(len ▸ lt)) := List.getElem?_eq_getElem _
    refine .inr ⟨⟨xs, ys, _, _, qx, qy, ex, ey⟩, J (i + 1), fun σ' H' p' => ⟨xs.length - (i + 1), by omega, rfl, lt, p'⟩, fun v H' ⟨T, x', y', e1, hT, e2, f1, f2⟩ => ?_⟩
    subst e1 e2
    exact turn i x' y' T σ H (f1 xs qx) (f2 ys qy) p hT
  · have e : i = xs.length := Nat.le_antisymm hi ge
    subst e
    exact .inl ⟨⟨xs, ys, qx, qy, .inl (Nat.le_refl _)⟩, over σ H p⟩
/-- a comprehension over zip of two tuples -/
theorem lc_zipT {K : PySem.W.Frag} {a b : Addr} {xs ys : List V} {g : TG} {tt : TT} {te : TE} {vs : List Nat} {σ : L2.St} {H1 : Hp} {D : Addr} {Qd : Hp → Prop} (n : Nat) (hn : n = min xs.length ys.length) (J : Nat → Hp → Prop) (j0 : J 0 (upd H1 D (.lst []))) (stay : ∀ i H, i ≤ n → J i H → SqT K H a xs ∧ SqT K H b ys)
    (turn : ∀ (i : Nat) (x y : V) (T : Addr) (H : Hp), xs[i]? = some x → ys[i]? = some y → J i H → H T = none → g (.ref T) (wipe σ vs) (upd H T (.tup [x, y])) fun σ2 H2 => wipe σ2 vs = wipe σ vs ∧ tt σ2 H2 fun b H3 =>
      if b = true then te σ2 H3 fun y H4 => ∃ acc, H4 D = some (.lst acc) ∧ acc.length < sizeLine ∧ J (i + 1) (upd H4 D (.lst (acc ++ [y]))) else J (i + 1) H3) (over : ∀ H, J n H → Qd H) :
    ∃ W : Nat → Nat → Hp → Prop, (∃ m, W 0 m (upd H1 D (.lst []))) ∧ ∀ i m H, W i m H →
      ((RZ.ItzT K a b).stop i H ∧ Qd H) ∨ ((RZ.ItzT K a b).go i H ∧ ∃ Nx : Hp → Prop, (∀ H', Nx H' → ∃ m', m' < m ∧ W (i + 1) m' H') ∧ ∀ x H', (RZ.ItzT K a b).yld i H x H' → g x (wipe σ vs) H' fun σ2 H2 => wipe σ2 vs = wipe σ vs ∧ tt σ2 H2 fun b H3 =>
        if b = true then te σ2 H3 fun y H4 => ∃ acc, H4 D = some (.lst acc) ∧ acc.length < sizeLine ∧ Nx (upd H4 D (.lst (acc ++ [y]))) else Nx H3) := by
  refine ⟨fun i m H => m = n - i ∧ i ≤ n ∧ J i H, ⟨n, rfl, Nat.zero_le _, j0⟩, ?_⟩
  rintro i m H ⟨rfl, hi, p⟩
  obtain ⟨qx, qy⟩ := stay i H hi p
  rcases Nat.lt_or_ge i n with lt | ge
  · have ex : xs[i]? = some (xs[i]'(by omega)) := List.getElem?_eq_getElem _
    have ey : ys[i]? = some (ys[i]'(by omega)) := List.getElem?_eq_getElem _
    refine .inr ⟨⟨xs, ys, _, _, qx, qy, ex, ey⟩, J (i + 1), fun H' p' => ⟨n - (i + 1), by omega, rfl, lt, p'⟩, fun v H' ⟨T, x', y', e1, hT, e2, f1, f2⟩ => ?_⟩
    subst e1 e2
    exact turn i x' y' T H (f1 xs qx) (f2 ys qy) p hT
  · have e : i = n := Nat.le_antisymm hi ge
    subst e
    exact .inl ⟨⟨xs, ys, qx, qy, by omega⟩, over H p⟩
/-! ### the whole of a tuple as a slice is the tuple itself -/
section
variable {prog : Program} {w : World} {A : Around} {E : Value → Shared → Prop} {s : Shared}
theorem tup_all {b z : Addr} {us : Array Value} {v1 v2 : Value} {i j : Option Int} {Q : Value → Shared → Prop} (gt : IsTup s.heap b us) (gs : s.heap.IsSliceOf z v1 v2 .none) (p1 : IsPart v1 i) (p2 : IsPart v2 j)
    (all : HT.sIx us.size 0 i = 0 ∧ HT.sIx us.size us.size j = us.size) (q : Q (.ref b) s) : wpAny (model prog w) A (getItem (.ref b) (.ref z)) Q E s := by
  obtain ⟨oz, hz, cz, dz⟩ := id gs
  have tz : s.TypeIs (.ref z) "slice" := ⟨oz, hz, cz⟩
  unfold getItem
  try with_reducible refine wpAny_holding ?_
  refine wpAny_bind (wpAny_sequenceKey gt.typeIs (by decide) ?_)
  refine wpAny_bind (wpAny_callSpecial?_slot (name := Str.ofString "__getitem__") gt.typeIs PyProof.Rows.slot_tuple_getitem (wpAny_call_entry PyProof.Rows.slot_tuple_getitem gt.typeIs entry_tuple_getitem ?_ (args_tuple_getitem _ _)))
  show wpAny _ _ (Builtin.Tuple.tupleItemsOf (.ref b) >>= _) _ _ s
  refine wpAny_bind (tupleItemsOf_ gt ?_)
  refine wpAny_bind (wpAny_typeOf tz ?_)
  rw [if_pos (by decide)]
  refine wpAny_bind (HT.sliceApplied_gen gs p1 p2 ?_)
  have yes : (((HT.sIx us.size 0 i : Nat) : Int) == 0 && (1 : Int) == 1 && (HT.sIx us.size us.size j - HT.sIx us.size 0 i) == us.size) = true := by
    rw [all.1, all.2]
    simp
  show wpAny _ _ (if (((HT.sIx us.size 0 i : Nat) : Int) == 0 && (1 : Int) == 1 && (HT.sIx us.size us.size j - HT.sIx us.size 0 i) == us.size) = true then _ else _) _ _ s
  rw [if_pos yes]
  show wpAny _ _ (Builtin.Tuple.tupleIsExact (.ref b) >>= _) _ _ s
  refine wpAny_bind ?_
  unfold Builtin.Tuple.tupleIsExact
  refine wpAny_bind (wpAny_typeOf gt.typeIs (wpAny_pure ?_))
  rw [if_pos (by decide)]
  exact wpAny_bind (wpAny_rule (wpAny_pure ⟨_, rfl, wpAny_pure q⟩))
end
/-- t[lo:hi], any part of it -/
def rSlW (K : PySem.W.Frag) : V → Option Int → Option Int → Hp → VK → Prop := fun x lo hi H Q => ∃ a xs, x = .ref a ∧ SqT K H a xs ∧ HT.sIx xs.length 0 lo = 0 ∧ HT.sIx xs.length xs.length hi = xs.length ∧ Q (.ref a) H
theorem sl_tupW {X : Cx} : SlR X (rSlW X.K) := by
  intro pins s σ H x v vl vu lo hi sl Q I rx hs pl pu h
  obtain ⟨a, xs, rfl, hx, w1, w2, q⟩ := h
  cases rx
  obtain ⟨its, r, gt, hz⟩ := I.tuple hx
  have hlen : its.toArray.size = xs.length := by rw [List.size_toArray]; exact r.length.symm
  refine ⟨"tuple", _, PyProof.Rows.slot_tuple_getitem.lookup, gt.typeIs, ?_⟩
  exact tup_all gt hs pl pu (by rw [hlen]; exact ⟨w1, w2⟩) ⟨.ref a, H, I, rfl, q⟩
def rOr (r r' : R2) : R2 := fun x y H Q => r x y H Q ∨ r' x y H Q
theorem op_or {X : Cx} {f : Value → Value → Sem Value} {r r' : R2} (h : OpR X f r) (h' : OpR X f r') : OpR X f (rOr r r') := by
  intro pins s σ H x y v u Q I rx ry q
  rcases q with q | q
  · exact h pins s σ H x y v u Q I rx ry q
  · exact h' pins s σ H x y v u Q I rx ry q
end Kd

-- ===== KX14 =====
set_option Elab.async false
set_option linter.all false
set_option maxRecDepth 100000
set_option maxHeartbeats 4000000
namespace Kd
open PySem PySem.Spec PyProof.Rows L2
/-- t[lo:hi], t a tuple: the part, as itself or new -/
def rSlA : V → Option Int → Option Int → Hp → VK → Prop := fun x lo hi H Q => ∃ a xs, x = .ref a ∧ H a = some (.tup xs) ∧ ∀ p H', Same H H' → H' p = some (.tup (cutV xs lo hi)) → Q (.ref p) H'
theorem cut_whole {xs : List V} {lo hi : Option Int} (h1 : HT.sIx xs.length 0 lo = 0) (h2 : HT.sIx xs.length xs.length hi = xs.length) : cutV xs lo hi = xs := by
  unfold cutV
  rw [h1, h2]
  simp
theorem sl_tupA {X : Cx} : SlR X rSlA := by
  intro pins s σ H x v vl vu lo hi sl Q I rx hs pl pu h
  obtain ⟨a, xs, rfl, hx, q⟩ := h
  by_cases wh : HT.sIx xs.length 0 lo = 0 ∧ HT.sIx xs.length xs.length hi = xs.length
  · exact sl_tupW pins s σ H _ v vl vu lo hi sl Q I rx hs pl pu ⟨a, xs, rfl, SqT.of hx, wh.1, wh.2, q a H (Same.refl H) (by rw [cut_whole wh.1 wh.2]; exact hx)⟩
  · exact L2.sl_tup pins s σ H _ v vl vu lo hi sl Q I rx hs pl pu ⟨a, xs, rfl, SqT.of hx, wh, fun p hp => q p _ (fun b o e => by rw [upd_ne (ne_of_none e hp)]; exact e) upd_same⟩
end Kd

-- ===== KN4 =====
set_option Elab.async false
set_option linter.all false
set_option maxRecDepth 100000
set_option maxHeartbeats 4000000
namespace Kd
open PySem L2 PyProof.Rows PySem.Spec PySem.W PySem.P
/-! ### t + u, whatever they hold -/
def rCatA : R2 := fun x y H Q => ∃ a b xs ys, x = .ref a ∧ y = .ref b ∧ H a = some (.tup xs) ∧ H b = some (.tup ys) ∧ xs.length + ys.length ≤ sizeLine ∧ ∀ r H', Same H H' → H' r = some (.tup (xs ++ ys)) → Q (.ref r) H'
theorem op_catA {X : Cx} : OpR X (binaryOp .Add) rCatA := by
  intro pins s σ H x y v u Q I rx ry h
  obtain ⟨a, b, xs, ys, rfl, rfl, ha, hb, hz, q⟩ := h
  cases rx
  cases ry
  obtain ⟨its, r1, p1, _⟩ := I.tuple (SqT.of ha)
  obtain ⟨its2, r2, p2, _⟩ := I.tuple (SqT.of hb)
  by_cases hx : xs = []
  · subst hx
    cases r1
    obtain ⟨⟨cls, dd, data, sl⟩, ho, hc, n, hd⟩ := id p1
    obtain ⟨⟨cls2, dd2, data2, sl2⟩, ho2, hc2, n2, hd2⟩ := id p2
    simp only at hc hd hc2 hd2
    subst hc hd hc2 hd2
    exact concat_meets ⟨_, ho, rfl⟩ ⟨_, ho2, rfl⟩ noFill_tuple_add seq_tuple_add PySem.F.slot_tuple_add PySem.F.entry_tuple_add (PySem.F.args_tuple_add_2 _ _)
      (tuple_addW0 a b _ its2.toArray n n2 dd dd2 sl sl2 (by simp)) ⟨ho, ho2, ⟨.ref b, H, I, rfl, q b H (Same.refl H) hb⟩⟩
  · refine HT.cat_tup p1 p2 (fun z => hx (r1.nil_iff.mp z)) (fun z => ⟨.ref a, H, I, rfl, q a H (Same.refl H) (by rw [r2.nil_iff.mp z, List.append_nil]; exact ha)⟩) (fun z => ?_) (by rw [← r1.length, ← r2.length]; exact hz)
    refine ⟨.ref s.heap.objs.size, _, I.laid (t' := s.toks) (o := .tup (xs ++ ys)) (fun b ob q => Heap.get?_push_of_some _ q) (Nat.le_refl _) ?_, rfl, q _ _ (fun c o e => ?_) upd_same⟩
    · exact ⟨by rw [List.length_append]; exact hz, _, r1.append r2, IsTup.new _ _⟩
    · rw [upd_ne (ne_of_none e (I.hok.fresh (Nat.le_refl _)))]
      exact e
end Kd

-- ===== KX15 =====
set_option Elab.async false
set_option linter.all false
set_option maxRecDepth 100000
set_option maxHeartbeats 4000000
/-! Tuples tracked with their objects, which have no dict of their own: so that their methods can be called. -/
namespace Kd
open PySem L2 PyProof.Rows PySem.Spec PySem.W PySem.P
/-- at a the tuple xs, its object known to be a plain one -/
def TpF (H : Hp) (a : Addr) (xs : List V) : Prop := ∃ o : Obj, H a = some (.frz o (.tup xs)) ∧ o.dict = none
/-- tuples that stood stand, and what was frozen -/
def TF (H H' : Hp) : Prop := (∀ a xs, H a = some (.tup xs) → H' a = some (.tup xs)) ∧ ∀ a o u, H a = some (.frz o u) → H' a = some (.frz o u)
theorem TF.refl (H : Hp) : TF H H := ⟨fun _ _ e => e, fun _ _ _ e => e⟩
theorem TF.trans {H H1 H2 : Hp} (a : TF H H1) (b : TF H1 H2) : TF H H2 := ⟨fun x xs e => b.1 x xs (a.1 x xs e), fun x o u e => b.2 x o u (a.2 x o u e)⟩
theorem TF.of {H H' : Hp} (s : Same H H') : TF H H' := ⟨fun a xs e => s a _ e, fun a o u e => s a _ e⟩
theorem TF.new {H : Hp} {p : Addr} {o : HO} (n : H p = none) : TF H (upd H p o) := ⟨fun a xs e => by
  rw [upd_ne (ne_of_none e n)]
  exact e, fun a o' u e => by
  rw [upd_ne (ne_of_none e n)]
  exact e⟩
theorem TF.at_ {H : Hp} {p : Addr} {o o' : HO} (n : H p = some o') (h : ∀ xs, o' ≠ .tup xs) (h2 : ∀ b u, o' ≠ .frz b u) : TF H (upd H p o) := ⟨fun a xs e => by
  rw [upd_ne (fun z => by rw [z, n] at e; exact h xs (Option.some.inj e))]
  exact e, fun a b u e => by
  rw [upd_ne (fun z => by rw [z, n] at e; exact h2 b u (Option.some.inj e))]
  exact e⟩
theorem TF.lst {H : Hp} {p : Addr} {o : HO} {xs : List V} (n : H p = some (.lst xs)) : TF H (upd H p o) := TF.at_ n (fun _ z => by cases z) (fun _ _ z => by cases z)
theorem TpF.to {H H' : Hp} {a : Addr} {xs : List V} (h : TpF H a xs) (t : TF H H') : TpF H' a xs := by
  obtain ⟨o, h1, h2⟩ := h
  exact ⟨o, t.2 _ _ _ h1, h2⟩
theorem TpF.rd {H : Hp} {a : Addr} {xs : List V} (h : TpF H a xs) : Rd H a (.tup xs) := by
  obtain ⟨o, h1, _⟩ := h
  exact .inr ⟨o, h1⟩
theorem TpF.sq {K : PySem.W.Frag} {H : Hp} {a : Addr} {xs : List V} (h : TpF H a xs) : SqT K H a xs := .inl h.rd
theorem tpF_ok {P : Program} {w : World} {H : Hp} {h : Heap} {xs : List V} {its : List Value} (hz : xs.length ≤ sizeLine) (r : Vals xs its) :
    ObjOk P w H (h.push { cls := .type "tuple", data := .seq its.toArray }) h.objs.size (.frz { cls := .type "tuple", data := .seq its.toArray } (.tup xs)) := ⟨Heap.get?_push_size _ rfl, hz, its, r, IsTup.new _ _⟩
/-! ### (..), t + u, t[a:b], tuple(xs) -/
def tTupF (t : TA) : TE := fun σ H Q => t σ H fun xs H1 => xs.length ≤ sizeLine ∧ ∀ p H', Same H1 H' → H1 p = none → TpF H' p xs → Q (.ref p) H'
theorem pe_tupF {X : Cx} {es : List Expr} {t : TA} {pos : Pos} {x1} (h : PA X es t) : PE X (.Tuple es x1 pos) (tTupF t) := by
  refine ⟨fun pins s σ H Q I hq => ?_⟩
  refine wpAny_Tuple_spliced (thn (h.run pos pins s σ H _ I hq) fun us s1 ⟨xs, H1, I1, r, z, q⟩ => ⟨by rw [← r.length]; exact z, ?_⟩)
  have hf : H1 s1.heap.objs.size = none := I1.hok.fresh (Nat.le_refl _)
  exact ⟨.ref s1.heap.objs.size, upd H1 s1.heap.objs.size _, I1.laid (t' := s1.toks) (fun b u e => Heap.get?_push_of_some _ e) (Nat.le_refl _) (tpF_ok z r), rfl, q _ _ (fun b o e => by rw [upd_ne (ne_of_none e hf)]; exact e) hf ⟨_, upd_same, rfl⟩⟩
def rCatF : R2 := fun x y H Q => ∃ a b xs ys, x = .ref a ∧ y = .ref b ∧ TpF H a xs ∧ TpF H b ys ∧ xs.length + ys.length ≤ sizeLine ∧ ∀ r H', Same H H' → TpF H' r (xs ++ ys) → Q (.ref r) H'
theorem op_catF {X : Cx} : OpR X (binaryOp .Add) rCatF := by
  intro pins s σ H x y v u Q I rx ry h
  obtain ⟨a, b, xs, ys, rfl, rfl, ha, hb, hz, q⟩ := h
  cases rx
  cases ry
  obtain ⟨its, r1, p1, _⟩ := I.tuple ha.sq
  obtain ⟨its2, r2, p2, _⟩ := I.tuple hb.sq
  by_cases hx : xs = []
  · subst hx
    cases r1
    obtain ⟨⟨cls, dd, data, sl⟩, ho, hc, n, hd⟩ := id p1
    obtain ⟨⟨cls2, dd2, data2, sl2⟩, ho2, hc2, n2, hd2⟩ := id p2
    simp only at hc hd hc2 hd2
    subst hc hd hc2 hd2
    exact concat_meets ⟨_, ho, rfl⟩ ⟨_, ho2, rfl⟩ noFill_tuple_add seq_tuple_add PySem.F.slot_tuple_add PySem.F.entry_tuple_add (PySem.F.args_tuple_add_2 _ _)
      (tuple_addW0 a b _ its2.toArray n n2 dd dd2 sl sl2 (by simp)) ⟨ho, ho2, ⟨.ref b, H, I, rfl, q b H (Same.refl H) hb⟩⟩
  · refine HT.cat_tup p1 p2 (fun z => hx (r1.nil_iff.mp z)) (fun z => ⟨.ref a, H, I, rfl, q a H (Same.refl H) (by rw [r2.nil_iff.mp z, List.append_nil]; exact ha)⟩) (fun z => ?_) (by rw [← r1.length, ← r2.length]; exact hz)
    have hf := I.hok.fresh (Nat.le_refl s.heap.objs.size)
    exact ⟨.ref s.heap.objs.size, _, I.laid (t' := s.toks) (fun b ob q => Heap.get?_push_of_some _ q) (Nat.le_refl _) (tpF_ok (by rw [List.length_append]; exact hz) (r1.append r2)), rfl, q _ _ (fun c o e => by rw [upd_ne (ne_of_none e hf)]; exact e) ⟨_, upd_same, rfl⟩⟩
def rSlF : V → Option Int → Option Int → Hp → VK → Prop := fun x lo hi H Q => ∃ a xs, x = .ref a ∧ TpF H a xs ∧ ∀ p H', Same H H' → TpF H' p (cutV xs lo hi) → Q (.ref p) H'
theorem sl_tupF {X : Cx} : SlR X rSlF := by
  intro pins s σ H x v vl vu lo hi sl Q I rx hs pl pu h
  obtain ⟨a, xs, rfl, hx, q⟩ := h
  by_cases wh : HT.sIx xs.length 0 lo = 0 ∧ HT.sIx xs.length xs.length hi = xs.length
  · exact sl_tupW pins s σ H _ v vl vu lo hi sl Q I rx hs pl pu ⟨a, xs, rfl, hx.sq, wh.1, wh.2, q a H (Same.refl H) (by rw [cut_whole wh.1 wh.2]; exact hx)⟩
  · cases rx
    obtain ⟨its, r, ht, hz⟩ := I.tuple hx.sq
    have hlen : its.toArray.size = xs.length := by rw [List.size_toArray]; exact r.length.symm
    refine ⟨"tuple", _, PyProof.Rows.slot_tuple_getitem.lookup, ht.typeIs, ?_⟩
    refine HT.getItem_tuple_cut ht hs pl pu (by rw [hlen]; exact wh) ?_ (by rw [hlen]; exact hz)
    rw [hlen]
    have hf := I.hok.fresh (Nat.le_refl s.heap.objs.size)
    exact ⟨.ref s.heap.objs.size, _, I.laid (t' := s.toks) (fun b ob q => Heap.get?_push_of_some _ q) (Nat.le_refl _) (tpF_ok (Nat.le_trans (cutV_length xs lo hi) hz) ((r.drop (HT.sIx xs.length 0 lo)).take (HT.sIx xs.length xs.length hi - HT.sIx xs.length 0 lo))), rfl, q _ _ (fun c o e => by rw [upd_ne (ne_of_none e hf)]; exact e) ⟨_, upd_same, rfl⟩⟩
theorem call_tuple_ofF {X : Cx} : CallR X (.type "tuple") (fun xs H Q => ∃ p ys, xs = [.ref p] ∧ SqL X.K H p ys ∧ ∀ l H', Same H H' → TpF H' l ys → Q (.ref l) H') := by
  intro pins s σ H xs us Q I r h
  obtain ⟨p, ys, rfl, hq, q⟩ := h
  obtain ⟨u, rfl, rx⟩ := vals1 r
  cases rx
  obtain ⟨its, r', pl, hz⟩ := I.list hq
  have hlen := r'.length
  refine call_tuple_list pl.isList (fun h' kp => ?_) (by simp only [List.size_toArray]; omega)
  have I1 : Inv X pins σ H { s with heap := h' } := I.kept (t' := s.toks) kp
  have hf := I1.hok.fresh (Nat.le_refl h'.objs.size)
  exact ⟨.ref h'.objs.size, _, I1.laid (t' := s.toks) (fun b o e => Heap.get?_push_of_some _ e) (Nat.le_refl _) (tpF_ok hz r'), rfl, q _ _ (fun c o e => by rw [upd_ne (ne_of_none e hf)]; exact e) ⟨_, upd_same, rfl⟩⟩
/-! ### t.m(..) -/
def tBMF (r : V → List V → Hp → VK → Prop) (to : TE) (t : TA) : TE := fun σ H Q => to σ H fun x H1 => (∃ a xs, x = .ref a ∧ TpF H1 a xs) ∧ t σ H1 fun xs H2 => r x xs H2 Q
theorem pe_bmF {X : Cx} {o e : Expr} {es : List Expr} {to : TE} {t : TA} {name : Str} {apos cpos : Pos} {id : String} {r : V → List V → Hp → VK → Prop} (pa : PlainAttrs "tuple") (slot : Slot "tuple" name id) (hty : typeOf (.builtin id) = pure (.type "method_descriptor")) (hm : MtR X id r) (ho : PE X o to) (ha : PA X (e :: es) t)
    (base : attributeBase o name X.env (eval o X.env) = eval o X.env := by rfl) (few : ((backTo cpos (starEach (e :: es) X.env)).all (fun x => !x.1) && (backToKw cpos (keywordEach [] X.env)).all (fun x => x.1.isSome) && decide ((e :: es).length + ([] : List Keyword).length + (if ([] : List Keyword).isEmpty then 0 else 1) < 30)) = true := by rfl)
    (line : (apos.endLine == cpos.line) = true := by rfl) (star : starEach (e :: es) X.env = (false, eval e X.env) :: starEach es X.env := by rfl) (plain : (backTo cpos (starEach es X.env)).any (·.1) = false := by rfl) :
    PE X (.Call (.Attribute o name apos) (e :: es) [] cpos) (tBMF r to t) := by
  refine ⟨fun pins s σ H Q I h => ?_⟩
  refine wpAny_Call_method_late base few line rfl (thn (ho.run pins s σ H _ I h) fun v s1 ⟨x, H1, I1, r1, ⟨a, xs, ex, ob, hb, nd⟩, q1⟩ => ?_)
  subst ex
  obtain rfl : v = Value.ref a := r1
  obtain ⟨g, _, its, _, o2, g2, c2, _⟩ := (show ObjOk X.prog X.w H1 s1.heap a (.frz ob (.tup xs)) from I1.hok _ _ hb)
  rw [g] at g2
  cases g2
  refine ⟨"tuple", id, pa, slot, hty, ⟨ob, g, c2⟩, fun b e2 => ?_, ?_⟩
  · cases e2
    exact ⟨ob, g, nd⟩
  · have hA := ha.run cpos pins s1 σ H1 _ I1 q1
    rw [star] at hA ⊢
    refine Calls.callWith_builtin (by show (false || (backTo cpos (starEach es X.env)).any (·.1)) = false; rw [plain] <;> rfl) (Calls.evalArgs_plain ?_)
    exact thn hA fun us s2 ⟨vs, H2, I2, r2, q2⟩ => hm pins s2 σ H2 (.ref a) vs (.ref a) us Q I2 rfl r2 q2
end Kd

-- ===== KN8 =====
set_option Elab.async false
set_option linter.all false
set_option maxRecDepth 100000
set_option maxHeartbeats 4000000
namespace Kf
open PySem L2 PyProof.Rows PySem.Spec PySem.W
theorem paired_snocV {α β : Type} {R : α → β → Prop} {l : List α} {m : List β} {a : α} {b : β} (r : Paired R l m) (h : R a b) : Paired R (l ++ [a]) (m ++ [b]) := by
  induction r with
  | nil => exact .cons h .nil
  | cons x _ ih => exact .cons x ih
/-! ### dicts whose keys are nested tuples (of numbers, truth values, texts), their values anything -/
mutual
/-- v is the key k -/
inductive NqV (H : Hp) : V → NestedKey → Prop
  | num (i : Int) : NqV H (.int i) (.num i)
  | bool (b : Bool) : NqV H (.bl b) (.num (if b = true then 1 else 0))
  | text (x : Str) : NqV H (.str x) (.text x)
  | tup {a : Addr} {vs : List V} {ks : List NestedKey} : Rd H a (.tup vs) → NqVs H vs ks → NqV H (.ref a) (.tup ks)
inductive NqVs (H : Hp) : List V → List NestedKey → Prop
  | nil : NqVs H [] []
  | cons {v : V} {vs : List V} {k : NestedKey} {ks : List NestedKey} : NqV H v k → NqVs H vs ks → NqVs H (v :: vs) (k :: ks)
end
mutual
theorem NqV.to {H H' : Hp} (s : ∀ a xs, Rd H a (.tup xs) → Rd H' a (.tup xs)) : ∀ {v : V} {k : NestedKey}, NqV H v k → NqV H' v k
  | _, _, .num i => .num i
  | _, _, .bool b => .bool b
  | _, _, .text x => .text x
  | _, _, .tup h1 h2 => .tup (s _ _ h1) (NqVs.to s h2)
theorem NqVs.to {H H' : Hp} (s : ∀ a xs, Rd H a (.tup xs) → Rd H' a (.tup xs)) : ∀ {vs : List V} {ks : List NestedKey}, NqVs H vs ks → NqVs H' vs ks
  | _, _, .nil => .nil
  | _, _, .cons h1 h2 => .cons (NqV.to s h1) (NqVs.to s h2)
end
section
variable {X : Cx} {pins : List (Addr × Obj)} {σ : L2.St} {H : Hp} {s : Shared}
mutual
theorem nq_is (I : Inv X pins σ H s) : ∀ (k : NestedKey) {v : V} {u : Value}, NqV H v k → RelV v u → NestedIs s.heap k u
  | .none, _, _, h, _ => by cases h
  | .num i, _, _, h, r => by
    cases h with
    | num i =>
      obtain ⟨t, rfl⟩ := r
      exact .int i t
    | bool b =>
      have e : _ = Value.bool b := r
      subst e
      exact .bool rfl
  | .text x, _, _, h, r => by
    cases h
    obtain ⟨t, rfl⟩ := r
    exact .text x t
  | .tup ks, _, _, h, r => by
    cases h with
    | tup h1 h2 =>
      cases r
      obtain ⟨_, its, rv, o, ho, hc, n, hd⟩ := (show ObjOk X.prog X.w H s.heap _ (.tup _) from h1.ok I.hok)
      exact .tup ho hc hd (by simpa using nqs_are I ks h2 rv)
theorem nqs_are (I : Inv X pins σ H s) : ∀ (ks : List NestedKey) {vs : List V} {us : List Value}, NqVs H vs ks → Vals vs us → NestedAll s.heap ks us
  | [], _, _, h, r => by
    cases h
    cases r
    exact .nil
  | k :: ks, _, _, h, r => by
    cases h with
    | cons h1 h2 =>
      cases r with
      | cons r1 r2 => exact .cons (nq_is I k h1 r1) (nqs_are I ks h2 r2)
end
end
/-- a key, where its tuple stands, its value -/
abbrev VRow := NestedKey × Addr × V
def VRows (L : List VRow) (xs : List (NestedKey × Addr × Value)) : Prop := Paired (fun (p : VRow) x => p.1 = x.1 ∧ p.2.1 = x.2.1 ∧ RelV p.2.2 x.2.2) L xs
def VHeld (P : Program) (w : World) (a : Addr) (L : List VRow) (h : Heap) : Prop := ∃ (xs : List (NestedKey × Addr × Value)) (o : Obj) (es : Array DictEntry) (ep : Nat), h.get? a = some o ∧ o.ExactDict ∧ o.data = .dict es ep ∧ es.toList = xs.map (entryOfKey (nestedKind P w)) ∧ (xs.map (·.1)).Nodup ∧ VRows L xs ∧ (a == sysModules) = false ∧ L.length ≤ 1000
def VDict (P : Program) (w : World) (a : Addr) (L : List VRow) : HO := .ext (VHeld P w a L)
theorem vdict_ok {P : Program} {w : World} {H : Hp} {h : Heap} {a : Addr} {L : List VRow} (x : VHeld P w a L h) : ObjOk P w H h a (VDict P w a L) := by
  refine ⟨x, ?_, fun h1 h2 y k => ?_⟩
  · obtain ⟨_, o, _, _, ho, _⟩ := x
    exact ⟨o, ho⟩
  · obtain ⟨xs, o, es, ep, ho, r⟩ := y
    exact ⟨xs, o, es, ep, k o ho, r⟩
/-- the keys' tuples stand -/
def VKeys (H : Hp) (L : List VRow) : Prop := ∀ p ∈ L, NqV H (.ref p.2.1) p.1 ∧ p.1.depth ≤ 8
theorem VKeys.to {H H' : Hp} {L : List VRow} (s : ∀ a xs, Rd H a (.tup xs) → Rd H' a (.tup xs)) (k : VKeys H L) : VKeys H' L := fun p m => ⟨(k p m).1.to s, (k p m).2⟩
theorem VKeys.snoc {H : Hp} {L : List VRow} {k : NestedKey} {b : Addr} {v : V} (h : VKeys H L) (hk : NqV H (.ref b) k) (hd : k.depth ≤ 8) : VKeys H (L ++ [(k, b, v)]) := fun p m => by
  rcases List.mem_append.mp m with m | m
  · exact h p m
  · rw [List.mem_singleton.mp m]
    exact ⟨hk, hd⟩
def valW (L : List VRow) (k : NestedKey) : Option V := (L.find? fun p => decide (p.1 = k)).map (·.2.2)
theorem valW_none {L : List VRow} {k : NestedKey} : valW L k = none ↔ k ∉ L.map (·.1) := by
  unfold valW
  rw [Option.map_eq_none_iff, List.find?_eq_none]
  constructor
  · intro h m
    obtain ⟨p, hp, e⟩ := List.mem_map.mp m
    exact h p hp (decide_eq_true e)
  · intro h p hp e
    exact h (List.mem_map.mpr ⟨p, hp, of_decide_eq_true e⟩)
theorem valW_some {L : List VRow} {k : NestedKey} {v : V} (h : valW L k = some v) : ∃ b, (k, b, v) ∈ L := by
  unfold valW at h
  obtain ⟨p, hp, e⟩ := Option.map_eq_some_iff.mp h
  have h1 := List.mem_of_find?_eq_some hp
  have h2 : p.1 = k := of_decide_eq_true (by simpa using List.find?_some hp)
  exact ⟨p.2.1, by rw [← h2, ← e]; exact h1⟩
theorem valW_mem {L : List VRow} (nd : (L.map (·.1)).Nodup) {k : NestedKey} {b : Addr} {v : V} (h : (k, b, v) ∈ L) : valW L k = some v := by
  induction L with
  | nil => cases h
  | cons p L ih =>
    rw [List.map_cons, List.nodup_cons] at nd
    unfold valW
    rw [List.find?_cons]
    by_cases e : p.1 = k
    · rw [decide_eq_true e]
      rcases List.mem_cons.mp h with rfl | m
      · rfl
      · exact absurd (List.mem_map.mpr ⟨_, m, rfl⟩) (by rw [e] at nd; exact nd.1)
    · rw [decide_eq_false e]
      rcases List.mem_cons.mp h with rfl | m
      · exact absurd rfl e
      · exact ih nd.2 m
theorem valW_is {L : List VRow} {k : NestedKey} : (valW L k).isSome = decide (k ∈ L.map (·.1)) := by
  cases e : valW L k with
  | none => exact (decide_eq_false (valW_none.mp e)).symm
  | some v =>
    obtain ⟨b, m⟩ := valW_some e
    exact (decide_eq_true (List.mem_map.mpr ⟨_, m, rfl⟩)).symm
theorem rows_atV {L : List VRow} {xs : List (NestedKey × Addr × Value)} (r : VRows L xs) (k : NestedKey) : (∀ v, valW L k = some v → ∃ b u, atKey xs k = some (b, u) ∧ RelV v u) ∧ (valW L k = none → atKey xs k = none) := by
  unfold VRows at r
  induction r with
  | nil => exact ⟨fun i e => (nomatch (show (none : Option V) = some i from e)), fun _ => rfl⟩
  | @cons p x ps xs h t ih =>
    obtain ⟨h1, h2, h3⟩ := h
    unfold valW atKey at ih ⊢
    rw [List.find?_cons, List.find?_cons, ← h1]
    by_cases e : p.1 = k
    · rw [decide_eq_true e]
      refine ⟨fun i q => ?_, fun q => by cases q⟩
      have q2 : p.2.2 = i := Option.some.inj q
      exact ⟨x.2.1, x.2.2, rfl, by rw [← q2]; exact h3⟩
    · rw [decide_eq_false e]
      exact ih
section
variable {X : Cx} {pins : List (Addr × Obj)} {σ : L2.St} {H : Hp} {s : Shared}
theorem vheld_rd {a : Addr} {L : List VRow} (I : Inv X pins σ H s) (h : VHeld X.prog X.w a L s.heap) (ks : VKeys H L) : ∃ xs, s.heap.DictOfH (nestedKind X.prog X.w) a xs ∧ VRows L xs ∧ (a == sysModules) = false ∧ L.length ≤ 1000 := by
  obtain ⟨xs, o, es, ep, ho, hx, hd, he, hn, r, lo, few⟩ := h
  refine ⟨xs, ⟨o, es, ep, ho, hx, hd, he, fun x hx => ?_, hn⟩, r, lo, few⟩
  have all : ∀ {L : List VRow} {xs : List (NestedKey × Addr × Value)}, VRows L xs → VKeys H L → ∀ x ∈ xs, NestedIs s.heap x.1 (.ref x.2.1) ∧ x.1.depth ≤ 8 := by
    intro L xs r
    unfold VRows at r
    induction r with
    | nil => exact fun _ x m => nomatch m
    | @cons p y ps ys h t ih =>
      intro k x m
      rcases List.mem_cons.mp m with rfl | m
      · obtain ⟨h1, h2, _⟩ := h
        rw [← h1, ← h2]
        have q := k p List.mem_cons_self
        exact ⟨nq_is I _ q.1 rfl, q.2⟩
      · exact ih (fun q mq => k q (List.mem_cons_of_mem _ mq)) x m
  exact all r ks x hx
theorem vdict_rd {a : Addr} {L : List VRow} (I : Inv X pins σ H s) (ha : H a = some (VDict X.prog X.w a L)) (ks : VKeys H L) : ∃ xs, s.heap.DictOfH (nestedKind X.prog X.w) a xs ∧ VRows L xs ∧ (a == sysModules) = false ∧ L.length ≤ 1000 :=
  vheld_rd I (show VHeld X.prog X.w a L s.heap from (I.hok a _ ha).1) ks
theorem vheld_new {P : Program} {w : World} (h : Heap) (big : sysModules < h.objs.size) : VHeld P w h.objs.size [] (h.push { cls := .type "dict", data := .dict #[] }) :=
  ⟨[], _, #[], 0, Heap.get?_push_size _ rfl, ⟨rfl, rfl, rfl⟩, rfl, rfl, List.nodup_nil, .nil, beq_eq_false_iff_ne.mpr (Ne.symm (Nat.ne_of_lt big)), Nat.zero_le _⟩
theorem vheld_put {a b : Addr} {L : List VRow} {k : NestedKey} {v : V} {u : Value} {xs : List (NestedKey × Addr × Value)} {h' : Heap} {P : Program} {w : World} (rr : VRows L xs) (rv : RelV v u) (lo : (a == sysModules) = false) (hn : valW L k = none) (few : L.length < 1000)
    (D2 : h'.DictOfH (nestedKind P w) a (storedH xs k b u)) : VHeld P w a (L ++ [(k, b, v)]) h' := by
  rw [storedH_new ((rows_atV rr k).2 hn)] at D2
  obtain ⟨o2, es, ep, g1, g2, g3, g4, _, g5⟩ := D2
  refine ⟨xs ++ [(k, b, u)], o2, es, ep, g1, g2, g3, g4, g5, ?_, lo, by rw [List.length_append]; exact few⟩
  exact paired_snocV rr ⟨rfl, rfl, rv⟩
end
/-- {}, to be such a dict -/
def tDNewV (P : Program) (w : World) : TE := fun _ H Q => ∀ p, H p = none → Q (.ref p) (upd H p (VDict P w p []))
/-- k in d -/
def rInV (P : Program) (w : World) : R2 := fun x y H Q => ∃ b a k L, x = .ref b ∧ y = .ref a ∧ NqV H (.ref b) k ∧ k.depth ≤ 8 ∧ H a = some (VDict P w a L) ∧ VKeys H L ∧ Q (.bl (valW L k).isSome) H
/-- d[k] -/
def tGetV (P : Program) (w : World) (td ty : TE) : TE := fun σ H Q => td σ H fun x H1 => ty σ H1 fun y H2 => ∃ a b k L v, x = .ref a ∧ y = .ref b ∧ NqV H2 (.ref b) k ∧ k.depth ≤ 8 ∧ H2 a = some (VDict P w a L) ∧ VKeys H2 L ∧ valW L k = some v ∧ Q v H2
/-- d[k] = v, the key being new there -/
def sPutV (P : Program) (w : World) (td ty tv : TE) : TS := fun D σ H => tv σ H fun v H1 => td σ H1 fun x H2 => ty σ H2 fun y H3 => ∃ a b k L, x = .ref a ∧ y = .ref b ∧ NqV H3 (.ref b) k ∧ k.depth ≤ 8 ∧ H3 a = some (VDict P w a L) ∧ VKeys H3 L ∧ valW L k = none ∧ L.length < 1000 ∧
  D.nx σ (upd H3 a (VDict P w a (L ++ [(k, b, v)])))
/-- d.setdefault(k, x) -/
def tSetdV (P : Program) (w : World) (td ty tx : TE) : TE := fun σ H Q => td σ H fun x H1 => ∃ a L0, x = .ref a ∧ H1 a = some (VDict P w a L0) ∧ ty σ H1 fun y H2 => tx σ H2 fun z H3 => ∃ b k L, y = .ref b ∧ NqV H3 (.ref b) k ∧ k.depth ≤ 8 ∧ H3 a = some (VDict P w a L) ∧ VKeys H3 L ∧ L.length < 1000 ∧
  (∀ v, valW L k = some v → Q v H3) ∧ (valW L k = none → Q z (upd H3 a (VDict P w a (L ++ [(k, b, z)]))))
section
variable {X : Cx} {o i e f value : Expr} {pos pos' apos cpos : Pos} {td ty tv tx : TE}
theorem pe_dnewV : PE X (.Dict [] [] pos) (tDNewV X.prog X.w) := ⟨fun pins s σ H Q I h =>
  wpAny_Dict_empty ⟨.ref s.heap.objs.size, _, I.laid (a := s.heap.objs.size) (t' := s.toks) (fun _ _ q => Heap.get?_push_of_some _ q) (Nat.le_refl _)
    (vdict_ok (vheld_new s.heap I.big)), rfl, h _ (I.hok.fresh (Nat.le_refl _))⟩⟩
theorem roomV {X : Cx} (hu : X.A.units + 64 < cLine) : (nestedKind X.prog X.w).room X.A.in1 := (show X.A.in1.units + 8 < cLine by simp only [Around.in1]; omega)
theorem op_inV (hu : X.A.units + 64 < cLine) : OpR X (compareOp .In) (rInV X.prog X.w) := by
  intro pins s σ H x y v u Q I rx ry h
  obtain ⟨b, a, k, L, rfl, rfl, hk, hd, ha, ks, q⟩ := h
  cases (show v = Value.ref b from rx)
  cases (show u = Value.ref a from ry)
  obtain ⟨xs, D, r, lo, few⟩ := vdict_rd I ha ks
  refine wpAny_in_heap (roomV hu) ⟨nq_is I k hk rfl, hd⟩ lo D ⟨.bl (valW L k).isSome, H, I.tok _, ?_, q⟩
  have z := rows_atV r k
  cases e : valW L k with
  | none => rw [z.2 e]; rfl
  | some i =>
    obtain ⟨c, t, q, _⟩ := z.1 i e
    rw [q]
    rfl
theorem pe_getV (hu : X.A.units + 64 < cLine) (ho : PE X o td) (hi : PE X i ty) (hs : NoSl i) : PE X (.Subscript o i pos) (tGetV X.prog X.w td ty) := by
  refine ⟨fun pins s σ H Q I h => ?_⟩
  refine subD_of PySem.F.slot_dict_getitem.lookup hs (thn (ho.run pins s σ H _ I h) fun u s1 ⟨x, H1, I1, rx, q1⟩ => thn (hi.run pins s1 σ H1 _ I1 q1) fun iv s2 ⟨y, H2, I2, ry, a, b, k, L, j, ex, ey, hk, hd, ha, ks, hv, q2⟩ => ?_)
  subst ex ey
  obtain rfl : u = Value.ref a := rx
  obtain rfl : iv = Value.ref b := ry
  obtain ⟨xs, D, r, lo, few⟩ := vdict_rd I2 ha ks
  obtain ⟨c, t, q, rv⟩ := (rows_atV r k).1 j hv
  exact ⟨D.typeIs, wpAny_getItem_heap (roomV hu) ⟨nq_is I2 k hk rfl, hd⟩ D q ⟨j, H2, I2.tok _, rv, q2⟩⟩
theorem ps_putV (hu : X.A.units + 64 < cLine) (ho : PE X o td) (hi : PE X i ty) (hv : PE X value tv) (hs : swapsWith value (some (.Subscript o i pos')) pos.line X.env = pure false) :
    PS X (.Assign [.Subscript o i pos'] value pos) (sPutV X.prog X.w td ty tv) := by
  refine ⟨fun pins s σ H D I h => ?_⟩
  refine wpAny_Assign_Subscript (thn (hv.run pins s σ H _ I h) fun r s1 ⟨v, H1, I1, rv, q1⟩ => thn (ho.run pins s1 σ H1 _ I1 q1) fun u s2 ⟨x, H2, I2, rx, q2⟩ => thn (hi.run pins s2 σ H2 _ I2 q2) fun iv s3 ⟨y, H3, I3, ry, a, b, k, L, ex, ey, hk, hd, ha, ks, hn, few, q3⟩ => ?_) hs
  subst ex ey
  obtain rfl : u = Value.ref a := rx
  obtain rfl : iv = Value.ref b := ry
  obtain ⟨xs, Dd, rr, lo, _⟩ := vdict_rd I3 ha ks
  have lx : L.length = xs.length := Paired.length rr
  have big := sizeLine_eq
  refine wpAny_setItem_heap (hsz := by omega) (roomV hu) ⟨nq_is I3 k hk rfl, hd⟩ Dd fun h' D2 sb => ?_
  have VH := vheld_put rr rv lo hn few D2
  obtain ⟨_, o2, _, _, g1, _⟩ := id VH
  exact ⟨σ, _, d_write I3 (by rw [ha]; exact True.intro) sb ⟨o2, g1⟩ (vdict_ok VH), q3⟩
theorem pe_setdV (hu : X.A.units + 64 < cLine) (ho : PE X o td) (he : PE X e ty) (hf : PE X f tx) (m : M2 X o "setdefault" apos e f cpos) : PE X (.Call (.Attribute o "setdefault" apos) [e, f] [] cpos) (tSetdV X.prog X.w td ty tx) := by
  refine ⟨fun pins s σ H Q I h => ?_⟩
  refine wpAny_Call_method m.base m.few m.line PySem.F.plainAttrs_dict PySem.F.slot_dict_setdefault PySem.F.type_dict_setdefault (thn (ho.run pins s σ H _ I h) fun u s1 ⟨x, H1, I1, rx, a, L0, ex, d, q1⟩ => ?_)
  subst ex
  obtain rfl : u = Value.ref a := rx
  obtain ⟨_, o1, _, _, ho1, hx1, _⟩ := (show VHeld X.prog X.w a L0 s1.heap from (I1.hok a _ d).1)
  refine ⟨⟨o1, ho1, hx1.1⟩, (fun b z => by cases z; exact ⟨o1, ho1, hx1.2.1⟩), ?_⟩
  rw [m.trees]
  refine Calls.callWith_builtin rfl (Calls.evalArgs_plain (Calls.spliced_cons (thn (he.run pins s1 σ H1 _ I1 q1) fun iv s2 ⟨y, H2, I2, ry, q2⟩ =>
    Calls.spliced_cons (thn (hf.run pins s2 σ H2 _ I2 q2) fun fv s3 ⟨z, H3, I3, rz, b, k, L, ey, hk, hd, ha, ks, few, q3, q4⟩ => Calls.spliced_nil ?_))))
  subst ey
  obtain rfl : iv = Value.ref b := ry
  obtain ⟨xs, Dd, rr, lo, _⟩ := vdict_rd I3 ha ks
  have lx : L.length = xs.length := Paired.length rr
  have big := sizeLine_eq
  refine call_setdefault_heap (hsz := by omega) (roomV hu) ⟨nq_is I3 k hk rfl, hd⟩ lo Dd (fun p hp => ?_) fun hn h' D2 sb => ?_
  · cases ev : valW L k with
    | none => rw [(rows_atV rr k).2 ev] at hp; cases hp
    | some v =>
      obtain ⟨c, t, q, rv⟩ := (rows_atV rr k).1 v ev
      rw [q] at hp
      cases hp
      exact ⟨v, H3, I3.tok _, rv, q3 v ev⟩
  · have ev : valW L k = none := by
      cases ev : valW L k with
      | none => rfl
      | some v =>
        obtain ⟨c, t, q, rv⟩ := (rows_atV rr k).1 v ev
        rw [q] at hn
        cases hn
    have VH := vheld_put rr rz lo ev few D2
    obtain ⟨_, o2, _, _, g1, _⟩ := id VH
    exact ⟨z, _, d_write I3 (by rw [ha]; exact True.intro) sb ⟨o2, g1⟩ (vdict_ok VH), rz, q4 ev⟩
end
/-! ### k not in d -/
def rNotV (P : Program) (w : World) : R2 := fun x y H Q => ∃ b a k L, x = .ref b ∧ y = .ref a ∧ NqV H (.ref b) k ∧ k.depth ≤ 8 ∧ H a = some (VDict P w a L) ∧ VKeys H L ∧ Q (.bl (!(valW L k).isSome)) H
theorem op_notinV {X : Cx} (hu : X.A.units + 64 < cLine) : OpR X (compareOp .NotIn) (rNotV X.prog X.w) := by
  intro pins s σ H x y v u Q I rx ry h
  obtain ⟨b, a, k, L, rfl, rfl, hk, hd, ha, ks, q⟩ := h
  cases (show v = Value.ref b from rx)
  cases (show u = Value.ref a from ry)
  obtain ⟨xs, D, r, lo, few⟩ := vdict_rd I ha ks
  refine wpAny_notIn_heap (roomV hu) ⟨nq_is I k hk rfl, hd⟩ lo D ⟨.bl (!(valW L k).isSome), H, I.tok _, ?_, q⟩
  have z := rows_atV r k
  cases e : valW L k with
  | none => rw [z.2 e]; rfl
  | some i =>
    obtain ⟨c, t, q, _⟩ := z.1 i e
    rw [q]
    rfl
/-! ### {k: v}, k such a tuple -/
def tDisp1F (P : Program) (w : World) (tk tv : TE) : TE := fun σ H Q => ∀ p, H p = none → tk σ (upd H p (VDict P w p [])) fun x H1 => tv σ H1 fun y H2 => H2 p = some (VDict P w p []) ∧ ∃ (q : Addr) (k : NestedKey), x = .ref q ∧ NqV H2 (.ref q) k ∧ k.depth ≤ 8 ∧ Q (.ref p) (upd H2 p (VDict P w p [(k, q, y)]))
theorem pe_disp1F {X : Cx} {pos : Pos} {k v : Expr} {tk tv : TE} (hu : X.A.units + 64 < cLine) (hk : PE X k tk) (hv : PE X v tv) : PE X (.Dict [some k] [v] pos) (tDisp1F X.prog X.w tk tv) := by
  refine ⟨fun pins s σ H Q I h => ?_⟩
  have hn := I.hok.fresh (Nat.le_refl s.heap.objs.size)
  have I1 := I.laid (a := s.heap.objs.size) (o := VDict X.prog X.w s.heap.objs.size []) (h' := s.heap.push { cls := .type "dict", data := .dict #[] }) (t' := s.toks) (fun _ _ q => Heap.get?_push_of_some _ q) (Nat.le_refl _) (vdict_ok (vheld_new s.heap I.big))
  rw [arm_eval_Dict, zip_pairTrees [some k] [v] X.env pos rfl rfl, dictDisplay_pairs (pairTrees [some k] [v] X.env pos) (by show _ ≠ _; intro z; cases z) (by show (1 : Nat) < _; decide)]
  refine wpAny_bind (wpAny_standAt (wpAny_bind (wpAny_subDictH (knd := nestedKind X.prog X.w) (show X.A.units + 8 < cLine by omega) (by show (1 : Nat) ≤ 15; decide) ?_)))
  refine pairTrees_cons_walk (thn (hk.run pins _ σ _ _ I1 (h _ hn)) fun u s1 ⟨x, H1, I2, rx, q1⟩ => thn (hv.run pins s1 σ H1 _ I2 q1) fun w s2 ⟨y, H2, I3, ry, e, q, k, ex, eq, dk, q2⟩ => ?_)
  subst ex
  cases (show u = Value.ref q from rx)
  refine pairTrees_nil_walk ⟨[(k, q, w)], ⟨rfl, rfl, ⟨nq_is I3 k eq rfl, dk⟩, True.intro⟩, ?_, fun h' tk dd hs => ?_⟩
  · obtain ⟨xs, Dd, rr, _, _⟩ := vdict_rd I3 e (fun _ m => nomatch m)
    cases rr
    exact Dd
  · obtain ⟨xs, Dd, rr, lo, _⟩ := vdict_rd I3 e (fun _ m => nomatch m)
    cases rr
    have VH := vheld_put (L := []) (xs := []) (h' := h') .nil ry lo (show valW [] k = none from rfl) (by show (0 : Nat) < 1000; decide) dd
    obtain ⟨_, o2, _, _, g1, _⟩ := id VH
    exact wpAny_pure ⟨.ref s.heap.objs.size, _, d_write (t' := tk) I3 (by rw [e]; exact True.intro) hs ⟨o2, g1⟩ (vdict_ok VH), rfl, q2⟩
end Kf

-- ===== KG0 =====
set_option Elab.async false
set_option linter.all false
set_option maxRecDepth 100000
set_option maxHeartbeats 4000000
namespace My
open PySem L2 PyProof.Rows PySem.Spec Kd TL
/-! ### values that a kind is grown of: a number, a text, a tuple of such -/
inductive GV where
  | inl (k : L2.Key)
  | inr (ks : List L2.Key)
deriving DecidableEq
def gD : GV → PyData
  | .inl k => kD k
  | .inr ks => tD ks
def GAt (H : Hp) (v : V) : GV → Prop
  | .inl k => v = kV k
  | .inr ks => ∃ a, v = .ref a ∧ TpF H a (ks.map kV)
theorem GAt.to {H H' : Hp} {v : V} : ∀ {g : GV}, GAt H v g → TF H H' → GAt H' v g
  | .inl _, h, _ => h
  | .inr _, ⟨a, e, h⟩, t => ⟨a, e, h.to t⟩
theorem kV_dp {K : PySem.W.Frag} {H : Hp} : ∀ k : L2.Key, Dp K H (kV k) (kD k)
  | .inl i => .int i
  | .inr x => .str x
theorem kVs_dp {K : PySem.W.Frag} {H : Hp} : ∀ ks : List L2.Key, DpAll K H (ks.map kV) (ks.map kD)
  | [] => .nil
  | k :: ks => .cons (kV_dp k) (kVs_dp ks)
theorem GAt.dp {K : PySem.W.Frag} {H : Hp} {v : V} : ∀ {g : GV}, GAt H v g → Dp K H v (gD g)
  | .inl k, h => by rw [show v = kV k from h]; exact kV_dp k
  | .inr ks, ⟨a, e, h⟩ => by rw [e]; exact .tup h.sq (kVs_dp ks)
abbrev GStp := Str × Str × GV
abbrev gev (x : GStp) : Str × Str := (x.1, x.2.1)
def gstD (x : GStp) : PyData := .tuple [.str x.1, .str x.2.1, gD x.2.2]
/-- a step at an address -/
def GSt (H : Hp) (a : Addr) (x : GStp) : Prop := ∃ u, H a = some (.tup [.str x.1, .str x.2.1, u]) ∧ GAt H u x.2.2
theorem GSt.to {H H' : Hp} {a : Addr} {x : GStp} (h : GSt H a x) (t : TF H H') : GSt H' a x := by
  obtain ⟨u, h1, h2⟩ := h
  exact ⟨u, t.1 _ _ h1, h2.to t⟩
theorem GSt.dp {K : PySem.W.Frag} {H : Hp} {a : Addr} {x : GStp} (h : GSt H a x) : Dp K H (.ref a) (gstD x) := by
  obtain ⟨u, h1, h2⟩ := h
  exact .tup (SqT.of h1) (.cons (.str _) (.cons (.str _) (.cons h2.dp .nil)))
theorem gst_lt {x y : GStp} (h : evLt (gev x) (gev y)) : PySem.W.dataLt (gstD x) (gstD y) = true := by
  unfold gstD
  rw [PySem.W.dataLt_tuple]
  rcases h with h | ⟨h1, h2⟩
  · have ne : x.1 ≠ y.1 := fun e => by
      have h' : x.1.cps.toList < y.1.cps.toList := h
      rw [e] at h'
      exact List.lt_irrefl _ h'
    rw [PySem.W.dataLt_all_no rfl (by rw [eqv_str]; exact decide_eq_false ne), PySem.W.dataLt_str]
    exact decide_eq_true h
  · have e1 : x.1 = y.1 := h1
    have ne : x.2.1 ≠ y.2.1 := fun e => by
      have h' : x.2.1.cps.toList < y.2.1.cps.toList := h2
      rw [e] at h'
      exact List.lt_irrefl _ h'
    rw [PySem.W.dataLt_all_yes rfl (by rw [eqv_str]; exact decide_eq_true e1), PySem.W.dataLt_all_no rfl (by rw [eqv_str]; exact decide_eq_false ne), PySem.W.dataLt_str]
    exact decide_eq_true h2
/-- steps in order -/
def srtG (l : List GStp) : List GStp := l.mergeSort (PySem.W.dataLe false gstD)
theorem srt_perm (l : List GStp) : (srtG l).Perm l := List.mergeSort_perm _ _
open PySem.W in
theorem srt_asc (l : List GStp) (nd : (l.map gev).Nodup) : ((srtG l).map gev).Pairwise evLt := by
  have tot := sortLe_total (listOrd itemOrd) false fun q : GStp => keyToks (gstD q)
  have srt : (srtG l).Pairwise fun q r => dataLe false gstD q r = true := List.pairwise_mergeSort tot.trans (fun a b => by rw [Bool.or_eq_true]; exact tot.total a b) l
  have ndM : ((srtG l).map gev).Nodup := ((srt_perm l).map _).nodup_iff.mpr nd
  generalize srtG l = M at srt ndM
  refine List.pairwise_map.mpr (List.Pairwise.imp₂ (fun q r h1 h2 => ?_) srt (List.pairwise_map.mp ndM))
  refine Classical.byContradiction fun z => h2 (evLt_tri _ _ z fun g => ?_)
  rw [dataLe_eq] at h1
  have h1' : (!dataLt (gstD r) (gstD q)) = true := h1
  rw [gst_lt g] at h1'
  cases h1'
/-! ### values met, in their order -/
def metG (vals : List GV) (x : GStp) : List GV := if x.2.2 ∈ vals then vals else vals ++ [x.2.2]
def valsG (mv : GV → List GStp) (g0 : GV) : Nat → List GV
  | 0 => [g0]
  | n + 1 => match (valsG mv g0 n)[n]? with
    | none => valsG mv g0 n
    | some g => (srtG (mv g)).foldl metG (valsG mv g0 n)
def rowG (vals : List GV) (l : List GStp) : List Stp := l.map fun x => (x.1, x.2.1, ((vals.idxOf x.2.2 : Nat) : Int))
/-- the kind that is grown: its values, its states -/
def Grown (mv : GV → List GStp) (g0 : GV) (vals : List GV) (ls : List (List Stp)) : Prop := vals = valsG mv g0 vals.length ∧ ls = vals.map fun g => rowG vals (srtG (mv g))
/-- moves within some values -/
structure MvOk (mv : GV → List GStp) (Dom : List GV) (es : List (Str × Str)) : Prop where
  dom : Dom.length ≤ 40
  evs : es.length ≤ 24
  step : ∀ g ∈ Dom, ∀ x ∈ mv g, x.2.2 ∈ Dom ∧ Wrd x.1 ∧ Wrd x.2.1 ∧ gev x ∈ es
  nd : ∀ g ∈ Dom, ((mv g).map gev).Nodup
  alike : ∀ g ∈ Dom, ∀ h ∈ Dom, PySem.W.alike (gD g) (gD h) = true
theorem met_nd {vals : List GV} {x : GStp} (h : vals.Nodup) : (metG vals x).Nodup := by
  unfold metG
  split
  · exact h
  · rename_i n
    exact List.nodup_append.mpr ⟨h, by simp, fun a ha b hb e => n (by rw [List.mem_singleton.mp hb] at e; rw [← e]; exact ha)⟩
theorem foldG_nd : ∀ (l : List GStp) {vals : List GV}, vals.Nodup → (l.foldl metG vals).Nodup
  | [], _, h => h
  | x :: l, vals, h => by rw [List.foldl_cons]; exact foldG_nd l (met_nd h)
theorem foldG_in {Dom : List GV} : ∀ {l : List GStp} {vals : List GV}, (∀ g ∈ vals, g ∈ Dom) → (∀ x ∈ l, x.2.2 ∈ Dom) → ∀ g ∈ l.foldl metG vals, g ∈ Dom
  | [], _, h, _ => h
  | x :: l, vals, h1, h2 => by
    rw [List.foldl_cons]
    refine foldG_in (fun g m => ?_) fun y m => h2 y (List.mem_cons_of_mem _ m)
    unfold metG at m
    split at m
    · exact h1 g m
    · rcases List.mem_append.mp m with m | m
      · exact h1 g m
      · rw [List.mem_singleton.mp m]
        exact h2 x List.mem_cons_self
theorem foldG_pre : ∀ (l : List GStp) (vals : List GV), ∃ more, l.foldl metG vals = vals ++ more
  | [], vals => ⟨[], by simp⟩
  | x :: l, vals => by
    rw [List.foldl_cons]
    obtain ⟨more, e⟩ := foldG_pre l (metG vals x)
    rw [e]
    unfold metG
    split
    · exact ⟨more, rfl⟩
    · exact ⟨x.2.2 :: more, by rw [List.append_assoc]; rfl⟩
theorem foldG_met : ∀ (l : List GStp) (vals : List GV), ∀ x ∈ l, x.2.2 ∈ l.foldl metG vals
  | y :: l, vals, x, m => by
    rw [List.foldl_cons]
    rcases List.mem_cons.mp m with rfl | m
    · obtain ⟨more, e⟩ := foldG_pre l (metG vals x)
      rw [e]
      refine List.mem_append_left _ ?_
      unfold metG
      split
      · assumption
      · exact List.mem_append_right _ List.mem_cons_self
    · exact foldG_met l _ x m
section
variable {mv : GV → List GStp} {g0 : GV} {Dom : List GV} {es : List (Str × Str)}
theorem valsG_nd : ∀ n, (valsG mv g0 n).Nodup
  | 0 => by simp [valsG]
  | n + 1 => by
    show (match (valsG mv g0 n)[n]? with | none => valsG mv g0 n | some g => (srtG (mv g)).foldl metG (valsG mv g0 n)).Nodup
    split
    · exact valsG_nd n
    · exact foldG_nd _ (valsG_nd n)
theorem valsG_in (M : MvOk mv Dom es) (h0 : g0 ∈ Dom) : ∀ n, ∀ g ∈ valsG mv g0 n, g ∈ Dom
  | 0, g, m => by rw [List.mem_singleton.mp m]; exact h0
  | n + 1, g, m => by
    unfold valsG at m
    split at m
    · exact valsG_in M h0 n g m
    · rename_i u e
      have ih := valsG_in M h0 n
      exact foldG_in ih (fun x mx => (M.step u (ih u (List.mem_of_getElem? e)) x ((srt_perm _).mem_iff.mp mx)).1) g m
theorem valsG_most (M : MvOk mv Dom es) (h0 : g0 ∈ Dom) (n : Nat) : (valsG mv g0 n).length ≤ 40 := Nat.le_trans (nodup_most _ _ (valsG_nd n) (valsG_in M h0 n)) M.dom
theorem valsG_pre (n : Nat) : ∃ more, valsG mv g0 (n + 1) = valsG mv g0 n ++ more := by
  show ∃ more, (match (valsG mv g0 n)[n]? with | none => valsG mv g0 n | some g => (srtG (mv g)).foldl metG (valsG mv g0 n)) = _
  split
  · exact ⟨[], by simp⟩
  · exact foldG_pre _ _
theorem valsG_zero (n : Nat) : (valsG mv g0 n)[0]? = some g0 := by
  induction n with
  | zero => rfl
  | succ n ih =>
    obtain ⟨more, em⟩ := valsG_pre (mv := mv) (g0 := g0) n
    rw [em, List.getElem?_append_left (List.getElem?_eq_some_iff.mp ih).1]
    exact ih
theorem valsG_shut : ∀ (n j : Nat) (g : GV), j < n → (valsG mv g0 n)[j]? = some g → ∀ x ∈ mv g, x.2.2 ∈ valsG mv g0 n
  | n + 1, j, g, lt, e, x, mx => by
    obtain ⟨more, em⟩ := valsG_pre (mv := mv) (g0 := g0) n
    by_cases jn : j < (valsG mv g0 n).length
    · have e0 : (valsG mv g0 n)[j]? = some g := by rw [em, List.getElem?_append_left jn] at e; exact e
      rcases Nat.lt_or_ge j n with l | ge
      · rw [em]
        exact List.mem_append_left _ (valsG_shut n j g l e0 x mx)
      · obtain rfl : j = n := by omega
        show x.2.2 ∈ (match (valsG mv g0 j)[j]? with | none => valsG mv g0 j | some g => (srtG (mv g)).foldl metG (valsG mv g0 j))
        rw [e0]
        exact foldG_met _ _ x ((srt_perm _).mem_iff.mpr mx)
    · have none_ : (valsG mv g0 n)[n]? = none := List.getElem?_eq_none (by omega)
      have same : valsG mv g0 (n + 1) = valsG mv g0 n := by
        show (match (valsG mv g0 n)[n]? with | none => valsG mv g0 n | some g => (srtG (mv g)).foldl metG (valsG mv g0 n)) = _
        rw [none_]
      rw [same, List.getElem?_eq_none (by omega)] at e
      cases e
theorem Grown.shut {vals : List GV} {ls : List (List Stp)} (G : Grown mv g0 vals ls) : ∀ g ∈ vals, ∀ x ∈ mv g, x.2.2 ∈ vals := fun g m x mx => by
  obtain ⟨j, ej⟩ := List.mem_iff_getElem?.mp m
  have lj := (List.getElem?_eq_some_iff.mp ej).1
  have e0 := G.1
  rw [e0] at ej ⊢
  exact valsG_shut _ j g lj ej x mx
theorem Grown.kok {vals : List GV} {ls : List (List Stp)} (G : Grown mv g0 vals ls) (M : MvOk mv Dom es) (h0 : g0 ∈ Dom) : KOk ls := by
  have most : vals.length ≤ 40 := by rw [G.1]; exact valsG_most M h0 _
  have inn : ∀ g ∈ vals, g ∈ Dom := by rw [G.1]; exact valsG_in M h0 _
  have zero : vals[0]? = some g0 := by rw [G.1]; exact valsG_zero _
  have len : ls.length = vals.length := by rw [G.2, List.length_map]
  have row : ∀ st ∈ ls, ∃ g ∈ vals, st = rowG vals (srtG (mv g)) := fun st m => by
    rw [G.2] at m
    obtain ⟨g, mg, rfl⟩ := List.mem_map.mp m
    exact ⟨g, mg, rfl⟩
  refine ⟨by rw [len]; exact (List.getElem?_eq_some_iff.mp zero).1, by rw [len]; exact most, fun st m => ?_, es, M.evs, fun st m x mx => ?_⟩
  · obtain ⟨g, mg, rfl⟩ := row st m
    have gd := inn g mg
    have evs : (rowG vals (srtG (mv g))).map evOf = (srtG (mv g)).map gev := by
      unfold rowG
      rw [List.map_map]
      rfl
    refine ⟨fun x mx => ?_, by rw [evs]; exact srt_asc _ (M.nd g gd), ?_⟩
    · obtain ⟨y, my, rfl⟩ := List.mem_map.mp mx
      have my' := (srt_perm _).mem_iff.mp my
      obtain ⟨_, w1, w2, _⟩ := M.step g gd y my'
      have l := List.idxOf_lt_length_of_mem (G.shut g mg y my')
      exact ⟨w1, w2, by show 0 ≤ ((vals.idxOf y.2.2 : Nat) : Int); omega, by show ((vals.idxOf y.2.2 : Nat) : Int) < _; omega⟩
    · have l : (rowG vals (srtG (mv g))).length = ((mv g).map gev).length := by
        unfold rowG
        rw [List.length_map, List.length_map, (srt_perm _).length_eq]
      rw [l]
      refine Nat.le_trans (nodup_most _ es (M.nd g gd) fun e me => ?_) M.evs
      obtain ⟨y, my, rfl⟩ := List.mem_map.mp me
      exact (M.step g gd y my).2.2.2
  · obtain ⟨g, mg, rfl⟩ := row st m
    obtain ⟨y, my, rfl⟩ := List.mem_map.mp mx
    exact (M.step g (inn g mg) y ((srt_perm _).mem_iff.mp my)).2.2.2
end
end My

-- ===== KS19 =====
set_option Elab.async false
set_option linter.all false
set_option maxRecDepth 100000
set_option maxHeartbeats 4000000
namespace Kd
open PySem L2 PyProof.Rows PySem.Spec PySem.W
/-! ### for k, v in d.items(), the keys being tuples -/
section
variable {X : Cx} {pins : List (Addr × Obj)} {σ : L2.St} {H : Hp} {s : Shared} {d : Addr} {o : Obj}
theorem frz_both {kvs : List (List Key × V)} (I : Inv X pins σ H s) (h : H d = some (.frz o (.dT kvs))) :
    (d == sysModules) = false ∧ s.heap.get? d = some o ∧ o.ExactDict ∧ ∃ (es : Array DictEntry) (ep : Nat), o.data = .dict es ep ∧ es.size = kvs.length ∧ ∀ (i : Nat) (k : List Key) (v : V), kvs[i]? = some (k, v) → ∃ (en : DictEntry) (q : Addr), es[i]? = some en ∧ en.key = .ref q ∧ H q = some (.tup (k.map kV)) ∧ RelV v en.val := by
  obtain ⟨hs, hd, hx, es, ep, hdt, hz, f⟩ := I.frzT h
  obtain ⟨_, _, es2, ep2, hdt2, _, g⟩ := frz_vals I h
  obtain ⟨rfl, rfl⟩ := dict_ep hdt2 hdt
  refine ⟨hs, hd, hx, es, ep, hdt, hz, fun i k v e => ?_⟩
  obtain ⟨en, q, e1, e2, e3⟩ := f i k v e
  obtain ⟨en2, e4, e5⟩ := g i k v e
  rw [e1] at e4
  cases e4
  exact ⟨en, q, e1, e2, e3, e5⟩
end
/-- key and value, in their order, each in a new tuple -/
def ItdI (d : Addr) (o : Obj) (kvs : List (List Key × V)) : It :=
  ⟨fun i H => H d = some (.frz o (.dT kvs)) ∧ i < kvs.length, fun i H x H' => ∃ (T q : Addr) (k : List Key) (v : V), kvs[i]? = some (k, v) ∧ x = .ref T ∧ H T = none ∧ H q = some (.tup (k.map kV)) ∧ H' = upd H T (.tup [.ref q, v]), fun i H => H d = some (.frz o (.dT kvs)) ∧ kvs.length ≤ i⟩
theorem turn_itemsT {P : Program} {w : World} {K : Frag} {elts : List Expr} {kk : Nat} {tpos : Pos} {d : Addr} {o : Obj} {es : Array DictEntry} {ep : Nat} {kvs : List (List Key × V)} (it : Addr) (hod : o.data = .dict es ep) (hz : es.size = kvs.length) :
    Turn P w K (.Tuple elts kk tpos) (ItdI d o kvs) [it] it (fun i h => ∃ ok ov, IsItemIter h it d i es.size ep ok ov) where
  mem := by simp
  obj := fun i h st b hb => by
    have e : b = it := by simpa using hb
    subst e
    obtain ⟨ok, ov, e⟩ := st
    exact ⟨_, e, fun v z => nomatch z⟩
  keep := fun i h h' ⟨ok, ov, e⟩ k => ⟨ok, ov, k it (by simp) _ e⟩
  item := by
    intro X hP hw hK hc i pins s σ H E I hf st hg
    subst hP hw hK
    obtain ⟨hd, hi⟩ := hg
    obtain ⟨hs, hgd, hx, es', ep', hdt, hsz, ent⟩ := frz_both I hd
    obtain ⟨rfl, rfl⟩ := dict_ep hod hdt
    obtain ⟨⟨k, v⟩, hkv⟩ : ∃ p, kvs[i]? = some p := ⟨kvs[i], List.getElem?_eq_getElem hi⟩
    obtain ⟨en, q, e1, e2, e3, e4⟩ := ent i k v hkv
    obtain ⟨ok, ov, he⟩ := st
    have lt : i < es'.size := by omega
    have hlt : it < s.heap.objs.size := Heap.lt_size he
    have een : es'[i] = en := by
      rw [Array.getElem?_eq_getElem lt] at e1
      exact Option.some.inj e1
    refine wpAny_pyNext_items_item_raw he ⟨o, hgd, hx, hdt⟩ lt fun h' ho hT hz2 hk => ?_
    refine ⟨_, rfl, wpAny_letOwnedTupleGo_items (s := { s with heap := h' }) ho fun h'' he' sb => ?_⟩
    have hT2 : h''.get? s.heap.objs.size = some { cls := .type "tuple", data := .seq #[es'[i].key, es'[i].val] } := (sb.2 _ (Nat.ne_of_gt hlt)).trans hT
    rw [een] at hT2
    have new : ObjOk X.prog X.w (upd H s.heap.objs.size (.tup [.ref q, v])) h'' s.heap.objs.size (.tup [.ref q, v]) := ⟨by show 2 ≤ sizeLine; decide, [en.key, en.val], .cons e2 (.cons e4 .nil), ⟨_, hT2, rfl, _, rfl⟩⟩
    have I1 : L2.Inv X pins σ (upd H s.heap.objs.size (.tup [.ref q, v])) { s with heap := h'' } :=
      I.turnedNew (t' := s.toks) (ch := [it]) (fun b ob hb e => (sb.2 b (by simpa using hb)).trans (hk b ob (by simpa using hb) e)) hf (Nat.le_refl _) new
    refine ⟨.ref s.heap.objs.size, _, I1, rfl, ⟨_, q, k, v, hkv, rfl, I.hok.fresh (Nat.le_refl _), e3, rfl⟩, ⟨_, _, he'⟩, fun b hb => ?_⟩
    have e : b = it := by simpa using hb
    rw [e, upd_ne (Nat.ne_of_lt hlt)]
    exact (hf it (by simp)).1
  done := by
    intro X hP hw hK hc i pins s σ H E I hf st hg
    subst hP hw hK
    obtain ⟨hd, hi⟩ := hg
    obtain ⟨f0, f1, f2, f3, f4, f5⟩ := hf it (by simp)
    obtain ⟨hs, hgd, hx, es', ep', hdt, hsz, ent⟩ := frz_both I hd
    obtain ⟨rfl, rfl⟩ := dict_ep hod hdt
    obtain ⟨ok, ov, he⟩ := st
    exact wpAny_pyNext_items_end_raw (I.ok.hd hc) he ⟨o, hgd, hx, hdt⟩ (by omega) fun h' eb => ⟨rfl, I.turned (t' := s.toks) (fun b ob hb e => eb b ob hb e) f0 f1 f3 f4 f5⟩
  self := fun A i s Q E ⟨_, _, e⟩ h => PySem.W.kcp_self e h
def iItemsT (td : TE) : TI := fun σ H R => td σ H fun x H1 => ∃ d o kvs, x = .ref d ∧ H1 d = some (.frz o (.dT kvs)) ∧ R (ItdI d o kvs) H1
section
variable {X : Cx} {e : Expr} {td : TE} {apos cpos tpos : Pos} {elts : List Expr} {kk : Nat}
theorem pi_itemsT (he : PE X e td) (hbase : attributeBase e "items" X.env (eval e X.env) = eval e X.env := by rfl) (hline : (apos.endLine == cpos.line) = true := by rfl) : PI X (.Tuple elts kk tpos) (.Call (.Attribute e "items" apos) [] [] cpos) (iItemsT td) := by
  refine ⟨fun pins s σ H R I h => ?_⟩
  refine wpAny_Call_method (T := "dict") (id := "dict.items") hbase rfl hline F.plainAttrs_dict F.slot_dict_items F.type_dict_items (thn (he.run pins s σ H _ I h) fun u s1 ⟨x, H1, I1, rx, d, o, kvs, ex, hd, q⟩ => ?_)
  subst ex
  obtain rfl : u = Value.ref d := rx
  obtain ⟨lo, hgd, hx, es, ep, hdt, hsz, ent⟩ := frz_both I1 hd
  have raw : s1.heap.DictRaw d es ep := ⟨o, hgd, hx, hdt⟩
  have ty : s1.TypeIs (.ref d) "dict" := ⟨o, hgd, hx.1⟩
  refine ⟨ty, (fun b z => by cases z; exact ⟨o, hgd, hx.2.1⟩), ?_⟩
  have I2 : L2.Inv X pins σ H1 { s1 with heap := s1.heap.push { cls := .type "dict_items", data := .fields #[.ref d] } } := I1.kept (t' := s1.toks) fun b ob z => Heap.get?_push_of_some _ z
  have fin : wpAny (model X.prog X.w) X.A (pyIter (.ref s1.heap.objs.size)) (PIE X pins σ (.Tuple elts kk tpos) R) X.xe { s1 with heap := s1.heap.push { cls := .type "dict_items", data := .fields #[.ref d] } } := by
    refine wpAny_pyIter_items_raw (d := d) ⟨_, Heap.get?_push_size _ rfl, rfl, rfl⟩ (raw.push _) (pi_one (tk := s1.toks) I2 _ (turn_itemsT _ hdt hsz) ⟨.none, .none, Heap.get?_push_size _ rfl⟩ q)
  show wpAny _ _ (callWith cpos (.builtin "dict.items") [.ref d] [] []) _ X.xe s1
  exact method_meetsIn F.slot_dict_items F.entry_dict_items rfl (PySem.evalArgs_none ⟨rfl, ty, F.args_dict_items_1 _, _, meets_dict_items_raw d lo, ⟨es, ep, raw⟩, fin⟩)
end
end Kd
namespace Kd
open PySem L2 PyProof.Rows PySem.Spec PySem.W
theorem walk_itemsT {d : Addr} {o : Obj} {kvs : List (List Key × V)} : Walk (ItdI d o kvs) kvs.length (fun H => H d = some (.frz o (.dT kvs))) (fun i H x H' => ∃ (T q : Addr) (k : List Key) (v : V), kvs[i]? = some (k, v) ∧ x = .ref T ∧ H T = none ∧ H q = some (.tup (k.map kV)) ∧ H' = upd H T (.tup [.ref q, v])) :=
  ⟨fun _ _ hi q => ⟨q, hi⟩, fun _ q => ⟨q, Nat.le_refl _⟩, fun _ _ _ _ _ _ y => y⟩
end Kd

-- ===== KN7 =====
set_option Elab.async false
set_option linter.all false
set_option maxRecDepth 100000
set_option maxHeartbeats 4000000
namespace Kd
open PySem L2 PyProof.Rows PySem.Spec PySem.W
/-! ### {k: v}, k a tuple -/
def tDisp1T (tk tv : TE) : TE := fun σ H Q => ∀ p, H p = none → tk σ (upd H p (.dT [])) fun x H1 => tv σ H1 fun y H2 => H2 p = some (.dT []) ∧ ∃ (q : Addr) (ks : List Key), x = .ref q ∧ H2 q = some (.tup (ks.map kV)) ∧ Q (.ref p) (upd H2 p (.dT (putK [] ks y)))
theorem pe_disp1T {X : Cx} {pos : Pos} {k v : Expr} {tk tv : TE} (hu : X.A.units + 1 < cLine) (hk : PE X k tk) (hv : PE X v tv) : PE X (.Dict [some k] [v] pos) (tDisp1T tk tv) := by
  refine ⟨fun pins s σ H Q I h => ?_⟩
  have hn := I.hok.fresh (Nat.le_refl s.heap.objs.size)
  have I1 := I.laid (a := s.heap.objs.size) (o := .dT []) (h' := s.heap.push { cls := .type "dict", data := .dict #[] }) (t' := s.toks) (fun _ _ q => Heap.get?_push_of_some _ q) (Nat.le_refl _) (dt_empty s.heap I.big)
  rw [arm_eval_Dict, zip_pairTrees [some k] [v] X.env pos rfl rfl, dictDisplay_pairs (pairTrees [some k] [v] X.env pos) (by show _ ≠ _; intro z; cases z) (by show (1 : Nat) < _; decide)]
  refine wpAny_bind (wpAny_standAt (wpAny_bind (wpAny_subDictH (knd := tupleKind (mixKind X.prog X.w)) (show (tupleKind (mixKind X.prog X.w)).room X.A from Nat.lt_of_succ_lt hu) (by show (1 : Nat) ≤ 15; decide) ?_)))
  refine pairTrees_cons_walk (thn (hk.run pins _ σ _ _ I1 (h _ hn)) fun u s1 ⟨x, H1, I2, rx, q1⟩ => thn (hv.run pins s1 σ H1 _ I2 q1) fun w s2 ⟨y, H2, I3, ry, e, q, ks, ex, eq, q2⟩ => ?_)
  subst ex
  cases (show u = Value.ref q from rx)
  refine pairTrees_nil_walk ⟨[(ks, q, w)], ⟨rfl, rfl, key_of I3.hok eq, True.intro⟩, ?_, fun h' tk dd hs => ?_⟩
  · obtain ⟨z, hd, xs, rel, dd⟩ := dt_of I3.hok e
    cases rel
    exact dd
  · obtain ⟨z, hd, xs, rel, _⟩ := dt_of I3.hok e
    obtain ⟨o2, es, ep, g1, g2, g3, g4, _, g5⟩ := dd
    refine wpAny_pure ⟨.ref s.heap.objs.size, _, ?_, rfl, q2⟩
    have rel0 : KT H2 [] [] := .nil
    refine d_write (t' := tk) I3 (by rw [e]; exact True.intro) hs ⟨o2, g1⟩ ⟨by have := length_putK ([] : List (List Key × V)) ks y; rw [List.length_nil] at this; have := sizeLine_eq; omega, hd, _, (rel0.put ks eq ry).keeps fun c ys e2 => ?_, o2, es, ep, g1, g2, g3, g4, g5⟩
    rw [upd_ne (ne_of e2 e (fun z => nomatch z))]
    exact e2
end Kd

-- ===== KG1 =====
set_option Elab.async false
set_option linter.all false
set_option maxRecDepth 100000
set_option maxHeartbeats 4000000
namespace My
open PySem L2 PyProof.Rows PySem.Spec Kd TL
/-! ### the dict of values' numbers -/
def isT : GV → Bool
  | .inl _ => false
  | .inr _ => true
def kOf : GV → L2.Key
  | .inl k => k
  | .inr _ => .inl 0
def tOf : GV → List L2.Key
  | .inl _ => []
  | .inr t => t
def numN {κ : Type} (f : GV → κ) : Nat → List GV → List (κ × V)
  | _, [] => []
  | n, g :: r => (f g, V.int (n : Int)) :: numN f (n + 1) r
theorem numN_len {κ : Type} (f : GV → κ) : ∀ (n : Nat) (vals : List GV), (numN f n vals).length = vals.length
  | _, [] => rfl
  | n, g :: r => by show (numN f (n + 1) r).length + 1 = r.length + 1; rw [numN_len]
theorem numN_snoc {κ : Type} (f : GV → κ) (g : GV) : ∀ (n : Nat) (vals : List GV), numN f n (vals ++ [g]) = numN f n vals ++ [(f g, V.int ((n + vals.length : Nat) : Int))]
  | n, [] => rfl
  | n, x :: r => by
    show (f x, V.int (n : Int)) :: numN f (n + 1) (r ++ [g]) = (f x, V.int (n : Int)) :: (numN f (n + 1) r ++ _)
    rw [numN_snoc f g (n + 1) r, List.length_cons, show n + 1 + r.length = n + (r.length + 1) by omega]
section
variable {κ : Type} [DecidableEq κ] {f : GV → κ} {g : GV}
theorem numN_get : ∀ (n : Nat) (vals : List GV), (∀ x ∈ vals, f x = f g → x = g) → valV (numN f n vals) (f g) = if g ∈ vals then some (.int ((n + vals.idxOf g : Nat) : Int)) else none
  | n, [], _ => rfl
  | n, x :: r, inj => by
    have ih := numN_get (n + 1) r fun y m => inj y (List.mem_cons_of_mem _ m)
    by_cases e : x = g
    · subst e
      rw [if_pos List.mem_cons_self, List.idxOf_cons_self]
      exact valV_pos rfl
    · have e1 : ¬ f x = f g := fun z => e (inj x List.mem_cons_self z)
      have e2 : valV (numN f n (x :: r)) (f g) = valV (numN f (n + 1) r) (f g) := valV_neg e1
      have e3 : (x :: r).idxOf g = r.idxOf g + 1 := by rw [List.idxOf_cons, show (x == g) = false from beq_eq_false_iff_ne.mpr e]; rfl
      rw [e2, ih, e3]
      by_cases m : g ∈ r
      · rw [if_pos m, if_pos (List.mem_cons_of_mem _ m), show n + 1 + r.idxOf g = n + (r.idxOf g + 1) by omega]
      · rw [if_neg m, if_neg fun z => (List.mem_cons.mp z).elim (fun q => e q.symm) m]
theorem numN_put {n : Nat} {vals : List GV} (inj : ∀ x ∈ vals, f x = f g → x = g) (nin : g ∉ vals) : putK (numN f n vals) (f g) (.int ((n + vals.length : Nat) : Int)) = numN f n (vals ++ [g]) := by
  rw [L2.putK_new _ (by rw [numN_get n vals inj, if_neg nin]), numN_snoc]
end
def keyN : L2.Key → NestedKey
  | .inl i => .num i
  | .inr x => .text x
def keyG : GV → NestedKey
  | .inl _ => .num 0
  | .inr t => .tup (t.map keyN)
theorem keyN_inj : ∀ {a b : L2.Key}, keyN a = keyN b → a = b
  | .inl i, .inl j, h => by rw [NestedKey.num.inj h]
  | .inr i, .inr j, h => by rw [NestedKey.text.inj h]
  | .inl i, .inr j, h => by cases h
  | .inr i, .inl j, h => by cases h
theorem keyNs_inj : ∀ {a b : List L2.Key}, a.map keyN = b.map keyN → a = b
  | [], [], _ => rfl
  | [], _ :: _, h => by cases h
  | _ :: _, [], h => by cases h
  | x :: a, y :: b, h => by
    obtain ⟨h1, h2⟩ := List.cons.inj h
    rw [keyN_inj h1, keyNs_inj h2]
theorem keyG_inj {x y : GV} (hx : isT x = true) (hy : isT y = true) (h : keyG x = keyG y) : x = y := by
  cases x with
  | inl _ => cases hx
  | inr a =>
    cases y with
    | inl _ => cases hy
    | inr b => rw [keyNs_inj (NestedKey.tup.inj h)]
theorem nq_ks {H : Hp} : ∀ t : List L2.Key, Kf.NqVs H (t.map kV) (t.map keyN)
  | [] => .nil
  | .inl i :: t => .cons (.num i) (nq_ks t)
  | .inr x :: t => .cons (.text x) (nq_ks t)
theorem nq_of {H : Hp} {v : V} {g : GV} (h : GAt H v g) (m : isT g = true) : ∃ a, v = .ref a ∧ Kf.NqV H (.ref a) (keyG g) ∧ (keyG g).depth ≤ 8 := by
  cases g with
  | inl _ => cases m
  | inr t =>
    obtain ⟨a, e, ha⟩ := h
    refine ⟨a, e, .tup ha.rd (nq_ks t), ?_⟩
    have all : ∀ t : List L2.Key, NestedKey.depthAll (t.map keyN) ≤ 1 := by
      intro t
      induction t with
      | nil => simp [NestedKey.depthAll]
      | cons k t ih => cases k <;> simp [keyN, NestedKey.depthAll, NestedKey.depth] <;> omega
    have z := all t
    simp only [keyG, NestedKey.depth]
    omega
/-- at nu the dict of the values' numbers -/
def NumAt (P : Program) (w : World) (H : Hp) (nu : Addr) (b : Bool) (vals : List GV) : Prop :=
  if b = true then ∃ L, H nu = some (Kf.VDict P w nu L) ∧ Kf.VKeys H L ∧ (L.map fun r => (r.1, r.2.2)) = numN keyG 0 vals else H nu = some (.dK (numN kOf 0 vals))
theorem rd_to {H H' : Hp} (t : TF H H') : ∀ a xs, Rd H a (.tup xs) → Rd H' a (.tup xs) := fun a xs h => h.elim (fun e => .inl (t.1 a xs e)) fun ⟨o, e⟩ => .inr ⟨o, t.2 a o _ e⟩
section
variable {P : Program} {w : World} {H H' : Hp} {nu : Addr} {b : Bool} {vals : List GV} {g : GV} {v : V}
theorem NumAt.obj (h : NumAt P w H nu b vals) : ∃ o, H nu = some o ∧ (∀ xs, o ≠ .tup xs) ∧ (∀ x u, o ≠ .frz x u) ∧ ∀ xs, o ≠ .lst xs := by
  unfold NumAt at h
  cases b with
  | true =>
    obtain ⟨L, h1, _⟩ := h
    exact ⟨_, h1, (fun xs z => by cases z), (fun x u z => by cases z), (fun xs z => by cases z)⟩
  | false => exact ⟨_, h, (fun xs z => by cases z), (fun x u z => by cases z), (fun xs z => by cases z)⟩
theorem NumAt.to (h : NumAt P w H nu b vals) (t : TF H H') (e : ∀ o, H nu = some o → H' nu = some o) : NumAt P w H' nu b vals := by
  unfold NumAt at h ⊢
  cases b with
  | true =>
    obtain ⟨L, h1, h2, h3⟩ := h
    exact ⟨L, e _ h1, h2.to (rd_to t), h3⟩
  | false => exact e _ h
theorem NumAt.same (h : NumAt P w H nu b vals) (s : Same H H') : NumAt P w H' nu b vals := h.to (TF.of s) fun o e => s _ _ e
theorem valW_valV : ∀ (L : List Kf.VRow) (k : NestedKey), Kf.valW L k = valV (L.map fun r => (r.1, r.2.2)) k
  | [], _ => rfl
  | r :: L, k => by
    have ih := valW_valV L k
    unfold Kf.valW valV at ih ⊢
    rw [List.map_cons, List.find?_cons, List.find?_cons]
    by_cases e : r.1 = k
    · simp [e]
    · simp only [e, decide_false]
      exact ih
theorem NumAt.valW {L : List Kf.VRow} (h : (L.map fun r => (r.1, r.2.2)) = numN keyG 0 vals) (mo : isT g = true) (mos : ∀ x ∈ vals, isT x = true) : Kf.valW L (keyG g) = if g ∈ vals then some (.int ((vals.idxOf g : Nat) : Int)) else none := by
  rw [valW_valV, h, numN_get 0 vals fun x m e => keyG_inj (mos x m) mo e, Nat.zero_add]
theorem valK_dK (hg : isT g = false) (mos : ∀ x ∈ vals, isT x = false) : valV (numN kOf 0 vals) (kOf g) = if g ∈ vals then some (.int ((vals.idxOf g : Nat) : Int)) else none := by
  rw [numN_get 0 vals (fun x m e => by
    have mx := mos x m
    cases x with
    | inr t => cases mx
    | inl i =>
      cases g with
      | inr t => cases hg
      | inl j => exact congrArg GV.inl e), Nat.zero_add]
/-- one of two readings -/
def tOr2 (t1 t2 : TE) : TE := fun σ H Q => t1 σ H Q ∨ t2 σ H Q
theorem kV_of (hg : GAt H v g) (mo : isT g = false) : v = kV (kOf g) := by
  cases g with
  | inr t => cases mo
  | inl k => exact hg
/-- numbers[value] -/
theorem NumAt.get {i : Nat} {σ : L2.St} {Q : VK} (h : NumAt P w H nu b vals) (hg : GAt H v g) (mo : isT g = b) (mos : ∀ x ∈ vals, isT x = b) (mem : g ∈ vals) (s2 : σ[2]? = some (some (.ref nu))) (si : σ[i]? = some (some v)) (q : Q (.int ((vals.idxOf g : Nat) : Int)) H) :
    tOr2 (tDGet (tVar 2) (tVar i)) (Kf.tGetV P w (tVar 2) (tVar i)) σ H Q := by
  unfold NumAt at h
  cases b with
  | true =>
    obtain ⟨L, h1, h2, h3⟩ := h
    obtain ⟨a, rfl, nq, nd⟩ := nq_of hg mo
    refine .inr ⟨_, s2, _, si, nu, a, keyG g, L, _, rfl, rfl, nq, nd, h1, h2, ?_, q⟩
    rw [NumAt.valW h3 mo mos, if_pos mem]
  | false =>
    have z := DGet.k (k := kOf g) (kvs := numN kOf 0 vals) h
    rw [valK_dK mo mos, if_pos mem, ← kV_of hg mo] at z
    exact .inl ⟨_, s2, _, si, nu, _, rfl, z, q⟩
/-- value not in numbers -/
theorem NumAt.notin {i : Nat} {σ : L2.St} {Q : Bool → Hp → Prop} (h : NumAt P w H nu b vals) (hg : GAt H v g) (mo : isT g = b) (mos : ∀ x ∈ vals, isT x = b) (s2 : σ[2]? = some (some (.ref nu))) (si : σ[i]? = some (some v)) (q : Q (!decide (g ∈ vals)) H) :
    tB (tDNotIn (tVar i) (tVar 2)) σ H Q ∨ tTest (tOp (Kf.rNotV P w) (tVar i) (tVar 2)) σ H Q := by
  unfold NumAt at h
  have e : ∀ o : Option V, o = (if g ∈ vals then some (.int ((vals.idxOf g : Nat) : Int)) else none) → o.isSome = decide (g ∈ vals) := fun o e => by
    rw [e]
    by_cases m : g ∈ vals
    · rw [if_pos m, decide_eq_true m]
      rfl
    · rw [if_neg m, decide_eq_false m]
      rfl
  cases b with
  | true =>
    obtain ⟨L, h1, h2, h3⟩ := h
    obtain ⟨a, rfl, nq, nd⟩ := nq_of hg mo
    refine .inr ⟨_, si, _, s2, a, nu, keyG g, L, rfl, rfl, nq, nd, h1, h2, _, rfl, ?_⟩
    rw [e _ (NumAt.valW h3 mo mos)]
    exact q
  | false =>
    have z := DGet.k (k := kOf g) (kvs := numN kOf 0 vals) h
    rw [← kV_of hg mo] at z
    refine .inl ⟨_, si, _, s2, nu, _, rfl, z, _, rfl, ?_⟩
    rw [e _ (valK_dK mo mos)]
    exact q
/-- numbers[value] = len(values) -/
theorem NumAt.put {i : Nat} {σ : L2.St} {D : Ends} {tv : TE} (h : NumAt P w H nu b vals) (hg : GAt H v g) (mo : isT g = b) (mos : ∀ x ∈ vals, isT x = b) (nin : g ∉ vals) (few : vals.length < 1000) (s2 : σ[2]? = some (some (.ref nu))) (si : σ[i]? = some (some v)) (hv : ∀ Q : VK, Q (.int (vals.length : Int)) H → tv σ H Q)
    (q : ∀ o, NumAt P w (upd H nu o) nu b (vals ++ [g]) → TF H (upd H nu o) → D.nx σ (upd H nu o)) : sDPut (tVar 2) (tVar i) tv D σ H ∨ Kf.sPutV P w (tVar 2) (tVar i) tv D σ H := by
  have ob := h.obj
  obtain ⟨o, ho, n1, n2, _⟩ := ob
  have tf : ∀ u, TF H (upd H nu u) := fun u => TF.at_ ho n1 n2
  unfold NumAt at h q
  cases b with
  | true =>
    obtain ⟨L, h1, h2, h3⟩ := h
    obtain ⟨a, rfl, nq, nd⟩ := nq_of hg mo
    have lL : L.length = vals.length := by
      have z := congrArg List.length h3
      rwa [List.length_map, numN_len] at z
    refine .inr (hv _ ⟨_, s2, _, si, nu, a, keyG g, L, rfl, rfl, nq, nd, h1, h2, by rw [NumAt.valW h3 mo mos, if_neg nin], by omega, q _ ⟨_, upd_same, (h2.to (rd_to (tf _))).snoc (nq.to (rd_to (tf _))) nd, ?_⟩ (tf _)⟩)
    rw [List.map_append, h3, numN_snoc, Nat.zero_add]
    rfl
  | false =>
    have z := DPut.k (k := kOf g) (kvs := numN kOf 0 vals) (v := .int (vals.length : Int)) h (by rw [numN_len, sizeLine_eq]; omega)
    have e := numN_put (f := kOf) (g := g) (n := 0) (vals := vals) (fun x m e => by
      have mx := mos x m
      cases x with
      | inr t => cases mx
      | inl i =>
        cases g with
        | inr t => cases mo
        | inl j => exact congrArg GV.inl e) nin
    rw [Nat.zero_add] at e
    rw [← kV_of hg mo, e] at z
    exact .inl (hv _ ⟨_, s2, _, si, nu, _, rfl, z, q _ upd_same (tf _)⟩)
/-- {first: 0} -/
theorem num_first {σ : L2.St} {Q : VK} (hs : σ[0]? = some (some v)) (hg : GAt H v g) (mo : isT g = b) (k : ∀ nu H1, Same H H1 → H nu = none → NumAt P w H1 nu b [g] → Q (.ref nu) H1) :
    tOr2 (tDisp [(tVar 0, tC (.int 0))]) (Kf.tDisp1F P w (tVar 0) (tC (.int 0))) σ H Q := by
  cases b with
  | false =>
    refine .inl fun p hp => ⟨_, hs, upd_same, [(kOf g, .int 0)], ?_, by show (1 : Nat) ≤ 15; decide, ?_⟩
    · rw [kV_of hg mo]
      rfl
    · exact k p _ (fun c o e => by rw [upd_ne (ne_of_none e hp), upd_ne (ne_of_none e hp)]; exact e) hp upd_same
  | true =>
    refine .inr fun p hp => ?_
    have hg1 := hg.to (TF.new (o := Kf.VDict P w p []) hp)
    obtain ⟨a, rfl, nq, nd⟩ := nq_of hg1 mo
    have s1 : Same H (upd (upd H p (Kf.VDict P w p [])) p (Kf.VDict P w p [(keyG g, a, .int 0)])) := fun c o e => by rw [upd_ne (ne_of_none e hp), upd_ne (ne_of_none e hp)]; exact e
    obtain ⟨a', ea, nq', _⟩ := nq_of (hg.to (TF.of s1)) mo
    cases ea
    exact ⟨_, hs, upd_same, a, keyG g, rfl, nq, nd, k p _ s1 hp ⟨_, upd_same, fun r m => by rw [List.mem_singleton.mp m]; exact ⟨nq', nd⟩, rfl⟩⟩
end
/-! ### steps under sorted -/
open PySem.W in
theorem sortG (L : List (Addr × GStp)) : (L.mergeSort (dataLe false fun q : Addr × GStp => gstD q.2)).map Prod.snd = srtG (L.map Prod.snd) := by
  unfold srtG
  exact List.map_mergeSort fun a _ b _ => rfl
theorem kD_depth (k : L2.Key) : (kD k).depth = 0 := by
  cases k <;> rfl
theorem kDs_depth : ∀ ks : List L2.Key, PyData.depthAll (ks.map kD) ≤ 1
  | [] => by simp [PyData.depthAll]
  | k :: ks => by
    have := kDs_depth ks
    have := kD_depth k
    simp only [List.map_cons, PyData.depthAll]
    omega
theorem gst_depth (x : GStp) : (gstD x).depth ≤ 60 := by
  obtain ⟨o, a, g⟩ := x
  cases g with
  | inl k =>
    have := kD_depth k
    simp only [gstD, gD, PyData.depth, PyData.depthAll]
    omega
  | inr t =>
    have := kDs_depth t
    simp only [gstD, gD, PyData.depth, PyData.depthAll, tD]
    omega
theorem gst_alike {x y : GStp} (h : PySem.W.alike (gD x.2.2) (gD y.2.2) = true) : PySem.W.alike (gstD x) (gstD y) = true := by
  simp [gstD, PySem.W.alike, PySem.W.alikeAll, h]
theorem met_pre {vals : List GV} {x : GStp} : ∃ more, metG vals x = vals ++ more := by
  unfold metG
  split
  · exact ⟨[], by simp⟩
  · exact ⟨_, rfl⟩
theorem row_pre {vals more : List GV} {l : List GStp} (h : ∀ x ∈ l, x.2.2 ∈ vals) : rowG (vals ++ more) l = rowG vals l := by
  unfold rowG
  refine List.map_congr_left fun x m => ?_
  rw [List.idxOf_append, if_pos (h x m)]
/-! ### values in a list -/
inductive GAll (H : Hp) : List V → List GV → Prop
  | nil : GAll H [] []
  | cons {v : V} {vs : List V} {g : GV} {gs : List GV} : GAt H v g → GAll H vs gs → GAll H (v :: vs) (g :: gs)
theorem GAll.to {H H' : Hp} (t : TF H H') : ∀ {vs : List V} {gs : List GV}, GAll H vs gs → GAll H' vs gs
  | _, _, .nil => .nil
  | _, _, .cons h1 h2 => .cons (h1.to t) (h2.to t)
theorem GAll.len {H : Hp} : ∀ {vs : List V} {gs : List GV}, GAll H vs gs → vs.length = gs.length
  | _, _, .nil => rfl
  | _, _, .cons _ h2 => by rw [List.length_cons, List.length_cons, h2.len]
theorem GAll.snoc {H : Hp} {v : V} {g : GV} (h : GAt H v g) : ∀ {vs : List V} {gs : List GV}, GAll H vs gs → GAll H (vs ++ [v]) (gs ++ [g])
  | _, _, .nil => .cons h .nil
  | _, _, .cons h1 h2 => .cons h1 (GAll.snoc h h2)
theorem GAll.get {H : Hp} : ∀ {vs : List V} {gs : List GV}, GAll H vs gs → ∀ {i : Nat} {g : GV}, gs[i]? = some g → ∃ v, vs[i]? = some v ∧ GAt H v g
  | _, _, .nil, i, g, e => by simp at e
  | _, _, .cons h1 h2, 0, g, e => ⟨_, rfl, by have z := Option.some.inj e; rw [← z]; exact h1⟩
  | _, _, .cons h1 h2, i + 1, g, e => h2.get (i := i) e
def rowsG (mv : GV → List GStp) (vals : List GV) (n : Nat) : List (List Stp) := (vals.take n).map fun g => rowG vals (srtG (mv g))
end My

-- ===== KG2 =====
set_option Elab.async false
set_option linter.all false
set_option maxRecDepth 100000
set_option maxHeartbeats 4000000
namespace Kd
open PySem L2 PyProof.Rows PySem.Spec PySem.W StX
section
variable {X : Cx} {CX : CXT} {k : Nat} {C f : Addr} {sp : Sp} {E : XK} {o e : Expr}
/-- C(*xs), C in a global name -/
theorem pe_makeS {X : Cx} {CX : CXT} {k : Nat} {f C : Addr} {sp : Sp} {E : XK} {x : PySem.Str} {e : Expr} {te : TE} {p sp_ pos : Pos} (M : Mk X.K C f) (F : FnR X.prog X.w X.K X.mg X.base CX k f sp) (hr : Room (k + 1) X.A) (hg : Gl X x) (hm : X.mg x = some (.ref C)) (hx : Passes CX X E) (he : PE X e te) (hdb : (x == ("__debug__" : PySem.Str)) = false := by decide)
    (hst : starEach [.Starred e sp_] X.env = [(true, eval e X.env)] := by rfl) :
    PE X (.Call (.Name x p) [.Starred e sp_] [] pos) (fun σ H Q => te σ H fun y H1 => ∃ a xs, y = V.ref a ∧ (SqT X.K H1 a xs ∨ SqL X.K H1 a xs) ∧ ∀ o dx, H1 o = none → H1 dx = none → dx ≠ o →
      sp (V.ref o :: xs) (upd (upd H1 dx (.own o)) o (.ins C dx [])) (fun v H2 => v = .non ∧ Q (.ref o) H2) E) := by
  refine ⟨fun pins s σ H Q I ht => ?_⟩
  refine wpAny_Call_Name_kw (ld_glob I hg hm ?_ hdb)
  refine PySem.W.callWith_S (h₀ := X.base) I.ok.mod.kin M.kp (thn (he.run pins s σ _ _ I ht) fun w s2 ⟨y, H2, I2, ry, a, xs, ey, hxs, q⟩ => ?_) hst
  subst ey
  obtain rfl : w = Value.ref a := ry
  exact star_any I2 hxs fun us s3 I3 rv => ⟨I3.kIn, run_makeR M F hr hx I3 rv q⟩
theorem pt_or2 {X : Cx} {e : Expr} {t1 t2 : TT} (h1 : PT X e t1) (h2 : PT X e t2) : PT X e (fun σ H Q => t1 σ H Q ∨ t2 σ H Q) :=
  ⟨fun pins s σ H Q I h => h.elim (h1.run pins s σ H Q I) (h2.run pins s σ H Q I)⟩
theorem ps_or2 {X : Cx} {st : Stmt} {t1 t2 : TS} (h1 : PS X st t1) (h2 : PS X st t2) : PS X st (fun D σ H => t1 D σ H ∨ t2 D σ H) :=
  ⟨fun pins s σ H D I h => h.elim (h1.run pins s σ H D I) (h2.run pins s σ H D I)⟩
/-- one of two readings -/
theorem pe_or {X : Cx} {e : Expr} {t1 t2 : TE} (h1 : PE X e t1) (h2 : PE X e t2) : PE X e (fun σ H Q => t1 σ H Q ∨ t2 σ H Q) :=
  ⟨fun pins s σ H Q I h => h.elim (h1.run pins s σ H Q I) (h2.run pins s σ H Q I)⟩
end
end Kd
namespace My
open PySem L2 PyProof.Rows PySem.Spec Kd TL NdefX StX ClX
abbrev sGrown : Stmt := top 56
/-- what a builder's moves answer -/
def spMv (mv : GV → List GStp) (Dom : List GV) : Sp := fun vs H Q _ => ∃ v g, vs = [v] ∧ GAt H v g ∧ g ∈ Dom ∧ ∀ (l : Addr) (L : List (Addr × GStp)) (H' : Hp), Same H H' → H' l = some (.lst (L.map fun q => V.ref q.1)) → L.map Prod.snd = mv g → (∀ q ∈ L, GSt H' q.1 q.2) → Q (.ref l) H'
def spGrown (P : Program) (w : World) (K : PySem.W.Frag) (mg : Str → Option Value) (base : Heap) (C : Addr) (nm : Str) : SpH := fun outer h vs H Q _ => ∃ (v0 : V) (f : Addr) (F : NF) (fr : List Str) (ws : List (Option V)) (spF : List (Option V) → Sp) (g0 : GV) (mv : GV → List GStp) (Dom : List GV) (es : List (Str × Str)) (b : Bool),
  vs = [v0, .ref f] ∧ GAt H v0 g0 ∧ g0 ∈ Dom ∧ MvOk mv Dom es ∧ (∀ g ∈ Dom, isT g = b) ∧ CloAt outer h H f F fr ws ∧ NOk P w K mg base CX0 3 f F [nm] fr spF ∧ (∀ vs H1 Q E, Same H H1 → spMv mv Dom vs H1 Q E → spF ws vs H1 Q E) ∧
  ∀ u vals ls H', Same H H' → KindAt C H' u ls → Grown mv g0 vals ls → Q u H'
abbrev nGr : List Str := ["first", "moves", "numbers", "values", "states", "steps", "step", "value", "operation", "answer", "goal"]
section
variable {P : Program} {w : World} {K : PySem.W.Frag} {mg : Str → Option Value} {base : Heap} {C : Addr}
theorem scGr : FnScope nGr ["first", "moves"] (defScope sGrown) := ⟨rfl, rfl, rfl, by decide +kernel, rfl, by decide +kernel, by decide +kernel⟩
theorem ok_grown {f fI : Addr} {fd : FuncData} {nm : Str} (F : Fun K "_grown" "_grown" sGrown f fd) (G : Gs mg) (M : Mk K C fI) (FI : FnR P w K mg base CX0 5 fI (spInitR C)) (mC : mg "Kind" = some (.ref C)) :
    FnS P w K mg base CX0 7 f fd ["first", "moves"] (spGrown P w K mg base C nm) := by
  obtain ⟨t40, m40⟩ := G.c40
  refine okS (N := nGr) (k := 6) F scGr (fun o h vs H Q E h => ?_) (fun cdv A outer s H vs Q E hr h => ?_)
  · obtain ⟨v0, f, _, _, _, _, _, _, _, _, _, rfl, _⟩ := h
    rfl
  · obtain ⟨v0, fm, FF, fr, ws, spF, g0, mv, Dom, es, b, rfl, hg0, d0, MO, mode, CA, FN, imp, k⟩ := h
    have hu := hr.units
    have hu1 : (A.deeper (envOfC "_grown" (defScope sGrown) s.heap.objs.size f cdv)).units + 1 < cLine := by omega
    have hu64 : (A.deeper (envOfC "_grown" (defScope sGrown) s.heap.objs.size f cdv)).units + 64 < cLine := by have := hr.un; omega
    have hu80 : (A.deeper (envOfC "_grown" (defScope sGrown) s.heap.objs.size f cdv)).units + 80 < cLine := by have := hr.un; omega
    have hr3 := hr.mono (show 3 ≤ 6 by omega)
    refine ⟨_, PSs.nox (pss_cons (ps_set (i := 2) scGr.nd rfl (Or.inr rfl) (pe_or (pe_disp (pps_cons (pv 0) pe_int pps_nil) (by rfl) (by rfl) (fun z => by cases z) (by decide)) (Kf.pe_disp1F hu64 (pv 0) pe_int)))
      (pss_cons (ps_set (i := 3) scGr.nd rfl (Or.inl rfl) (pe_lst (pa_cons (pv 0) pa_nil)))
      (pss_cons (ps_set (i := 4) scGr.nd rfl (Or.inl rfl) (pe_lst pa_nil))
      (pss_cons (ps_while PassesOwn.never (pt_cmp (pc_lt (pe_callB (r := rLenQ K) call_len_seq (by rfl) G.len PySem.boot_len (pa_cons (pv 4) pa_nil)) (pe_callB (r := rLenQ K) call_len_seq (by rfl) G.len PySem.boot_len (pa_cons (pv 3) pa_nil))))
        (pss_cons (ps_set (i := 5) scGr.nd rfl (Or.inl rfl) (pe_callB (cr_sortX (enc := gstD) hu80) (by rfl) G.sorted PyProof.Rows.boot_sorted (pa_cons (pe_callv (i := 1) FN CA rfl hr3 pass0 rfl (Or.inl rfl) (pa_cons (pe_ix (r := rIxL K) ix_list (pv 3) (pe_callB (r := rLenQ K) call_len_seq (by rfl) G.len PySem.boot_len (pa_cons (pv 4) pa_nil)) (fun _ _ => rfl)) pa_nil)) pa_nil)))
        (pss_cons (ps_for PassesOwn.never rfl (pi_list (pv 5)) (pg_name (i := 6) scGr.nd rfl (Or.inl rfl))
          (pss_cons (ps_set (i := 7) scGr.nd rfl (Or.inl rfl) (pe_ix (r := rIxT K) ix_tup (pv 6) pe_int (fun _ _ => rfl)))
          (pss_one (ps_if (pt_or2 (pt_cmp (pc_dnotin hu1 (pv 7) (pv 2))) (pt_cmpR (Kf.op_notinV hu64) (pv 7) (pv 2) (by rfl)))
            (pss_cons (ps_if (pt_cmpR op_eq (pe_callB (r := rLenQ K) call_len_seq (by rfl) G.len PySem.boot_len (pa_cons (pv 3) pa_nil)) (pe_glob (v := .int 40) (by rfl) m40 ⟨_, rfl⟩) (nomark _)) (pss_one ps_never) pss_nil)
            (pss_cons (ps_or2 (ps_dput hu1 (pv 2) (pv 7) (pe_callB (r := rLenQ K) call_len_seq (by rfl) G.len PySem.boot_len (pa_cons (pv 3) pa_nil)) (by rfl)) (Kf.ps_putV hu64 (pv 2) (pv 7) (pe_callB (r := rLenQ K) call_len_seq (by rfl) G.len PySem.boot_len (pa_cons (pv 3) pa_nil)) (by rfl)))
            (pss_one (ps_expr (pe_bm PySem.F.plainAttrs_list PySem.F.slot_list_append PySem.F.type_list_append mt_append (pv 3) (pa_cons (pv 7) pa_nil)))))) pss_nil))))
        (pss_one (ps_expr (pe_bm PySem.F.plainAttrs_list PySem.F.slot_list_append PySem.F.type_list_append mt_append (pv 4) (pa_cons (pe_callTy call_tuple_of (by rfl) G.tuple (by decide +kernel) (pa_cons (pe_lc (own := [("operation", 8), ("answer", 9), ("goal", 10)]) (g := gTup K 3 (gCons (gName 8) (gCons (gName 9) (gCons (gName 10) gNil)))) (tt := tYes) (te := tTup (tCons (tVar 8) (tCons (tVar 9) (tCons (tOr2 (tDGet (tVar 2) (tVar 10)) (Kf.tGetV P w (tVar 2) (tVar 10))) tNil)))) rfl scGr.nd (pi_list (pv 5)) (blkOk_by (N := nGr) (sc := defScope sGrown) (by decide +kernel))
            (fun _ _ _ _ _ => pg_tup (by rfl) (pgs_cons (pg_name (i := 8) scGr.nd rfl (Or.inl rfl)) (pgs_cons (pg_name (i := 9) scGr.nd rfl (Or.inl rfl)) (pgs_cons (pg_name (i := 10) scGr.nd rfl (Or.inl rfl)) pgs_nil)))) (fun _ _ _ _ _ => pts_nil)
            (fun _ _ _ _ _ => pe_tup (pa_cons (pv 8) (pa_cons (pv 9) (pa_cons (pe_or (pe_dget hu1 (pv 2) (pv 10) (fun _ _ => rfl)) (Kf.pe_getV hu64 (pv 2) (pv 10) (fun _ _ => rfl))) pa_nil))))) pa_nil)) pa_nil)))))))
      (pss_one (ps_ret (pe_makeS M FI hr (by rfl) mC pass0 (pv 4)))))))), ?_⟩
    -- numbers = {first: 0}
    refine num_first rfl hg0 (mode g0 d0) fun nu H1 s1 nnu hnu => ?_
    -- values = [first]; states = []
    refine ⟨_, rfl, small_len (m := 1) (Nat.le_refl _), fun va hva => ?_⟩
    refine ⟨small_len (m := 1) (Nat.zero_le _), fun st hst => ?_⟩
    have hst1 : H1 st = none := upd_none hst
    have fva : H va = none := s1.free hva
    have fst_ : H st = none := s1.free hst1
    obtain ⟨on, hon, on1, on2, on3⟩ := hnu.obj
    have n1 : nu ≠ va := ne_of_none hon hva
    have n2 : nu ≠ st := ne_of_none hon hst1
    have n3 : va ≠ st := fun z => by rw [← z, upd_same] at hst; cases hst
    have s2 : Same H (upd (upd H1 va (.lst [v0])) st (.lst [])) := (s1.trans (same_new hva)).trans (same_new hst)
    have e_nu : NumAt P w (upd (upd H1 va (.lst [v0])) st (.lst [])) nu b [g0] := hnu.same ((same_new hva).trans (same_new hst))
    have e_va : (upd (upd H1 va (.lst [v0])) st (.lst [])) va = some (.lst [v0]) := by rw [upd_ne n3, upd_same]
    have e_st : (upd (upd H1 va (.lst [v0])) st (.lst [])) st = some (.lst []) := upd_same
    generalize upd (upd H1 va (.lst [v0])) st (.lst []) = H2 at s2 e_nu e_va e_st ⊢
    clear hva hst hnu hst1 hon
    refine ⟨fun μ σ Hw => ∃ (n : Nat) (vs rs : List V) (o5 o6 o7 : Option V), μ = 40 - n ∧ σ = [some v0, some (.ref fm), some (.ref nu), some (.ref va), some (.ref st), o5, o6, o7, none, none, none] ∧ Same H Hw ∧ NumAt P w Hw nu b (valsG mv g0 n) ∧ Hw va = some (.lst vs) ∧ GAll Hw vs (valsG mv g0 n) ∧ Hw st = some (.lst rs) ∧ TDs Hw rs ((rowsG mv (valsG mv g0 n) n).map stateD) ∧ n ≤ (valsG mv g0 n).length,
      ⟨_, 0, [v0], [], none, none, none, rfl, rfl, s2, e_nu, e_va, .cons (hg0.to (TF.of s2)) .nil, e_st, .nil, Nat.zero_le _⟩, fun μ σ Hw ⟨n, vs, rs, o5, o6, o7, eμ, eσ, sw, hnu, hva, gv, hst, td, le⟩ => ?_⟩
    subst eμ
    subst eσ
    have most : (valsG mv g0 n).length ≤ 40 := valsG_most MO d0 n
    have lv : vs.length = (valsG mv g0 n).length := gv.len
    have lr : rs.length = n := by
      have z := td.len
      unfold rowsG at z
      rw [List.length_map, List.length_map, List.length_take] at z
      omega
    have inD : ∀ g ∈ valsG mv g0 n, g ∈ Dom := valsG_in MO d0 n
    refine ⟨_, rfl, st, _, rfl, .inl (SqL.of hst), _, rfl, va, _, rfl, .inl (SqL.of hva), _, _, rfl, rfl, _, rfl, ?_⟩
    rw [lr, lv]
    dsimp only
    by_cases lt : n < (valsG mv g0 n).length
    · rw [decide_eq_true (show ((n : Nat) : Int) < ((valsG mv g0 n).length : Int) by omega)]
      refine iteT ⟨fun σ' H' => ∃ (vs rs : List V) (o5 o6 o7 : Option V), σ' = [some v0, some (.ref fm), some (.ref nu), some (.ref va), some (.ref st), o5, o6, o7, none, none, none] ∧ Same H H' ∧ NumAt P w H' nu b (valsG mv g0 (n + 1)) ∧ H' va = some (.lst vs) ∧ GAll H' vs (valsG mv g0 (n + 1)) ∧ H' st = some (.lst rs) ∧ TDs H' rs ((rowsG mv (valsG mv g0 (n + 1)) (n + 1)).map stateD) ∧ n + 1 ≤ (valsG mv g0 (n + 1)).length,
        fun σ' H' ⟨vs', rs', p5, p6, p7, e, r1, r2, r3, r4, r5, r6, r7⟩ => ⟨_, by omega, n + 1, vs', rs', p5, p6, p7, rfl, e, r1, r2, r3, r4, r5, r6, r7⟩, ?_⟩
      obtain ⟨g, eg⟩ : ∃ g, (valsG mv g0 n)[n]? = some g := ⟨_, List.getElem?_eq_getElem lt⟩
      obtain ⟨v, ev, hg⟩ := gv.get eg
      have gd := inD g (List.mem_of_getElem? eg)
      have eN : valsG mv g0 (n + 1) = (srtG (mv g)).foldl metG (valsG mv g0 n) := by
        show (match (valsG mv g0 n)[n]? with | none => valsG mv g0 n | some g => (srtG (mv g)).foldl metG (valsG mv g0 n)) = _
        rw [eg]
      have eat : atI vs (n : Int) = some v := atI_nat ev
      rw [← lr] at eat
      -- steps = sorted(moves(..))
      refine ⟨rfl, sw _ _ CA.fn, _, rfl, _, rfl, st, _, rfl, .inl (SqL.of hst), va, _, _, _, rfl, rfl, SqL.of hva, eat, sw _ _ CA.fn, sw _ _ CA.code, imp _ _ _ _ sw ⟨v, g, rfl, hg, gd, fun l L H3 s3 hl eL hL => ?_⟩⟩
      have stepD_ := MO.step g gd
      have lL : L.length = (mv g).length := by rw [← eL, List.length_map]
      have l24 : (mv g).length ≤ 24 := by
        have z := nodup_most _ es (MO.nd g gd) fun e me => by
          obtain ⟨y, my, rfl⟩ := List.mem_map.mp me
          exact (stepD_ y my).2.2.2
        rw [List.length_map] at z
        exact Nat.le_trans z MO.evs
      have inL : ∀ q ∈ L, q.2 ∈ mv g := fun q m => by rw [← eL]; exact List.mem_map.mpr ⟨q, m, rfl⟩
      refine ⟨l, L, rfl, .inl (SqL.of hl), fun q m => (hL q m).dp, fun d hd d' hd' => ?_, .inl fun d hd => ?_, fun q _ => gst_depth q.2, by omega, fun p hp => ?_⟩
      · obtain ⟨q, mq, rfl⟩ := List.mem_map.mp hd
        obtain ⟨q', mq', rfl⟩ := List.mem_map.mp hd'
        exact gst_alike (MO.alike _ (stepD_ _ (inL q mq)).1 _ (stepD_ _ (inL q' mq')).1)
      · obtain ⟨q, mq, rfl⟩ := List.mem_map.mp hd
        exact ⟨_, _, rfl⟩
      have eM : (L.mergeSort (PySem.W.dataLe false fun q : Addr × GStp => gstD q.2)).map Prod.snd = srtG (mv g) := by rw [sortG, eL]
      have hM : ∀ q ∈ L.mergeSort (PySem.W.dataLe false fun q : Addr × GStp => gstD q.2), GSt H3 q.1 q.2 := fun q m => hL q ((List.mergeSort_perm _ _).mem_iff.mp m)
      generalize L.mergeSort (PySem.W.dataLe false fun q : Addr × GStp => gstD q.2) = M at eM hM ⊢
      have sg : ∀ x ∈ srtG (mv g), x ∈ mv g := fun x m => (srt_perm _).mem_iff.mp m
      have s4 : Same Hw (upd H3 p (.lst (M.map fun q => V.ref q.1))) := s3.trans (same_new hp)
      have hM4 : ∀ q ∈ M, GSt (upd H3 p (.lst (M.map fun q => V.ref q.1))) q.1 q.2 := fun q m => (hM q m).to (TF.of (same_new hp))
      have hp4 : (upd H3 p (.lst (M.map fun q => V.ref q.1))) p = some (.lst (M.map fun q => V.ref q.1)) := upd_same
      have fp : Hw p = none := s3.free hp
      have p1 : p ≠ nu := fun z => by
        obtain ⟨o, ho, _⟩ := hnu.obj
        rw [z, ho] at fp
        cases fp
      have p2 : p ≠ va := fun z => by rw [z, hva] at fp; cases fp
      have p3 : p ≠ st := fun z => by rw [z, hst] at fp; cases fp
      generalize upd H3 p (.lst (M.map fun q => V.ref q.1)) = H4 at s4 hM4 hp4 ⊢
      have lM : M.length = (srtG (mv g)).length := by rw [← eM, List.length_map]
      have n4 : nu ≠ st := n2
      -- for step in steps
      refine ⟨_, rfl, p, rfl, ⟨_, SqL.of hp4⟩, for_list (K := K) (a := p) (xs := M.map fun q => V.ref q.1) (fun j σ H5 => ∃ (vs' : List V) (o6 o7 : Option V), σ = [some v0, some (.ref fm), some (.ref nu), some (.ref va), some (.ref st), some (.ref p), o6, o7, none, none, none] ∧ Same H H5 ∧ TF H4 H5 ∧ NumAt P w H5 nu b (((srtG (mv g)).take j).foldl metG (valsG mv g0 n)) ∧ H5 va = some (.lst vs') ∧ GAll H5 vs' (((srtG (mv g)).take j).foldl metG (valsG mv g0 n)) ∧ H5 st = some (.lst rs) ∧ H5 p = some (.lst (M.map fun q => V.ref q.1)))
        ⟨vs, o6, o7, rfl, sw.trans s4, TF.refl _, hnu.same s4, s4 _ _ hva, gv.to (TF.of s4), s4 _ _ hst, hp4⟩ (fun j σ H5 _ ⟨_, _, _, _, _, _, _, _, _, _, e⟩ => SqL.of e) ?_ ?_⟩
      · rintro j x σ H5 hj ⟨vs', q6, q7, rfl, s5, t5, hnu5, hva5, gv5, hst5, hp5⟩
        rw [List.getElem?_map] at hj
        obtain ⟨q, eq, rfl⟩ := Option.map_eq_some_iff.mp hj
        have eq2 : (srtG (mv g))[j]? = some q.2 := by rw [← eM, List.getElem?_map, eq]; rfl
        have tk : (srtG (mv g)).take (j + 1) = (srtG (mv g)).take j ++ [q.2] := by rw [List.take_succ, eq2]; rfl
        have mq2 := sg _ (List.mem_of_getElem? eq2)
        obtain ⟨u, hu1_, hu2⟩ := (hM4 q (List.mem_of_getElem? eq)).to t5
        have xd := (stepD_ _ mq2).1
        rw [tk, List.foldl_append]
        have nd5 : (((srtG (mv g)).take j).foldl metG (valsG mv g0 n)).Nodup := foldG_nd _ (valsG_nd n)
        have in5 : ∀ y ∈ ((srtG (mv g)).take j).foldl metG (valsG mv g0 n), y ∈ Dom := foldG_in inD fun y m => (stepD_ y (sg y (List.mem_of_mem_take m))).1
        generalize ((srtG (mv g)).take j).foldl metG (valsG mv g0 n) = vals at hnu5 gv5 nd5 in5 ⊢
        show _
        have most5 : vals.length ≤ 40 := Nat.le_trans (nodup_most _ _ nd5 in5) MO.dom
        have lv5 := gv5.len
        refine ⟨_, rfl, q.1, _, 2, u, rfl, rfl, SqT.of hu1_, rfl, ?_⟩
        refine NumAt.notin hnu5 hu2 (mode _ xd) (fun y m => mode y (in5 y m)) rfl rfl ?_
        by_cases mem : q.2.2.2 ∈ vals
        · rw [decide_eq_true mem]
          have em : metG vals q.2 = vals := by unfold metG; rw [if_pos mem]
          refine iteF ⟨vs', _, _, rfl, s5, t5, ?_, hva5, ?_, hst5, hp5⟩
          · show NumAt P w H5 nu b (metG vals q.2)
            rw [em]
            exact hnu5
          · show GAll H5 vs' (metG vals q.2)
            rw [em]
            exact gv5
        · rw [decide_eq_false mem]
          have few : vals.length + 1 ≤ 40 := by
            have z := nodup_most (vals ++ [q.2.2.2]) Dom (List.nodup_append.mpr ⟨nd5, by simp, fun a ha c hc e => mem (by rw [List.mem_singleton.mp hc] at e; rw [← e]; exact ha)⟩) fun y m => (List.mem_append.mp m).elim (in5 y) fun m => by rw [List.mem_singleton.mp m]; exact xd
            rw [List.length_append] at z
            exact Nat.le_trans z MO.dom
          refine iteT ⟨_, rfl, va, _, rfl, .inl (SqL.of hva5), rfl, _, rfl, ?_⟩
          have e40 : (decide (V.int ((vs'.length : Nat) : Int) = V.int 40)) = false := decide_eq_false fun z => by
            have := V.int.inj z
            omega
          rw [e40]
          refine iteF ?_
          refine NumAt.put hnu5 hu2 (mode _ xd) (fun y m => mode y (in5 y m)) mem (by omega) rfl rfl (fun Q hQ => ⟨_, rfl, va, _, rfl, .inl (SqL.of hva5), by rw [lv5]; exact hQ⟩) fun on hn6 t6 => ?_
          have h6 : (upd H5 nu on) va = some (.lst vs') := by rw [upd_ne (Ne.symm n1)]; exact hva5
          refine ⟨_, rfl, .inl ⟨rfl, _, SqL.of h6⟩, _, rfl, va, _, _, rfl, rfl, h6, small_lt (m := 40) (by omega), ?_⟩
          have t7 : TF (upd H5 nu on) (upd (upd H5 nu on) va (.lst (vs' ++ [u]))) := TF.lst h6
          have em : metG vals q.2 = vals ++ [q.2.2.2] := by unfold metG; rw [if_neg mem]
          refine ⟨vs' ++ [u], _, _, rfl, fun y o e => ?_, (t5.trans t6).trans t7, ?_, upd_same, ?_, ?_, ?_⟩
          · have m1 : y ≠ va := fun z => by rw [z, fva] at e; cases e
            have m2 : y ≠ nu := fun z => by rw [z, nnu] at e; cases e
            rw [upd_ne m1, upd_ne m2]
            exact s5 y o e
          · show NumAt P w _ nu b (metG vals q.2)
            rw [em]
            exact hn6.to t7 fun o e => by rw [upd_ne n1]; exact e
          · show GAll _ _ (metG vals q.2)
            rw [em]
            exact (gv5.to (t6.trans t7)).snoc (hu2.to (t6.trans t7))
          · rw [upd_ne (Ne.symm n3), upd_ne (Ne.symm n2)]
            exact hst5
          · rw [upd_ne p2, upd_ne p1]
            exact hp5
      · rintro σ H5 ⟨vs', q6, q7, rfl, s5, t5, hnu5, hva5, gv5, hst5, hp5⟩
        rw [List.length_map, lM, List.take_length, ← eN] at hnu5 gv5
        have met : ∀ x ∈ srtG (mv g), x.2.2 ∈ valsG mv g0 (n + 1) := fun x m => by rw [eN]; exact foldG_met _ _ x m
        have inN : ∀ y ∈ valsG mv g0 (n + 1), y ∈ Dom := valsG_in MO d0 _
        have rest : (rowsG mv (valsG mv g0 (n + 1)) (n + 1)) = rowsG mv (valsG mv g0 n) n ++ [rowG (valsG mv g0 (n + 1)) (srtG (mv g))] := by
          obtain ⟨more, em⟩ := valsG_pre (mv := mv) (g0 := g0) n
          unfold rowsG
          rw [em, List.take_append_of_le_length lt, List.take_succ, eg]
          show ((valsG mv g0 n).take n ++ [g]).map _ = _
          rw [List.map_append]
          congr 1
          refine List.map_congr_left fun y my => ?_
          obtain ⟨j, hj, ej⟩ := List.mem_take_iff_getElem.mp my
          refine row_pre fun x mx => ?_
          exact valsG_shut n j y (by omega) (by rw [← ej]; exact List.getElem?_eq_getElem _) x ((srt_perm _).mem_iff.mp mx)
        have len1 : n + 1 ≤ (valsG mv g0 (n + 1)).length := by
          obtain ⟨more, em⟩ := valsG_pre (mv := mv) (g0 := g0) n
          rw [em, List.length_append]
          omega
        -- states.append(tuple([..]))
        refine ⟨_, rfl, .inl ⟨rfl, _, SqL.of hst5⟩, _, rfl, p, rfl, ⟨_, SqL.of hp5⟩, fun D hD => lc_list (K := K) (a := p) (xs := M.map fun q => V.ref q.1) (fun i H6 => Same H5 H6 ∧ ∃ acc, H6 D = some (.lst acc) ∧ TDs H6 acc (((rowG (valsG mv g0 (n + 1)) (srtG (mv g))).take i).map stepD))
          ⟨same_new hD, [], upd_same, .nil⟩ (fun i H6 _ ⟨s6, _⟩ => SqL.of (s6 _ _ hp5)) (fun i x H6 hx ⟨s6, acc, d6, td6⟩ => ?_) fun H6 ⟨s6, acc, d6, td6⟩ => ?_⟩
        · rw [List.getElem?_map] at hx
          obtain ⟨q, eq, rfl⟩ := Option.map_eq_some_iff.mp hx
          have eq2 : (srtG (mv g))[i]? = some q.2 := by rw [← eM, List.getElem?_map, eq]; rfl
          have li : i < (srtG (mv g)).length := (List.getElem?_eq_some_iff.mp eq2).1
          have mq2 := List.mem_of_getElem? eq2
          obtain ⟨u, hu1_, hu2⟩ := (hM4 q (List.mem_of_getElem? eq)).to (t5.trans (TF.of s6))
          have xin := met _ mq2
          refine ⟨q.1, _, rfl, SqT.of hu1_, rfl, _, _, rfl, _, _, rfl, _, _, rfl, rfl, rfl, _, rfl, _, rfl, NumAt.get (hnu5.same s6) hu2 (mode _ (inN _ xin)) (fun y m => mode y (inN y m)) xin rfl rfl ⟨small_len (m := 3) (Nat.le_refl _), fun t ht => ⟨acc, by rw [upd_ne (ne_of_none d6 ht)]; exact d6, ?_, ?_, acc ++ [.ref t], upd_same, ?_⟩⟩⟩
          · have z := td6.len
            rw [List.length_map, List.length_take] at z
            have l2 : (srtG (mv g)).length = (mv g).length := (srt_perm _).length_eq
            exact small_lt (m := 24) (by omega)
          · exact same_at (s6.trans (same_new ht)) hD
          · have tp : Tup H6 (upd (upd H6 t (.tup [.str q.2.1, .str q.2.2.1, .int (((valsG mv g0 (n + 1)).idxOf q.2.2.2 : Nat) : Int)])) D (.lst (acc ++ [.ref t]))) := (Tup.new ht).trans (Tup.at_ (o' := .lst acc) (by rw [upd_ne (ne_of_none d6 ht)]; exact d6) fun xs z => by cases z)
            have er : (rowG (valsG mv g0 (n + 1)) (srtG (mv g)))[i]? = some (q.2.1, q.2.2.1, (((valsG mv g0 (n + 1)).idxOf q.2.2.2 : Nat) : Int)) := by
              unfold rowG
              rw [List.getElem?_map, eq2]
              rfl
            rw [List.take_succ, er, List.map_append]
            refine TDs.snoc (.tup (a := t) (by rw [upd_ne fun z => by rw [z, d6] at ht; cases ht]; exact upd_same) (.cons (.str _) (.cons (.str _) (.cons (.int _) .nil)))) (td6.to tp)
        · have l2 : (rowG (valsG mv g0 (n + 1)) (srtG (mv g))).length = (srtG (mv g)).length := by unfold rowG; rw [List.length_map]
          rw [List.length_map, lM, ← l2, List.take_length] at td6
          refine ⟨D, _, rfl, .inl ⟨SqL.of d6, fun r hr => ?_⟩⟩
          have st6 : (upd H6 r (.tup acc)) st = some (.lst rs) := by
            have z := s6 _ _ hst5
            rw [upd_ne (ne_of_none z hr)]
            exact z
          refine ⟨st, _, _, rfl, rfl, st6, small_lt (m := 40) (by omega), ?_⟩
          have s7 : Same H5 (upd H6 r (.tup acc)) := s6.trans (same_new hr)
          have tp : Tup (upd H6 r (.tup acc)) (upd (upd H6 r (.tup acc)) st (.lst (rs ++ [.ref r]))) := Tup.at_ st6 fun xs z => by cases z
          have t56 : TF H5 (upd (upd H6 r (.tup acc)) st (.lst (rs ++ [.ref r]))) := (TF.of s7).trans (TF.lst st6)
          have nrs : r ≠ st := fun z => by rw [z, s6 _ _ hst5] at hr; cases hr
          refine ⟨vs', rs ++ [.ref r], _, _, _, rfl, fun y o e => ?_, ?_, ?_, gv5.to t56, upd_same, ?_, len1⟩
          · rw [upd_ne fun z => by rw [z, fst_] at e; cases e]
            exact s7 _ _ (s5 y o e)
          · exact hnu5.to t56 fun o e => by rw [upd_ne n2]; exact s7 _ _ e
          · rw [upd_ne n3]
            exact s7 _ _ hva5
          · rw [rest, List.map_append]
            refine TDs.snoc (.tup (a := r) (by rw [upd_ne nrs]; exact upd_same) (td6.to ((Tup.of (same_new hr)).trans tp))) (td.to (((TF.of s4).trans t5).trans t56).1)
    · rw [decide_eq_false (show ¬ ((n : Nat) : Int) < ((valsG mv g0 n).length : Int) by omega)]
      have en : n = (valsG mv g0 n).length := by omega
      have GR : Grown mv g0 (valsG mv g0 n) (rowsG mv (valsG mv g0 n) n) := by
        refine ⟨by rw [← en], ?_⟩
        unfold rowsG
        rw [List.take_of_length_le (by omega)]
      have kl := GR.kok MO d0
      generalize rowsG mv (valsG mv g0 n) n = ls at td GR kl
      have len : rs.length = ls.length := by
        have z := td.len
        rwa [List.length_map] at z
      have l2 := kl.most
      refine iteF ⟨_, rfl, st, rs, rfl, .inr (SqL.of hst), fun o dx no nd ne => ?_⟩
      refine ⟨[.ref o], rs, rfl, rfl, small_len (m := 40) (by omega), fun q hq => ?_⟩
      have hq1 : q ≠ o := fun z => by
        rw [z, upd_same] at hq
        cases hq
      have hq2 : (upd Hw dx (.own o)) q = none := by
        rw [upd_ne hq1] at hq
        exact hq
      have no1 : (upd Hw dx (.own o)) o = none := by
        rw [upd_ne (Ne.symm ne)]
        exact no
      have s0 : Same Hw (upd (upd (upd Hw dx (.own o)) o (.ins C dx [])) q (.tup rs)) := ((same_new nd).trans (same_new no1)).trans (same_new hq)
      refine ⟨o, q, dx, ls, rfl, by rw [upd_ne (Ne.symm hq1)]; exact upd_same, .tup upd_same (td.to (Tup.of s0)), kl, fun H' m but ho mv' => ⟨rfl, ?_⟩⟩
      have s2' : Same Hw H' := fun b u e => but b u (s0 b u e) (ne_of_none e no)
      refine k _ _ ls _ (sw.trans s2') ⟨o, dx, q, m, rfl, ho, .tup (but q _ upd_same hq1) (td.to (Tup.of s2')), mv'⟩ GR
end
end My

-- ===== K61R =====
set_option Elab.async false
set_option linter.all false
set_option maxRecDepth 100000
set_option maxHeartbeats 4000000
namespace My
open PySem L2 PyProof.Rows PySem.Spec Kd TL
theorem none_of {H H2 : Hp} {b : Addr} (s : Same H H2) (h : H2 b = none) : H b = none := by
  cases e : H b with
  | none => rfl
  | some o => rw [s b o e] at h; exact h
/-! ### states that are reached -/
/-- where sequences lead from some states -/
inductive Rch (ss : List (List Stp)) (S : List Int) : Int → Prop
  | base {i : Int} : i ∈ S → Rch ss S i
  | step {i : Nat} {st : List Stp} {x : Stp} : Rch ss S (i : Int) → ss[i]? = some st → x ∈ st → Rch ss S x.2.2
def seenD (fs : List Int) : List (L2.Key × V) := fs.map fun i => (Sum.inl i, V.bl true)
theorem seen_in {fs : List Int} {i : Int} : (valV (seenD fs) (Sum.inl i)).isSome = decide (i ∈ fs) := by
  unfold valV seenD
  rw [Option.isSome_map]
  refine Bool.eq_iff_iff.mpr ?_
  rw [List.find?_isSome, decide_eq_true_eq]
  constructor
  · rintro ⟨p, m, e⟩
    obtain ⟨j, hj, rfl⟩ := List.mem_map.mp m
    have e2 : (Sum.inl j : L2.Key) = Sum.inl i := of_decide_eq_true e
    rwa [← Sum.inl.inj e2]
  · exact fun m => ⟨_, List.mem_map.mpr ⟨i, m, rfl⟩, decide_eq_true rfl⟩
theorem seen_put {fs : List Int} {i : Int} (n : i ∉ fs) : putK (seenD fs) (Sum.inl i) (V.bl true) = seenD (fs ++ [i]) := by
  have e : valV (seenD fs) (Sum.inl i) = none := by
    have z := seen_in (fs := fs) (i := i)
    rw [decide_eq_false n] at z
    cases e : valV (seenD fs) (Sum.inl i) with
    | none => rfl
    | some v => rw [e] at z; cases z
  rw [L2.putK_new _ e]
  unfold seenD
  rw [List.map_append]
  rfl
theorem ints_most {fs : List Int} {n : Nat} (nd : fs.Nodup) (h : ∀ i ∈ fs, 0 ≤ i ∧ i < (n : Int)) : fs.length ≤ n := by
  have z := nodup_most fs ((List.range n).map fun (k : Nat) => (k : Int)) nd fun i m => by
    have q := h i m
    exact List.mem_map.mpr ⟨i.toNat, List.mem_range.mpr (by omega), by omega⟩
  rwa [List.length_map, List.length_range] at z
/-- what has been found, all behind the first of it being found, too -/
structure Fnd (ss : List (List Stp)) (S fs : List Int) (at_ : Nat) : Prop where
  nd : fs.Nodup
  inn : ∀ i ∈ fs, 0 ≤ i ∧ i < (ss.length : Int)
  sub : ∀ i ∈ S, i ∈ fs
  rch : ∀ i ∈ fs, Rch ss S i
  le : at_ ≤ fs.length
  shut : ∀ (j i : Nat) (st : List Stp) (x : Stp), j < at_ → fs[j]? = some (i : Int) → ss[i]? = some st → x ∈ st → x.2.2 ∈ fs
theorem Fnd.most {ss : List (List Stp)} {S fs : List Int} {a : Nat} (F : Fnd ss S fs a) : fs.length ≤ ss.length := ints_most F.nd F.inn
theorem Fnd.all {ss : List (List Stp)} {S fs : List Int} (F : Fnd ss S fs fs.length) : ∀ i, i ∈ fs ↔ Rch ss S i := by
  refine fun i => ⟨F.rch i, fun r => ?_⟩
  induction r with
  | base m => exact F.sub _ m
  | step _ e m ih =>
    obtain ⟨j, hj⟩ := List.mem_iff_getElem?.mp ih
    exact F.shut j _ _ _ (List.getElem?_eq_some_iff.mp hj).1 hj e m
/-- while the steps of one state are looked through -/
structure Mid (ss : List (List Stp)) (S fs : List Int) (at_ : Nat) (done : List Stp) : Prop where
  nd : fs.Nodup
  inn : ∀ i ∈ fs, 0 ≤ i ∧ i < (ss.length : Int)
  sub : ∀ i ∈ S, i ∈ fs
  rch : ∀ i ∈ fs, Rch ss S i
  lt : at_ < fs.length
  shut : ∀ (j i : Nat) (st : List Stp) (x : Stp), j < at_ → fs[j]? = some (i : Int) → ss[i]? = some st → x ∈ st → x.2.2 ∈ fs
  here : ∀ x ∈ done, x.2.2 ∈ fs
theorem Fnd.mid {ss : List (List Stp)} {S fs : List Int} {a : Nat} (F : Fnd ss S fs a) (lt : a < fs.length) : Mid ss S fs a [] := ⟨F.nd, F.inn, F.sub, F.rch, lt, F.shut, fun x m => nomatch m⟩
theorem Mid.skip {ss : List (List Stp)} {S fs : List Int} {a : Nat} {d : List Stp} {x : Stp} (M : Mid ss S fs a d) (m : x.2.2 ∈ fs) : Mid ss S fs a (d ++ [x]) :=
  ⟨M.nd, M.inn, M.sub, M.rch, M.lt, M.shut, fun y hy => by
    rcases List.mem_append.mp hy with z | z
    · exact M.here y z
    · rw [List.mem_singleton.mp z]
      exact m⟩
theorem Mid.put {ss : List (List Stp)} {S fs : List Int} {a i : Nat} {d st : List Stp} {x : Stp} (M : Mid ss S fs a d) (n : x.2.2 ∉ fs) (ei : fs[a]? = some (i : Int)) (es : ss[i]? = some st) (mx : x ∈ st) (ok : StpOk ss.length x) : Mid ss S (fs ++ [x.2.2]) a (d ++ [x]) := by
  refine ⟨?_, fun k m => ?_, fun k m => List.mem_append_left _ (M.sub k m), fun k m => ?_, by rw [List.length_append]; exact Nat.lt_add_right _ M.lt, fun j k su y lt ej ek my => ?_, fun y hy => ?_⟩
  · exact List.nodup_append.mpr ⟨M.nd, List.nodup_cons.mpr ⟨List.not_mem_nil, List.nodup_nil⟩, fun p hp q hq e => n (by rw [← List.mem_singleton.mp hq, ← e]; exact hp)⟩
  · rcases List.mem_append.mp m with z | z
    · exact M.inn k z
    · rw [List.mem_singleton.mp z]
      exact ⟨ok.lo, ok.hi⟩
  · rcases List.mem_append.mp m with z | z
    · exact M.rch k z
    · rw [List.mem_singleton.mp z]
      exact .step (M.rch _ (List.mem_of_getElem? ei)) es mx
  · have l2 := M.lt
    rw [List.getElem?_append_left (by omega)] at ej
    exact List.mem_append_left _ (M.shut j k su y lt ej ek my)
  · rcases List.mem_append.mp hy with z | z
    · exact List.mem_append_left _ (M.here y z)
    · rw [List.mem_singleton.mp z]
      exact List.mem_append_right _ List.mem_cons_self
theorem Mid.fnd {ss : List (List Stp)} {S fs : List Int} {a i : Nat} {st : List Stp} (M : Mid ss S fs a st) (ei : fs[a]? = some (i : Int)) (es : ss[i]? = some st) : Fnd ss S fs (a + 1) := by
  refine ⟨M.nd, M.inn, M.sub, M.rch, M.lt, fun j k su x lt ej ek mx => ?_⟩
  rcases Nat.lt_or_ge j a with l | g
  · exact M.shut j k su x l ej ek mx
  · have e : j = a := by omega
    rw [e, ei] at ej
    have e2 : i = k := by
      have z : (i : Int) = (k : Int) := Option.some.inj ej
      omega
    rw [← e2, es] at ek
    rw [← Option.some.inj ek] at mx
    exact M.here x mx
theorem asc_of {l : List Int} (h : l.Pairwise (· ≤ ·)) (nd : l.Nodup) : l.Pairwise (· < ·) := by
  refine (h.and nd).imp fun {a b} ⟨h1, h2⟩ => ?_
  have n2 : a ≠ b := h2
  omega
theorem asc_same : ∀ {l m : List Int}, l.Pairwise (· < ·) → m.Pairwise (· < ·) → (∀ i, i ∈ l ↔ i ∈ m) → l = m
  | [], [], _, _, _ => rfl
  | [], b :: m, _, _, h => nomatch (h b).mpr List.mem_cons_self
  | a :: l, [], _, _, h => nomatch (h a).mp List.mem_cons_self
  | a :: l, b :: m, hl, hm, h => by
    have l1 := List.pairwise_cons.mp hl
    have m1 := List.pairwise_cons.mp hm
    have e : a = b := by
      rcases List.mem_cons.mp ((h a).mp List.mem_cons_self) with z | z
      · exact z
      · rcases List.mem_cons.mp ((h b).mpr List.mem_cons_self) with y | y
        · exact y.symm
        · have p := m1.1 a z
          have q := l1.1 b y
          omega
    subst e
    rw [asc_same l1.2 m1.2 fun i => ?_]
    have hi := h i
    rw [List.mem_cons, List.mem_cons] at hi
    constructor
    · intro mi
      rcases hi.mp (.inr mi) with z | z
      · have p := l1.1 i mi
        omega
      · exact z
    · intro mi
      rcases hi.mpr (.inr mi) with z | z
      · have p := m1.1 i mi
        omega
      · exact z
end My

-- ===== KN5 =====
set_option Elab.async false
set_option linter.all false
set_option maxRecDepth 100000
set_option maxHeartbeats 4000000
namespace Kd
open PySem L2 PyProof.Rows PySem.Spec PySem.W
section
variable {X : Cx}
/-! ### name = {key: val for ..} -/
theorem ps_setDc {i : Nat} {y : Str} {py : Pos} {kx vx tg iter : Expr} {ifs : List Expr} {scope : Scope} {own : List (Str × Nat)} {pos spos : Pos} {wi : TI} {g : TG} {tt : TT} {tk tv : TE} (hc : X.calm = true) (hN : X.N.Nodup) (hy : X.N[i]? = some y) (hyl : X.env.scope.names.lookup y = some .local)
    (hsw : swapsWith (.DictComp kx vx [⟨tg, iter, ifs, 0⟩] scope pos) (some (.Name y py)) spos.line X.env = pure true) (hi : PI X tg iter wi) (ok : BlkOk X.N X.env.scope scope own)
    (hg : ∀ (s : Shared) (H : Hp) (C : Addr) (cl : List (Str × Addr)) (fp : List Addr), PG (X.blk s H scope (compEnvC scope cl C X.env) fp) tg g) (ht : ∀ (s : Shared) (H : Hp) (C : Addr) (cl : List (Str × Addr)) (fp : List Addr), PTs (X.blk s H scope (compEnvC scope cl C X.env) fp) ifs tt)
    (hk : ∀ (s : Shared) (H : Hp) (C : Addr) (cl : List (Str × Addr)) (fp : List Addr), PE (X.blk s H scope (compEnvC scope cl C X.env) fp) kx tk)
    (he : ∀ (s : Shared) (H : Hp) (C : Addr) (cl : List (Str × Addr)) (fp : List Addr), PE (X.blk s H scope (compEnvC scope cl C X.env) fp) vx tv) (hs : ∀ x, foldedSetIterable iter X.env x = pure x := by intro _; rfl) :
    PS X (.Assign [.Name y py] (.DictComp kx vx [⟨tg, iter, ifs, 0⟩] scope pos) spos) (tAsg (tDc wi g tt tk tv (own.map (·.2))) (gName i)) := by
  refine ⟨fun pins s σ H D I h => ?_⟩
  rw [exec_Assign_Name_used _ _ _ _ hsw]
  refine wpAny_bind (wpAny_standAt (wpAny_bind ?_))
  show wpAny _ X.A (do let _ ← comprehension (.DictComp kx vx [⟨tg, iter, ifs, 0⟩] scope pos) scope X.env (firstIterPos [⟨tg, iter, ifs, 0⟩] pos) newDict false (eval iter X.env) (some (assign (.Name y py) X.env))) _ _ s
  have h : tDc wi g tt tk tv (own.map (·.2)) σ H (fun x H1 => gName i x σ H1 D.nx) := h
  refine wpAny_bind (thn (dc_core (use := some (assign (.Name y py) X.env)) (Qf := fun _ s' => SP X pins D .next s') hc hN I hi ok hg ht hk he hs h fun L C s' m H' I' q hn f => ?_) fun _ s' hq => wpAny_pure (wpAny_pure hq))
  show wpAny _ _ (assign (.Name y py) X.env (.ref L)) _ _ _
  refine wpAny_assign_Name (store_ok2 (v := V.ref L) I' hN hy (.inl hyl) rfl (fun s2 I2 ⟨a, sb, ha⟩ => ?_) (.inr hyl))
  obtain ⟨f0, f1, f2, f3, f4, f5⟩ := f
  have haC : C ≠ a := by
    rcases ha with z | z
    · rw [z]; exact f1
    · exact fun e => f4 y a z e.symm
  refine ⟨m, hn.sameBut sb haC, fun h3 sb3 => ?_⟩
  exact ⟨_, H', I2.turned (t' := s2.toks) (fun b o hb e => (sb3.2 b hb).trans e) f0 f1 f3 f4 f5, q⟩
theorem sw_trueD {kx vx : Expr} {gs : List Comprehension} {scope : Scope} {pos py : Pos} {y : Str} {l : Nat} {env : Env} (hk : env.scope.kind = .function) (hy : env.scope.names.lookup y = some .local) (hl : (py.line == pos.line) = true)
    (ha : (scope.names.any fun (n, k) => n == y && (k == .local || k == .cell)) = false) : swapsWith (.DictComp kx vx gs scope pos) (some (.Name y py)) l env = pure true := by
  have ky : env.kindOf y = some .local := hy
  have hb : env.blockKind = .function := by unfold Env.blockKind; rw [hk]; rfl
  unfold swapsWith
  simp only [hb, ky, ha, Expr.pos, hl]
  rfl
end
end Kd

-- ===== K61N =====
set_option Elab.async false
set_option linter.all false
set_option maxRecDepth 100000
set_option maxHeartbeats 4000000
namespace My
open PySem L2 PyProof.Rows PySem.Spec Kd TL
abbrev sReach : Stmt := top 7
def spReach : Sp := fun vs H Q _ => ∃ (m t : Addr) (ss : List (List Stp)) (ns : List Int), vs = [.ref m, .ref t] ∧ MovesAt H m ss ∧ KOk ss ∧ H t = some (.tup (ns.map V.int)) ∧ ns.length < 64 ∧ (∀ i ∈ ns, 0 ≤ i ∧ i < (ss.length : Int)) ∧
  ∀ (c : Addr) (fs : List Int) (H' : Hp), Same H H' → H' c = some (.tup (fs.map V.int)) → fs.Pairwise (· < ·) → (∀ i, i ∈ fs ↔ Rch ss ns i) → Q (.ref c) H'
section
variable {P : Program} {w : World} {K : PySem.W.Frag} {mg : Str → Option Value} {base : Heap}
abbrev nRe : List Str := ["moves", "starts", "found", "state", "seen", "at", "goal"]
theorem scRe : FnScope nRe ["moves", "starts"] (defScope sReach) := ⟨rfl, rfl, rfl, by decide +kernel, rfl, by decide +kernel, by decide +kernel⟩
theorem ok_reach {f : Addr} {fd : FuncData} (F : Fun K "reached_from" "reached_from" sReach f fd) (G : Gs mg) : FnOk P w K mg base CX0 1 f fd ["moves", "starts"] spReach := by
  refine F.ok scRe (fun vs H Q E h => ?_) (fun cdv A outer s H vs Q E hr h => ?_)
  · obtain ⟨m, t, ss, ns, rfl, _⟩ := h
    rfl
  · obtain ⟨m, t, ss, ns, rfl, hm, so, ht, few, inn, k⟩ := h
    have hu := hr.units
    have hu1 : (A.deeper (envOfC "reached_from" (defScope sReach) s.heap.objs.size f cdv)).units + 1 < cLine := by omega
    refine ⟨_, pss_cons (ps_set (i := 2) scRe.nd rfl (Or.inl rfl) (pe_callB (r := rSortedSet w) (cr_sortedSet rfl) (by rfl) G.sorted PyProof.Rows.boot_sorted (pa_cons (pe_callTy (r := rSetZ K w) (cr_setZ rfl) (by rfl) G.set PyProof.Rows.boot_set (pa_cons (pv 1) pa_nil)) pa_nil)))
      (pss_cons (ps_setDc (i := 4) (own := [("state", 3)]) (g := gName 3) (tt := tYes) (tk := tVar 3) (tv := tC (.bl true)) rfl scRe.nd rfl rfl (sw_trueD rfl rfl rfl (by decide +kernel)) (pi_list (pv 2)) (blkOk_by (N := nRe) (sc := defScope sReach) (by decide +kernel))
          (fun _ _ _ _ _ => pg_name (i := 3) scRe.nd rfl (Or.inl rfl)) (fun _ _ _ _ _ => pts_nil) (fun _ _ _ _ _ => pv 3) (fun _ _ _ _ _ => pe_bl))
      (pss_cons (ps_set (i := 5) scRe.nd rfl (Or.inl rfl) pe_int)
      (pss_cons (ps_while PassesOwn.never (pt_cmp (pc_lt (pv 5) (pe_callB (r := rLenQ K) call_len_seq (by rfl) G.len PySem.boot_len (pa_cons (pv 2) pa_nil))))
        (pss_cons (ps_set (i := 3) scRe.nd rfl (Or.inl rfl) (pe_ix (r := rIxL K) ix_list (pv 2) (pv 5) (fun _ _ => rfl)))
        (pss_cons (ps_lock (ps_for PassesOwn.never rfl (pi_valuesT (pe_ix (r := rIxL K) ix_list (pv 0) (pv 3) (fun _ _ => rfl))) (pg_name (i := 6) scRe.nd rfl (Or.inl rfl))
          (pss_one (ps_if (pt_cmp (pc_dnotin hu1 (pv 6) (pv 4))) (pss_cons (ps_dput hu1 (pv 4) (pv 6) pe_bl (by rfl)) (pss_one (ps_expr (pe_bm PySem.F.plainAttrs_list PySem.F.slot_list_append PySem.F.type_list_append mt_append (pv 2) (pa_cons (pv 6) pa_nil))))) pss_nil))))
        (pss_one (ps_aug (i := 5) scRe.nd rfl (Or.inl rfl) pe_int ip_add)))))
      (pss_one (ps_ret (pe_callTy call_tuple_of (by rfl) G.tuple (by decide +kernel) (pa_cons (pe_callB cr_sortedI (by rfl) G.sorted PyProof.Rows.boot_sorted (pa_cons (pv 2) pa_nil)) pa_nil))))))), ?_⟩
    refine ⟨_, rfl, t, ns, rfl, .inr (SqT.of ht), few, fun a c ha hc => ⟨a, _, c, rfl, upd_same, by omega, fun gs fo asc mem len hfo => ?_⟩⟩
    have s1 := (same_new (o := L2.SetO w a (fun j => decide (j ∈ ns)) c) ha).trans (same_new (o := .lst (gs.map V.int)) hfo)
    have f1 : (upd (upd H a (L2.SetO w a (fun j => decide (j ∈ ns)) c)) fo (.lst (gs.map V.int))) fo = some (.lst (gs.map V.int)) := upd_same
    have ffo : H fo = none := none_of (same_new (o := L2.SetO w a (fun j => decide (j ∈ ns)) c) ha) hfo
    generalize upd (upd H a (L2.SetO w a (fun j => decide (j ∈ ns)) c)) fo (.lst (gs.map V.int)) = H1 at s1 f1 ⊢
    have gnd : gs.Nodup := asc.imp fun h => by omega
    have F0 : Fnd ss ns gs 0 := ⟨gnd, fun i mi => inn i (of_decide_eq_true ((mem i).mp mi)), fun i mi => (mem i).mpr (decide_eq_true mi), fun i mi => .base (of_decide_eq_true ((mem i).mp mi)), Nat.zero_le _, fun j i st x lt => absurd lt (Nat.not_lt_zero _)⟩
    have g64 : gs.length ≤ 64 := by have := F0.most; have := so.most; omega
    -- seen
    refine ⟨_, rfl, fo, rfl, ⟨_, SqL.of f1⟩, fun se hse => ⟨fun i m H2 => m = gs.length - i ∧ i ≤ gs.length ∧ Same H1 H2 ∧ H2 se = some (.dK (seenD (gs.take i))), ⟨_, rfl, Nat.zero_le _, same_new hse, by simpa [seenD] using upd_same⟩, fun i m H2 ⟨em, le, s2, d2⟩ => ?_⟩⟩
    subst em
    have f2 := s2 _ _ f1
    rcases Nat.lt_or_ge i gs.length with lt | ge
    · have ex : (gs.map V.int)[i]? = some (V.int gs[i]) := by rw [List.getElem?_map, List.getElem?_eq_getElem lt]; rfl
      refine .inr ⟨⟨_, _, SqL.of f2, ex⟩, fun H3 => Same H1 H3 ∧ H3 se = some (.dK (seenD (gs.take (i + 1)))), fun H3 ⟨s3, d3⟩ => ⟨_, by omega, rfl, lt, s3, d3⟩, fun v H3 yl => ?_⟩
      obtain ⟨eH, yv⟩ := yl
      subst eH
      have e0 := yv _ (SqL.of f2)
      rw [ex] at e0
      cases e0
      have nin : gs[i] ∉ gs.take i := fun mi => by
        obtain ⟨j, hj, e3⟩ := List.mem_take_iff_getElem.mp mi
        have := (List.getElem_inj gnd).mp e3
        omega
      refine ⟨rfl, _, rfl, seenD (gs.take i), Sum.inl gs[i], rfl, d2, ?_, same_at s2 hse, ?_⟩
      · unfold seenD
        rw [List.length_map, List.length_take]
        exact small_lt (m := 64) (by omega)
      · rw [upd_same, seen_put nin, List.take_succ, List.getElem?_eq_getElem lt]
        rfl
    · have e : i = gs.length := by omega
      subst e
      rw [List.take_length] at d2
      refine .inl ⟨⟨_, SqL.of f2, by rw [List.length_map]; exact Nat.le_refl _⟩, ?_⟩
      have s02 := s1.trans s2
      have fse : H se = none := none_of s1 hse
      have d2' : H2 se = some (.dK (seenD gs)) := d2
      -- the loop
      refine ⟨fun μ σ Hw => ∃ (at_ : Nat) (fs : List Int) (o3 o6 : Option V), μ = ss.length - at_ ∧ σ = [some (.ref m), some (.ref t), some (.ref fo), o3, some (.ref se), some (.int (at_ : Int)), o6] ∧ Same H Hw ∧ Hw fo = some (.lst (fs.map V.int)) ∧ Hw se = some (.dK (seenD fs)) ∧ Fnd ss ns fs at_,
        ⟨_, 0, gs, none, none, rfl, rfl, s02, f2, d2', F0⟩, fun μ σ Hw ⟨at_, fs, o3, o6, eμ, eσ, sw, fw, dw, F⟩ => ?_⟩
      subst eμ
      subst eσ
      have fm := F.most
      have smost := so.most
      refine ⟨_, rfl, _, rfl, fo, _, rfl, .inl (SqL.of fw), _, _, rfl, rfl, _, rfl, ?_⟩
      rw [List.length_map]
      dsimp only
      by_cases lt : at_ < fs.length
      · rw [decide_eq_true (show (at_ : Int) < (fs.length : Int) by omega)]
        refine iteT ⟨fun σ' H' => ∃ (fs' : List Int) (o3 o6 : Option V), σ' = [some (.ref m), some (.ref t), some (.ref fo), o3, some (.ref se), some (.int ((at_ + 1 : Nat) : Int)), o6] ∧ Same H H' ∧ H' fo = some (.lst (fs'.map V.int)) ∧ H' se = some (.dK (seenD fs')) ∧ Fnd ss ns fs' (at_ + 1), fun σ' H' ⟨fs', p3, p6, e, r1, r2, r3, r4⟩ => ⟨_, by omega, at_ + 1, fs', p3, p6, rfl, e, r1, r2, r3, r4⟩, ?_⟩
        obtain ⟨n0, n1⟩ := F.inn _ (List.getElem_mem lt)
        obtain ⟨n, en⟩ := Int.eq_ofNat_of_zero_le n0
        have ei : fs[at_]? = some (n : Int) := by rw [List.getElem?_eq_getElem lt, en]
        have ln : n < ss.length := by omega
        have eat : atI (fs.map V.int) (at_ : Int) = some (.int (n : Int)) := atI_nat (by rw [List.getElem?_map, ei]; rfl)
        refine ⟨_, rfl, _, rfl, fo, _, _, _, rfl, rfl, SqL.of fw, eat, ?_⟩
        obtain ⟨bs, hm1, hm2, hm3⟩ := hm.same sw
        obtain ⟨st, es⟩ : ∃ st, ss[n]? = some st := ⟨ss[n], List.getElem?_eq_getElem ln⟩
        obtain ⟨d, ed⟩ : ∃ d, bs[n]? = some d := ⟨bs[n]'(by omega), List.getElem?_eq_getElem _⟩
        have hd := hm3 n d st ed es
        have sto := so.all st (List.mem_of_getElem? es)
        refine ⟨d, _, hd, trivial, fun od => ?_⟩
        have md : m ≠ d := fun z => by rw [z, hd] at hm1; cases hm1
        have fd_ : fo ≠ d := fun z => by rw [z, hd] at fw; cases fw
        have sd : se ≠ d := fun z => by rw [z, hd] at dw; cases dw
        have fs_ : fo ≠ se := fun z => by rw [z, dw] at fw; cases fw
        have eatd : atI (bs.map V.ref) (n : Int) = some (.ref d) := atI_nat (by rw [List.getElem?_map, ed]; rfl)
        refine ⟨_, rfl, _, rfl, m, _, _, _, rfl, rfl, SqL.of (by rw [upd_ne md]; exact hm1), eatd, d, od, _, rfl, upd_same, for_it walk_valsT (fun j σ H4 => ∃ (fs' : List Int) (o6 : Option V), σ = [some (.ref m), some (.ref t), some (.ref fo), some (.int (n : Int)), some (.ref se), some (.int (at_ : Int)), o6] ∧ H4 d = some (.frz od (.dT (st.map mvOf))) ∧ (∀ x o, H x = some o → x ≠ d → H4 x = some o) ∧ H4 fo = some (.lst (fs'.map V.int)) ∧ H4 se = some (.dK (seenD fs')) ∧ Mid ss ns fs' at_ (st.take j) ∧ fs'[at_]? = some (n : Int)) ?_ (fun j σ H4 _ ⟨_, _, _, h, _⟩ => h) ?_ ?_⟩
        · refine ⟨fs, o6, rfl, upd_same, fun x o e ne => ?_, by rw [upd_ne fd_]; exact fw, by rw [upd_ne sd]; exact dw, F.mid lt, ei⟩
          rw [upd_ne ne]
          exact sw _ _ e
        · rintro j v σ H4 H5 lj ⟨fs', p6, rfl, h4, b4, f4, d4, M, ei'⟩ ⟨rfl, kk, ekv⟩
          rw [List.getElem?_map] at ekv
          obtain ⟨x, ex, e2⟩ := Option.map_eq_some_iff.mp ekv
          have ev : v = V.int x.2.2 := (congrArg Prod.snd e2).symm
          subst ev
          have mx := List.mem_of_getElem? ex
          have xo := sto.all x mx
          have tk : st.take (j + 1) = st.take j ++ [x] := by rw [List.take_succ, ex]; rfl
          have fm' : fs'.length ≤ ss.length := ints_most M.nd M.inn
          refine ⟨_, rfl, _, rfl, se, _, rfl, .inl ⟨seenD fs', Sum.inl x.2.2, .inl d4, rfl, rfl⟩, _, rfl, ?_⟩
          rw [seen_in]
          by_cases mem2 : x.2.2 ∈ fs'
          · rw [decide_eq_true mem2]
            refine iteF ⟨fs', _, rfl, h4, b4, f4, d4, ?_, ei'⟩
            rw [tk]
            exact M.skip mem2
          · rw [decide_eq_false mem2]
            refine iteT ?_
            refine ⟨_, rfl, _, rfl, se, _, rfl, .inl ⟨seenD fs', Sum.inl x.2.2, d4, rfl, ?_, rfl⟩, ?_⟩
            · unfold seenD
              rw [List.length_map]
              exact small_lt (m := 40) (by omega)
            have f6 : (upd H5 se (.dK (putK (seenD fs') (Sum.inl x.2.2) (.bl true)))) fo = some (.lst (fs'.map V.int)) := by
              rw [upd_ne fs_]
              exact f4
            refine ⟨_, rfl, .inl ⟨rfl, _, SqL.of f6⟩, _, rfl, fo, _, _, rfl, rfl, f6, small_lt (m := 40) (by rw [List.length_map]; omega), ?_⟩
            refine ⟨fs' ++ [x.2.2], _, rfl, ?_, fun y o e ne => ?_, ?_, ?_, ?_, ?_⟩
            · rw [upd_ne (Ne.symm fd_), upd_ne (Ne.symm sd)]
              exact h4
            · have n1 : y ≠ fo := fun z => by rw [z, ffo] at e; cases e
              have n2 : y ≠ se := fun z => by rw [z, fse] at e; cases e
              rw [upd_ne n1, upd_ne n2]
              exact b4 y o e ne
            · rw [upd_same, List.map_append]
              rfl
            · rw [upd_ne (Ne.symm fs_), upd_same, seen_put mem2]
            · rw [tk]
              exact M.put mem2 ei' es mx xo
            · have l2 := M.lt
              rw [List.getElem?_append_left l2]
              exact ei'
        · rintro σ H4 ⟨fs', p6, rfl, h4, b4, f4, d4, M, ei'⟩
          rw [List.length_map, List.take_length] at M
          refine ⟨h4, _, rfl, _, _, rfl, rfl, fs', some (.int (n : Int)), p6, rfl, fun y o e => ?_, ?_, ?_, M.fnd ei' es⟩
          · by_cases yd : y = d
            · have z := sw _ _ e
              rw [yd, hd] at z
              rw [yd, upd_same]
              exact z
            · rw [upd_ne yd]
              exact b4 y o e yd
          · rw [upd_ne fd_]
            exact f4
          · rw [upd_ne sd]
            exact d4
      · rw [decide_eq_false (show ¬ ((at_ : Int) < (fs.length : Int)) by omega)]
        have ea : at_ = fs.length := by have := F.le; omega
        subst ea
        refine iteF ⟨_, rfl, fo, fs, rfl, SqL.of fw, fun gs' p perm asc2 hp => ⟨p, _, rfl, .inl ⟨SqL.of upd_same, fun q hq => ?_⟩⟩⟩
        refine k q gs' _ (sw.trans ((same_new hp).trans (same_new hq))) upd_same (asc_of asc2 (perm.nodup_iff.mpr F.nd)) fun i => ?_
        rw [perm.mem_iff]
        exact F.all i
end
end My

-- ===== K61U =====
set_option Elab.async false
set_option linter.all false
set_option maxRecDepth 100000
set_option maxHeartbeats 4000000
namespace My
open PySem L2 PyProof.Rows PySem.Spec Kd TL StX ClX
abbrev sKreached : Stmt := inClass sKind 11
def spRchd (C : Addr) : Sp := fun vs H Q _ => ∃ (v : V) (p : Addr) (ss : List (List Stp)) (ns : List Int), vs = [v, .ref p] ∧ KindAt C H v ss ∧ KOk ss ∧ H p = some (.tup (ns.map V.int)) ∧ ns.length < 64 ∧ (∀ i ∈ ns, 0 ≤ i ∧ i < (ss.length : Int)) ∧
  ∀ (c : Addr) (fs : List Int) (H' : Hp), Same H H' → H' c = some (.tup (fs.map V.int)) → fs.Pairwise (· < ·) → (∀ i, i ∈ fs ↔ Rch ss ns i) → Q (.ref c) H'
def spRchdR (C : Addr) : Sp := fun vs H Q E => ∃ ws rest, vs = ws ++ rest ∧ ws.length = ["self"].length ∧ rest.length ≤ sizeLine ∧ ∀ p, H p = Option.none → spRchd C (ws ++ [V.ref p]) (upd H p (.tup rest)) Q E
section
variable {P : Program} {w : World} {K : PySem.W.Frag} {mg : Str → Option Value} {base : Heap} {C : Addr}
theorem scRd : FnScope ["self", "states"] ["self", "states"] (defScope sKreached) := ⟨rfl, rfl, rfl, by decide +kernel, rfl, by decide +kernel, by decide +kernel⟩
theorem ok_reached {f fR : Addr} {fd fdR : FuncData} (F : Fun K "reached" "Kind.reached" sKreached f fd) (cl : Cls K C) (n2 : NoAttr K C "moves")
    (GR : FnOk P w K mg base CX0 1 fR fdR ["moves", "starts"] spReach) (mR : mg "reached_from" = some (.ref fR)) (kR : PySem.W.keepIn K (.ref fR) = true) (bR : Binds K fdR ["moves", "starts"] []) :
    FnR P w K mg base CX0 2 f (spRchdR C) := by
  obtain ⟨oc, od, kV, doc, pm, an, cdv, ct, osl, rfl, lk, hcd⟩ := F.ex
  refine fn_star (ps := ["self"]) (pv := "states") (sp := spRchd C) lk hcd scRd cxUp_none (bind_star1 (B := fun l => bindArgs (PySem.W.fnOf "reached" "Kind.reached" (defArgs sKreached) (defBody sKreached) (defScope sKreached) .none kV doc pm an cdv ct) ⟨l, []⟩) (p1 := "self") (pv := "states") (fun a => rfl) (fun a r rs => rfl)) fun A outer s H vs Q E hr h => ?_
  obtain ⟨v, p, ss, ns, rfl, hk, so, hp, few, inn, k⟩ := h
  refine ⟨_, PSs.nox (pss_one (ps_ret (pe_call GR hr (by rfl) mR kR bR .nil pass0 (pa_cons (pe_fld (pv 0) rfl) (pa_cons (pv 1) pa_nil))))), ?_⟩
  obtain ⟨o, dx, a, m, rfl, ho, ht, hm⟩ := hk
  exact ⟨_, rfl, o, C, dx, _, _, rfl, ho, cl, n2, rfl, _, rfl, m, p, ss, ns, rfl, hm, so, hp, few, inn, k⟩
end
end My

-- ===== KC2 =====
set_option Elab.async false
set_option linter.all false
set_option maxRecDepth 100000
set_option maxHeartbeats 4000000
/-! A def in a def that has cells of its own (a parameter that a comprehension captures). -/
namespace Kd
open PySem PySem.Spec PyProof.Rows L2 LamX NdefX
theorem cells_app : ∀ (names : List (Str × NameKind)) (n : Nat) (acc : List (Str × Addr)), cellsFrom n names acc = cellsFrom n names [] ++ acc
  | [], _, _ => rfl
  | (y, k) :: r, n, acc => by
    unfold cellsFrom
    by_cases h : (k == .cell) = true
    · rw [if_pos h, if_pos h, cells_app r (n + 1) ((y, n) :: acc), cells_app r (n + 1) [(y, n)], List.append_assoc]
      rfl
    · rw [if_neg h, if_neg h, cells_app r n acc]
theorem cells_not {x : Str} : ∀ (names : List (Str × NameKind)) (n : Nat), (∀ k, (x, k) ∈ names → k ≠ .cell) → (cellsFrom n names []).lookup x = none
  | [], _, _ => rfl
  | (y, k) :: r, n, h => by
    have ih := fun m => cells_not r m fun k' hk' => h k' (List.mem_cons_of_mem _ hk')
    unfold cellsFrom
    by_cases hk : (k == .cell) = true
    · rw [if_pos hk, cells_app, List.lookup_append, ih]
      have ne : ¬ x = y := fun e => h k (by rw [e]; exact List.mem_cons_self) (eq_of_beq hk)
      show (List.lookup x [(y, n)]) = none
      rw [List.lookup_cons, show (x == y) = false from beq_eq_false_iff_ne.mpr ne]
      rfl
    · rw [if_neg hk]
      exact ih n
theorem store_cells {env : Env} {cs : List (Str × Addr)} {n : Str} {v : Value} (h : env.kindOf n = some .local ∨ env.cells.lookup n = cs.lookup n) : storeName { env with cells := cs } n v = storeName env n v := by
  have e : env.kindOf n = some .local ∨ PySem.cellOf { env with cells := cs } n = PySem.cellOf env n := h.imp id fun z => by
    unfold PySem.cellOf
    rw [z]
  have k : ({ env with cells := cs } : Env).kindOf n = env.kindOf n := rfl
  have b : ({ env with cells := cs } : Env).blockKind = env.blockKind := rfl
  unfold storeName
  rw [k, b]
  rcases e with e | e
  · rw [e]
    rfl
  · rw [e]
    rfl
theorem for_same {f g : Str × Value → PUnit.{1} → Sem (ForInStep PUnit.{1})} : ∀ {bs : List (Str × Value)}, (∀ x ∈ bs, ∀ u, f x u = g x u) → ∀ u, forIn bs u f = forIn bs u g
  | [], _, _ => rfl
  | x :: r, h, u => by
    rw [List.forIn_cons, List.forIn_cons, h x List.mem_cons_self u]
    congr 1
    funext t
    cases t with
    | done b => rfl
    | yield b => exact for_same (fun y m => h y (List.mem_cons_of_mem _ m)) b
section
variable {M : Model} {A : Around} {E : Value → Shared → Prop} {s : Shared}
/-- the frame of a function with captured cells and cells of its own -/
theorem frame_cc {sc : Scope} {gl bi : Addr} {clo : List (Str × Addr)} {bs : List (Str × Value)} {q : Str} {fn : Option Addr} {cd : Value} {Q : Env → Shared → Prop} (hk : sc.kind = .function)
    (par : ∀ x ∈ bs, sc.names.lookup x.1 = some .local ∨ sc.names.lookup x.1 = some .cell)
    (h : ∀ t, InCallC s s.heap.objs.size (bindL (fun y => sc.names.lookup y) bs fun _ => none) (cellsFrom (s.heap.objs.size + 1) sc.names []) (bindC (fun y => sc.names.lookup y) bs fun _ => none) t → Q (newEnv sc s.heap.objs.size gl (cellsFrom (s.heap.objs.size + 1) sc.names clo) q fn cd none bi) t) :
    wpAny M A (newFunctionEnv sc gl clo bs q fn cd none bi) Q E s := by
  simp only [newFunctionEnv, Option.isSome_none, Bool.false_eq_true, if_false]
  refine wpAny_bind (wpAny_alloc (wpAny_bind (wpAny_layCells _ (fun name kind cells => by cases z : kind == NameKind.cell <;> simp [z]) _ _ _ _ ?_)))
  have sz : (s.heap.push { cls := .type "frame", data := .dict #[] }).objs.size = s.heap.objs.size + 1 := Heap.size_push ..
  have own := cellsFrom_ok sc.names (s.heap.push { cls := .type "frame", data := .dict #[] }) (s.heap.objs.size + 1) [] ⟨fun _ _ z => (nomatch z), List.Pairwise.nil⟩ (by rw [sz]; exact Nat.le_refl _)
  rw [sz] at own
  show wpAny M A _ Q E { s with heap := pushCells (s.heap.push { cls := .type "frame", data := .dict #[] }) sc.names }
  have hs0 : ({ s with heap := s.heap.push { cls := .type "frame", data := .dict #[] } } : Shared).heap.objs.size = s.heap.objs.size + 1 := sz
  rw [hs0]
  refine wpAny_bind ?_
  have same : ∀ x ∈ bs, ∀ u : PUnit.{1}, (do storeName (newEnv sc s.heap.objs.size gl (cellsFrom (s.heap.objs.size + 1) sc.names clo) q fn cd none bi) x.1 x.2; pure (ForInStep.yield PUnit.unit) : Sem (ForInStep PUnit.{1})) = (do storeName (newEnv sc s.heap.objs.size gl (cellsFrom (s.heap.objs.size + 1) sc.names []) q fn cd none bi) x.1 x.2; pure (ForInStep.yield PUnit.unit)) := fun x hx u => by
    have z := store_cells (env := newEnv sc s.heap.objs.size gl (cellsFrom (s.heap.objs.size + 1) sc.names clo) q fn cd none bi) (cs := cellsFrom (s.heap.objs.size + 1) sc.names []) (n := x.1) (v := x.2) ((par x hx).imp id fun k => by
      have t : ((cellsFrom (s.heap.objs.size + 1) sc.names []).lookup x.1).isSome = true := PySem.W.cellsFrom_some _ _ _ (.inl k)
      obtain ⟨c, hc⟩ := Option.isSome_iff_exists.mp t
      show (cellsFrom (s.heap.objs.size + 1) sc.names clo).lookup x.1 = _
      rw [cells_app, List.lookup_append, hc]
      rfl)
    rw [← z]
    rfl
  have loop := for_same (f := fun x _ => (do storeName (newEnv sc s.heap.objs.size gl (cellsFrom (s.heap.objs.size + 1) sc.names clo) q fn cd none bi) x.1 x.2; pure (ForInStep.yield PUnit.unit) : Sem (ForInStep PUnit.{1}))) same PUnit.unit
  refine Eq.mpr (congrArg (fun m => wpAny M A m (fun _ t => wpAny M A (pure (newEnv sc s.heap.objs.size gl (cellsFrom (s.heap.objs.size + 1) sc.names clo) q fn cd none bi)) Q E t) E { s with heap := pushCells (s.heap.push { cls := .type "frame", data := .dict #[] }) sc.names }) loop) ?_
  refine wpAny_bindParams (s₀ := s) (env := newEnv sc s.heap.objs.size gl (cellsFrom (s.heap.objs.size + 1) sc.names []) q fn cd none bi) _ (fun _ _ _ => rfl) hk bs (fun _ => none) (fun _ => none) _ _
    ⟨⟨⟨_, _, rfl⟩, (Heap.Ns.new s.heap (.type "frame")).keeps (pushCells_keeps _ _), fun c o z => pushCells_keeps _ _ c o (Heap.get?_push_of_some _ z), Nat.le_refl _⟩, fun y c z => (own.empty y c (PySem.mem_of_lookup z)).1, own.apart, fun y c z => (own.empty y c z).2⟩
    (fun x hx => (par x hx).imp id fun k => ⟨k, PySem.W.cellsFrom_some _ _ _ (.inl k)⟩) fun t x => wpAny_pure (h t x)
end
/-! ### its names, its context -/
/-- as NScope, but parameters may be cells -/
structure NSc (N ps fr : List Str) (sc : Scope) : Prop where
  kind : sc.kind = .function
  co : sc.isCoroutine = false
  gen : sc.isGenerator = false
  nd : N.Nodup
  pre : N.take (ps.length + fr.length) = ps ++ fr
  par : ∀ x ∈ ps, sc.names.lookup x = some .local ∨ sc.names.lookup x = some .cell
  one : (sc.names.map Prod.fst).Nodup
  free : ∀ y ∈ sc.names, y.2 = .free → y.1 ∈ fr
  frk : ∀ x ∈ fr, sc.names.lookup x = some .free
def nscC (N ps fr : List Str) (sc : Scope) : Bool :=
  decide (sc.kind = .function) && (!sc.isCoroutine && (!sc.isGenerator && (decide N.Nodup && (decide (N.take (ps.length + fr.length) = ps ++ fr) && (ps.all (fun x => decide (sc.names.lookup x = some .local ∨ sc.names.lookup x = some .cell)) && (decide (sc.names.map Prod.fst).Nodup && (sc.names.all (fun y => decide (y.2 = .free → y.1 ∈ fr)) && fr.all (fun x => decide (sc.names.lookup x = some .free)))))))))
theorem nsc_by {N ps fr : List Str} {sc : Scope} (h : nscC N ps fr sc = true) : NSc N ps fr sc := by
  unfold nscC at h
  simp only [Bool.and_eq_true, Bool.not_eq_true', decide_eq_true_eq, List.all_eq_true] at h
  obtain ⟨h1, h2, h3, h4, h5, h6, h7, h8, h9⟩ := h
  exact ⟨h1, h2, h3, h4, h5, h6, h7, fun y hy e => h8 y hy e, h9⟩
abbrev envC (F : NF) (f L : Addr) : Env := PySem.W.envX F.qual F.scope L f (.ref F.c) (cellsFrom (L + 1) F.scope.names F.cl)
def ccx (CX : CXT) (P : Program) (w : World) (K : PySem.W.Frag) (mg : Str → Option Value) (base : Heap) (N : List Str) (F : NF) (f : Addr) (A : Around) (outer : List Env) (s : Shared) (H : Hp) (E : XK) : Cx :=
  { ncx CX P w K mg base N F f A outer s H E with
    A := A.deeper (envC F f s.heap.objs.size), env := envC F f s.heap.objs.size, stack := envC F f s.heap.objs.size :: outer,
    xe := fun e t => wpAny (model P w) (A.deeper (envC F f s.heap.objs.size)) (leaving (envC F f s.heap.objs.size) e) (fun _ t' => CX outer H s E e t') (fun e' t' => CX outer H s E e' t') t }
theorem names_one : ∀ {names : List (Str × NameKind)} {x : Str} {k k' : NameKind}, (names.map Prod.fst).Nodup → names.lookup x = some k → (x, k') ∈ names → k' = k
  | (y, j) :: r, x, k, k', nd, e, m => by
    obtain ⟨n1, n2⟩ := List.nodup_cons.mp nd
    rw [List.lookup_cons] at e
    by_cases h : x = y
    · subst h
      rw [show (x == x) = true from beq_self_eq_true x] at e
      cases e
      rcases List.mem_cons.mp m with z | z
      · exact (Prod.mk.inj z).2
      · exact absurd (List.mem_map.mpr ⟨_, z, rfl⟩) n1
    · rw [show (x == y) = false from beq_eq_false_iff_ne.mpr h] at e
      rcases List.mem_cons.mp m with z | z
      · exact absurd (Prod.mk.inj z).1 h
      · exact names_one n2 e z
section
variable {CX : CXT} {P : Program} {w : World} {K : PySem.W.Frag} {mg : Str → Option Value} {base : Heap} {N ps fr : List Str} {F : NF} {f : Addr} {A : Around} {outer : List Env} {s : Shared} {H : Hp} {E : XK} {us : List Value} {vs : List V} {ws : List (Option V)}
theorem inv_cc {t : Shared} (S : NSc N ps fr F.scope) (hd : A.handled = none) (e0 : Env0 P w K mg base A outer s H) (hl : vs.length = ps.length) (r : Vals vs us) (C : CellsAt F.cl fr ws s.heap H)
    (x : InCallC s s.heap.objs.size (bindL (fun y => F.scope.names.lookup y) (ps.zip us) fun _ => none) (cellsFrom (s.heap.objs.size + 1) F.scope.names []) (bindC (fun y => F.scope.names.lookup y) (ps.zip us) fun _ => none) t) :
    Inv (ccx CX P w K mg base N F f A outer s H E) [] (startF N vs ws) H t := by
  have room : ps.length + fr.length ≤ N.length := by
    have z := congrArg List.length S.pre
    rw [List.length_take, List.length_append] at z
    omega
  obtain ⟨h₁, tk, rfl, kp⟩ := x.done
  have none_ex : ∀ b : Addr, b ∉ (ccx CX P w K mg base N F f A outer s H E).ex := fun b z => absurd (show b ∈ ([] : List Addr) from z) (by simp)
  have cellK : ∀ {c : Addr} {v : Option Value}, s.heap.IsCell c v → h₁.IsCell c v := fun {c v} ⟨o, ho, hd⟩ => ⟨o, kp _ _ ho, hd⟩
  -- a cell of its own, or a captured one
  have two : ∀ {y : Str} {c : Addr}, (cellsFrom (s.heap.objs.size + 1) F.scope.names F.cl).lookup y = some c → (cellsFrom (s.heap.objs.size + 1) F.scope.names []).lookup y = some c ∨ ((cellsFrom (s.heap.objs.size + 1) F.scope.names []).lookup y = none ∧ F.cl.lookup y = some c) := fun {y c} e => by
    rw [cells_app, List.lookup_append] at e
    cases z : (cellsFrom (s.heap.objs.size + 1) F.scope.names []).lookup y with
    | some d => rw [z] at e; exact .inl e
    | none => rw [z] at e; exact .inr ⟨rfl, e⟩
  have old : ∀ {y : Str} {c : Addr}, F.cl.lookup y = some c → c < s.heap.objs.size := fun {y c} e => by
    obtain ⟨v, o, ho, _⟩ := (C.all y c e).2
    exact Heap.lt_size ho
  have new : ∀ {y : Str} {c : Addr}, (cellsFrom (s.heap.objs.size + 1) F.scope.names []).lookup y = some c → s.heap.objs.size < c := fun {y c} e => x.above y c (PySem.mem_of_lookup e)
  have mine : ∀ {y : Str}, F.scope.names.lookup y = some .cell → ∃ c, (cellsFrom (s.heap.objs.size + 1) F.scope.names []).lookup y = some c ∧ (cellsFrom (s.heap.objs.size + 1) F.scope.names F.cl).lookup y = some c := fun {y} e => by
    obtain ⟨c, hc⟩ := cell_has (n := s.heap.objs.size + 1) e
    exact ⟨c, hc, by rw [cells_app, List.lookup_append, hc]; rfl⟩
  have theirs : ∀ {y : Str} {c : Addr}, F.scope.names.lookup y = some .free → F.cl.lookup y = some c → (cellsFrom (s.heap.objs.size + 1) F.scope.names F.cl).lookup y = some c := fun {y c} e h => by
    rw [cells_app, List.lookup_append, cells_not F.scope.names _ fun k m z => by
      have q := names_one S.one e m
      rw [z] at q
      cases q]
    exact h
  refine ⟨⟨e0.mod, S.kind, rfl, rfl, Nat.le_refl _, fun y z c h1 h2 => ?_, fun y hy => ?_, fun y c z _ => ?_, fun _ => hd, Around.frames_deeper e0.frames, .inr ⟨rfl, rfl⟩, fun b z => absurd z (none_ex b), e0.bs, e0.bsz, fun b _ _ => none_ex b,
      fun b z => absurd z (none_ex b), e0.funs, e0.frf⟩,
    rfl, e0.bare, Un.kept kp, ⟨_, x.toInCall.ns, fun i y v e1 e2 e3 => ?_⟩, fun y c e => ?_, e0.hok.fresh (Nat.le_refl _), fun y c e => ?_, fun q hq => absurd (show q ∈ ([] : List (Addr × Obj)) ++ [] from hq) (by simp), e0.hok.kept kp, ?_⟩
  · rcases two h1 with a1 | ⟨_, a1⟩ <;> rcases two h2 with a2 | ⟨_, a2⟩
    · exact name_of_addr x.apart (PySem.mem_of_lookup a1) (PySem.mem_of_lookup a2)
    · exact absurd (old a2) (Nat.not_lt.mpr (Nat.le_of_lt (new a1)))
    · exact absurd (old a1) (Nat.not_lt.mpr (Nat.le_of_lt (new a2)))
    · exact C.inj _ _ _ a1 a2
  · have hy : F.scope.names.lookup y = some .cell ∨ F.scope.names.lookup y = some .free := hy
    rcases hy with hy | hy
    · obtain ⟨c, _, hc⟩ := mine hy
      exact ⟨c, hc⟩
    · obtain ⟨i, hi⟩ := List.mem_iff_getElem?.mp (S.free _ (PySem.mem_of_lookup hy) rfl)
      obtain ⟨c, hc, _⟩ := C.has i y hi
      exact ⟨c, theirs hy hc⟩
  · have z : false = true := z
    cases z
  · have e1 : N[i]? = some y := e1
    have clen := C.len
    unfold startF at e2
    by_cases h1 : i < ps.length
    · have hq : (ps ++ fr)[i]? = some y := by
        rw [← S.pre, List.getElem?_take_of_lt (by omega)]
        exact e1
      rw [List.getElem?_append_left h1] at hq
      rw [List.getElem?_append_left (by rw [List.length_map]; omega), List.getElem?_map] at e2
      have ha : vs[i]? = some v := by
        cases e : vs[i]? with
        | none => rw [e] at e2; cases e2
        | some a => rw [e] at e2; cases e2; rfl
      obtain ⟨u, hu, rv⟩ := r.get ha
      have ndP : ps.Nodup := by
        have z := S.nd.sublist (List.take_sublist (ps.length + fr.length) N)
        rw [S.pre] at z
        exact (List.nodup_append.mp z).1
      rcases S.par y (List.mem_of_getElem? hq) with k | k
      · exact ⟨u, rv, .inl ⟨k, bindL_get ndP hq hu k⟩⟩
      · obtain ⟨c, own, hc⟩ := mine k
        refine ⟨u, rv, .inr ⟨.inl k, c, hc, ?_⟩⟩
        have q := x.cell y c own
        rw [bindC_get ndP hq hu (by show F.scope.names.lookup y ≠ _; rw [k]; decide)] at q
        exact q
    · rw [List.getElem?_append_right (by rw [List.length_map]; omega), List.length_map] at e2
      by_cases h2 : i < ps.length + fr.length
      · have hq : (ps ++ fr)[i]? = some y := by
          rw [← S.pre, List.getElem?_take_of_lt (by omega)]
          exact e1
        rw [List.getElem?_append_right (by omega)] at hq
        rw [List.getElem?_append_left (by omega), hl] at e2
        obtain ⟨c, hc, hv⟩ := C.has (i - ps.length) y hq
        obtain ⟨u, ru, hu⟩ := hv v e2
        have k := S.frk y (List.mem_of_getElem? hq)
        exact ⟨u, ru, .inr ⟨.inr k, c, theirs k hc, cellK hu⟩⟩
      · rw [List.getElem?_append_right (by omega), List.getElem?_replicate] at e2
        split at e2 <;> cases e2
  · rcases two e with a | ⟨_, a⟩
    · exact ⟨_, x.cell y c a⟩
    · obtain ⟨v, z⟩ := (C.all y c a).2
      exact ⟨v, cellK z⟩
  · rcases two e with a | ⟨_, a⟩
    · exact e0.hok.fresh (Nat.le_of_lt (new a))
    · exact (C.all y c a).1
  · have clen := C.len
    unfold startF
    show _ = N.length
    rw [List.length_append, List.length_append, List.length_map, List.length_replicate]
    omega
end
section
variable {CX : CXT} {P : Program} {w : World} {K : PySem.W.Frag} {mg : Str → Option Value} {base : Heap} {N ps fr : List Str} {F : NF} {f : Addr} {k : Nat} {sp : List (Option V) → Sp}
/-- a def in a def by its body, where parameters may be cells -/
theorem nokc_of (S : NSc N ps fr F.scope) (hb : ∀ (doc pm ctv : Value) (us : List Value), us.length = ps.length → bindArgs (F.fd doc pm ctv) ⟨us, []⟩ = pure (ps.zip us)) (len : ∀ ws vs H Q E, sp ws vs H Q E → vs.length = ps.length)
    (body : ∀ (A : Around) (outer : List Env) (s : Shared) (H : Hp) (vs : List V) (ws : List (Option V)) (Q : VK) (E : XK), Room k (A.deeper (envC F f s.heap.objs.size)) → H f = some (FnO f F) → H F.c = some (CodeO F.c F.qual) → ws.length = fr.length → sp ws vs H Q E →
      ∃ t, PSs (ccx CX P w K mg base N F f A outer s H E) F.body t ∧ t { nx := fun _ H' => Q .non H', rt := Q } (startF N vs ws) H) :
    NOk P w K mg base CX (k + 1) f F ps fr sp := by
  refine ⟨len, fun A outer s H us vs ws Q E hr e0 hf hc C r hsp => ?_⟩
  have hl := len _ _ _ _ _ hsp
  have lim : s.heap.NoLimit := e0.mod.nolimit.keeps fun b o e => (e0.bs b o e).1
  obtain ⟨od, sl, doc, pm, ctv, ho⟩ := fnO_at e0.hok hf
  refine codeAny_call_function hr.depth ho rfl S.co S.gen rfl (codeO_at e0.hok hc) ?_
  rw [hb doc pm ctv us (by rw [← r.length]; exact hl)]
  refine wpAny_pure (frame_cc S.kind (fun ⟨n, _⟩ hy => S.par n (List.of_mem_zip hy).1) fun t x => ⟨lim.keeps x.toInCall.keep, ?_⟩)
  show codeAny _ _ (.func F.body (envC F f s.heap.objs.size)) _ _
  refine codeAny_func ?_
  obtain ⟨t', ht, hq⟩ := body A outer s H vs ws Q E (hr.deeper _) hf hc C.len hsp
  have I := inv_cc (CX := CX) (f := f) (E := E) S hr.hd e0 hl r C x
  refine wpAny_mono (ht.run [] _ (startF N vs ws) H _ I hq) (fun fl s' hs => ?_) fun e s' hs => hs
  have fin : ∀ {σ' : L2.St} {H' : Hp} {v : V} {u : Value}, Inv (ccx CX P w K mg base N F f A outer s H E) [] σ' H' s' → L2.RelV v u → Q v H' → CE outer P w H s Q u s' :=
    fun {σ' H' v u} J rv q => ⟨v, H', J.os, J.bare, J.base, J.hok, rv, q⟩
  cases fl with
  | ret u =>
    obtain ⟨v, σ', H', J, rv, q⟩ := hs
    exact fin J rv q
  | next =>
    obtain ⟨σ', H', J, q⟩ := hs
    exact fin (v := V.non) (u := Value.none) J rfl q
  | brk =>
    obtain ⟨_, _, _, q⟩ := hs
    exact False.elim q
  | cont =>
    obtain ⟨_, _, _, q⟩ := hs
    exact False.elim q
end
end Kd

-- ===== K61S =====
set_option Elab.async false
set_option linter.all false
set_option maxRecDepth 100000
set_option maxHeartbeats 4000000
namespace My
open PySem L2 PyProof.Rows PySem.Spec Kd TL StX ClX
abbrev sGoal : Stmt := top 31
abbrev sSort : Stmt := top 33
abbrev sFails : Stmt := top 34
abbrev Ev := Str × Str
/-- an event at an address -/
def EvA (H : Hp) (p : Addr) (e : Ev) : Prop := H p = some (.tup ((evK e).map kV))
def VAt : Option Int → V
  | none => .non
  | some i => .int i
/-- where an event leads from a state with such steps -/
def glV (st : List Stp) (e : Ev) : Option Int := (st.find? fun y => decide (evOf y = e)).map fun y => y.2.2
theorem glV_nil {e : Ev} : glV [] e = none := rfl
theorem glV_pos {x : Stp} {st : List Stp} {e : Ev} (h : evOf x = e) : glV (x :: st) e = some x.2.2 := by
  unfold glV
  rw [List.find?_cons_of_pos (by simpa using h)]
  rfl
theorem glV_neg {x : Stp} {st : List Stp} {e : Ev} (h : ¬ evOf x = e) : glV (x :: st) e = glV st e := by
  unfold glV
  rw [List.find?_cons_of_neg (by simpa using h)]
theorem mv_gl (e : Ev) : ∀ st : List Stp, valV (st.map mvOf) (evK e) = (glV st e).map V.int
  | [] => rfl
  | x :: st => by
    by_cases h : evOf x = e
    · rw [glV_pos h, List.map_cons, valV_pos (show (mvOf x).1 = evK e by rw [← h]; rfl)]
      rfl
    · rw [glV_neg h, List.map_cons, valV_neg (show ¬ (mvOf x).1 = evK e from fun z => h (evK_inj z)), mv_gl e st]
theorem gl_mem {st : List Stp} {e : Ev} {i : Int} (h : glV st e = some i) : ∃ y ∈ st, evOf y = e ∧ y.2.2 = i := by
  unfold glV at h
  obtain ⟨y, h1, h2⟩ := Option.map_eq_some_iff.mp h
  exact ⟨y, List.mem_of_find?_eq_some h1, by simpa using List.find?_some h1, h2⟩
def rowI (ss : List (List Stp)) (i : Int) : List Stp := ss.getD i.toNat []
/-- where two events lead from a state with such steps -/
def goalW (ss : List (List Stp)) (st : List Stp) (e f : Ev) : Option Int := (glV st e).bind fun j => glV (rowI ss j) f
theorem row_at {ss : List (List Stp)} {i : Int} (h0 : 0 ≤ i) (h1 : i < (ss.length : Int)) : ∃ n : Nat, i = (n : Int) ∧ ss[n]? = some (rowI ss i) := by
  obtain ⟨n, rfl⟩ := Int.eq_ofNat_of_zero_le h0
  refine ⟨n, rfl, ?_⟩
  unfold rowI
  rw [Int.toNat_natCast, List.getD_eq_getElem?_getD, List.getElem?_eq_getElem (by omega)]
  rfl
theorem MovesAt.row {H : Hp} {m : Addr} {ss : List (List Stp)} {i : Int} (hm : MovesAt H m ss) (h0 : 0 ≤ i) (h1 : i < (ss.length : Int)) :
    ∃ (bs : List Addr) (d : Addr), H m = some (.lst (bs.map V.ref)) ∧ atI (bs.map V.ref) i = some (.ref d) ∧ H d = some (.dT ((rowI ss i).map mvOf)) := by
  obtain ⟨bs, g1, g2, g3⟩ := hm
  obtain ⟨n, rfl, e⟩ := row_at h0 h1
  have ln : n < bs.length := by omega
  have eb : bs[n]? = some bs[n] := List.getElem?_eq_getElem ln
  exact ⟨bs, bs[n], g1, atI_nat (by rw [List.getElem?_map, eb]; rfl), g3 n _ _ eb e⟩
theorem KOk.row {ss : List (List Stp)} (so : KOk ss) {i : Int} (h0 : 0 ≤ i) (h1 : i < (ss.length : Int)) : StOk ss.length (rowI ss i) := by
  obtain ⟨n, rfl, e⟩ := row_at h0 h1
  exact so.all _ (List.mem_of_getElem? e)
theorem gl_low {n : Nat} {st : List Stp} (so : StOk n st) {e : Ev} {j : Int} (h : glV st e = some j) : 0 ≤ j ∧ j < (n : Int) := by
  obtain ⟨y, my, _, rfl⟩ := gl_mem h
  have z := so.all y my
  exact ⟨z.lo, z.hi⟩
def failsB (pl : Bool) (ss : List (List Stp)) (st : List Stp) (p q : Ev) : Bool :=
  if pl then (goalW ss st q p).isSome && !(glV st p).isSome else (glV st p).isSome && ((glV st q).isSome && ((goalW ss st q p).isNone && (goalW ss st p q).isNone))
def sortT (pl : Bool) (ss : List (List Stp)) (p q : Ev) (fs : List Int) : Str := if fs.any (fun i => failsB pl ss (rowI ss i) p q) = true then (if pl then "abort" else "commit") else "ring"
def wayT (pl : Bool) : Str := if pl then "in place" else "aside"
def spGoal : Sp := fun vs H Q _ => ∃ (m d p1 p2 : Addr) (ss : List (List Stp)) (st : List Stp) (e f : Ev), vs = [.ref m, .ref d, .ref p1, .ref p2] ∧ MovesAt H m ss ∧ StOk ss.length st ∧ H d = some (.dT (st.map mvOf)) ∧ EvA H p1 e ∧ EvA H p2 f ∧ Q (VAt (goalW ss st e f)) H
def spFails : Sp := fun vs H Q _ => ∃ (m d p1 p2 : Addr) (pl : Bool) (ss : List (List Stp)) (st : List Stp) (p q : Ev), vs = [.ref m, .str (wayT pl), .ref d, .ref p1, .ref p2] ∧ MovesAt H m ss ∧ StOk ss.length st ∧ H d = some (.dT (st.map mvOf)) ∧ EvA H p1 p ∧ EvA H p2 q ∧ Q (.bl (failsB pl ss st p q)) H
/-- sort_of(kind, way, p, q) -/
def spSort (C : Addr) : Sp := fun vs H Q _ => ∃ (v : V) (p1 p2 : Addr) (pl : Bool) (ss : List (List Stp)) (p q : Ev), vs = [v, .str (wayT pl), .ref p1, .ref p2] ∧ KindAt C H v ss ∧ KOk ss ∧ EvA H p1 p ∧ EvA H p2 q ∧
  ∀ (fs : List Int) (H' : Hp), Same H H' → (∀ i, i ∈ fs ↔ Rch ss [0] i) → Q (.str (sortT pl ss p q fs)) H'
theorem rch_low {ss : List (List Stp)} (so : KOk ss) {i : Int} (h : Rch ss [0] i) : 0 ≤ i ∧ i < (ss.length : Int) := by
  cases h with
  | base m =>
    rw [List.mem_singleton.mp m]
    have := so.one
    omega
  | step h1 e m =>
    have z := (so.all _ (List.mem_of_getElem? e)).all _ m
    exact ⟨z.lo, z.hi⟩
section
variable {P : Program} {w : World} {K : PySem.W.Frag} {mg : Str → Option Value} {base : Heap} {C : Addr}
theorem scGo : FnScope ["moves", "row", "one", "other"] ["moves", "row", "one", "other"] (defScope sGoal) := ⟨rfl, rfl, rfl, by decide +kernel, rfl, by decide +kernel, by decide +kernel⟩
theorem ok_goal {fa : Addr} {fd : FuncData} (F : Fun K "goal_of" "goal_of" sGoal fa fd) : FnOk P w K mg base CX0 1 fa fd ["moves", "row", "one", "other"] spGoal := by
  refine F.ok scGo (fun vs H Q E h => ?_) (fun cdv A outer s H vs Q E hr h => ?_)
  · obtain ⟨m, d, p1, p2, ss, st, e, f, rfl, _⟩ := h
    rfl
  · obtain ⟨m, d, p1, p2, ss, st, e, f, rfl, hm, so, hd, h1, h2, k⟩ := h
    have hu := hr.units
    have hu1 : (A.deeper (envOfC "goal_of" (defScope sGoal) s.heap.objs.size fa cdv)).units + 1 < cLine := by omega
    refine ⟨_, pss_one (ps_ret (pe_ifExp (pt_cmp (pc_din hu1 (pv 2) (pv 1)))
      (pe_dget1 hu1 (pe_ix (r := rIxL K) ix_list (pv 0) (pe_dget hu1 (pv 1) (pv 2) (fun _ _ => rfl)) (fun _ _ => rfl)) (pv 3) ⟨rfl, rfl, rfl, rfl⟩) pe_non)), ?_⟩
    have g1 := DGet.t hd h1
    rw [mv_gl] at g1
    refine ⟨_, rfl, _, rfl, d, _, rfl, g1, _, rfl, ?_⟩
    cases eg : glV st e with
    | none =>
      refine iteF ?_
      unfold goalW at k
      rw [eg] at k
      exact k
    | some j =>
      rw [eg] at g1
      obtain ⟨j0, j1⟩ := gl_low so eg
      obtain ⟨bs, b, hb, eat, hdb⟩ := hm.row j0 j1
      have g2 := DGet.t hdb h2
      rw [mv_gl] at g2
      refine iteT ⟨_, rfl, _, rfl, _, rfl, d, .int j, rfl, g1, m, _, j, _, rfl, rfl, SqL.of hb, eat, b, rfl, .inr ⟨_, .inl hdb⟩, _, rfl, _, g2, ?_⟩
      unfold goalW at k
      rw [eg] at k
      have ev : ((glV (rowI ss j) f).map V.int).getD .non = VAt (glV (rowI ss j) f) := by cases glV (rowI ss j) f <;> rfl
      rw [ev]
      exact k
theorem scFa : FnScope ["moves", "way", "row", "p", "q", "behind"] ["moves", "way", "row", "p", "q"] (defScope sFails) := ⟨rfl, rfl, rfl, by decide +kernel, rfl, by decide +kernel, by decide +kernel⟩
theorem vat_non (o : Option Int) : decide (VAt o = V.non) = o.isNone := by cases o <;> rfl
theorem ok_fails {f fG : Addr} {fd fdG : FuncData} (F : Fun K "_fails_alone" "_fails_alone" sFails f fd)
    (GG : FnOk P w K mg base CX0 1 fG fdG ["moves", "row", "one", "other"] spGoal) (mG : mg "goal_of" = some (.ref fG)) (kG : PySem.W.keepIn K (.ref fG) = true) (bG : Binds K fdG ["moves", "row", "one", "other"] []) :
    FnOk P w K mg base CX0 2 f fd ["moves", "way", "row", "p", "q"] spFails := by
  refine F.ok scFa (fun vs H Q E h => ?_) (fun cdv A outer s H vs Q E hr h => ?_)
  · obtain ⟨m, d, p1, p2, pl, ss, st, p, q, rfl, _⟩ := h
    rfl
  · obtain ⟨m, d, p1, p2, pl, ss, st, p, q, rfl, hm, so, hd, h1, h2, k⟩ := h
    have hu := hr.units
    have hu1 : (A.deeper (envOfC "_fails_alone" (defScope sFails) s.heap.objs.size f cdv)).units + 1 < cLine := by omega
    refine ⟨_, pss_cons (ps_set (i := 5) scFa.nd rfl (Or.inl rfl) (pe_call GG hr (by rfl) mG kG bG .nil pass0 (pa_cons (pv 0) (pa_cons (pv 2) (pa_cons (pv 4) (pa_cons (pv 3) pa_nil))))))
      (pss_cons (ps_if (pt_cmpR op_eq (pv 1) pe_str (nomark _)) (pss_one (ps_ret (pe_and (pe_cmp (pc_notN (pv 5))) (pe_one (pe_cmp (pc_dnotin hu1 (pv 3) (pv 2))))))) pss_nil)
      (pss_one (ps_ret (pe_and (pe_cmp (pc_din hu1 (pv 3) (pv 2))) (pe_and (pe_cmp (pc_din hu1 (pv 4) (pv 2))) (pe_and (pe_cmp (pc_isN (pv 5)))
        (pe_one (pe_cmp (pc_isN (pe_call GG hr (by rfl) mG kG bG .nil pass0 (pa_cons (pv 0) (pa_cons (pv 2) (pa_cons (pv 3) (pa_cons (pv 4) pa_nil)))))))))))))), ?_⟩
    have g1 := DGet.t hd h1
    have g2 := DGet.t hd h2
    rw [mv_gl] at g1 g2
    refine ⟨_, rfl, _, rfl, _, rfl, _, rfl, m, d, p2, p1, ss, st, q, p, rfl, hm, so, hd, h2, h1, ?_⟩
    refine ⟨_, rfl, rfl, _, rfl, ?_⟩
    cases pl with
    | true =>
      refine iteT ⟨_, rfl, _, rfl, ?_⟩
      have kk : failsB true ss st p q = ((goalW ss st q p).isSome && !(glV st p).isSome) := rfl
      rw [kk] at k
      cases eg : goalW ss st q p with
      | none =>
        rw [eg] at k
        exact iteF k
      | some j =>
        rw [eg] at k
        refine iteT ⟨_, rfl, _, rfl, d, _, rfl, g1, ?_⟩
        have : ((glV st p).map V.int).isSome = (glV st p).isSome := by cases glV st p <;> rfl
        rw [this]
        exact k
    | false =>
      refine iteF ?_
      have kk : failsB false ss st p q = ((glV st p).isSome && ((glV st q).isSome && ((goalW ss st q p).isNone && (goalW ss st p q).isNone))) := rfl
      rw [kk] at k
      have t1 : ((glV st p).map V.int).isSome = (glV st p).isSome := by cases glV st p <;> rfl
      have t2 : ((glV st q).map V.int).isSome = (glV st q).isSome := by cases glV st q <;> rfl
      refine ⟨_, rfl, _, rfl, d, _, rfl, g1, ?_⟩
      rw [t1]
      refine ⟨_, rfl, ?_⟩
      cases e1 : (glV st p).isSome with
      | false =>
        rw [e1] at k
        exact iteF k
      | true =>
        rw [e1] at k
        refine iteT ⟨_, rfl, _, rfl, d, _, rfl, g2, ?_⟩
        rw [t2]
        refine ⟨_, rfl, ?_⟩
        cases e2 : (glV st q).isSome with
        | false =>
          rw [e2] at k
          exact iteF k
        | true =>
          rw [e2] at k
          refine iteT ⟨_, rfl, _, rfl, ?_⟩
          rw [vat_non]
          cases e3 : (goalW ss st q p).isNone with
          | false =>
            rw [e3] at k
            exact iteF k
          | true =>
            rw [e3] at k
            refine iteT ⟨_, rfl, _, rfl, _, rfl, _, rfl, m, d, p1, p2, ss, st, p, q, rfl, hm, so, hd, h1, h2, ?_⟩
            show Q (.bl (decide (VAt (goalW ss st p q) = V.non))) H
            rw [vat_non]
            exact k
theorem scSo : FnScope ["kind", "way", "p", "q", "state"] ["kind", "way", "p", "q"] (defScope sSort) := ⟨rfl, rfl, rfl, by decide +kernel, rfl, by decide +kernel, by decide +kernel⟩
theorem ok_sort {f fA gR : Addr} {fd fdA : FuncData} (F : Fun K "sort_of" "sort_of" sSort f fd) (cl : Cls K C) (n2 : NoAttr K C "moves") (hmR : Meth K C "reached" gR) (GR : FnR P w K mg base CX0 2 gR (spRchdR C))
    (GA : FnOk P w K mg base CX0 2 fA fdA ["moves", "way", "row", "p", "q"] spFails) (mA : mg "_fails_alone" = some (.ref fA)) (kA : PySem.W.keepIn K (.ref fA) = true) (bA : Binds K fdA ["moves", "way", "row", "p", "q"] []) :
    FnOk P w K mg base CX0 3 f fd ["kind", "way", "p", "q"] (spSort C) := by
  refine F.ok scSo (fun vs H Q E h => ?_) (fun cdv A outer s H vs Q E hr h => ?_)
  · obtain ⟨v, p1, p2, pl, ss, p, q, rfl, _⟩ := h
    rfl
  · obtain ⟨v, p1, p2, pl, ss, p, q, rfl, hk, so, h1, h2, k⟩ := h
    refine ⟨_, pss_cons (ps_for PassesOwn.never rfl (pi_tup (pe_methR (pl := _) (pv 0) cl hmR GR hr pass0 (pa_cons pe_int pa_nil))) (pg_name (i := 4) scSo.nd rfl (Or.inl rfl))
        (pss_one (ps_if (pt_val (pe_call GA hr (by rfl) mA kA bA .nil pass0 (pa_cons (pe_fld (pv 0) rfl) (pa_cons (pv 1) (pa_cons (pe_ix (r := rIxL K) ix_list (pe_fld (pv 0) rfl) (pv 4) (fun _ _ => rfl)) (pa_cons (pv 2) (pa_cons (pv 3) pa_nil)))))))
          (pss_one (ps_ret (pe_ifExp (pt_cmpR op_eq (pv 1) pe_str (nomark _)) pe_str pe_str))) pss_nil)))
      (pss_one (ps_ret pe_str)), ?_⟩
    obtain ⟨o, dx, a, m, rfl, ho, ht, hm⟩ := id hk
    refine ⟨_, rfl, o, dx, _, rfl, ho, rfl, [.ref o], [.int 0], rfl, rfl, by show 1 ≤ sizeLine; decide, fun pz hpz => ?_⟩
    have s1 := same_new (o := .tup [V.int 0]) hpz
    have one := so.one
    refine ⟨.ref o, pz, ss, [0], rfl, hk.same s1, so, upd_same, by decide, fun i m => by rw [List.mem_singleton.mp m]; omega, fun c fs H2 s2 hc asc all => ?_⟩
    have s12 := s1.trans s2
    refine ⟨c, rfl, ⟨_, SqT.of hc⟩, for_tup (K := K) (a := c) (xs := fs.map V.int) (fun j σ H' => H' = H2 ∧ (∃ o4, σ = [some (.ref o), some (.str (wayT pl)), some (.ref p1), some (.ref p2), o4]) ∧ (fs.take j).any (fun i => failsB pl ss (rowI ss i) p q) = false) ⟨rfl, ⟨none, rfl⟩, rfl⟩ (fun j σ H' _ h => by rw [h.1]; exact SqT.of hc) (fun j x σ H' ex ⟨eh, ⟨o4, eσ⟩, no⟩ => ?_) fun σ H' ⟨eh, ⟨o4, eσ⟩, no⟩ => ?_⟩
    · subst eh
      subst eσ
      rw [List.getElem?_map] at ex
      obtain ⟨i, ei, rfl⟩ := Option.map_eq_some_iff.mp ex
      obtain ⟨i0, i1⟩ := rch_low so ((all i).mp (List.mem_of_getElem? ei))
      have hm2 := hm.same s12
      obtain ⟨bs, b, hb, eat, hdb⟩ := hm2.row i0 i1
      have ho2 := s12 _ _ ho
      have tk : fs.take (j + 1) = fs.take j ++ [i] := by rw [List.take_succ, ei]; rfl
      refine ⟨_, rfl, o, C, dx, _, _, rfl, ho2, cl, n2, rfl, _, rfl, _, rfl, o, C, dx, _, _, rfl, ho2, cl, n2, rfl, _, rfl, m, _, i, _, rfl, rfl, SqL.of hb, eat, _, rfl, _, rfl, m, b, p1, p2, pl, ss, _, p, q, rfl, hm2, so.row i0 i1, hdb, s12 _ _ h1, s12 _ _ h2, ?_⟩
      refine ⟨_, rfl, ?_⟩
      cases eb : failsB pl ss (rowI ss i) p q with
      | false =>
        refine iteF ⟨rfl, ⟨_, rfl⟩, ?_⟩
        rw [tk, List.any_append, no]
        simp [eb]
      | true =>
        have any : fs.any (fun i => failsB pl ss (rowI ss i) p q) = true := List.any_eq_true.mpr ⟨i, List.mem_of_getElem? ei, eb⟩
        refine iteT ⟨_, rfl, rfl, _, rfl, ?_⟩
        have kk := k fs _ s12 all
        unfold sortT at kk
        rw [if_pos any] at kk
        cases pl with
        | true => exact iteT kk
        | false => exact iteF kk
    · subst eh
      subst eσ
      rw [List.length_map, List.take_length] at no
      have kk := k fs _ s12 all
      unfold sortT at kk
      rw [if_neg (by rw [no]; decide)] at kk
      exact kk
end
end My

-- ===== KX17 =====
set_option Elab.async false
set_option linter.all false
set_option maxRecDepth 100000
set_option maxHeartbeats 4000000
/-! xs == [] -/
namespace Kd
open PySem L2 PyProof.Rows PySem.Spec
def rEqL : R2 := fun x y H Q => ∃ a b xs, x = .ref a ∧ y = .ref b ∧ H a = some (.lst xs) ∧ H b = some (.lst []) ∧ Q (.bl xs.isEmpty) H
section
variable {X : Cx}
theorem op_eqL (hu : X.A.units < cLine) : OpR X (compareOp .Eq) rEqL := by
  intro pins s σ H x y v u Q I rx ry h
  obtain ⟨a, b, xs, rfl, rfl, ha, hb, q⟩ := h
  cases (show v = Value.ref a from rx)
  cases (show u = Value.ref b from ry)
  obtain ⟨its, rv, hl⟩ := lst_is I ha
  obtain ⟨its2, rv2, hl2⟩ := lst_is I hb
  cases rv2
  cases rv with
  | nil => exact SeqAt.RcAt.lists (A := X.A) (e := fun _ => true) hl hl2 rfl hu (fun j _ h2 => absurd h2 (Nat.not_lt_zero _)) X.prog X.w _ _ ⟨.bl _, H, I, rfl, q⟩
  | cons _ _ => exact SeqAt.RcAt.lists_lengths (A := X.A) hl hl2 (by simp) hu X.prog X.w _ _ ⟨.bl _, H, I, rfl, q⟩
end
end Kd

-- ===== K61La =====
set_option Elab.async false
set_option linter.all false
set_option maxRecDepth 100000
set_option maxHeartbeats 4000000
namespace My
open PySem L2 PyProof.Rows PySem.Spec Kd TL StX ClX
abbrev sLed : Stmt := top 64
abbrev sAt : Stmt := top 69
/-- where a row of events leads -/
def goL (ss : List (List Stp)) : Int → List Ev → Option Int
  | i, [] => some i
  | i, e :: w => (glV (rowI ss i) e).bind fun j => goL ss j w
def Wev (e : Ev) : Prop := Wrd e.1 ∧ Wrd e.2
/-- a list of events at an address -/
def EvL (H : Hp) (l : Addr) (L : List (Addr × Ev)) : Prop := H l = some (.lst (L.map fun q => V.ref q.1)) ∧ ∀ q ∈ L, EvA H q.1 q.2 ∧ Wev q.2
theorem EvA.to {H H' : Hp} {p : Addr} {e : Ev} (h : EvA H p e) (s : Same H H') : EvA H' p e := s _ _ h
theorem EvL.to {H H' : Hp} {l : Addr} {L : List (Addr × Ev)} (h : EvL H l L) (s : Same H H') : EvL H' l L := ⟨s _ _ h.1, fun q m => ⟨(h.2 q m).1.to s, (h.2 q m).2⟩⟩
theorem eva_dp {K : PySem.W.Frag} {H : Hp} {p : Addr} {e : Ev} (h : EvA H p e) : Dp K H (.ref p) (tD (evK e)) := .tup (SqT.of h) (.cons (.str _) (.cons (.str _) .nil))
theorem eqv_ev (e f : Ev) : PyData.eqv (tD (evK e)) (tD (evK f)) = decide (e = f) := by
  obtain ⟨a, b⟩ := e
  obtain ⟨c, d⟩ := f
  unfold tD evK
  simp only [List.map_cons, List.map_nil, kD, PyData.eqv, PyData.eqvAll, eqv_str, Prod.mk.injEq, Bool.and_true, Bool.decide_and]
  first | rfl | simp
theorem shaped_ev {e : Ev} (h : Wev e) : SeqAt.shaped (tD (evK e)) = true := by
  have h1 := wrd_ok h.1
  have h2 := wrd_ok h.2
  unfold SeqAt.shaped tD evK
  rw [Bool.and_eq_true]
  refine ⟨by simp only [List.map_cons, List.map_nil, kD, PyData.canLay0, PyData.canLayAll0, h1, h2, Bool.and_self], decide_eq_true ?_⟩
  simp only [List.map_cons, List.map_nil, kD, PyData.depth, PyData.depthAll]
  omega
def gls (st : List Stp) (e : Ev) : List Int := (st.filter fun y => decide (evOf y = e)).map fun y => y.2.2
theorem gls_gl (st : List Stp) (e : Ev) : (gls st e).head? = glV st e := by
  unfold gls glV
  rw [List.head?_map, List.head?_filter]
/-- _law_led(states, here, row) -/
def spLed : Sp := fun vs H Q _ => ∃ (a l : Addr) (ss : List (List Stp)) (i : Int) (L : List (Addr × Ev)), vs = [.ref a, .int i, .ref l] ∧ TD H (.ref a) (statesD ss) ∧ KOk ss ∧ 0 ≤ i ∧ i < (ss.length : Int) ∧ EvL H l L ∧
  ∀ H', Same H H' → Q (VAt (goL ss i (L.map Prod.snd))) H'
theorem states_row {H : Hp} {a : Addr} {ss : List (List Stp)} {i : Int} (h : TD H (.ref a) (statesD ss)) (h0 : 0 ≤ i) (h1 : i < (ss.length : Int)) : ∃ (xs : List V) (b : Addr) (ys : List V), H a = some (.tup xs) ∧ xs.length = ss.length ∧ atI xs i = some (.ref b) ∧ H b = some (.tup ys) ∧ TDs H ys ((rowI ss i).map stepD) := by
  obtain ⟨xs, ha, hxs⟩ := h.tup_of
  have len : xs.length = ss.length := by
    have z := hxs.len
    rwa [List.length_map] at z
  obtain ⟨n, rfl, e⟩ := row_at h0 h1
  have ln : n < xs.length := by omega
  obtain ⟨d, ed, td⟩ := hxs.get (List.getElem?_eq_getElem ln)
  rw [List.getElem?_map, e] at ed
  obtain rfl : stateD (rowI ss (n : Int)) = d := Option.some.inj ed
  obtain ⟨b, ys, eb, hb, hy⟩ := td.ref_of
  exact ⟨xs, b, ys, ha, len, atI_nat (by rw [List.getElem?_eq_getElem ln, eb]), hb, hy⟩
theorem gl_low2 {ss : List (List Stp)} (so : KOk ss) {i j : Int} {e : Ev} (h0 : 0 ≤ i) (h1 : i < (ss.length : Int)) (h : glV (rowI ss i) e = some j) : 0 ≤ j ∧ j < (ss.length : Int) := gl_low (so.row h0 h1) h
section
variable {P : Program} {w : World} {K : PySem.W.Frag} {mg : Str → Option Value} {base : Heap} {C : Addr}
abbrev nLe : List Str := ["_law_states", "_law_here", "_law_row", "_law_step", "_law_some", "_law_part"]
theorem scLe : FnScope nLe ["_law_states", "_law_here", "_law_row"] (defScope sLed) := ⟨rfl, rfl, rfl, by decide +kernel, rfl, by decide +kernel, by decide +kernel⟩
abbrev teCut (K : PySem.W.Frag) (i : Nat) : TE := L2.tSl (rSlT K) (tVar i) tNoPart (tPart (tC (V.int 2)))
abbrev teTo (K : PySem.W.Frag) (i : Nat) : TE := tOp (rIxT K) (tVar i) (tC (V.int 2))
theorem cut2 {z : Stp} : cutV [V.str z.1, V.str z.2.1, V.int z.2.2] none (some 2) = (evK (evOf z)).map kV := rfl
theorem ok_lled {f : Addr} {fd : FuncData} (F : Fun K "_law_led" "_law_led" sLed f fd) : FnOk P w K mg base CX0 1 f fd ["_law_states", "_law_here", "_law_row"] spLed := by
  refine F.ok scLe (fun vs H Q E h => ?_) (fun cdv A outer s H vs Q E hr h => ?_)
  · obtain ⟨a, l, ss, i, L, rfl, _⟩ := h
    rfl
  · obtain ⟨a, l, ss, i, L, rfl, ta, so, i0, i1, hL, k⟩ := h
    have hu := hr.units
    have hu64 : (A.deeper (envOfC "_law_led" (defScope sLed) s.heap.objs.size f cdv)).units + 64 < cLine := by omega
    have hu0 : (A.deeper (envOfC "_law_led" (defScope sLed) s.heap.objs.size f cdv)).units < cLine := by omega
    refine ⟨_, pss_cons (ps_for PassesOwn.never rfl (pi_list (pv 2)) (pg_name (i := 3) scLe.nd rfl (Or.inr rfl))
        (pss_cons (ps_setLc (i := 4) (own := [("_law_part", 5)]) (g := gName 5) (tt := tTest (tOp (rEqD K) (teCut K 5) (tVar 3))) (te := teTo K 5) rfl scLe.nd rfl rfl (sw_true rfl rfl rfl (by decide +kernel))
            (pi_tup (pe_ix (r := rIxT K) ix_tup (pv 0) (pv 1) (fun _ _ => rfl))) (blkOk_by (N := nLe) (sc := defScope sLed) (by decide +kernel)) (fun _ _ _ _ _ => pg_name (i := 5) scLe.nd rfl (Or.inl rfl))
            (fun _ _ _ _ _ => pts_one (pt_cmpR (op_eqD hu64) (pe_slice (r := rSlT K) sl_tup (pv 5) po_none (po_some pe_int)) (pv 3) (nomark _)))
            (fun _ _ _ _ _ => pe_ix (r := rIxT K) ix_tup (pv 5) pe_int (fun _ _ => rfl)))
        (pss_cons (ps_if (pt_cmpR (op_eqL hu0) (pv 4) (pe_lst pa_nil) (nomark _)) (pss_one (ps_ret pe_non)) pss_nil)
        (pss_one (ps_set (i := 1) scLe.nd rfl (Or.inl rfl) (pe_ix (r := rIxL K) ix_list (pv 4) pe_int (fun _ _ => rfl)))))))
      (pss_one (ps_ret (pv 1))), ?_⟩
    refine ⟨_, rfl, l, rfl, ⟨_, SqL.of hL.1⟩, for_list (K := K) (a := l) (xs := L.map fun q => V.ref q.1) (fun j σ H' => ∃ (o3 o4 : Option V) (i' : Int), σ = [some (.ref a), some (.int i'), some (.ref l), o3, o4, none] ∧ Same H H' ∧ 0 ≤ i' ∧ i' < (ss.length : Int) ∧ goL ss i (L.map Prod.snd) = goL ss i' ((L.map Prod.snd).drop j))
      ⟨none, none, i, rfl, Same.refl H, i0, i1, rfl⟩ (fun j σ H' _ ⟨_, _, _, _, s1, _⟩ => SqL.of (s1 _ _ hL.1)) (fun j x σ H' ex ⟨o3, o4, i', eσ, s1, i0', i1', eg⟩ => ?_) fun σ H' ⟨o3, o4, i', eσ, s1, i0', i1', eg⟩ => ?_⟩
    · subst eσ
      rw [List.getElem?_map] at ex
      obtain ⟨q, eq, rfl⟩ := Option.map_eq_some_iff.mp ex
      obtain ⟨hq, wq⟩ := (hL.to s1).2 q (List.mem_of_getElem? eq)
      have ta1 := ta.to (Tup.of s1)
      obtain ⟨xs, b, ys, ha, lx, eat, hb, hy⟩ := states_row ta1 i0' i1'
      have sto := so.row i0' i1'
      have sf := sto.few
      have ylen : ys.length = (rowI ss i').length := by
        have z := hy.len
        rwa [List.length_map] at z
      refine ⟨_, rfl, _, rfl, a, _, _, _, rfl, rfl, SqT.of ha, eat, b, rfl, ⟨_, SqT.of hb⟩, fun D hD => lc_tup (K := K) (a := b) (xs := ys) (fun g H2 => Same H' H2 ∧ H2 D = some (.lst ((gls ((rowI ss i').take g) q.2).map V.int))) ⟨same_new hD, upd_same⟩ (fun g H2 _ ⟨s2, _⟩ => SqT.of (s2 _ _ hb)) (fun g x H2 exy ⟨s2, d2⟩ => ?_) fun H2 ⟨s2, d2⟩ => ?_⟩
      · obtain ⟨dv, edv, tv⟩ := hy.get exy
        rw [List.getElem?_map] at edv
        obtain ⟨z, ez, rfl⟩ := Option.map_eq_some_iff.mp edv
        obtain ⟨b3, rfl, hz⟩ := step_of tv
        have hz2 := s2 _ _ hz
        have tk : (rowI ss i').take (g + 1) = (rowI ss i').take g ++ [z] := by rw [List.take_succ, ez]; rfl
        have zo := sto.all z (List.mem_of_getElem? ez)
        refine ⟨rfl, _, rfl, 2, rfl, b3, _, rfl, SqT.of hz2, (fun z => absurd (show HT.sIx 3 3 (some 2) = 3 from z.2) (by decide)), fun p hp => ?_⟩
        have sp_ := same_new (o := .tup (cutV [V.str z.1, V.str z.2.1, V.int z.2.2] none (some 2))) hp
        have hp1 : EvA (upd H2 p (.tup (cutV [V.str z.1, V.str z.2.1, V.int z.2.2] none (some 2)))) p (evOf z) := upd_same
        generalize upd H2 p (.tup (cutV [V.str z.1, V.str z.2.1, V.int z.2.2] none (some 2))) = H3 at sp_ hp1 ⊢
        refine ⟨_, rfl, _, _, eva_dp hp1, eva_dp (sp_ _ _ (s2 _ _ hq)), shaped_ev ⟨zo.w1, zo.w2⟩, shaped_ev wq, _, rfl, ?_⟩
        rw [eqv_ev]
        have d3 := sp_ _ _ d2
        by_cases ee : evOf z = q.2
        · rw [decide_eq_true ee]
          refine iteT ⟨_, rfl, b3, _, 2, _, rfl, rfl, SqT.of (sp_ _ _ hz2), rfl, _, d3, ?_, same_at (s2.trans sp_) hD, ?_⟩
          · unfold gls
            rw [List.map_map, List.length_map]
            have lg := (List.getElem?_eq_some_iff.mp ez).1
            exact small_lt (m := 24) (Nat.le_trans (Nat.le_trans (List.length_filter_le _ _) (List.length_take_le _ _)) (by omega))
          · rw [upd_same, tk]
            unfold gls
            rw [List.filter_append, List.map_append, List.map_append]
            simp [ee]
        · rw [decide_eq_false ee]
          refine iteF ⟨s2.trans sp_, ?_⟩
          rw [d3, tk]
          unfold gls
          rw [List.filter_append]
          simp [ee]
      · rw [ylen, List.take_length] at d2
        have s12 := s1.trans s2
        refine ⟨_, rfl, by show 0 ≤ sizeLine; decide, fun el hel => ?_⟩
        have s3 := same_new (o := .lst []) hel
        have e3 : (upd H2 el (.lst [])) el = some (.lst []) := upd_same
        have d3 := s3 _ _ d2
        generalize upd H2 el (.lst []) = H3 at s3 e3 d3 ⊢
        have s13 := s12.trans s3
        have dr : (L.map Prod.snd).drop j = q.2 :: (L.map Prod.snd).drop (j + 1) := by
          have ej : (L.map Prod.snd)[j]? = some q.2 := by rw [List.getElem?_map, eq]; rfl
          obtain ⟨lj, ej2⟩ := List.getElem?_eq_some_iff.mp ej
          rw [← ej2]
          exact List.drop_eq_getElem_cons lj
        have hg := gls_gl (rowI ss i') q.2
        refine ⟨D, el, _, rfl, rfl, d3, e3, _, rfl, ?_⟩
        rw [dr] at eg
        generalize gls (rowI ss i') q.2 = gs at hg d3 ⊢
        cases gs with
        | nil =>
          refine iteT ?_
          have kk := k _ s13
          rw [eg] at kk
          have e0 : glV (rowI ss i') q.2 = none := hg.symm
          have : goL ss i' (q.2 :: (L.map Prod.snd).drop (j + 1)) = none := by
            show (glV (rowI ss i') q.2).bind _ = none
            rw [e0]
            first | done | rfl
          rw [this] at kk
          exact kk
        | cons g0 gr =>
          have e0 : glV (rowI ss i') q.2 = some g0 := hg.symm
          obtain ⟨g1, g2⟩ := gl_low2 so i0' i1' e0
          refine iteF ⟨_, rfl, D, _, 0, _, rfl, rfl, SqL.of d3, atI_nat (xs := (g0 :: gr).map V.int) (j := 0) rfl, _, _, g0, rfl, s13, g1, g2, ?_⟩
          rw [eg]
          show (glV (rowI ss i') q.2).bind _ = _
          rw [e0]
          rfl
    · subst eσ
      rw [List.length_map] at eg
      have : (L.map Prod.snd).drop L.length = [] := List.drop_eq_nil_of_le (by rw [List.length_map]; exact Nat.le_refl _)
      rw [this] at eg
      have kk := k _ s1
      rw [eg] at kk
      exact ⟨_, rfl, kk⟩
/-- _law_at(states, here, first, second) -/
def spAt : Sp := fun vs H Q _ => ∃ (a p1 p2 : Addr) (ss : List (List Stp)) (i : Int) (p q : Ev), vs = [.ref a, .int i, .ref p1, .ref p2] ∧ TD H (.ref a) (statesD ss) ∧ KOk ss ∧ 0 ≤ i ∧ i < (ss.length : Int) ∧ EvA H p1 p ∧ Wev p ∧ EvA H p2 q ∧ Wev q ∧
  ∀ l H', Same H H' → H' l = some (.lst [VAt (glV (rowI ss i) p), VAt (glV (rowI ss i) q), VAt (goalW ss (rowI ss i) q p), VAt (goalW ss (rowI ss i) p q)]) → Q (.ref l) H'
theorem goL1 {ss : List (List Stp)} {i : Int} {e : Ev} : goL ss i [e] = glV (rowI ss i) e := by
  show (glV (rowI ss i) e).bind (fun j => some j) = _
  cases glV (rowI ss i) e <;> rfl
theorem goL2 {ss : List (List Stp)} {i : Int} {e f : Ev} : goL ss i [e, f] = goalW ss (rowI ss i) e f := by
  show (glV (rowI ss i) e).bind (fun j => goL ss j [f]) = _
  unfold goalW
  cases glV (rowI ss i) e with
  | none => rfl
  | some j => exact goL1
abbrev nAt : List Str := ["_law_states", "_law_here", "_law_first", "_law_second", "_law_alone"]
theorem scAt : FnScope nAt ["_law_states", "_law_here", "_law_first", "_law_second"] (defScope sAt) := ⟨rfl, rfl, rfl, by decide +kernel, rfl, by decide +kernel, by decide +kernel⟩
theorem ok_at {f fL : Addr} {fd fdL : FuncData} (F : Fun K "_law_at" "_law_at" sAt f fd)
    (GL : FnOk P w K mg base CX0 1 fL fdL ["_law_states", "_law_here", "_law_row"] spLed) (mL : mg "_law_led" = some (.ref fL)) (kL : PySem.W.keepIn K (.ref fL) = true) (bL : Binds K fdL ["_law_states", "_law_here", "_law_row"] []) :
    FnOk P w K mg base CX0 2 f fd ["_law_states", "_law_here", "_law_first", "_law_second"] spAt := by
  refine F.ok scAt (fun vs H Q E h => ?_) (fun cdv A outer s H vs Q E hr h => ?_)
  · obtain ⟨a, p1, p2, ss, i, p, q, rfl, _⟩ := h
    rfl
  · obtain ⟨a, p1, p2, ss, i, p, q, rfl, ta, so, i0, i1, h1, w1, h2, w2, k⟩ := h
    refine ⟨_, pss_cons (ps_set (i := 4) scAt.nd rfl (Or.inl rfl) (pe_lst (pa_cons (pe_call GL hr (by rfl) mL kL bL .nil pass0 (pa_cons (pv 0) (pa_cons (pv 1) (pa_cons (pe_lst (pa_cons (pv 2) pa_nil)) pa_nil))))
        (pa_cons (pe_call GL hr (by rfl) mL kL bL .nil pass0 (pa_cons (pv 0) (pa_cons (pv 1) (pa_cons (pe_lst (pa_cons (pv 3) pa_nil)) pa_nil)))) pa_nil))))
      (pss_one (ps_ret (pe_op op_cat (pv 4) (pe_lst (pa_cons (pe_call GL hr (by rfl) mL kL bL .nil pass0 (pa_cons (pv 0) (pa_cons (pv 1) (pa_cons (pe_lst (pa_cons (pv 3) (pa_cons (pv 2) pa_nil))) pa_nil))))
        (pa_cons (pe_call GL hr (by rfl) mL kL bL .nil pass0 (pa_cons (pv 0) (pa_cons (pv 1) (pa_cons (pe_lst (pa_cons (pv 2) (pa_cons (pv 3) pa_nil))) pa_nil)))) pa_nil)))))), ?_⟩
    refine ⟨_, rfl, _, rfl, _, rfl, by show 1 ≤ sizeLine; decide, fun l1 hl1 => ?_⟩
    have z1 := same_new (o := .lst [V.ref p1]) hl1
    refine ⟨a, l1, ss, i, [(p1, p)], rfl, ta.to (Tup.of z1), so, i0, i1, ⟨upd_same, fun q m => by rw [List.mem_singleton.mp m]; exact ⟨h1.to z1, w1⟩⟩, fun H1 s1 => ?_⟩
    have t1 := z1.trans s1
    refine ⟨_, rfl, _, rfl, _, rfl, by show 1 ≤ sizeLine; decide, fun l2 hl2 => ?_⟩
    have z2 := t1.trans (same_new (o := .lst [V.ref p2]) hl2)
    refine ⟨a, l2, ss, i, [(p2, q)], rfl, ta.to (Tup.of z2), so, i0, i1, ⟨upd_same, fun q m => by rw [List.mem_singleton.mp m]; exact ⟨h2.to z2, w2⟩⟩, fun H2 s2 => ?_⟩
    have t2 := z2.trans s2
    refine ⟨by show 2 ≤ sizeLine; decide, fun al hal => ?_⟩
    have t3 := t2.trans (same_new (o := .lst [VAt (goL ss i ([(p1, p)].map Prod.snd)), VAt (goL ss i ([(p2, q)].map Prod.snd))]) hal)
    have a3 := upd_same (H := H2) (a := al) (o := .lst [VAt (goL ss i ([(p1, p)].map Prod.snd)), VAt (goL ss i ([(p2, q)].map Prod.snd))])
    generalize upd H2 al (.lst [VAt (goL ss i ([(p1, p)].map Prod.snd)), VAt (goL ss i ([(p2, q)].map Prod.snd))]) = H3 at t3 a3 ⊢
    refine ⟨_, rfl, _, rfl, _, rfl, _, rfl, _, rfl, by show 2 ≤ sizeLine; decide, fun l3 hl3 => ?_⟩
    have y1 := same_new (o := .lst [V.ref p2, V.ref p1]) hl3
    have z3 := t3.trans y1
    refine ⟨a, l3, ss, i, [(p2, q), (p1, p)], rfl, ta.to (Tup.of z3), so, i0, i1, ⟨upd_same, fun r m => ?_⟩, fun H4 s4 => ?_⟩
    · rcases List.mem_cons.mp m with rfl | m
      · exact ⟨h2.to z3, w2⟩
      · rw [List.mem_singleton.mp m]
        exact ⟨h1.to z3, w1⟩
    have t4 := z3.trans s4
    refine ⟨_, rfl, _, rfl, _, rfl, _, rfl, by show 2 ≤ sizeLine; decide, fun l4 hl4 => ?_⟩
    have y2 := (y1.trans s4).trans (same_new (o := .lst [V.ref p1, V.ref p2]) hl4)
    have z4 := t4.trans (same_new (o := .lst [V.ref p1, V.ref p2]) hl4)
    refine ⟨a, l4, ss, i, [(p1, p), (p2, q)], rfl, ta.to (Tup.of z4), so, i0, i1, ⟨upd_same, fun r m => ?_⟩, fun H5 s5 => ?_⟩
    · rcases List.mem_cons.mp m with rfl | m
      · exact ⟨h1.to z4, w1⟩
      · rw [List.mem_singleton.mp m]
        exact ⟨h2.to z4, w2⟩
    have y3 := y2.trans s5
    refine ⟨by show 2 ≤ sizeLine; decide, fun bl hbl => ?_⟩
    have y4 := y3.trans (same_new (o := .lst [VAt (goL ss i ([(p2, q), (p1, p)].map Prod.snd)), VAt (goL ss i ([(p1, p), (p2, q)].map Prod.snd))]) hbl)
    refine ⟨al, bl, _, _, rfl, rfl, y4 _ _ a3, upd_same, small_len (m := 4) (by simp), fun r hr' => ?_⟩
    refine k r _ ((t3.trans y4).trans (same_new hr')) ?_
    rw [upd_same]
    simp only [List.map_cons, List.map_nil, goL1, goL2]
    rfl
end
end My

-- ===== K61Mk =====
set_option Elab.async false
set_option linter.all false
set_option maxRecDepth 100000
set_option maxHeartbeats 4000000
namespace My
open PySem L2 PyProof.Rows PySem.Spec Kd TL StX ClX
abbrev sMach : Stmt := top 61
def E6 : List Ev := [("get", "no"), ("get", "ok"), ("put", "ok"), ("read", "1"), ("read", "a"), ("set", "ok")]
instance (x y : Ev) : Decidable (evLt x y) := by unfold evLt; infer_instance
theorem e6_asc : E6.Pairwise evLt := by decide +kernel
theorem e6_w : ∀ e ∈ E6, Wrd e.1 ∧ Wrd e.2 := by
  have h : E6.all (fun e => decide (e.1.length ≤ 12 ∧ 1 ≤ e.1.length)) = true := by decide +kernel
  intro e m
  simp only [E6, List.mem_cons, List.not_mem_nil, or_false] at m
  rcases m with rfl | rfl | rfl | rfl | rfl | rfl <;> (unfold Wrd; decide +kernel)
theorem EvL.save {H H' : Hp} {l p c : Addr} {L : List (Addr × Ev)} {ks : List Int} {w n : Int} (h : EvL H l L) (F : FeedAt H p c ks w n) (h1 : l ≠ p) (h2 : l ≠ c) (s : Save p c H H') : EvL H' l L :=
  ⟨s _ _ h.1 h1 h2, fun q m => ⟨Save.tup F s _ _ (h.2 q m).1, (h.2 q m).2⟩⟩
/-- _law_machine(deck), its states -/
def spMach : Sp := fun vs H Q _ => ∃ (p c : Addr) (ks : List Int) (w n : Int), vs = [.ref p] ∧ FeedAt H p c ks w n ∧ n < 800000 ∧
  ∀ (a : Addr) (ss : List (List Stp)) (ks' : List Int) (n' : Int) (H' : Hp), TD H' (.ref a) (statesD ss) → KOk ss → FeedAt H' p c ks' w n' → n' ≤ n + 100 → Save p c H H' → Q (.ref a) H'
abbrev nMk : List Str := ["_law_deck_here", "_law_many", "_law_menu", "_law_used", "_law_found", "_law_k", "_law_some", "_law_step"]
theorem scMk : FnScope nMk ["_law_deck_here"] (defScope sMach) := ⟨rfl, rfl, rfl, by decide +kernel, rfl, by decide +kernel, by decide +kernel⟩
section
variable {P : Program} {w : World} {K : PySem.W.Frag} {mg : Str → Option Value} {base : Heap} {C : Addr}
abbrev teDr (m : Int) (E : XK) : TE := tCall spDigit [] E (tCons (tVar 0) (tCons (tC (V.int m)) tNil))
abbrev teDrv (j : Nat) (E : XK) : TE := tCall spDigit [] E (tCons (tVar 0) (tCons (tVar j) tNil))
/-- the comprehension that leaves events out -/
theorem lc_drop {σ : L2.St} {H : Hp} {E : XK} {D : Addr} {Qd : Hp → Prop} {m : Int} {p c l : Addr} {ks : List Int} {y n : Int} {L : List (Addr × Ev)} (h0 : σ[0]? = some (some (.ref p))) (l7 : σ.length = 8) (m0 : 0 < m) (m1 : m < 1000)
    (F : FeedAt H p c ks y n) (hn : n < 900000) (hL : EvL H l L) (few : L.length ≤ 20) (lp : l ≠ p) (lc : l ≠ c)
    (hD : H D = none) (k : ∀ (L' : List (Addr × Ev)) (ks' : List Int) (n' : Int) (H' : Hp), D ≠ p → D ≠ c → FeedAt H' p c ks' y n' → n' ≤ n + (L.length : Int) → Save p c H H' → EvL H' D L' → (L'.map Prod.snd).Sublist (L.map Prod.snd) → L'.length ≤ L.length → Qd H') :
    ∃ W : Nat → Nat → Hp → Prop, (∃ m, W 0 m (upd H D (.lst []))) ∧ ∀ i m_ H, W i m_ H →
      ((Itl K l).stop i H ∧ Qd H) ∨ ((Itl K l).go i H ∧ ∃ Nx : Hp → Prop, (∀ H', Nx H' → ∃ m', m' < m_ ∧ W (i + 1) m' H') ∧ ∀ x H', (Itl K l).yld i H x H' → gName 7 x (wipe σ [7]) H' fun σ2 H2 => wipe σ2 [7] = wipe σ [7] ∧ tTest (tOp rGt (teDr m E) (tC (V.int 0))) σ2 H2 fun b H3 =>
        if b = true then tVar 7 σ2 H3 fun y H4 => ∃ acc, H4 D = some (.lst acc) ∧ acc.length < sizeLine ∧ Nx (upd H4 D (.lst (acc ++ [y]))) else Nx H3) := by
  have np : D ≠ p := Ne.symm (ne_of_none F.ob hD)
  have nc : D ≠ c := Ne.symm (ne_of_none F.cs hD)
  have nl : l ≠ D := ne_of_none hL.1 hD
  have s1 := same_new (o := .lst []) hD
  refine lc_list (K := K) (a := l) (xs := L.map fun q => V.ref q.1) (fun g H2 => ∃ (ks' : List Int) (n' : Int) (L' : List (Addr × Ev)), FeedAt H2 p c ks' y n' ∧ n' ≤ n + (g : Int) ∧ Save p c H H2 ∧ EvL H2 D L' ∧ (L'.map Prod.snd).Sublist ((L.map Prod.snd).take g) ∧ L'.length ≤ g)
    ⟨ks, n, [], F.same s1, by omega, Save.of s1, ⟨upd_same, fun q m => nomatch m⟩, by simp, by simp⟩ (fun g H2 _ ⟨_, _, _, F2, _, sv, _⟩ => SqL.of (hL.save F lp lc sv).1) (fun g x H2 ex ⟨ks2, n2, L', F2, le2, sv2, hL', sub, len⟩ => ?_) fun H2 ⟨ks2, n2, L', F2, le2, sv2, hL', sub, len⟩ => ?_
  · rw [List.getElem?_map] at ex
    obtain ⟨q, eq, rfl⟩ := Option.map_eq_some_iff.mp ex
    have lg := (List.getElem?_eq_some_iff.mp eq).1
    have tk : (L.map Prod.snd).take (g + 1) = (L.map Prod.snd).take g ++ [q.2] := by rw [List.take_succ, List.getElem?_map, eq]; rfl
    have n0 := F2.n0
    have w0 : (wipe σ [7])[0]? = some (some (.ref p)) := by
      show (σ.set 7 none)[0]? = _
      rw [List.getElem?_set_ne (by decide)]
      exact h0
    have w1 : ((wipe σ [7]).set 7 (some (V.ref q.1)))[0]? = some (some (.ref p)) := by
      rw [List.getElem?_set_ne (by decide)]
      exact w0
    have w7 : ((wipe σ [7]).set 7 (some (V.ref q.1)))[7]? = some (some (.ref q.1)) := by
      rw [List.getElem?_set_self]
      show 7 < (σ.set 7 none).length
      rw [List.length_set]
      omega
    refine ⟨by show ((σ.set 7 none).set 7 (some (.ref q.1))).set 7 none = σ.set 7 none; rw [List.set_set, List.set_set], ?_⟩
    refine ⟨_, w1, p, c, ks2, y, n2, m, rfl, F2, by omega, m0, by omega, fun i ks3 H3 i0 i1 F3 sv3 => ⟨_, _, rfl, rfl, _, rfl, ?_⟩⟩
    have hL3 := hL'.save F2 np nc sv3
    have sv23 := sv2.trans sv3
    have hq : EvA H3 q.1 q.2 ∧ Wev q.2 := (hL.save F lp lc sv23).2 q (List.mem_of_getElem? eq)
    by_cases pos : 0 < i
    · rw [decide_eq_true pos]
      have tp : Tup H3 (upd H3 D (.lst ((L'.map fun q => V.ref q.1) ++ [.ref q.1]))) := Tup.at_ hL3.1 fun xs z => nomatch z
      refine iteT ⟨_, w7, _, hL3.1, small_lt (m := 20) (by rw [List.length_map]; omega), ks3, n2 + 1, L' ++ [q], F3.wr np nc, by omega, fun b o e h1 h2 => ?_, ⟨by rw [upd_same, List.map_append]; rfl, fun r mr => ?_⟩, ?_, by rw [List.length_append, List.length_singleton]; omega⟩
      · rw [upd_ne fun z => by rw [z, hD] at e; cases e]
        exact sv23 b o e h1 h2
      · rcases List.mem_append.mp mr with mr | mr
        · exact ⟨tp _ _ (hL3.2 r mr).1, (hL3.2 r mr).2⟩
        · rw [List.mem_singleton.mp mr]
          exact ⟨tp _ _ hq.1, hq.2⟩
      · rw [tk, List.map_append]
        exact sub.append (List.Sublist.refl _)
    · rw [decide_eq_false pos]
      refine iteF ⟨ks3, n2 + 1, L', F3, by omega, sv23, hL3, ?_, by omega⟩
      rw [tk]
      exact sub.trans (List.sublist_append_left _ _)
  · rw [List.length_map] at len sub le2
    rw [show (L.map Prod.snd).take L.length = L.map Prod.snd from List.take_of_length_le (by rw [List.length_map]; exact Nat.le_refl _)] at sub
    exact k L' ks2 n2 H2 np nc F2 (by omega) sv2 hL' sub len
theorem ok_mach {f fD : Addr} {fd fdD : FuncData} (F : Fun K "_law_machine" "_law_machine" sMach f fd) (G : Gs mg) (mrange : mg "range" = none)
    (GD : FnOk P w K mg base CX0 1 fD fdD ["_law_deck_here", "_law_many"] spDigit) (mD : mg "_law_draw" = some (.ref fD)) (kD : PySem.W.keepIn K (.ref fD) = true) (bD : Binds K fdD ["_law_deck_here", "_law_many"] []) :
    FnOk P w K mg base CX0 2 f fd ["_law_deck_here"] spMach := by
  refine F.ok scMk (fun vs H Q E h => ?_) (fun cdv A outer s H vs Q E hr h => ?_)
  · obtain ⟨p, c, ks, y, n, rfl, _⟩ := h
    rfl
  · obtain ⟨p, c, ks, y, n, rfl, FA, hn, k⟩ := h
    refine ⟨_, pss_cons (ps_asg (pe_tup (pa_cons (pe_op op_add pe_int (pe_call GD hr (by rfl) mD kD bD .nil pass0 (pa_cons (pv 0) (pa_cons pe_int pa_nil)))) (pa_cons
          (pe_lst (pa_cons (pe_tup (pa_cons pe_str (pa_cons pe_str pa_nil))) (pa_cons (pe_tup (pa_cons pe_str (pa_cons pe_str pa_nil))) (pa_cons (pe_tup (pa_cons pe_str (pa_cons pe_str pa_nil))) (pa_cons (pe_tup (pa_cons pe_str (pa_cons pe_str pa_nil))) (pa_cons (pe_tup (pa_cons pe_str (pa_cons pe_str pa_nil))) pa_nil)))))) pa_nil))) (pg_tup (by rfl) (pgs_cons (pg_name (i := 1) scMk.nd rfl (Or.inr rfl)) (pgs_cons (pg_name (i := 2) scMk.nd rfl (Or.inl rfl)) pgs_nil))))
      (pss_cons (ps_par (i := 3) (j := 4) rfl scMk.nd rfl rfl (by decide) rfl rfl (pa_cons (pe_lc (own := [("_law_step", 7)]) (g := gName 7) (tt := tTest (tOp rGt (teDr 5 E) (tC (V.int 0)))) (te := tVar 7) rfl scMk.nd
            (pi_list (pe_op op_cat (pv 2) (pe_lst (pa_cons (pe_tup (pa_cons pe_str (pa_cons pe_str pa_nil))) pa_nil)))) (blkOk_by (N := nMk) (sc := defScope sMach) (by decide +kernel)) (fun _ _ _ _ _ => pg_name (i := 7) scMk.nd rfl (Or.inl rfl))
            (fun _ _ _ _ _ => pts_one (pt_cmpR op_gt (pe_call GD hr (by rfl) mD kD bD .nil pass0 (pa_cons (pv 0) (pa_cons pe_int pa_nil))) pe_int (nomark _)))
            (fun _ _ _ _ _ => pv 7)) (pa_cons (pe_lst pa_nil) pa_nil)) (by rfl))
      (pss_cons (ps_for PassesOwn.never rfl (pi_range1 (by rfl) mrange (pa_cons (pv 1) pa_nil)) (pg_name (i := 5) scMk.nd rfl (Or.inl rfl))
        (pss_cons (ps_setLc (i := 6) (own := [("_law_step", 7)]) (g := gName 7) (tt := tTest (tOp rGt (teDr 3 E) (tC (V.int 0)))) (te := tVar 7) rfl scMk.nd rfl rfl (sw_true rfl rfl rfl (by decide +kernel))
            (pi_list (pv 3)) (blkOk_by (N := nMk) (sc := defScope sMach) (by decide +kernel)) (fun _ _ _ _ _ => pg_name (i := 7) scMk.nd rfl (Or.inl rfl))
            (fun _ _ _ _ _ => pts_one (pt_cmpR op_gt (pe_call GD hr (by rfl) mD kD bD .nil pass0 (pa_cons (pv 0) (pa_cons pe_int pa_nil))) pe_int (nomark _)))
            (fun _ _ _ _ _ => pv 7))
        (pss_one (ps_expr (pe_bm PySem.F.plainAttrs_list PySem.F.slot_list_append PySem.F.type_list_append mt_append (pv 4) (pa_cons (pe_callTy call_tuple_of (by rfl) G.tuple (by decide +kernel) (pa_cons
            (pe_lc (own := [("_law_step", 7)]) (g := gName 7) (tt := tYes) (te := tOp Kd.rCatA (tVar 7) (tTup (tCons (teDrv 1 E) tNil))) rfl scMk.nd
            (pi_list (pv 6)) (blkOk_by (N := nMk) (sc := defScope sMach) (by decide +kernel)) (fun _ _ _ _ _ => pg_name (i := 7) scMk.nd rfl (Or.inl rfl))
            (fun _ _ _ _ _ => pts_nil)
            (fun _ _ _ _ _ => pe_op Kd.op_catA (pv 7) (pe_tup (pa_cons (pe_call GD hr (by rfl) mD kD bD .nil pass0 (pa_cons (pv 0) (pa_cons (pv 1) pa_nil))) pa_nil)))) pa_nil)) pa_nil))))))
      (pss_one (ps_ret (pe_callTy call_tuple_of (by rfl) G.tuple (by decide +kernel) (pa_cons (pv 4) pa_nil)))))), ?_⟩
    have n0 := FA.n0
    refine ⟨_, rfl, p, c, ks, y, n, 6, rfl, FA, by omega, by decide, by decide, fun d ks1 H1 d0 d1 F1 sv1 => ⟨_, _, rfl, rfl, ?_⟩⟩
    refine ⟨by show 2 ≤ sizeLine; decide, fun t1 ht1 => ?_⟩
    have b1 := upd_same (H := H1) (a := t1) (o := .tup [V.str "get", V.str "no"])
    have x1 := same_new (o := .tup [V.str "get", V.str "no"]) ht1
    generalize upd H1 t1 (.tup [V.str "get", V.str "no"]) = G1 at b1 x1 ⊢
    refine ⟨by show 2 ≤ sizeLine; decide, fun t2 ht2 => ?_⟩
    have b2 := upd_same (H := G1) (a := t2) (o := .tup [V.str "get", V.str "ok"])
    have x2 := same_new (o := .tup [V.str "get", V.str "ok"]) ht2
    generalize upd G1 t2 (.tup [V.str "get", V.str "ok"]) = G2 at b2 x2 ⊢
    refine ⟨by show 2 ≤ sizeLine; decide, fun t3 ht3 => ?_⟩
    have b3 := upd_same (H := G2) (a := t3) (o := .tup [V.str "put", V.str "ok"])
    have x3 := same_new (o := .tup [V.str "put", V.str "ok"]) ht3
    generalize upd G2 t3 (.tup [V.str "put", V.str "ok"]) = G3 at b3 x3 ⊢
    refine ⟨by show 2 ≤ sizeLine; decide, fun t4 ht4 => ?_⟩
    have b4 := upd_same (H := G3) (a := t4) (o := .tup [V.str "read", V.str "1"])
    have x4 := same_new (o := .tup [V.str "read", V.str "1"]) ht4
    generalize upd G3 t4 (.tup [V.str "read", V.str "1"]) = G4 at b4 x4 ⊢
    refine ⟨by show 2 ≤ sizeLine; decide, fun t5 ht5 => ?_⟩
    have b5 := upd_same (H := G4) (a := t5) (o := .tup [V.str "read", V.str "a"])
    have x5 := same_new (o := .tup [V.str "read", V.str "a"]) ht5
    generalize upd G4 t5 (.tup [V.str "read", V.str "a"]) = G5 at b5 x5 ⊢
    refine ⟨by show 5 ≤ sizeLine; decide, fun ml hml => ?_⟩
    have b6 := upd_same (H := G5) (a := ml) (o := .lst [V.ref t1, .ref t2, .ref t3, .ref t4, .ref t5])
    have x6 := same_new (o := .lst [V.ref t1, .ref t2, .ref t3, .ref t4, .ref t5]) hml
    generalize upd G5 ml (.lst [V.ref t1, .ref t2, .ref t3, .ref t4, .ref t5]) = G6 at b6 x6 ⊢
    refine ⟨by show 2 ≤ sizeLine; decide, fun tt htt => ?_⟩
    have x7 := same_new (o := .tup [V.int (1 + d), .ref ml]) htt
    have b7 := upd_same (H := G6) (a := tt) (o := .tup [V.int (1 + d), .ref ml])
    generalize upd G6 tt (.tup [V.int (1 + d), .ref ml]) = G7 at b7 x7 ⊢
    refine ⟨tt, _, rfl, SqT.of b7, rfl, _, _, rfl, _, _, rfl, rfl, ?_⟩
    -- the menu with one more
    refine ⟨_, rfl, by show 2 ≤ sizeLine; decide, fun t6 ht6 => ?_⟩
    have b8 := upd_same (H := G7) (a := t6) (o := .tup [V.str "set", V.str "ok"])
    have x8 := same_new (o := .tup [V.str "set", V.str "ok"]) ht6
    generalize upd G7 t6 (.tup [V.str "set", V.str "ok"]) = G8 at b8 x8 ⊢
    refine ⟨by show 1 ≤ sizeLine; decide, fun l6 hl6 => ?_⟩
    have b9 := upd_same (H := G8) (a := l6) (o := .lst [V.ref t6])
    have x9 := same_new (o := .lst [V.ref t6]) hl6
    generalize upd G8 l6 (.lst [V.ref t6]) = G9 at b9 x9 ⊢
    refine ⟨ml, l6, _, _, rfl, rfl, x9 _ _ (x8 _ _ (x7 _ _ b6)), b9, by show 6 ≤ sizeLine; decide, fun mm hmm => ?_⟩
    have b10 := upd_same (H := G9) (a := mm) (o := .lst ([V.ref t1, .ref t2, .ref t3, .ref t4, .ref t5] ++ [.ref t6]))
    have x10 := same_new (o := .lst ([V.ref t1, .ref t2, .ref t3, .ref t4, .ref t5] ++ [.ref t6])) hmm
    generalize upd G9 mm (.lst ([V.ref t1, .ref t2, .ref t3, .ref t4, .ref t5] ++ [.ref t6])) = Ga at b10 x10 ⊢
    have u8 := (x8.trans x9).trans x10
    have u7 := x7.trans u8
    have u6 := x6.trans u7
    have u5 := x5.trans u6
    have u4 := x4.trans u5
    have u3 := x3.trans u4
    have u2 := x2.trans u3
    have u1 := x1.trans u2
    have hM : EvL Ga mm [(t1, ("get", "no")), (t2, ("get", "ok")), (t3, ("put", "ok")), (t4, ("read", "1")), (t5, ("read", "a")), (t6, ("set", "ok"))] := by
      refine ⟨b10, fun q m => ?_⟩
      have we : ∀ e ∈ E6, Wev e := e6_w
      simp only [List.mem_cons, List.not_mem_nil, or_false] at m
      rcases m with rfl | rfl | rfl | rfl | rfl | rfl
      · exact ⟨u2 _ _ b1, we _ (by simp [E6])⟩
      · exact ⟨u3 _ _ b2, we _ (by simp [E6])⟩
      · exact ⟨u4 _ _ b3, we _ (by simp [E6])⟩
      · exact ⟨u5 _ _ b4, we _ (by simp [E6])⟩
      · exact ⟨u6 _ _ b5, we _ (by simp [E6])⟩
      · exact ⟨(x9.trans x10) _ _ b8, we _ (by simp [E6])⟩
    have Fa := F1.same u1
    have sva := sv1.trans (Save.of (p := p) (c := c) u1)
    have mp : mm ≠ p := Ne.symm (ne_of_none ((F1.same (x1.trans (x2.trans (x3.trans (x4.trans (x5.trans (x6.trans (x7.trans (x8.trans x9))))))))).ob) hmm)
    have mc : mm ≠ c := Ne.symm (ne_of_none ((F1.same (x1.trans (x2.trans (x3.trans (x4.trans (x5.trans (x6.trans (x7.trans (x8.trans x9))))))))).cs) hmm)
    clear b1 b2 b3 b4 b5 b6 b7 b8 b9 b10 x1 x2 x3 x4 x5 x6 x7 x8 x9 x10 u1 u2 u3 u4 u5 u6 u7 u8
    refine ⟨mm, rfl, ⟨_, SqL.of hM.1⟩, fun D3 hD3 => lc_drop (m := 5) rfl rfl (by decide) (by decide) Fa (by omega) hM (by show 6 ≤ 20; decide) mp mc hD3 fun L3 ks3 n3 H3 Dp Dc F3 le3 sv3 hL3 sub3 len3 => ?_⟩
    have sub3' : (L3.map Prod.snd).Sublist E6 := sub3
    have l3 : L3.length ≤ 6 := len3
    have le3' : n3 ≤ n + 1 + 6 := le3
    refine ⟨by show 0 ≤ sizeLine; decide, fun fo hfo => ⟨_, _, rfl, ?_⟩⟩
    have fop : fo ≠ p := Ne.symm (ne_of_none F3.ob hfo)
    have foc : fo ≠ c := Ne.symm (ne_of_none F3.cs hfo)
    have n30 := F3.n0
    have sv13 := sva.trans sv3
    have y3 := same_new (o := .lst []) hfo
    have D3f : D3 ≠ fo := ne_of_none hL3.1 hfo
    have fo0 : H fo = none := by
      cases e : H fo with
      | none => rfl
      | some o => rw [sv13 _ _ e fop foc] at hfo; cases hfo
    refine ⟨_, rfl, 1 + d, rfl, by omega, by omega, for_range (lo := 0) (n := (1 + d).toNat) (fun j σ H4 => ∃ (o5 o6 : Option V) (ks' : List Int) (n' : Int) (vs : List V) (ss : List (List Stp)), σ = [some (.ref p), some (.int (1 + d)), some (.ref ml), some (.ref D3), some (.ref fo), o5, o6, none] ∧ FeedAt H4 p c ks' y n' ∧ n' ≤ n3 + 12 * (j : Int) ∧ Save p c H H4 ∧ EvL H4 D3 L3 ∧ H4 fo = some (.lst vs) ∧ TDs H4 vs (ss.map stateD) ∧ ss.length = j ∧ ∀ st ∈ ss, StOk (1 + d).toNat st ∧ ∀ x ∈ st, evOf x ∈ E6)
      ⟨none, none, ks3, n3, [], [], rfl, F3.same y3, by omega, sv13.wr fo0, hL3.to y3, upd_same, .nil, rfl, fun st m => nomatch m⟩ ?_ ?_⟩
    · rintro j σ H4 hj ⟨o5, o6, ks4, n4, vs, ss, rfl, F4, le4, sv4, hL4, f4, t4, sl, so⟩
      have n40 := F4.n0
      refine ⟨_, rfl, D3, rfl, ⟨_, SqL.of hL4.1⟩, fun D6 hD6 => lc_drop (m := 3) rfl rfl (by decide) (by decide) F4 (by omega) hL4 (by omega) Dp Dc hD6 fun L6 ks6 n6 H6 Dp6 Dc6 F6 le6 sv6 hL6 sub6 len6 => ?_⟩
      have f6 := sv6 _ _ f4 fop foc
      have sub36 := sub6.trans sub3'
      have hL36 := hL4.save F4 Dp Dc sv6
      have t6 := t4.to (Save.tup F4 sv6)
      have n60 := F6.n0
      have D6f : fo ≠ D6 := ne_of_none f4 hD6
      refine ⟨_, rfl, .inl ⟨rfl, _, SqL.of f6⟩, _, rfl, D6, rfl, ⟨_, SqL.of hL6.1⟩, fun D7 hD7 => lc_list (K := K) (a := D6) (xs := L6.map fun q => V.ref q.1) (fun g H7 => ∃ (ks' : List Int) (n' : Int) (vs2 : List V) (st : List Stp), FeedAt H7 p c ks' y n' ∧ n' ≤ n6 + (g : Int) ∧ Save p c H6 H7 ∧ H7 D7 = some (.lst vs2) ∧ TDs H7 vs2 (st.map stepD) ∧ st.map evOf = (L6.map Prod.snd).take g ∧ ∀ x ∈ st, StpOk (1 + d).toNat x)
        ⟨ks6, n6, [], [], F6.same (same_new hD7), by omega, Save.of (same_new hD7), upd_same, .nil, rfl, fun x m => nomatch m⟩ (fun g H7 _ ⟨_, _, _, _, _, _, s7, _⟩ => SqL.of (hL6.save F6 Dp6 Dc6 s7).1) (fun g x H7 ex ⟨ks7, n7, vs2, st, F7, le7, sv7, d7, t7, e7, ok7⟩ => ?_) fun H7 ⟨ks7, n7, vs2, st, F7, le7, sv7, d7, t7, e7, ok7⟩ => ?_⟩
      · rw [List.getElem?_map] at ex
        obtain ⟨q, eq, rfl⟩ := Option.map_eq_some_iff.mp ex
        have mq := List.mem_of_getElem? eq
        have lg := (List.getElem?_eq_some_iff.mp eq).1
        have tk : (L6.map Prod.snd).take (g + 1) = (L6.map Prod.snd).take g ++ [q.2] := by rw [List.take_succ, List.getElem?_map, eq]; rfl
        have np7 : D7 ≠ p := Ne.symm (ne_of_none F6.ob hD7)
        have nc7 : D7 ≠ c := Ne.symm (ne_of_none F6.cs hD7)
        have wq := (hL6.2 q mq).2
        have n70 := F7.n0
        refine ⟨rfl, _, rfl, _, rfl, _, rfl, p, c, ks7, y, n7, 1 + d, rfl, F7, by omega, by omega, by omega, fun i ks8 H8 i0 i1 F8 sv8 => ⟨by show 1 ≤ sizeLine; decide, fun tt htt => ?_⟩⟩
        have z8 := same_new (o := .tup [V.int i]) htt
        have b8 := upd_same (H := H8) (a := tt) (o := .tup [V.int i])
        have sv78 := (sv7.trans sv8).trans (Save.of (p := p) (c := c) z8)
        have d8 := z8 _ _ (sv8 _ _ d7 np7 nc7)
        have t8 := (t7.to (Save.tup F7 sv8)).to (Tup.of z8)
        have F9 := F8.same z8
        have hq := ((hL6.save F6 Dp6 Dc6 sv78).2 q mq).1
        generalize upd H8 tt (.tup [V.int i]) = H9 at z8 b8 sv78 d8 t8 F9 hq ⊢
        refine ⟨q.1, tt, _, _, rfl, rfl, hq, b8, by show 3 ≤ sizeLine; decide, fun r H10 z10 hr10 => ?_⟩
        have d10 := z10 _ _ d8
        have t10 := t8.to (Tup.of z10)
        have F10 := F9.same z10
        have tp : Tup H10 (upd H10 D7 (.lst (vs2 ++ [.ref r]))) := Tup.at_ d10 fun xs z => nomatch z
        have vl := t7.len
        have el := congrArg List.length e7
        rw [List.length_map] at vl
        rw [List.length_map, List.length_take, List.length_map] at el
        refine ⟨vs2, d10, small_lt (m := 24) (by omega), ks8, n7 + 1, vs2 ++ [.ref r], st ++ [(q.2.1, q.2.2, i)], F10.wr np7 nc7, by omega, fun b o e h1 h2 => ?_, upd_same, ?_, ?_, fun x mx => ?_⟩
        · rw [upd_ne fun z => by rw [z, hD7] at e; cases e]
          exact z10 _ _ (sv78 b o e h1 h2)
        · rw [List.map_append]
          exact TDs.snoc (.tup (tp _ _ hr10) (.cons (.str _) (.cons (.str _) (.cons (.int _) .nil)))) (t10.to tp)
        · rw [List.map_append, e7, tk]
          rfl
        · rcases List.mem_append.mp mx with mx | mx
          · exact ok7 x mx
          · rw [List.mem_singleton.mp mx]
            exact ⟨wq.1, wq.2, i0, by rw [Int.toNat_of_nonneg (by omega)]; exact i1⟩
      · rw [List.length_map] at le7
        rw [show (L6.map Prod.snd).take (L6.map fun q => V.ref q.1).length = L6.map Prod.snd from List.take_of_length_le (by rw [List.length_map, List.length_map]; exact Nat.le_refl _)] at e7
        have np7 : D7 ≠ p := Ne.symm (ne_of_none F6.ob hD7)
        have nc7 : D7 ≠ c := Ne.symm (ne_of_none F6.cs hD7)
        have vl := t7.len
        have el := congrArg List.length e7
        rw [List.length_map] at vl
        rw [List.length_map, List.length_map] at el
        have f7 := sv7 _ _ f6 fop foc
        have vlf := t4.len
        rw [List.length_map] at vlf
        refine ⟨D7, vs2, rfl, .inl ⟨SqL.of d7, fun b hb => ?_⟩⟩
        have sb := same_new (o := .tup vs2) hb
        have f9 := sb _ _ f7
        have tn : Tup H7 (upd H7 b (.tup vs2)) := Tup.of sb
        have t6_7 := (t6.to (Save.tup F6 sv7)).to tn
        have t7_9 := t7.to tn
        have b9 := upd_same (H := H7) (a := b) (o := .tup vs2)
        have hL9 := (hL36.save F6 Dp Dc sv7).to sb
        have F9 := F7.same sb
        have sv9 := (sv6.trans sv7).trans (Save.of (p := p) (c := c) sb)
        generalize upd H7 b (.tup vs2) = H9 at f9 tn t6_7 t7_9 b9 hL9 F9 sv9 ⊢
        have tp : Tup H9 (upd H9 fo (.lst (vs ++ [.ref b]))) := Tup.at_ f9 fun xs z => nomatch z
        refine ⟨fo, vs, _, rfl, rfl, f9, small_lt (m := 40) (by omega), _, _, ks7, n7, vs ++ [.ref b], ss ++ [st], rfl, F9.wr fop foc, by omega, fun b' o e h1 h2 => ?_, ⟨by rw [upd_ne D3f]; exact hL9.1, fun q m => ⟨tp _ _ (hL9.2 q m).1, (hL9.2 q m).2⟩⟩, upd_same, ?_, by rw [List.length_append, sl]; rfl, fun st' ms => ?_⟩
        · rw [upd_ne fun z => by rw [z, fo0] at e; cases e]
          exact sv9 _ _ (sv4 b' o e h1 h2) h1 h2
        · rw [List.map_append]
          exact TDs.snoc (.tup (tp _ _ b9) (t7_9.to tp)) (t6_7.to tp)
        · rcases List.mem_append.mp ms with ms | ms
          · exact so st' ms
          · rw [List.mem_singleton.mp ms]
            refine ⟨⟨ok7, by rw [e7]; exact List.Pairwise.sublist sub36 e6_asc, by omega⟩, fun x mx => sub36.subset (by rw [← e7]; exact List.mem_map.mpr ⟨x, mx, rfl⟩)⟩
    · rintro σ H4 ⟨o5, o6, ks4, n4, vs, ss, rfl, F4, le4, sv4, hL4, f4, t4, sl, so⟩
      refine ⟨_, rfl, fo, vs, rfl, .inl ⟨SqL.of f4, fun b hb => k b ss ks4 n4 _ (.tup upd_same (t4.to (Tup.new hb))) ⟨by omega, by omega, fun st m => ?_, E6, by decide, fun st m x mx => (so st m).2 x mx⟩ (F4.same (same_new hb)) (by omega) (sv4.trans (Save.of (same_new hb)))⟩⟩
      rw [sl]
      exact (so st m).1
end
end My

-- ===== KG3 =====
set_option Elab.async false
set_option linter.all false
set_option maxRecDepth 100000
set_option maxHeartbeats 4000000
namespace My
open PySem L2 PyProof.Rows PySem.Spec Kd TL
/-! ### the moves of the usual kinds -/
def numG (i : Int) : GV := .inl (.inl i)
def wsG (t : List Str) : GV := .inr (t.map Sum.inr)
def strsK (ks : List L2.Key) : List Str := ks.filterMap fun k => match k with
  | .inl _ => none
  | .inr x => some x
def stp (o a : Str) (g : GV) : GStp := (o, a, g)
def counterM (most : Int) : GV → List GStp
  | .inl (.inl h) => stp "read" (toString h : String) (numG h) :: ((if h < most then [stp "add" "ok" (numG (h + 1))] else []) ++ if h > 0 then [stp "sub" "ok" (numG (h - 1))] else [])
  | _ => []
def putM (most h a : Int) : GStp := if h + a > most then (("put" : Str) ++ ((toString a : String) : Str), "full", numG h) else (("put" : Str) ++ ((toString a : String) : Str), "ok", numG (h + a))
def takeM (h a : Int) : GStp := if h < a then (("take" : Str) ++ ((toString a : String) : Str), "no", numG h) else (("take" : Str) ++ ((toString a : String) : Str), "ok", numG (h - a))
def accountM (most : Int) (as : List Int) : GV → List GStp
  | .inl (.inl h) => as.map (putM most h) ++ as.map (takeM h)
  | _ => []
def ticketsM (most : Int) : GV → List GStp
  | .inl (.inl g) => if g < most then [stp "next" (toString (g + 1) : String) (numG (g + 1))] else []
  | _ => []
def permitsM (many : Int) : GV → List GStp
  | .inl (.inl o) => (if o < many then [stp "get" "ok" (numG (o + 1))] else []) ++ if o > 0 then [stp "back" "ok" (numG (o - 1))] else []
  | _ => []
def holderM (places : Nat) (ws : List Str) (put : List Str → Str → List Str) (take : List Str → List Str) : GV → List GStp
  | .inr ks => (take (strsK ks)).map (fun w => stp "take" w (wsG ((strsK ks).erase w))) ++ if (strsK ks).length = places then [] else ws.map fun w => stp (("put" : Str) ++ w) "ok" (wsG (put (strsK ks) w))
  | _ => []
def firstT (t : List Str) : List Str := t.take 1
def behindT (t : List Str) (w : Str) : List Str := t ++ [w]
def aheadT (t : List Str) (w : Str) : List Str := w :: t
/-! ### a look at them all -/
instance (z : Str) : Decidable (Wrd z) := by unfold Wrd; infer_instance
def mvB (mv : GV → List GStp) (Dom : List GV) (es : List (Str × Str)) (b : Bool) : Bool :=
  decide (Dom.length ≤ 40) && (decide (es.length ≤ 24) && (Dom.all (fun g => (mv g).all fun x => decide (x.2.2 ∈ Dom) && (decide (Wrd x.1) && (decide (Wrd x.2.1) && decide (gev x ∈ es)))) && (Dom.all (fun g => decide ((mv g).map gev).Nodup) && (Dom.all (fun g => Dom.all fun h => PySem.W.alike (gD g) (gD h)) && Dom.all fun g => isT g == b))))
theorem mv_by {mv : GV → List GStp} {Dom : List GV} {es : List (Str × Str)} {b : Bool} (h : mvB mv Dom es b = true) : MvOk mv Dom es ∧ ∀ g ∈ Dom, isT g = b := by
  unfold mvB at h
  simp only [Bool.and_eq_true, decide_eq_true_eq, List.all_eq_true, beq_iff_eq] at h
  obtain ⟨h1, h2, h3, h4, h5, h6⟩ := h
  exact ⟨⟨h1, h2, fun g hg x hx => h3 g hg x hx, h4, h5⟩, h6⟩
def evsG (mv : GV → List GStp) (Dom : List GV) : List (Str × Str) := (Dom.flatMap fun g => (mv g).map gev).eraseDups
def numsG (m : Nat) : List GV := (List.range (m + 1)).map fun (i : Nat) => numG (Int.ofNat i)
example : mvB (counterM 3) (numsG 3) (evsG (counterM 3) (numsG 3)) false = true := by decide +kernel
example : mvB (accountM 3 [1, 2]) (numsG 3) (evsG (accountM 3 [1, 2]) (numsG 3)) false = true := by decide +kernel
example : mvB (permitsM 6) (numsG 6) (evsG (permitsM 6) (numsG 6)) false = true := by decide +kernel
def tupsG (ws : List Str) : Nat → List (List Str)
  | 0 => [[]]
  | n + 1 => [] :: (tupsG ws n).flatMap fun t => ws.map fun w => w :: t
def holdG (ws : List Str) (n : Nat) : List GV := ((tupsG ws n).map wsG).eraseDups
example : mvB (holderM 3 ["a", "b"] behindT firstT) (holdG ["a", "b"] 3) (evsG (holderM 3 ["a", "b"] behindT firstT) (holdG ["a", "b"] 3)) true = true := by decide +kernel
end My

-- ===== KG4 =====
set_option Elab.async false
set_option linter.all false
set_option maxRecDepth 100000
set_option maxHeartbeats 4000000
namespace My
open PySem L2 PyProof.Rows PySem.Spec Kd TL LamX NdefX StX ClX
theorem PE.wkG {X : Cx} {e : Expr} {t u : TE} (h : PE X e t) (k : ∀ σ H Q, u σ H Q → t σ H Q) : PE X e u := ⟨fun pins s σ H Q I q => h.run pins s σ H Q I (k σ H Q q)⟩
theorem PS.wkG {X : Cx} {st : Stmt} {t u : TS} (h : PS X st t) (k : ∀ D σ H, u D σ H → t D σ H) : PS X st u := ⟨fun pins s σ H D I q => h.run pins s σ H D I (k D σ H q)⟩
/-! ### steps under way -/
structure Gst (H : Hp) (l : Addr) (L : List (Addr × GStp)) : Prop where
  lst : H l = some (.lst (L.map fun q => V.ref q.1))
  at_ : ∀ q ∈ L, GSt H q.1 q.2
theorem Gst.add {H : Hp} {l t : Addr} {L : List (Addr × GStp)} {x : GStp} {u : V} (h : Gst H l L) (ht : H t = none) (hu : GAt H u x.2.2) :
    Gst (upd (upd H t (.tup [.str x.1, .str x.2.1, u])) l (.lst ((L.map fun q => V.ref q.1) ++ [.ref t]))) l (L ++ [(t, x)]) := by
  have ne : t ≠ l := fun z => by rw [z, h.lst] at ht; cases ht
  have t1 : TF H (upd H t (.tup [.str x.1, .str x.2.1, u])) := TF.new ht
  have t2 : TF (upd H t (.tup [.str x.1, .str x.2.1, u])) (upd (upd H t (.tup [.str x.1, .str x.2.1, u])) l (.lst ((L.map fun q => V.ref q.1) ++ [.ref t]))) := TF.lst (xs := L.map fun q => V.ref q.1) (by rw [upd_ne (Ne.symm ne)]; exact h.lst)
  refine ⟨by rw [upd_same, List.map_append]; rfl, fun q m => ?_⟩
  rcases List.mem_append.mp m with m | m
  · exact (h.at_ q m).to (t1.trans t2)
  · rw [List.mem_singleton.mp m]
    exact ⟨u, by rw [upd_ne ne, upd_same], hu.to (t1.trans t2)⟩
theorem Gst.less {H H' : Hp} {l : Addr} {L : List (Addr × GStp)} (h : Gst H l L) (s : Same H H') : Gst H' l L := ⟨s _ _ h.lst, fun q m => (h.at_ q m).to (TF.of s)⟩
/-- all but one address -/
theorem but_add {H : Hp} {l t : Addr} {o o' : HO} (ht : H t = none) : But l H (upd (upd H t o) l o') := fun b u e ne => by
  rw [upd_ne ne, upd_ne (ne_of_none e ht)]
  exact e
theorem But.trans {o : Addr} {H H1 H2 : Hp} (a : But o H H1) (b : But o H1 H2) : But o H H2 := fun x u e ne => b x u (a x u e ne) ne
theorem But.same {l : Addr} {H H1 H2 : Hp} (a : Same H H1) (b : But l H1 H2) (n : H l = none) : Same H H2 := fun x u e => b x u (a x u e) (ne_of_none e n)
/-! ### _grown, called with a function that the frame has made -/
def tGrown (P : Program) (w : World) (K : PySem.W.Frag) (mg : Str → Option Value) (base : Heap) (C : Addr) (nm : Str) (mk : Addr → NF) (fr : List Str) (js : List Nat) (spF : List (Option V) → Sp) : L2.St → List V → Hp → VK → Prop := fun σ vs H Q => ∃ (v0 : V) (fm c' : Addr) (g0 : GV) (mv : GV → List GStp) (Dom : List GV) (es : List (Str × Str)) (b : Bool),
  vs = [v0, .ref fm] ∧ GAt H v0 g0 ∧ g0 ∈ Dom ∧ MvOk mv Dom es ∧ (∀ g ∈ Dom, isT g = b) ∧ H fm = some (FnO fm (mk c')) ∧ H c' = some (CodeO c' (mk c').qual) ∧ NOk P w K mg base CX0 3 fm (mk c') [nm] fr spF ∧ (∀ vs H1 Q E, Same H H1 → spMv mv Dom vs H1 Q E → spF (js.map (slotAt σ)) vs H1 Q E) ∧
  ∀ u vals ls H', Same H H' → KindAt C H' u ls → Grown mv g0 vals ls → Q u H'
section
variable {X : Cx} {C f : Addr} {fd : FuncData} {nm : Str} {E : XK} {p pos : Pos} {e : Expr} {es : List Expr} {t : TA} {mk : Addr → NF} {fr : List Str} {js : List Nat} {spF : List (Option V) → Sp}
theorem pe_grown (F : FnS X.prog X.w X.K X.mg X.base CX0 7 f fd ["first", "moves"] (spGrown X.prog X.w X.K X.mg X.base C nm)) (hmk : ∀ c', (mk c').c = c') (cp : X.Ok → ∀ c', Caps X (mk c').cl fr js) (hfn : ∀ x, X.fn x = true) (hr : Room 7 X.A) (hg : Gl X "_grown") (hm : X.mg "_grown" = some (.ref f)) (hk : PySem.W.keepIn X.K (.ref f) = true) (hb : Binds X.K fd ["first", "moves"] []) (hx : Passes CX0 X E)
    (ha : PA X (e :: es) t) (he : starEach (e :: es) X.env = (false, eval e X.env) :: starEach es X.env := by rfl) (hpl : (backTo pos (starEach es X.env)).any (·.1) = false := by rfl) :
    PE X (.Call (.Name "_grown" p) (e :: es) [] pos) (fun σ H Q => t σ H fun vs H1 => tGrown X.prog X.w X.K X.mg X.base C nm mk fr js spF σ vs H1 Q) := by
  refine pe_callH (T := tGrown X.prog X.w X.K X.mg X.base C nm mk fr js spF) F (fun {pins σ H s vs Q} I h => ?_) hr hg hm hk hb hx ha (by decide) he hpl
  obtain ⟨v0, fm, c', g0, mv, Dom, es, b, rfl, h1, h2, h3, h4, h5, h6, h7, h8, k⟩ := h
  exact ⟨v0, fm, mk c', fr, js.map (slotAt σ), spF, g0, mv, Dom, es, b, rfl, h1, h2, h3, h4, cloAt_of I (cp I.ok c') hfn h5 (by rw [hmk]; exact h6), h7, h8, k⟩
end
end My

-- ===== KG5 =====
set_option Elab.async false
set_option linter.all false
set_option maxRecDepth 100000
set_option maxHeartbeats 4000000
namespace My
open PySem L2 PyProof.Rows PySem.Spec Kd TL LamX NdefX StX ClX
abbrev sCkNum : Stmt := top 44
def inDef (st : Stmt) (i : Nat) : Stmt := (defBody st).getD i (.Pass ⟨0, 0, 0, 0⟩)
/-- _check_number(thing, least), where nothing is raised -/
def spCkNum : Sp := fun vs H Q _ => ∃ i l : Int, vs = [.int i, .int l] ∧ 0 ≤ i ∧ l ≤ i ∧ ∀ H', Same H H' → Q .non H'
theorem ite_T {c : Bool} [d : Decidable (c = true)] {a b : Prop} (h : c = true) (x : a) : @ite Prop (c = true) d a b := by
  rw [if_pos h]
  exact x
theorem ite_F {c : Bool} [d : Decidable (c = true)] {a b : Prop} (h : c = false) (x : b) : @ite Prop (c = true) d a b := by
  rw [if_neg (by rw [h]; decide)]
  exact x
section
variable {P : Program} {w : World} {K : PySem.W.Frag} {mg : Str → Option Value} {base : Heap} {C : Addr}
theorem scCn : FnScope ["thing", "least"] ["thing", "least"] (defScope sCkNum) := ⟨rfl, rfl, rfl, by decide +kernel, rfl, by decide +kernel, by decide +kernel⟩
theorem ok_cknum {f fN : Addr} {fd fdN : FuncData} (F : Fun K "_check_number" "_check_number" sCkNum f fd)
    (GN : FnOk P w K mg base CX0 1 fN fdN ["thing"] spNumber) (mN : mg "is_number" = some (.ref fN)) (kN : PySem.W.keepIn K (.ref fN) = true) (bN : Binds K fdN ["thing"] []) :
    FnOk P w K mg base CX0 2 f fd ["thing", "least"] spCkNum := by
  refine F.ok scCn (fun vs H Q E h => ?_) (fun cdv A outer s H vs Q E hr h => ?_)
  · obtain ⟨i, l, rfl, _⟩ := h
    rfl
  · obtain ⟨i, l, rfl, h0, hl, k⟩ := h
    refine ⟨_, pss_one (ps_if (PW.pt (pw_or (pt_not (pt_val (pe_call GN hr (by rfl) mN kN bN .nil pass0 (pa_cons (pv 0) pa_nil)))) (pw_or1 (pt_cmp (pc_lt (pv 0) (pv 1)))))) (pss_one ps_never) pss_nil), ?_⟩
    refine ⟨_, rfl, i, rfl, h0, _, rfl, _, rfl, _, rfl, _, _, rfl, rfl, _, rfl, ?_⟩
    exact ite_F (decide_eq_false (show ¬ i < l by omega)) (k H (Same.refl H))
end
/-! ### permits -/
abbrev sPermits : Stmt := top 43
abbrev sPmv : Stmt := inDef sPermits 1
/-- what the function made answers, of what its cells hold -/
def spMv1 (mk : Int → GV → List GStp) : List (Option V) → Sp := fun ws vs H Q _ => ∃ i m : Int, ws = [some (.int m)] ∧ vs = [.int i] ∧ 0 ≤ i ∧ i < 1000 ∧ ∀ (l : Addr) (L : List (Addr × GStp)) (H' : Hp), Same H H' → Gst H' l L → L.map Prod.snd = mk m (numG i) → Q (.ref l) H'
abbrev nPm : List Str := ["out", "many", "steps"]
def uPm (c : Int → Int → Bool) (x : Int → GStp) : TS := fun D σ H => ∃ (i m : Int) (l : Addr) (L : List (Addr × GStp)), σ = [some (.int i), some (.int m), some (.ref l)] ∧ Gst H l L ∧ L.length ≤ 10 ∧
  ∀ (H' : Hp) (L' : List (Addr × GStp)), But l H H' → Gst H' l L' → L'.map Prod.snd = L.map Prod.snd ++ (if c i m = true then [x i] else []) → D.nx σ H'
section
variable {P : Program} {w : World} {K : PySem.W.Frag} {mg : Str → Option Value} {base : Heap} {C : Addr}
theorem nok_permits {f c : Addr} {cl : List (Str × Addr)} {q : Str} : NOk P w K mg base CX0 1 f (NF.of sPmv "moves" q cl c) ["out"] ["many"] (spMv1 permitsM) := by
  have S : NScope nPm ["out"] ["many"] (NF.of sPmv "moves" q cl c).scope := (nscope_by (by decide +kernel) : NScope nPm ["out"] ["many"] (C8.fnScope sPmv))
  refine nok_of (N := nPm) S (fun doc pm ctv us hl => ?_) (fun ws vs H Q E h => ?_) (fun A outer s H vs ws Q E hr hf hc lw h => ?_)
  · obtain ⟨u, rfl⟩ : ∃ u, us = [u] := by
      match us, hl with
      | [u], _ => exact ⟨u, rfl⟩
    rfl
  · obtain ⟨i, m, _, rfl, _⟩ := h
    rfl
  · obtain ⟨i, m, rfl, rfl, i0, i1, k⟩ := h
    refine ⟨_, pss_cons (ps_set (i := 2) S.nd rfl (Or.inl rfl) (pe_lst pa_nil))
      (pss_cons (PS.wkG (u := uPm (fun i m => decide (i < m)) fun i => stp "get" "ok" (numG (i + 1))) (ps_if (pt_cmp (pc_lt (pv 0) (pv 1))) (pss_one (ps_expr (pe_bm PySem.F.plainAttrs_list PySem.F.slot_list_append PySem.F.type_list_append mt_append (pv 2) (pa_cons (pe_tup (pa_cons pe_str (pa_cons pe_str (pa_cons (pe_op op_add (pv 0) pe_int) pa_nil)))) pa_nil)))) pss_nil) fun D σ H hq => ?_)
      (pss_cons (PS.wkG (u := uPm (fun i m => decide (0 < i)) fun i => stp "back" "ok" (numG (i - 1))) (ps_if (pt_cmpR op_gt (pv 0) pe_int (nomark _)) (pss_one (ps_expr (pe_bm PySem.F.plainAttrs_list PySem.F.slot_list_append PySem.F.type_list_append mt_append (pv 2) (pa_cons (pe_tup (pa_cons pe_str (pa_cons pe_str (pa_cons (pe_op op_sub (pv 0) pe_int) pa_nil)))) pa_nil)))) pss_nil) fun D σ H hq => ?_)
      (pss_one (ps_ret (pv 2))))), ?_⟩
    · obtain ⟨i, m, l, L, rfl, hL, few, kk⟩ := hq
      refine ⟨_, rfl, _, rfl, _, _, rfl, rfl, _, rfl, ?_⟩
      by_cases h1 : i < m
      · refine ite_T (decide_eq_true h1) ⟨_, rfl, .inl ⟨rfl, _, SqL.of hL.lst⟩, _, rfl, _, _, rfl, rfl, small_len (m := 3) (Nat.le_refl _), fun t ht => ⟨l, _, _, rfl, rfl, by rw [upd_ne (ne_of_none hL.lst ht)]; exact hL.lst, small_lt (m := 10) (by rw [List.length_map]; exact few), ?_⟩⟩
        refine kk _ _ (but_add ht) (Gst.add (x := stp "get" "ok" (numG (i + 1))) hL ht rfl) ?_
        rw [List.map_append, if_pos (decide_eq_true h1)]
        rfl
      · refine ite_F (decide_eq_false h1) (kk _ L (fun b u e _ => e) hL ?_)
        rw [if_neg (fun z => h1 (of_decide_eq_true z)), List.append_nil]
    · obtain ⟨i, m, l, L, rfl, hL, few, kk⟩ := hq
      refine ⟨_, rfl, _, _, rfl, rfl, _, rfl, ?_⟩
      by_cases h1 : 0 < i
      · refine ite_T (decide_eq_true h1) ⟨_, rfl, .inl ⟨rfl, _, SqL.of hL.lst⟩, _, rfl, _, _, rfl, rfl, small_len (m := 3) (Nat.le_refl _), fun t ht => ⟨l, _, _, rfl, rfl, by rw [upd_ne (ne_of_none hL.lst ht)]; exact hL.lst, small_lt (m := 10) (by rw [List.length_map]; exact few), ?_⟩⟩
        refine kk _ _ (but_add ht) (Gst.add (x := stp "back" "ok" (numG (i - 1))) hL ht rfl) ?_
        rw [List.map_append, if_pos (decide_eq_true h1)]
        rfl
      · refine ite_F (decide_eq_false h1) (kk _ L (fun b u e _ => e) hL ?_)
        rw [if_neg (fun z => h1 (of_decide_eq_true z)), List.append_nil]
    · refine ⟨by show 0 ≤ sizeLine; decide, fun l hl => ?_⟩
      refine ⟨i, m, l, [], rfl, ⟨upd_same, fun q m => by cases m⟩, by decide, fun H1 L1 b1 g1 e1 => ?_⟩
      refine ⟨i, m, l, L1, rfl, g1, ?_, fun H2 L2 b2 g2 e2 => ?_⟩
      · have z := congrArg List.length e1
        rw [List.length_map] at z
        rw [z]
        by_cases h1 : i < m <;> simp [h1]
      · refine ⟨_, rfl, k l L2 H2 (But.same (same_new hl) (b1.trans b2) hl) g2 ?_⟩
        rw [e2, e1]
        show _ = (if i < m then [stp "get" "ok" (numG (i + 1))] else []) ++ if i > 0 then [stp "back" "ok" (numG (i - 1))] else []
        by_cases h1 : i < m <;> by_cases h2 : 0 < i <;> simp [h1, h2]
/-- a builder of one number -/
def spB1 (T : List NTab) (mk : Int → GV → List GStp) (C : Addr) : Sp := fun vs H Q _ => ∃ (m : Int) (Dom : List GV) (es : List (Str × Str)), vs = [.int m] ∧ 0 ≤ m ∧ MvOk (mk m) Dom es ∧ (∀ g ∈ Dom, ∃ i : Int, g = numG i ∧ 0 ≤ i ∧ i < 1000) ∧ numG 0 ∈ Dom ∧ TabsN T H ∧
  ∀ u vals ls H', ExtN H H' → TabsN T H' → KindAt C H' u ls → Grown (mk m) (numG 0) vals ls → Q u H'
theorem mv1_imp {mk : Int → GV → List GStp} {m : Int} {Dom : List GV} (nums : ∀ g ∈ Dom, ∃ i : Int, g = numG i ∧ 0 ≤ i ∧ i < 1000) {vs : List V} {H : Hp} {Q : VK} {E : XK} (h : spMv (mk m) Dom vs H Q E) : spMv1 mk [some (.int m)] vs H Q E := by
  obtain ⟨v, g, rfl, hv, hg, k⟩ := h
  obtain ⟨i, rfl, i0, i1⟩ := nums g hg
  obtain rfl : v = .int i := hv
  exact ⟨i, m, rfl, rfl, i0, i1, fun l L H' s G e => k l L H' s G.lst e G.at_⟩
abbrev nPt : List Str := ["many", "moves"]
theorem scPm : FnScope nPt ["many"] (defScope sPermits) := ⟨rfl, rfl, rfl, by decide +kernel, rfl, by decide +kernel, by decide +kernel⟩
theorem ndPm : ndefB (defScope sPermits) (C8.fnScope sPmv) ["many"] = true := by decide +kernel
abbrev qPm : Str := "permits.<locals>.moves"
theorem ok_permits {T : List NTab} {f c Pt fC fG : Addr} {fdC fdG : FuncData} {oc kV doc pm ct : Value} {od an : Option Addr} {osl : Array (Option Value)}
    (lk : K.lookup f = some ⟨oc, od, .func (PySem.W.fnOf "permits" "permits" (defArgs sPermits) (defBody sPermits) (defScope sPermits) .none kV doc pm an (.ref c) ct), osl⟩) (hcd : PySem.W.codeIn K (.ref c) "permits" = true)
    (TB : LamX.TabB base mg c Pt) (hm : (Pt, fun _ _ => qPm) ∈ T) (hu : ∀ p ∈ T, p.1 = Pt → p.2 = fun _ _ => qPm)
    (GC : FnOk P w K mg base CX0 2 fC fdC ["thing", "least"] spCkNum) (mC : mg "_check_number" = some (.ref fC)) (kC : PySem.W.keepIn K (.ref fC) = true) (bC : Binds K fdC ["thing", "least"] [])
    (GG : FnS P w K mg base CX0 7 fG fdG ["first", "moves"] (spGrown P w K mg base C "out")) (mG : mg "_grown" = some (.ref fG)) (kG : PySem.W.keepIn K (.ref fG) = true) (bG : Binds K fdG ["first", "moves"] []) :
    FnOk P w K mg base CX0 8 f (PySem.W.fnOf "permits" "permits" (defArgs sPermits) (defBody sPermits) (defScope sPermits) .none kV doc pm an (.ref c) ct) ["many"] (spB1 T permitsM C) := by
  refine fn_of lk hcd scPm (fun vs H Q E h => ?_) (fun A outer s H vs Q E hr h => ?_)
  · obtain ⟨m, _, _, rfl, _⟩ := h
    rfl
  · obtain ⟨m, Dom, es, rfl, m0, MO, nums, zero, tb, k⟩ := h
    have hr2 := hr.mono (show 2 ≤ 7 by omega)
    refine ⟨_, pss_cons (ps_expr (pe_call GC hr2 (by rfl) mC kC bC .nil pass0 (pa_cons (pv 0) (pa_cons pe_int pa_nil))))
      (pss_cons (ps_ndefS (T := T) (nm := fun _ _ => qPm) (st := sPmv) (name := "moves") (i := 1) rfl TB rfl hm rfl hu (ndef_free (sc := defScope sPermits) ndPm) rfl rfl rfl scPm.nd rfl (Or.inl rfl) (Or.inl rfl))
      (pss_one (ps_ret (pe_grown (mk := NF.of sPmv "moves" qPm (cloFrom (envOfC "permits" (defScope sPermits) s.heap.objs.size f (.ref c)).cells (C8.fnScope sPmv).names [])) (fr := ["many"]) (js := [0]) (spF := spMv1 permitsM) GG (fun _ => rfl) (fun ok c' => Caps.made ok (ndef_free (sc := defScope sPermits) ndPm) (ndef_fr ndPm) rfl) (fun _ => rfl) hr (by rfl) mG kG bG pass0 (pa_cons pe_int (pa_cons (pv 1) pa_nil)))))), ?_⟩
    refine ⟨_, rfl, m, 0, rfl, m0, m0, fun H1 s1 => ?_⟩
    refine ⟨fun p mp => (tb p mp).ext s1, fun fm c' H2 e2 t2 n2 hf2 hc2 => ?_⟩
    refine ⟨_, rfl, .int 0, fm, c', numG 0, permitsM m, Dom, es, false, rfl, rfl, zero, MO, fun g hg => ?_, hf2, hc2, nok_permits.mono (by decide), fun vs H3 Q E s3 h => mv1_imp nums h, fun u vals ls H3 s3 ka gr => ?_⟩
    · obtain ⟨i, rfl, _⟩ := nums g hg
      rfl
    · exact k u vals ls H3 (((ExtN.of s1).trans e2).trans (ExtN.of s3)) (fun p mp => (t2 p mp).ext s3) ka gr
end
end My

-- ===== KG6 =====
set_option Elab.async false
set_option linter.all false
set_option maxRecDepth 100000
set_option maxHeartbeats 4000000
namespace My
open PySem L2 PyProof.Rows PySem.Spec Kd TL LamX NdefX StX ClX
theorem log_small {i : Int} (h0 : 0 ≤ i) (h1 : i ≤ 1000) : i.natAbs.log2 < 1920 := by
  have h : i.natAbs ≤ 1000 := by omega
  by_cases z : i.natAbs = 0
  · rw [z]
    decide
  · have q := (Nat.log2_lt (k := 10) z).mpr (by omega)
    omega

/-! ### counter -/
abbrev sCo : Stmt := top 37
abbrev sCom : Stmt := inDef sCo 1
theorem ndCo : ndefB (defScope sCo) (C8.fnScope sCom) ["most"] = true := by decide +kernel
abbrev qCo : Str := "counter.<locals>.moves"
abbrev nCo : List Str := ["most", "moves"]
section
variable {P : Program} {w : World} {K : PySem.W.Frag} {mg : Str → Option Value} {base : Heap} {C : Addr}
theorem scCo : FnScope nCo ["most"] (defScope sCo) := ⟨rfl, rfl, rfl, by decide +kernel, rfl, by decide +kernel, by decide +kernel⟩
theorem nok_counter {f c : Addr} {cl : List (Str × Addr)} {q : Str} (mstr : mg "str" = none) : NOk P w K mg base CX0 1 f (NF.of sCom "moves" q cl c) ["held"] ["most"] (spMv1 counterM) := by
  have S : NScope ["held", "most", "steps"] ["held"] ["most"] (NF.of sCom "moves" q cl c).scope := (nscope_by (by decide +kernel) : NScope ["held", "most", "steps"] ["held"] ["most"] (C8.fnScope sCom))
  refine nok_of (N := ["held", "most", "steps"]) S (fun doc pm ctv us hl => ?_) (fun ws vs H Q E h => ?_) (fun A outer s H vs ws Q E hr hf hc lw h => ?_)
  · obtain ⟨u, rfl⟩ : ∃ u, us = [u] := by
      match us, hl with
      | [u], _ => exact ⟨u, rfl⟩
    rfl
  · obtain ⟨i, m, _, rfl, _⟩ := h
    rfl
  · obtain ⟨i, m, rfl, rfl, i0, i1, k⟩ := h
    refine ⟨_, pss_cons (ps_set (i := 2) S.nd rfl (Or.inl rfl) (pe_lst (pa_cons (pe_tup (pa_cons pe_str (pa_cons (pe_callTy call_str_int (by rfl) mstr (by decide +kernel) (pa_cons (pv 0) pa_nil)) (pa_cons (pv 0) pa_nil)))) pa_nil)))
      (pss_cons (PS.wkG (u := uPm (fun i m => decide (i < m)) fun i => stp "add" "ok" (numG (i + 1))) (ps_if (pt_cmp (pc_lt (pv 0) (pv 1))) (pss_one (ps_expr (pe_bm PySem.F.plainAttrs_list PySem.F.slot_list_append PySem.F.type_list_append mt_append (pv 2) (pa_cons (pe_tup (pa_cons pe_str (pa_cons pe_str (pa_cons (pe_op op_add (pv 0) pe_int) pa_nil)))) pa_nil)))) pss_nil) fun D σ H hq => ?_)
      (pss_cons (PS.wkG (u := uPm (fun i m => decide (0 < i)) fun i => stp "sub" "ok" (numG (i - 1))) (ps_if (pt_cmpR op_gt (pv 0) pe_int (nomark _)) (pss_one (ps_expr (pe_bm PySem.F.plainAttrs_list PySem.F.slot_list_append PySem.F.type_list_append mt_append (pv 2) (pa_cons (pe_tup (pa_cons pe_str (pa_cons pe_str (pa_cons (pe_op op_sub (pv 0) pe_int) pa_nil)))) pa_nil)))) pss_nil) fun D σ H hq => ?_)
      (pss_one (ps_ret (pv 2))))), ?_⟩
    · obtain ⟨i, m, l, L, rfl, hL, few, kk⟩ := hq
      refine ⟨_, rfl, _, rfl, _, _, rfl, rfl, _, rfl, ?_⟩
      by_cases h1 : i < m
      · refine ite_T (decide_eq_true h1) ⟨_, rfl, .inl ⟨rfl, _, SqL.of hL.lst⟩, _, rfl, _, _, rfl, rfl, small_len (m := 3) (Nat.le_refl _), fun t ht => ⟨l, _, _, rfl, rfl, by rw [upd_ne (ne_of_none hL.lst ht)]; exact hL.lst, small_lt (m := 10) (by rw [List.length_map]; exact few), ?_⟩⟩
        refine kk _ _ (but_add ht) (Gst.add (x := stp "add" "ok" (numG (i + 1))) hL ht rfl) ?_
        rw [List.map_append, if_pos (decide_eq_true h1)]
        rfl
      · refine ite_F (decide_eq_false h1) (kk _ L (fun b u e _ => e) hL ?_)
        rw [if_neg (fun z => h1 (of_decide_eq_true z)), List.append_nil]
    · obtain ⟨i, m, l, L, rfl, hL, few, kk⟩ := hq
      refine ⟨_, rfl, _, _, rfl, rfl, _, rfl, ?_⟩
      by_cases h1 : 0 < i
      · refine ite_T (decide_eq_true h1) ⟨_, rfl, .inl ⟨rfl, _, SqL.of hL.lst⟩, _, rfl, _, _, rfl, rfl, small_len (m := 3) (Nat.le_refl _), fun t ht => ⟨l, _, _, rfl, rfl, by rw [upd_ne (ne_of_none hL.lst ht)]; exact hL.lst, small_lt (m := 10) (by rw [List.length_map]; exact few), ?_⟩⟩
        refine kk _ _ (but_add ht) (Gst.add (x := stp "sub" "ok" (numG (i - 1))) hL ht rfl) ?_
        rw [List.map_append, if_pos (decide_eq_true h1)]
        rfl
      · refine ite_F (decide_eq_false h1) (kk _ L (fun b u e _ => e) hL ?_)
        rw [if_neg (fun z => h1 (of_decide_eq_true z)), List.append_nil]
    · refine ⟨_, rfl, i, rfl, log_small i0 (by omega), _, rfl, small_len (m := 3) (Nat.le_refl _), fun t ht => ?_⟩
      refine ⟨small_len (m := 1) (Nat.le_refl _), fun l hl => ?_⟩
      have ht0 : (upd (upd H t (.tup [.str "read", .str ((toString i : String) : Str), .int i])) l (.lst [.ref t])) t = some (.tup [.str "read", .str ((toString i : String) : Str), .int i]) := by
        rw [upd_ne (fun z => by rw [← z, upd_same] at hl; cases hl), upd_same]
      have s1 : Same H (upd H t (.tup [.str "read", .str ((toString i : String) : Str), .int i])) := same_new ht
      refine ⟨i, m, l, [(t, stp "read" ((toString i : String) : Str) (numG i))], rfl, ⟨upd_same, fun q mq => by rw [List.mem_singleton.mp mq]; exact ⟨_, ht0, rfl⟩⟩, by show (1 : Nat) ≤ 10; decide, fun H1 L1 b1 g1 e1 => ?_⟩
      refine ⟨i, m, l, L1, rfl, g1, ?_, fun H2 L2 b2 g2 e2 => ?_⟩
      · have z := congrArg List.length e1
        rw [List.length_map] at z
        rw [z]
        by_cases h1 : i < m <;> simp [h1]
      · refine ⟨_, rfl, k l L2 H2 (But.same (s1.trans (same_new hl)) (b1.trans b2) (s1.free hl)) g2 ?_⟩
        rw [e2, e1]
        show _ = stp "read" ((toString i : String) : Str) (numG i) :: ((if i < m then [stp "add" "ok" (numG (i + 1))] else []) ++ if i > 0 then [stp "sub" "ok" (numG (i - 1))] else [])
        by_cases h1 : i < m <;> by_cases h2 : 0 < i <;> simp [h1, h2]
theorem ok_counter {T : List NTab} {f c Pt fC fG : Addr} {fdC fdG : FuncData} {oc kV doc pm ct : Value} {od an : Option Addr} {osl : Array (Option Value)}
    (lk : K.lookup f = some ⟨oc, od, .func (PySem.W.fnOf "counter" "counter" (defArgs sCo) (defBody sCo) (defScope sCo) .none kV doc pm an (.ref c) ct), osl⟩) (hcd : PySem.W.codeIn K (.ref c) "counter" = true) (mstr : mg "str" = none)
    (TB : LamX.TabB base mg c Pt) (hm : (Pt, fun _ _ => qCo) ∈ T) (hu : ∀ p ∈ T, p.1 = Pt → p.2 = fun _ _ => qCo)
    (GC : FnOk P w K mg base CX0 2 fC fdC ["thing", "least"] spCkNum) (mC : mg "_check_number" = some (.ref fC)) (kC : PySem.W.keepIn K (.ref fC) = true) (bC : Binds K fdC ["thing", "least"] [])
    (GG : FnS P w K mg base CX0 7 fG fdG ["first", "moves"] (spGrown P w K mg base C "held")) (mG : mg "_grown" = some (.ref fG)) (kG : PySem.W.keepIn K (.ref fG) = true) (bG : Binds K fdG ["first", "moves"] []) :
    FnOk P w K mg base CX0 8 f (PySem.W.fnOf "counter" "counter" (defArgs sCo) (defBody sCo) (defScope sCo) .none kV doc pm an (.ref c) ct) ["most"] (spB1 T counterM C) := by
  refine fn_of lk hcd scCo (fun vs H Q E h => ?_) (fun A outer s H vs Q E hr h => ?_)
  · obtain ⟨m, _, _, rfl, _⟩ := h
    rfl
  · obtain ⟨m, Dom, es, rfl, m0, MO, nums, zero, tb, k⟩ := h
    have hr2 := hr.mono (show 2 ≤ 7 by omega)
    refine ⟨_, pss_cons (ps_expr (pe_call GC hr2 (by rfl) mC kC bC .nil pass0 (pa_cons (pv 0) (pa_cons pe_int pa_nil))))
      (pss_cons (ps_ndefS (T := T) (nm := fun _ _ => qCo) (st := sCom) (name := "moves") (i := 1) rfl TB rfl hm rfl hu (ndef_free (sc := defScope sCo) ndCo) rfl rfl rfl scCo.nd rfl (Or.inl rfl) (Or.inl rfl))
      (pss_one (ps_ret (pe_grown (mk := NF.of sCom "moves" qCo (cloFrom (envOfC "counter" (defScope sCo) s.heap.objs.size f (.ref c)).cells (C8.fnScope sCom).names [])) (fr := ["most"]) (js := [0]) (spF := spMv1 counterM) GG (fun _ => rfl) (fun ok c' => Caps.made ok (ndef_free (sc := defScope sCo) ndCo) (ndef_fr ndCo) rfl) (fun _ => rfl) hr (by rfl) mG kG bG pass0 (pa_cons pe_int (pa_cons (pv 1) pa_nil)))))), ?_⟩
    refine ⟨_, rfl, m, 0, rfl, m0, m0, fun H1 s1 => ?_⟩
    refine ⟨fun p mp => (tb p mp).ext s1, fun fm c' H2 e2 t2 n2 hf2 hc2 => ?_⟩
    refine ⟨_, rfl, .int 0, fm, c', numG 0, counterM m, Dom, es, false, rfl, rfl, zero, MO, fun g hg => ?_, hf2, hc2, (nok_counter mstr).mono (by decide), fun vs H3 Q E s3 h => mv1_imp nums h, fun u vals ls H3 s3 ka gr => ?_⟩
    · obtain ⟨i, rfl, _⟩ := nums g hg
      rfl
    · exact k u vals ls H3 (((ExtN.of s1).trans e2).trans (ExtN.of s3)) (fun p mp => (t2 p mp).ext s3) ka gr
end

/-! ### tickets -/
abbrev sTi : Stmt := top 42
abbrev sTim : Stmt := inDef sTi 1
theorem ndTi : ndefB (defScope sTi) (C8.fnScope sTim) ["most"] = true := by decide +kernel
abbrev qTi : Str := "tickets.<locals>.moves"
abbrev nTi : List Str := ["most", "moves"]
section
variable {P : Program} {w : World} {K : PySem.W.Frag} {mg : Str → Option Value} {base : Heap} {C : Addr}
theorem scTi : FnScope nTi ["most"] (defScope sTi) := ⟨rfl, rfl, rfl, by decide +kernel, rfl, by decide +kernel, by decide +kernel⟩
theorem nok_tickets {f c : Addr} {cl : List (Str × Addr)} {q : Str} (mstr : mg "str" = none) : NOk P w K mg base CX0 1 f (NF.of sTim "moves" q cl c) ["given"] ["most"] (spMv1 ticketsM) := by
  have S : NScope ["given", "most"] ["given"] ["most"] (NF.of sTim "moves" q cl c).scope := (nscope_by (by decide +kernel) : NScope ["given", "most"] ["given"] ["most"] (C8.fnScope sTim))
  refine nok_of (N := ["given", "most"]) S (fun doc pm ctv us hl => ?_) (fun ws vs H Q E h => ?_) (fun A outer s H vs ws Q E hr hf hc lw h => ?_)
  · obtain ⟨u, rfl⟩ : ∃ u, us = [u] := by
      match us, hl with
      | [u], _ => exact ⟨u, rfl⟩
    rfl
  · obtain ⟨i, m, _, rfl, _⟩ := h
    rfl
  · obtain ⟨i, m, rfl, rfl, i0, i1, k⟩ := h
    refine ⟨_, pss_one (ps_ret (pe_ifExp (pt_cmp (pc_lt (pv 0) (pv 1))) (pe_lst (pa_cons (pe_tup (pa_cons pe_str (pa_cons (pe_callTy call_str_int (by rfl) mstr (by decide +kernel) (pa_cons (pe_op op_add (pv 0) pe_int) pa_nil)) (pa_cons (pe_op op_add (pv 0) pe_int) pa_nil)))) pa_nil)) (pe_lst pa_nil))), ?_⟩
    refine ⟨_, rfl, _, rfl, _, _, rfl, rfl, _, rfl, ?_⟩
    by_cases h1 : i < m
    · refine ite_T (decide_eq_true h1) ⟨_, rfl, _, _, rfl, rfl, i + 1, rfl, log_small (by omega) (by omega), _, rfl, _, _, rfl, rfl, small_len (m := 3) (Nat.le_refl _), fun t ht => ?_⟩
      refine ⟨small_len (m := 1) (Nat.le_refl _), fun l hl => ?_⟩
      have ht0 : (upd (upd H t (.tup [.str "next", .str ((toString (i + 1) : String) : Str), .int (i + 1)])) l (.lst [.ref t])) t = some (.tup [.str "next", .str ((toString (i + 1) : String) : Str), .int (i + 1)]) := by
        rw [upd_ne (fun z => by rw [← z, upd_same] at hl; cases hl), upd_same]
      refine k l [(t, stp "next" ((toString (i + 1) : String) : Str) (numG (i + 1)))] _ ((same_new ht).trans (same_new hl)) ⟨upd_same, fun q mq => by rw [List.mem_singleton.mp mq]; exact ⟨_, ht0, rfl⟩⟩ ?_
      show _ = if i < m then [stp "next" ((toString (i + 1) : String) : Str) (numG (i + 1))] else []
      rw [if_pos h1]
      rfl
    · refine ite_F (decide_eq_false h1) ⟨by show 0 ≤ sizeLine; decide, fun l hl => ?_⟩
      refine k l [] _ (same_new hl) ⟨upd_same, fun q mq => by cases mq⟩ ?_
      show _ = if i < m then [stp "next" ((toString (i + 1) : String) : Str) (numG (i + 1))] else []
      rw [if_neg h1]
      rfl
theorem ok_tickets {T : List NTab} {f c Pt fC fG : Addr} {fdC fdG : FuncData} {oc kV doc pm ct : Value} {od an : Option Addr} {osl : Array (Option Value)}
    (lk : K.lookup f = some ⟨oc, od, .func (PySem.W.fnOf "tickets" "tickets" (defArgs sTi) (defBody sTi) (defScope sTi) .none kV doc pm an (.ref c) ct), osl⟩) (hcd : PySem.W.codeIn K (.ref c) "tickets" = true) (mstr : mg "str" = none)
    (TB : LamX.TabB base mg c Pt) (hm : (Pt, fun _ _ => qTi) ∈ T) (hu : ∀ p ∈ T, p.1 = Pt → p.2 = fun _ _ => qTi)
    (GC : FnOk P w K mg base CX0 2 fC fdC ["thing", "least"] spCkNum) (mC : mg "_check_number" = some (.ref fC)) (kC : PySem.W.keepIn K (.ref fC) = true) (bC : Binds K fdC ["thing", "least"] [])
    (GG : FnS P w K mg base CX0 7 fG fdG ["first", "moves"] (spGrown P w K mg base C "given")) (mG : mg "_grown" = some (.ref fG)) (kG : PySem.W.keepIn K (.ref fG) = true) (bG : Binds K fdG ["first", "moves"] []) :
    FnOk P w K mg base CX0 8 f (PySem.W.fnOf "tickets" "tickets" (defArgs sTi) (defBody sTi) (defScope sTi) .none kV doc pm an (.ref c) ct) ["most"] (spB1 T ticketsM C) := by
  refine fn_of lk hcd scTi (fun vs H Q E h => ?_) (fun A outer s H vs Q E hr h => ?_)
  · obtain ⟨m, _, _, rfl, _⟩ := h
    rfl
  · obtain ⟨m, Dom, es, rfl, m0, MO, nums, zero, tb, k⟩ := h
    have hr2 := hr.mono (show 2 ≤ 7 by omega)
    refine ⟨_, pss_cons (ps_expr (pe_call GC hr2 (by rfl) mC kC bC .nil pass0 (pa_cons (pv 0) (pa_cons pe_int pa_nil))))
      (pss_cons (ps_ndefS (T := T) (nm := fun _ _ => qTi) (st := sTim) (name := "moves") (i := 1) rfl TB rfl hm rfl hu (ndef_free (sc := defScope sTi) ndTi) rfl rfl rfl scTi.nd rfl (Or.inl rfl) (Or.inl rfl))
      (pss_one (ps_ret (pe_grown (mk := NF.of sTim "moves" qTi (cloFrom (envOfC "tickets" (defScope sTi) s.heap.objs.size f (.ref c)).cells (C8.fnScope sTim).names [])) (fr := ["most"]) (js := [0]) (spF := spMv1 ticketsM) GG (fun _ => rfl) (fun ok c' => Caps.made ok (ndef_free (sc := defScope sTi) ndTi) (ndef_fr ndTi) rfl) (fun _ => rfl) hr (by rfl) mG kG bG pass0 (pa_cons pe_int (pa_cons (pv 1) pa_nil)))))), ?_⟩
    refine ⟨_, rfl, m, 0, rfl, m0, m0, fun H1 s1 => ?_⟩
    refine ⟨fun p mp => (tb p mp).ext s1, fun fm c' H2 e2 t2 n2 hf2 hc2 => ?_⟩
    refine ⟨_, rfl, .int 0, fm, c', numG 0, ticketsM m, Dom, es, false, rfl, rfl, zero, MO, fun g hg => ?_, hf2, hc2, (nok_tickets mstr).mono (by decide), fun vs H3 Q E s3 h => mv1_imp nums h, fun u vals ls H3 s3 ka gr => ?_⟩
    · obtain ⟨i, rfl, _⟩ := nums g hg
      rfl
    · exact k u vals ls H3 (((ExtN.of s1).trans e2).trans (ExtN.of s3)) (fun p mp => (t2 p mp).ext s3) ka gr
end
end My

-- ===== KG7 =====
set_option Elab.async false
set_option linter.all false
set_option maxRecDepth 100000
set_option maxHeartbeats 4000000
namespace My
open PySem L2 PyProof.Rows PySem.Spec Kd TL LamX NdefX StX ClX
abbrev sCkAm : Stmt := top 46
abbrev sPut : Stmt := top 47
abbrev sTake : Stmt := top 48
abbrev sAccount : Stmt := top 38
abbrev sAcm : Stmt := inDef sAccount 2
/-- _check_amounts(most, amounts), where nothing is raised -/
def spCkAm : Sp := fun vs H Q _ => ∃ (m : Int) (a : Addr) (as : List Int), vs = [.int m, .ref a] ∧ H a = some (.tup (as.map V.int)) ∧ (∀ i ∈ as, 1 ≤ i ∧ i ≤ m) ∧ m < 1000000 ∧ as.Nodup ∧ as.length < 64 ∧ ∀ H', Same H H' → Q .non H'
def spPut : Sp := fun vs H Q _ => ∃ m h a : Int, vs = [.int m, .int h, .int a] ∧ 0 ≤ a ∧ a ≤ 1000 ∧ ∀ (t : Addr) (H' : Hp), Same H H' → GSt H' t (putM m h a) → Q (.ref t) H'
def spTake : Sp := fun vs H Q _ => ∃ h a : Int, vs = [.int h, .int a] ∧ 0 ≤ a ∧ a ≤ 1000 ∧ ∀ (t : Addr) (H' : Hp), Same H H' → GSt H' t (takeM h a) → Q (.ref t) H'
theorem empty_app (x : Str) : Str.empty ++ x = x := by
  cases x with
  | mk c => exact congrArg Str.mk (Array.empty_append (xs := c))
theorem numL_len {a : Int} (h0 : 0 ≤ a) (h1 : a ≤ 1000) : ((toString a : String) : Str).length ≤ 4 := by
  have all : ∀ n : Fin 1001, ((toString (Int.ofNat n.val) : String) : Str).length ≤ 4 := by decide +kernel
  obtain ⟨n, rfl⟩ := Int.eq_ofNat_of_zero_le h0
  exact all ⟨n, by omega⟩
theorem app_len (x y : Str) : (x ++ y).length = x.length + y.length := by
  show (x.cps ++ y.cps).size = _
  rw [Array.size_append]
  rfl
theorem word_len {x : Str} {a : Int} (hx : x.length ≤ 4) (h0 : 0 ≤ a) (h1 : a ≤ 1000) : (Str.empty ++ x).length ≤ sizeLine ∧ (Str.empty ++ x ++ ((toString a : String) : Str)).length ≤ sizeLine := by
  have := numL_len h0 h1
  rw [empty_app, app_len, sizeLine_eq]
  omega
/-- f"..{a}" -/
theorem word_js {x : Str} {a : Int} {i : Nat} {σ : L2.St} {H : Hp} {Q : Str → Hp → Prop} (hx : x.length ≤ 4) (h0 : 0 ≤ a) (h1 : a ≤ 1000) (hs : σ[i]? = some (some (.int a))) (q : Q (x ++ ((toString a : String) : Str)) H) : tJs [tC (V.str x), tFmt (tVar i)] Str.empty σ H Q := by
  refine ⟨x, rfl, (word_len hx h0 h1).1, _, hs, .inr ⟨a, rfl, log_small h0 h1, _, rfl, (word_len hx h0 h1).2, ?_⟩⟩
  rw [empty_app]
  exact q
section
variable {P : Program} {w : World} {K : PySem.W.Frag} {mg : Str → Option Value} {base : Heap} {C : Addr}
theorem scPu : FnScope ["most", "held", "amount"] ["most", "held", "amount"] (defScope sPut) := ⟨rfl, rfl, rfl, by decide +kernel, rfl, by decide +kernel, by decide +kernel⟩
theorem ok_put {f : Addr} {fd : FuncData} (F : Fun K "_put" "_put" sPut f fd) : FnOk P w K mg base CX0 1 f fd ["most", "held", "amount"] spPut := by
  refine F.ok scPu (fun vs H Q E h => ?_) (fun cdv A outer s H vs Q E hr h => ?_)
  · obtain ⟨m, h, a, rfl, _⟩ := h
    rfl
  · obtain ⟨m, h, a, rfl, a0, a1, k⟩ := h
    refine ⟨_, pss_cons (ps_if (pt_cmpR op_gt (pe_op op_add (pv 1) (pv 2)) (pv 0) (nomark _)) (pss_one (ps_ret (pe_tup (pa_cons (pe_joined (.cons pe_str (.cons (pe_fmt (pv 2)) .nil))) (pa_cons pe_str (pa_cons (pv 1) pa_nil)))))) pss_nil)
      (pss_one (ps_ret (pe_tup (pa_cons (pe_joined (.cons pe_str (.cons (pe_fmt (pv 2)) .nil))) (pa_cons pe_str (pa_cons (pe_op op_add (pv 1) (pv 2)) pa_nil)))))), ?_⟩
    refine ⟨_, rfl, _, rfl, _, _, rfl, rfl, _, rfl, _, _, rfl, rfl, _, rfl, ?_⟩
    by_cases c : m < h + a
    · refine ite_T (decide_eq_true c) (word_js (x := "put") (by decide +kernel) a0 a1 rfl ⟨_, rfl, small_len (m := 3) (Nat.le_refl _), fun t ht => k t _ (same_new ht) ?_⟩)
      unfold putM
      rw [if_pos (show h + a > m from c)]
      exact ⟨_, upd_same, rfl⟩
    · refine ite_F (decide_eq_false c) (word_js (x := "put") (by decide +kernel) a0 a1 rfl ⟨_, rfl, _, rfl, _, _, rfl, rfl, small_len (m := 3) (Nat.le_refl _), fun t ht => k t _ (same_new ht) ?_⟩)
      unfold putM
      rw [if_neg (show ¬ h + a > m from c)]
      exact ⟨_, upd_same, rfl⟩
theorem scTk : FnScope ["held", "amount"] ["held", "amount"] (defScope sTake) := ⟨rfl, rfl, rfl, by decide +kernel, rfl, by decide +kernel, by decide +kernel⟩
theorem ok_take {f : Addr} {fd : FuncData} (F : Fun K "_take" "_take" sTake f fd) : FnOk P w K mg base CX0 1 f fd ["held", "amount"] spTake := by
  refine F.ok scTk (fun vs H Q E h => ?_) (fun cdv A outer s H vs Q E hr h => ?_)
  · obtain ⟨h, a, rfl, _⟩ := h
    rfl
  · obtain ⟨h, a, rfl, a0, a1, k⟩ := h
    refine ⟨_, pss_cons (ps_if (pt_cmp (pc_lt (pv 0) (pv 1))) (pss_one (ps_ret (pe_tup (pa_cons (pe_joined (.cons pe_str (.cons (pe_fmt (pv 1)) .nil))) (pa_cons pe_str (pa_cons (pv 0) pa_nil)))))) pss_nil)
      (pss_one (ps_ret (pe_tup (pa_cons (pe_joined (.cons pe_str (.cons (pe_fmt (pv 1)) .nil))) (pa_cons pe_str (pa_cons (pe_op op_sub (pv 0) (pv 1)) pa_nil)))))), ?_⟩
    refine ⟨_, rfl, _, rfl, _, _, rfl, rfl, _, rfl, ?_⟩
    by_cases c : h < a
    · refine ite_T (decide_eq_true c) (word_js (x := "take") (by decide +kernel) a0 a1 rfl ⟨_, rfl, small_len (m := 3) (Nat.le_refl _), fun t ht => k t _ (same_new ht) ?_⟩)
      unfold takeM
      rw [if_pos c]
      exact ⟨_, upd_same, rfl⟩
    · refine ite_F (decide_eq_false c) (word_js (x := "take") (by decide +kernel) a0 a1 rfl ⟨_, rfl, _, rfl, _, _, rfl, rfl, small_len (m := 3) (Nat.le_refl _), fun t ht => k t _ (same_new ht) ?_⟩)
      unfold takeM
      rw [if_neg c]
      exact ⟨_, upd_same, rfl⟩
abbrev nCa : List Str := ["most", "amounts", "amount"]
theorem scCa : FnScope nCa ["most", "amounts"] (defScope sCkAm) := ⟨rfl, rfl, rfl, by decide +kernel, rfl, by decide +kernel, by decide +kernel⟩
theorem ok_ckam {f fN : Addr} {fd fdN : FuncData} {tL : Tok} (F : Fun K "_check_amounts" "_check_amounts" sCkAm f fd) (mlen : mg "len" = none) (mset : mg "set" = none) (mL : mg "TOO_LONG" = some (.int 100000000 tL))
    (GN : FnOk P w K mg base CX0 1 fN fdN ["thing"] spNumber) (mN : mg "is_number" = some (.ref fN)) (kN : PySem.W.keepIn K (.ref fN) = true) (bN : Binds K fdN ["thing"] []) :
    FnOk P w K mg base CX0 2 f fd ["most", "amounts"] spCkAm := by
  refine F.ok scCa (fun vs H Q E h => ?_) (fun cdv A outer s H vs Q E hr h => ?_)
  · obtain ⟨m, a, as, rfl, _⟩ := h
    rfl
  · obtain ⟨m, a, as, rfl, ha, hin, hm, nd, few, k⟩ := h
    refine ⟨_, PSs.nox (pss_cons (ps_for PassesOwn.never rfl (pi_tup (pv 1)) (pg_name (i := 2) scCa.nd rfl (Or.inl rfl))
        (pss_one (ps_if (PW.pt (pw_or (pt_not (pt_val (pe_call GN hr (by rfl) mN kN bN .nil pass0 (pa_cons (pv 2) pa_nil)))) (pw_or (pt_not (pt_chain op_le op_le pe_int (pv 2) (pv 0))) (pw_or1 (pt_cmpR op_ge (pv 2) (pe_glob (v := .int 100000000) (by rfl) mL ⟨_, rfl⟩) (nomark _)))))) (pss_one ps_never) pss_nil)))
      (pss_one (ps_if (pt_cmp (pc_lt (pe_lenSetZ rfl (by rfl) mlen (by rfl) mset (pv 1)) (pe_callB (r := rLenQ K) call_len_seq (by rfl) mlen PySem.boot_len (pa_cons (pv 1) pa_nil)))) (pss_one ps_never) pss_nil))), ?_⟩
    refine ⟨_, rfl, a, rfl, ⟨_, SqT.of ha⟩, for_tup (K := K) (a := a) (xs := as.map V.int) (fun j σ H2 => ∃ o : Option V, σ = [some (.int m), some (.ref a), o] ∧ Same H H2) ⟨none, rfl, Same.refl H⟩ (fun j σ H2 _ ⟨_, _, s2⟩ => SqT.of (s2 _ _ ha)) ?_ ?_⟩
    · rintro j x σ H2 hj ⟨o, rfl, s2⟩
      rw [List.getElem?_map] at hj
      obtain ⟨i, ei, rfl⟩ := Option.map_eq_some_iff.mp hj
      obtain ⟨i1, i2⟩ := hin i (List.mem_of_getElem? ei)
      refine ⟨_, rfl, i, rfl, by omega, _, rfl, ?_⟩
      refine ⟨_, rfl, _, _, rfl, rfl, _, rfl, ite_T (decide_eq_true i1) ⟨_, rfl, _, _, rfl, rfl, _, rfl, ?_⟩⟩
      rw [decide_eq_true i2]
      refine ⟨_, rfl, _, _, rfl, rfl, _, rfl, ite_F (decide_eq_false (show ¬ (100000000 : Int) ≤ i by omega)) ⟨_, rfl, s2⟩⟩
    · rintro σ H2 ⟨o, rfl, s2⟩
      refine ⟨_, rfl, a, as, rfl, SqT.of (s2 _ _ ha), by omega, nd, _, rfl, a, _, rfl, .inr (SqT.of (s2 _ _ ha)), _, _, rfl, rfl, _, rfl, ?_⟩
      rw [List.length_map]
      exact ite_F (decide_eq_false (Int.lt_irrefl _)) (k H2 s2)
end
end My

-- ===== KG8 =====
set_option Elab.async false
set_option linter.all false
set_option maxRecDepth 100000
set_option maxHeartbeats 4000000
namespace My
open PySem L2 PyProof.Rows PySem.Spec Kd TL LamX NdefX StX ClX
/-! ### account -/
abbrev nAm : List Str := ["held", "amounts", "most", "amount"]
def spMvA : List (Option V) → Sp := fun ws vs H Q _ => ∃ (i m : Int) (a : Addr) (as : List Int), ws = [some (.ref a), some (.int m)] ∧ vs = [.int i] ∧ H a = some (.tup (as.map V.int)) ∧ (∀ x ∈ as, 1 ≤ x ∧ x ≤ 1000) ∧ as.length ≤ 20 ∧
  ∀ (l : Addr) (L : List (Addr × GStp)) (H' : Hp), Same H H' → Gst H' l L → L.map Prod.snd = accountM m as (numG i) → Q (.ref l) H'
theorem Gst.put {H : Hp} {l t : Addr} {L : List (Addr × GStp)} {x : GStp} (h : Gst H l L) (g : GSt H t x) : Gst (upd H l (.lst ((L.map fun q => V.ref q.1) ++ [.ref t]))) l (L ++ [(t, x)]) := by
  have tp : TF H (upd H l (.lst ((L.map fun q => V.ref q.1) ++ [.ref t]))) := TF.lst h.lst
  refine ⟨by rw [upd_same, List.map_append]; rfl, fun q m => ?_⟩
  rcases List.mem_append.mp m with m | m
  · exact (h.at_ q m).to tp
  · rw [List.mem_singleton.mp m]
    exact g.to tp
theorem take_map_succ {α β : Type} {f : α → β} {as : List α} {j : Nat} {x : α} (h : as[j]? = some x) : (as.take (j + 1)).map f = (as.take j).map f ++ [f x] := by
  rw [List.take_succ, h, List.map_append]
  rfl
section
variable {P : Program} {w : World} {K : PySem.W.Frag} {mg : Str → Option Value} {base : Heap} {C : Addr}
theorem nok_account {f c fP fT : Addr} {fdP fdT : FuncData} {cl : List (Str × Addr)} {q : Str}
    (GP : FnOk P w K mg base CX0 1 fP fdP ["most", "held", "amount"] spPut) (mP : mg "_put" = some (.ref fP)) (kP : PySem.W.keepIn K (.ref fP) = true) (bP : Binds K fdP ["most", "held", "amount"] [])
    (GT : FnOk P w K mg base CX0 1 fT fdT ["held", "amount"] spTake) (mT : mg "_take" = some (.ref fT)) (kT : PySem.W.keepIn K (.ref fT) = true) (bT : Binds K fdT ["held", "amount"] []) :
    NOk P w K mg base CX0 2 f (NF.of sAcm "moves" q cl c) ["held"] ["amounts", "most"] spMvA := by
  have S : NSc nAm ["held"] ["amounts", "most"] (NF.of sAcm "moves" q cl c).scope := (nsc_by (by decide +kernel) : NSc nAm ["held"] ["amounts", "most"] (C8.fnScope sAcm))
  refine nokc_of (N := nAm) S (fun doc pm ctv us hl => ?_) (fun ws vs H Q E h => ?_) (fun A outer s H vs ws Q E hr hf hc lw h => ?_)
  · obtain ⟨u, rfl⟩ : ∃ u, us = [u] := by
      match us, hl with
      | [u], _ => exact ⟨u, rfl⟩
    rfl
  · obtain ⟨i, m, _, _, _, rfl, _⟩ := h
    rfl
  · obtain ⟨i, m, a, as, rfl, rfl, ha, hin, few, k⟩ := h
    refine ⟨_, pss_one (ps_ret (pe_op op_cat
      (pe_lc (own := [("amount", 3)]) (g := gName 3) (tt := tYes) (te := tCall spPut [] E (tCons (tVar 2) (tCons (tVar 0) (tCons (tVar 3) tNil)))) rfl S.nd (pi_tup (pv 1)) (blkOk_by (N := nAm) (sc := C8.fnScope sAcm) (by decide +kernel)) (fun _ _ _ _ _ => pg_name (i := 3) S.nd rfl (Or.inl rfl)) (fun _ _ _ _ _ => pts_nil)
        (fun _ _ _ _ _ => pe_call GP hr (by rfl) mP kP bP .nil pass0 (pa_cons (pv 2) (pa_cons (pv 0) (pa_cons (pv 3) pa_nil)))))
      (pe_lc (own := [("amount", 3)]) (g := gName 3) (tt := tYes) (te := tCall spTake [] E (tCons (tVar 0) (tCons (tVar 3) tNil))) rfl S.nd (pi_tup (pv 1)) (blkOk_by (N := nAm) (sc := C8.fnScope sAcm) (by decide +kernel)) (fun _ _ _ _ _ => pg_name (i := 3) S.nd rfl (Or.inl rfl)) (fun _ _ _ _ _ => pts_nil)
        (fun _ _ _ _ _ => pe_call GT hr (by rfl) mT kT bT .nil pass0 (pa_cons (pv 0) (pa_cons (pv 3) pa_nil)))))), ?_⟩
    refine ⟨_, rfl, a, rfl, ⟨_, SqT.of ha⟩, fun D hD => lc_tup (K := K) (a := a) (xs := as.map V.int) (fun j H2 => Same H H2 ∧ ∃ L, Gst H2 D L ∧ L.map Prod.snd = (as.take j).map (putM m i)) ⟨same_new hD, [], ⟨upd_same, fun q mq => by cases mq⟩, rfl⟩ (fun j H2 _ ⟨s2, _⟩ => SqT.of (s2 _ _ ha)) (fun j x H2 hj ⟨s2, L, gL, eL⟩ => ?_) fun H2 ⟨s2, L, gL, eL⟩ => ?_⟩
    · rw [List.getElem?_map] at hj
      obtain ⟨x, ex, rfl⟩ := Option.map_eq_some_iff.mp hj
      obtain ⟨x1, x2⟩ := hin x (List.mem_of_getElem? ex)
      refine ⟨rfl, _, rfl, _, rfl, _, rfl, m, i, x, rfl, by omega, x2, fun t H3 s3 g3 => ⟨_, s3 _ _ gL.lst, ?_, same_at (s2.trans s3) hD, L ++ [(t, putM m i x)], Gst.put (gL.less s3) g3, ?_⟩⟩
      · have z := congrArg List.length eL
        rw [List.length_map, List.length_map, List.length_take] at z
        exact small_lt (m := 20) (by rw [List.length_map]; omega)
      · rw [take_map_succ ex, ← eL, List.map_append]
        rfl
    · rw [List.length_map, List.take_length] at eL
      refine ⟨_, rfl, a, rfl, ⟨_, SqT.of (s2 _ _ ha)⟩, fun D' hD' => lc_tup (K := K) (a := a) (xs := as.map V.int) (fun j H3 => Same H2 H3 ∧ ∃ L', Gst H3 D' L' ∧ L'.map Prod.snd = (as.take j).map (takeM i)) ⟨same_new hD', [], ⟨upd_same, fun q mq => by cases mq⟩, rfl⟩ (fun j H3 _ ⟨s3, _⟩ => SqT.of (s3 _ _ (s2 _ _ ha))) (fun j x H3 hj ⟨s3, L', gL', eL'⟩ => ?_) fun H3 ⟨s3, L', gL', eL'⟩ => ?_⟩
      · rw [List.getElem?_map] at hj
        obtain ⟨x, ex, rfl⟩ := Option.map_eq_some_iff.mp hj
        obtain ⟨x1, x2⟩ := hin x (List.mem_of_getElem? ex)
        refine ⟨rfl, _, rfl, _, rfl, i, x, rfl, by omega, x2, fun t H4 s4 g4 => ⟨_, s4 _ _ gL'.lst, ?_, same_at (s3.trans s4) hD', L' ++ [(t, takeM i x)], Gst.put (gL'.less s4) g4, ?_⟩⟩
        · have z := congrArg List.length eL'
          rw [List.length_map, List.length_map, List.length_take] at z
          exact small_lt (m := 20) (by rw [List.length_map]; omega)
        · rw [take_map_succ ex, ← eL', List.map_append]
          rfl
      · rw [List.length_map, List.take_length] at eL'
        have l1 := congrArg List.length eL
        have l2 := congrArg List.length eL'
        rw [List.length_map, List.length_map] at l1 l2
        have gL3 := gL.less s3
        refine ⟨D, D', _, _, rfl, rfl, gL3.lst, gL'.lst, small_len (m := 40) (by rw [List.length_map, List.length_map]; omega), fun p hp => ?_⟩
        refine k p (L ++ L') _ ((s2.trans s3).trans (same_new hp)) ⟨by rw [upd_same, List.map_append], fun q mq => ?_⟩ ?_
        · exact ((List.mem_append.mp mq).elim (gL3.at_ q) (gL'.at_ q)).to (TF.of (same_new hp))
        · rw [List.map_append, eL, eL']
          rfl
theorem ndAc : ndefB (defScope sAccount) (C8.fnScope sAcm) ["amounts", "most"] = true := by decide +kernel
abbrev qAc : Str := "account.<locals>.moves"
abbrev nAc : List Str := ["most", "amounts", "moves"]
theorem scAc : FnScope nAc ["most", "amounts"] (defScope sAccount) := ⟨rfl, rfl, rfl, by decide +kernel, rfl, by decide +kernel, by decide +kernel⟩
/-- account(most, *amounts), its arguments bound -/
def spAcc (T : List NTab) (C : Addr) : Sp := fun vs H Q _ => ∃ (m : Int) (p : Addr) (as : List Int) (Dom : List GV) (es : List (Str × Str)), vs = [.int m, .ref p] ∧ H p = some (.tup (as.map V.int)) ∧ 0 ≤ m ∧ m ≤ 1000 ∧ (∀ i ∈ as, 1 ≤ i ∧ i ≤ m) ∧ as.Nodup ∧ as.length ≤ 20 ∧ MvOk (accountM m as) Dom es ∧ (∀ g ∈ Dom, ∃ i : Int, g = numG i ∧ 0 ≤ i ∧ i < 1000) ∧ numG 0 ∈ Dom ∧ TabsN T H ∧
  ∀ u vals ls H', ExtN H H' → TabsN T H' → KindAt C H' u ls → Grown (accountM m as) (numG 0) vals ls → Q u H'
def spAccR (T : List NTab) (C : Addr) : Sp := fun vs H Q E => ∃ ws rest, vs = ws ++ rest ∧ ws.length = ["most"].length ∧ rest.length ≤ sizeLine ∧ ∀ p, H p = Option.none → spAcc T C (ws ++ [V.ref p]) (upd H p (.tup rest)) Q E
theorem ok_account {T : List NTab} {f c Pt fC fA fG fP fT : Addr} {fdC fdA fdG fdP fdT : FuncData} {oc kV doc pm ct : Value} {od an : Option Addr} {osl : Array (Option Value)}
    (lk : K.lookup f = some ⟨oc, od, .func (PySem.W.fnOf "account" "account" (defArgs sAccount) (defBody sAccount) (defScope sAccount) .none kV doc pm an (.ref c) ct), osl⟩) (hcd : PySem.W.codeIn K (.ref c) "account" = true)
    (TB : LamX.TabB base mg c Pt) (hm : (Pt, fun _ _ => qAc) ∈ T) (hu : ∀ p ∈ T, p.1 = Pt → p.2 = fun _ _ => qAc)
    (GC : FnOk P w K mg base CX0 2 fC fdC ["thing", "least"] spCkNum) (mC : mg "_check_number" = some (.ref fC)) (kC : PySem.W.keepIn K (.ref fC) = true) (bC : Binds K fdC ["thing", "least"] [])
    (GA : FnOk P w K mg base CX0 2 fA fdA ["most", "amounts"] spCkAm) (mA : mg "_check_amounts" = some (.ref fA)) (kA : PySem.W.keepIn K (.ref fA) = true) (bA : Binds K fdA ["most", "amounts"] [])
    (GP : FnOk P w K mg base CX0 1 fP fdP ["most", "held", "amount"] spPut) (mP : mg "_put" = some (.ref fP)) (kP : PySem.W.keepIn K (.ref fP) = true) (bP : Binds K fdP ["most", "held", "amount"] [])
    (GT : FnOk P w K mg base CX0 1 fT fdT ["held", "amount"] spTake) (mT : mg "_take" = some (.ref fT)) (kT : PySem.W.keepIn K (.ref fT) = true) (bT : Binds K fdT ["held", "amount"] [])
    (GG : FnS P w K mg base CX0 7 fG fdG ["first", "moves"] (spGrown P w K mg base C "held")) (mG : mg "_grown" = some (.ref fG)) (kG : PySem.W.keepIn K (.ref fG) = true) (bG : Binds K fdG ["first", "moves"] []) :
    FnR P w K mg base CX0 8 f (spAccR T C) := by
  refine fn_star (ps := ["most"]) (pv := "amounts") (sp := spAcc T C) lk hcd scAc cxUp_none (bind_star1 (B := fun l => bindArgs (PySem.W.fnOf "account" "account" (defArgs sAccount) (defBody sAccount) (defScope sAccount) .none kV doc pm an (.ref c) ct) ⟨l, []⟩) (p1 := "most") (pv := "amounts") (fun a => rfl) (fun a r rs => rfl)) fun A outer s H vs Q E hr h => ?_
  obtain ⟨m, p, as, Dom, es, rfl, hp, m0, m1, hin, nd, few, MO, nums, zero, tb, k⟩ := h
  have hr2 := hr.mono (show 2 ≤ 7 by omega)
  refine ⟨_, pss_cons (ps_expr (pe_call GC hr2 (by rfl) mC kC bC .nil pass0 (pa_cons (pv 0) (pa_cons pe_int pa_nil))))
    (pss_cons (ps_expr (pe_call GA hr2 (by rfl) mA kA bA .nil pass0 (pa_cons (pv 0) (pa_cons (pv 1) pa_nil))))
    (pss_cons (ps_ndefS (T := T) (nm := fun _ _ => qAc) (st := sAcm) (name := "moves") (i := 2) rfl TB rfl hm rfl hu (ndef_free (sc := defScope sAccount) ndAc) rfl rfl rfl scAc.nd rfl (Or.inl rfl) (Or.inl rfl))
    (pss_one (ps_ret (pe_grown (mk := NF.of sAcm "moves" qAc (cloFrom (envOfC "account" (defScope sAccount) s.heap.objs.size f (.ref c)).cells (C8.fnScope sAcm).names [])) (fr := ["amounts", "most"]) (js := [1, 0]) (spF := spMvA) GG (fun _ => rfl) (fun ok c' => Caps.made ok (ndef_free (sc := defScope sAccount) ndAc) (ndef_fr ndAc) rfl) (fun _ => rfl) hr (by rfl) mG kG bG pass0 (pa_cons pe_int (pa_cons (pv 2) pa_nil))))))), ?_⟩
  refine ⟨_, rfl, m, 0, rfl, m0, m0, fun H1 s1 => ?_⟩
  refine ⟨_, rfl, _, rfl, m, p, as, rfl, s1 _ _ hp, hin, by omega, nd, by omega, fun H2 s2 => ?_⟩
  refine ⟨fun q mq => (tb q mq).ext (s1.trans s2), fun fm c' H3 e3 t3 n3 hf3 hc3 => ?_⟩
  have hp3 : H3 p = some (.tup (as.map V.int)) := e3 _ _ (s2 _ _ (s1 _ _ hp)) fun ps z => by cases z
  refine ⟨_, rfl, .int 0, fm, c', numG 0, accountM m as, Dom, es, false, rfl, rfl, zero, MO, fun g hg => ?_, hf3, hc3, (nok_account GP mP kP bP GT mT kT bT).mono (by decide), fun vs H4 Q E s4 h => ?_, fun u vals ls H4 s4 ka gr => ?_⟩
  · obtain ⟨i, rfl, _⟩ := nums g hg
    rfl
  · obtain ⟨v, g, rfl, hv, hg, k'⟩ := h
    obtain ⟨i, rfl, i0, i1⟩ := nums g hg
    obtain rfl : v = .int i := hv
    exact ⟨i, m, p, as, rfl, rfl, s4 _ _ hp3, fun x mx => by have := hin x mx; omega, few, fun l L H' s' G e => k' l L H' s' G.lst e G.at_⟩
  · exact k u vals ls H4 (((ExtN.of (s1.trans s2)).trans e3).trans (ExtN.of s4)) (fun q mq => (t3 q mq).ext s4) ka gr
end
end My

-- ===== KG9 =====
set_option Elab.async false
set_option linter.all false
set_option maxRecDepth 100000
set_option maxHeartbeats 4000000
namespace My
open PySem L2 PyProof.Rows PySem.Spec Kd TL LamX NdefX StX ClX
/-! ### helpers of the builders that hold words -/
abbrev sCkW : Stmt := top 45
abbrev sBehind : Stmt := top 49
abbrev sAhead : Stmt := top 50
abbrev sAmong : Stmt := top 51
abbrev sFirst : Stmt := top 52
abbrev sEach : Stmt := top 53
abbrev sWithout : Stmt := top 54
/-- a tuple of texts, its object known -/
def TxF (H : Hp) (a : Addr) (t : List Str) : Prop := TpF H a (t.map V.str)
def TxT (H : Hp) (a : Addr) (t : List Str) : Prop := H a = some (.tup (t.map V.str))
def spCkW : Sp := fun vs H Q _ => ∃ (a : Addr) (ws : List Str), vs = [.ref a] ∧ TxT H a ws ∧ ws ≠ [] ∧ (∀ x ∈ ws, Wrd x) ∧ ws.Nodup ∧ ws.length ≤ 20 ∧ ∀ H', Same H H' → Q .non H'
def spPutIn (fn : List Str → Str → List Str) : Sp := fun vs H Q _ => ∃ (a : Addr) (t : List Str) (x : Str), vs = [.ref a, .str x] ∧ TxF H a t ∧ t.length ≤ 100 ∧ ∀ p H', Same H H' → TxF H' p (fn t x) → Q (.ref p) H'
def spToTake (fn : List Str → List Str) : Sp := fun vs H Q _ => ∃ (a : Addr) (t : List Str), vs = [.ref a] ∧ TxF H a t ∧ t.length ≤ 100 ∧ ∀ l H', Same H H' → H' l = some (.lst ((fn t).map V.str)) → Q (.ref l) H'
def spWithout : Sp := fun vs H Q _ => ∃ (a : Addr) (t : List Str) (x : Str), vs = [.ref a, .str x] ∧ TxF H a t ∧ t.length ≤ 100 ∧ x ∈ t ∧ ∀ p H', Same H H' → TxF H' p (t.erase x) → Q (.ref p) H'
def amongT (t : List Str) (x : Str) : List Str := srtS (t ++ [x])
section
variable {P : Program} {w : World} {K : PySem.W.Frag} {mg : Str → Option Value} {base : Heap} {C : Addr}
theorem scBh : FnScope ["held", "word"] ["held", "word"] (defScope sBehind) := ⟨rfl, rfl, rfl, by decide +kernel, rfl, by decide +kernel, by decide +kernel⟩
theorem ok_behind {f : Addr} {fd : FuncData} (F : Fun K "_behind" "_behind" sBehind f fd) : FnOk P w K mg base CX0 1 f fd ["held", "word"] (spPutIn behindT) := by
  refine F.ok scBh (fun vs H Q E h => ?_) (fun cdv A outer s H vs Q E hr h => ?_)
  · obtain ⟨a, t, x, rfl, _⟩ := h
    rfl
  · obtain ⟨a, t, x, rfl, ha, few, k⟩ := h
    refine ⟨_, pss_one (ps_ret (pe_op Kd.op_catF (pv 0) (pe_tupF (pa_cons (pv 1) pa_nil)))), ?_⟩
    refine ⟨_, rfl, _, rfl, small_len (m := 1) (Nat.le_refl _), fun p H1 s1 hp tp => ⟨a, p, _, _, rfl, rfl, ha.to (TF.of s1), tp, small_len (m := 101) (by rw [List.length_map]; show t.length + 1 ≤ 101; omega), fun r H' s' hr' => k r H' (s1.trans s') ?_⟩⟩
    show TpF H' r ((t ++ [x]).map V.str)
    rw [List.map_append]
    exact hr'
theorem scAh : FnScope ["held", "word"] ["held", "word"] (defScope sAhead) := ⟨rfl, rfl, rfl, by decide +kernel, rfl, by decide +kernel, by decide +kernel⟩
theorem ok_ahead {f : Addr} {fd : FuncData} (F : Fun K "_ahead" "_ahead" sAhead f fd) : FnOk P w K mg base CX0 1 f fd ["held", "word"] (spPutIn aheadT) := by
  refine F.ok scAh (fun vs H Q E h => ?_) (fun cdv A outer s H vs Q E hr h => ?_)
  · obtain ⟨a, t, x, rfl, _⟩ := h
    rfl
  · obtain ⟨a, t, x, rfl, ha, few, k⟩ := h
    refine ⟨_, pss_one (ps_ret (pe_op Kd.op_catF (pe_tupF (pa_cons (pv 1) pa_nil)) (pv 0))), ?_⟩
    exact ⟨_, rfl, small_len (m := 1) (Nat.le_refl _), fun p H1 s1 hp tp => ⟨_, rfl, p, a, _, _, rfl, rfl, tp, ha.to (TF.of s1), small_len (m := 101) (by rw [List.length_map]; show 1 + t.length ≤ 101; omega), fun r H' s' hr' => k r H' (s1.trans s') hr'⟩⟩
theorem scAg : FnScope ["held", "word"] ["held", "word"] (defScope sAmong) := ⟨rfl, rfl, rfl, by decide +kernel, rfl, by decide +kernel, by decide +kernel⟩
theorem ok_among {f : Addr} {fd : FuncData} (F : Fun K "_among" "_among" sAmong f fd) (msort : mg "sorted" = none) (mtup : mg "tuple" = none) : FnOk P w K mg base CX0 1 f fd ["held", "word"] (spPutIn amongT) := by
  refine F.ok scAg (fun vs H Q E h => ?_) (fun cdv A outer s H vs Q E hr h => ?_)
  · obtain ⟨a, t, x, rfl, _⟩ := h
    rfl
  · obtain ⟨a, t, x, rfl, ha, few, k⟩ := h
    have hu80 : (A.deeper (envOfC "_among" (defScope sAmong) s.heap.objs.size f cdv)).units + 80 < cLine := by have := hr.un; omega
    refine ⟨_, pss_one (ps_ret (pe_callTy call_tuple_ofF (by rfl) mtup (by decide +kernel) (pa_cons (pe_callB (cr_sortTx hu80) (by rfl) msort PyProof.Rows.boot_sorted (pa_cons (pe_op Kd.op_catF (pv 0) (pe_tupF (pa_cons (pv 1) pa_nil))) pa_nil)) pa_nil))), ?_⟩
    refine ⟨_, rfl, _, rfl, small_len (m := 1) (Nat.le_refl _), fun p H1 s1 hp tp => ⟨a, p, _, _, rfl, rfl, ha.to (TF.of s1), tp, small_len (m := 101) (by rw [List.length_map]; show t.length + 1 ≤ 101; omega), fun r H' s' hr' => ?_⟩⟩
    have hr2 : TpF H' r ((t ++ [x]).map V.str) := by rw [List.map_append]; exact hr'
    exact ⟨r, t ++ [x], rfl, hr2.sq, by rw [List.length_append]; show t.length + 1 ≤ 1000; omega, fun q hq => ⟨q, _, rfl, SqL.of upd_same, fun l H2 s2 hl => k l H2 (((s1.trans s').trans (same_new hq)).trans s2) hl⟩⟩
theorem scFs : FnScope ["held"] ["held"] (defScope sFirst) := ⟨rfl, rfl, rfl, by decide +kernel, rfl, by decide +kernel, by decide +kernel⟩
theorem ok_first {f : Addr} {fd : FuncData} (F : Fun K "_first" "_first" sFirst f fd) (mlist : mg "list" = none) : FnOk P w K mg base CX0 1 f fd ["held"] (spToTake firstT) := by
  refine F.ok scFs (fun vs H Q E h => ?_) (fun cdv A outer s H vs Q E hr h => ?_)
  · obtain ⟨a, t, rfl, _⟩ := h
    rfl
  · obtain ⟨a, t, rfl, ha, few, k⟩ := h
    refine ⟨_, pss_one (ps_ret (pe_callTy call_list_of (by rfl) mlist (by decide +kernel) (pa_cons (pe_slice sl_tupF (pv 0) po_none (po_some pe_int)) pa_nil))), ?_⟩
    refine ⟨_, rfl, 1, rfl, a, _, rfl, ha, fun p H' s' hp => ⟨p, _, rfl, .inr hp.sq, fun l hl => k l _ (s'.trans (same_new hl)) ?_⟩⟩
    rw [upd_same]
    have e : cutV (t.map V.str) none (some (1 : Int)) = (t.take 1).map V.str := by
      rw [show (1 : Int) = ((1 : Nat) : Int) from rfl, cutTo, List.map_take]
    rw [e]
    rfl
end
open PySem.W in
theorem srtS_le (L : List Str) : (srtS L).Pairwise fun x y => ¬ evLt (y, Str.empty) (x, Str.empty) := by
  have tot := sortLe_total (listOrd itemOrd) false fun q : Str => keyToks (PyData.str q)
  have srt : (srtS L).Pairwise fun q r => dataLe false PyData.str q r = true := List.pairwise_mergeSort tot.trans (fun a b => by rw [Bool.or_eq_true]; exact tot.total a b) L
  refine List.Pairwise.imp (fun {x y} h lt => ?_) srt
  rw [dataLe_eq] at h
  have h' : (!dataLt (PyData.str y) (PyData.str x)) = true := h
  rw [dataLt_str] at h'
  rcases lt with lt | ⟨_, lt⟩
  · rw [decide_eq_true (show y.cps.toList < x.cps.toList from lt)] at h'
    cases h'
  · exact List.lt_irrefl _ lt
theorem srtS_perm {L M : List Str} (h : L.Perm M) : srtS L = srtS M := by
  refine List.Perm.eq_of_pairwise (le := fun x y => ¬ evLt (y, Str.empty) (x, Str.empty)) (fun a b _ _ h1 h2 => (Prod.mk.inj (evLt_tri (a, Str.empty) (b, Str.empty) h2 h1)).1) (srtS_le L) (srtS_le M) ?_
  unfold srtS
  exact (List.mergeSort_perm _ _).trans (h.trans (List.mergeSort_perm _ _).symm)
def eachT (t : List Str) : List Str := srtS t.eraseDups
theorem dups_nd : ∀ n : Nat, ∀ t : List Str, t.length ≤ n → t.eraseDups.Nodup
  | _, [], _ => by simp
  | n + 1, x :: t, h => by
    rw [List.eraseDups_cons]
    refine List.nodup_cons.mpr ⟨fun m => ?_, dups_nd n _ (Nat.le_trans (List.length_filter_le _ _) (by rw [List.length_cons] at h; omega))⟩
    have z := List.mem_eraseDups.mp m
    have y := (List.mem_filter.mp z).2
    simp at y
theorem nodup_perm {α : Type} [DecidableEq α] : ∀ {l m : List α}, l.Nodup → m.Nodup → (∀ x, x ∈ l ↔ x ∈ m) → l.Perm m
  | [], m, _, _, h => by
    cases m with
    | nil => exact List.Perm.refl _
    | cons y m => exact absurd ((h y).mpr List.mem_cons_self) (by simp)
  | x :: l, m, h1, h2, h => by
    obtain ⟨n1, n2⟩ := List.nodup_cons.mp h1
    have mx := (h x).mp List.mem_cons_self
    have ih := nodup_perm n2 (h2.erase x) fun y => by
      rw [h2.mem_erase_iff, ← h y, List.mem_cons]
      refine ⟨fun my => ⟨fun e => n1 (by rw [← e]; exact my), .inr my⟩, fun ⟨ne, z⟩ => z.resolve_left ne⟩
    exact (ih.cons x).trans (List.perm_cons_erase mx).symm
theorem erase_cut {x : Str} : ∀ {t : List Str}, x ∈ t → t.erase x = t.take (t.idxOf x) ++ t.drop (t.idxOf x + 1)
  | y :: t, m => by
    by_cases e : y = x
    · subst e
      rw [List.erase_cons_head, List.idxOf_cons_self]
      rfl
    · have mt : x ∈ t := (List.mem_cons.mp m).resolve_left fun z => e z.symm
      rw [List.erase_cons_tail (by simpa using e), List.idxOf_cons, show (y == x) = false from beq_eq_false_iff_ne.mpr e, erase_cut mt]
      rfl
theorem cutFrom (xs : List V) (n : Nat) : cutV xs (some (n : Int)) none = xs.drop n := by
  unfold cutV HT.sIx
  simp only [show ¬ ((n : Int) < 0) from by omega]
  rcases Nat.lt_or_ge n xs.length with l | g
  · rw [if_neg (by simp), show min ((n : Int)).toNat xs.length = n by omega, List.take_of_length_le (by rw [List.length_drop]; exact Nat.le_refl _)]
  · rw [if_neg (by simp), show min ((n : Int)).toNat xs.length = xs.length by omega, List.drop_eq_nil_of_le (Nat.le_refl _), List.drop_eq_nil_of_le g, List.take_nil]
section
variable {P : Program} {w : World} {K : PySem.W.Frag} {mg : Str → Option Value} {base : Heap} {C : Addr}
theorem scEc : FnScope ["held"] ["held"] (defScope sEach) := ⟨rfl, rfl, rfl, by decide +kernel, rfl, by decide +kernel, by decide +kernel⟩
theorem ok_each {f : Addr} {fd : FuncData} (F : Fun K "_each" "_each" sEach f fd) (msort : mg "sorted" = none) (mset : mg "set" = none) : FnOk P w K mg base CX0 1 f fd ["held"] (spToTake eachT) := by
  refine F.ok scEc (fun vs H Q E h => ?_) (fun cdv A outer s H vs Q E hr h => ?_)
  · obtain ⟨a, t, rfl, _⟩ := h
    rfl
  · obtain ⟨a, t, rfl, ha, few, k⟩ := h
    have hu80 : (A.deeper (envOfC "_each" (defScope sEach) s.heap.objs.size f cdv)).units + 80 < cLine := by have := hr.un; omega
    refine ⟨_, pss_one (ps_ret (pe_callB (cr_sortX2 rfl hu80) (by rfl) msort PyProof.Rows.boot_sorted (pa_cons (pe_callTy (cr_setX rfl) (by rfl) mset PyProof.Rows.boot_set (pa_cons (pv 0) pa_nil)) pa_nil))), ?_⟩
    refine ⟨_, rfl, a, t, rfl, TpF.sq ha, by omega, fun o L ho i1 i2 nd => ?_⟩
    have pm : L.Perm t.eraseDups := nodup_perm nd (dups_nd _ t (Nat.le_refl _)) fun x => ⟨fun m => List.mem_eraseDups.mpr (i1 x m), fun m => i2 x (List.mem_eraseDups.mp m)⟩
    have lL : L.length ≤ t.length := nodup_most _ _ nd i1
    refine ⟨o, L, rfl, upd_same, by omega, fun L1 p p1 hp => k p _ ((same_new ho).trans (same_new hp)) ?_⟩
    rw [upd_same]
    unfold eachT
    rw [srtS_perm (p1.trans pm)]
theorem scWt : FnScope ["held", "word", "at"] ["held", "word"] (defScope sWithout) := ⟨rfl, rfl, rfl, by decide +kernel, rfl, by decide +kernel, by decide +kernel⟩
theorem ok_without {f : Addr} {fd : FuncData} (F : Fun K "_without" "_without" sWithout f fd) : FnOk P w K mg base CX0 1 f fd ["held", "word"] spWithout := by
  refine F.ok scWt (fun vs H Q E h => ?_) (fun cdv A outer s H vs Q E hr h => ?_)
  · obtain ⟨a, t, x, rfl, _⟩ := h
    rfl
  · obtain ⟨a, t, x, rfl, ha, few, mx, k⟩ := h
    refine ⟨_, pss_cons (ps_set (i := 2) scWt.nd rfl (Or.inl rfl) (pe_bmF PySem.F.plainAttrs_tuple PySem.F.slot_tuple_index PySem.F.type_tuple_index mt_tup_index (pv 0) (pa_cons (pv 1) pa_nil)))
      (pss_one (ps_ret (pe_op Kd.op_catF (pe_slice sl_tupF (pv 0) po_none (po_some (pv 2))) (pe_slice sl_tupF (pv 0) (po_some (pe_op op_add (pv 2) pe_int)) po_none)))), ?_⟩
    have lj : t.idxOf x < t.length := List.idxOf_lt_length_of_mem mx
    have ej : t[t.idxOf x]? = some x := by rw [List.getElem?_eq_getElem lj, List.getElem_idxOf lj]
    refine ⟨_, rfl, ⟨a, _, rfl, ha⟩, _, rfl, a, t, x, t.idxOf x, rfl, rfl, TpF.sq ha, ej, fun m lt e => ?_, ?_⟩
    · have z := List.not_of_lt_findIdx (p := fun y => y == x) (show m < List.findIdx (· == x) t from lt)
      obtain ⟨l1, e1⟩ := List.getElem?_eq_some_iff.mp e
      rw [e1] at z
      simp at z
    · refine ⟨_, rfl, _, rfl, _, rfl, a, _, rfl, ha, fun p H1 s1 hp => ?_⟩
      refine ⟨_, rfl, _, rfl, _, _, rfl, rfl, _, rfl, a, _, rfl, ha.to (TF.of s1), fun q H2 s2 hq => ?_⟩
      refine ⟨p, q, _, _, rfl, rfl, hp.to (TF.of s2), hq, small_len (m := 200) ?_, fun r H3 s3 hr' => k r H3 ((s1.trans s2).trans s3) ?_⟩
      · have z1 := cutV_length (t.map V.str) none (some ((t.idxOf x : Nat) : Int))
        have z2 := cutV_length (t.map V.str) (some ((t.idxOf x : Nat) + 1 : Int)) none
        rw [List.length_map] at z1 z2
        omega
      · have e1 : cutV (t.map V.str) none (some ((t.idxOf x : Nat) : Int)) = (t.take (t.idxOf x)).map V.str := by rw [cutTo, List.map_take]
        have e2 : cutV (t.map V.str) (some ((t.idxOf x : Nat) + 1 : Int)) none = (t.drop (t.idxOf x + 1)).map V.str := by
          rw [show ((t.idxOf x : Nat) + 1 : Int) = ((t.idxOf x + 1 : Nat) : Int) by omega, cutFrom, List.map_drop]
        show TpF H3 r ((t.erase x).map V.str)
        rw [erase_cut mx, List.map_append, ← e1, ← e2]
        exact hr'
abbrev nCw : List Str := ["words", "word"]
theorem scCw : FnScope nCw ["words"] (defScope sCkW) := ⟨rfl, rfl, rfl, by decide +kernel, rfl, by decide +kernel, by decide +kernel⟩
theorem ok_ckw {f fW : Addr} {fd fdW : FuncData} (F : Fun K "_check_words" "_check_words" sCkW f fd) (G : Gs mg)
    (GW : FnOk P w K mg base CX0 1 fW fdW ["thing"] spWord) (mW : mg "is_word" = some (.ref fW)) (kW : PySem.W.keepIn K (.ref fW) = true) (bW : Binds K fdW ["thing"] []) :
    FnOk P w K mg base CX0 2 f fd ["words"] spCkW := by
  refine F.ok scCw (fun vs H Q E h => ?_) (fun cdv A outer s H vs Q E hr h => ?_)
  · obtain ⟨a, ws, rfl, _⟩ := h
    rfl
  · obtain ⟨a, ws, rfl, ha, ne, wr, nd, few, k⟩ := h
    refine ⟨_, pss_one (ps_if (PW.pt (pw_or (pt_not (pt_truth (pv 0) (by intro _; rfl))) (pw_or (pt_not (pt_val (pe_callB (cr_all rfl) (by rfl) G.all PyProof.Rows.boot_all (pa_cons (pe_lc (own := [("word", 1)]) (g := gName 1) (tt := tYes) (te := tCall spWord [] E0 (tCons (tVar 1) tNil)) rfl scCw.nd (pi_tup (pv 0)) (blkOk_by (N := nCw) (sc := defScope sCkW) (by decide +kernel))
        (fun _ _ _ _ _ => pg_name (i := 1) scCw.nd rfl (Or.inl rfl)) (fun _ _ _ _ _ => pts_nil) (fun _ _ _ _ _ => pe_call GW hr (by rfl) mW kW bW .nil pass0 (pa_cons (pv 1) pa_nil))) pa_nil))))
      (pw_or1 (pt_cmp (pc_lt (pe_callB cr_lenX (by rfl) G.len PySem.boot_len (pa_cons (pe_callTy (cr_setX rfl) (by rfl) G.set PyProof.Rows.boot_set (pa_cons (pv 0) pa_nil)) pa_nil)) (pe_callB (r := rLenQ K) call_len_seq (by rfl) G.len PySem.boot_len (pa_cons (pv 0) pa_nil)))))))) (pss_one ps_never) pss_nil), ?_⟩
    have e0 : ((ws.map V.str).isEmpty) = false := by
      cases ws with
      | nil => exact absurd rfl ne
      | cons x ws => rfl
    refine ⟨_, rfl, true, .inr (.inl ⟨_, SqT.of ha, by rw [e0]; rfl⟩), ?_⟩
    refine ⟨_, rfl, a, rfl, ⟨_, SqT.of ha⟩, fun D hD => lc_tup (K := K) (a := a) (xs := ws.map V.str) (fun i H2 => Same H H2 ∧ H2 D = some (.lst ((List.replicate i true).map V.bl))) ⟨same_new hD, upd_same⟩ (fun i H2 _ ⟨s2, _⟩ => SqT.of (s2 _ _ ha)) (fun i x H2 ex ⟨s2, d2⟩ => ?_) fun H2 ⟨s2, d2⟩ => ?_⟩
    · rw [List.getElem?_map] at ex
      obtain ⟨y, ey, rfl⟩ := Option.map_eq_some_iff.mp ex
      have lt : i < ws.length := (List.getElem?_eq_some_iff.mp ey).1
      refine ⟨rfl, _, rfl, y, rfl, wr y (List.mem_of_getElem? ey), fun H3 s3 => ⟨_, s3 _ _ d2, ?_, same_at (s2.trans s3) hD, ?_⟩⟩
      · rw [List.length_map, List.length_replicate]
        exact small_lt (m := 40) (by omega)
      · rw [upd_same, List.replicate_succ', List.map_append]
        rfl
    · refine ⟨D, _, rfl, SqL.of d2, _, rfl, ?_⟩
      have e : ((List.replicate (ws.map V.str).length true).all id) = true := by simp
      rw [e]
      refine ⟨_, rfl, a, ws, rfl, SqT.of (s2 _ _ ha), by omega, fun o L ho i1 i2 ndL => ⟨o, L, rfl, upd_same, _, rfl, a, _, rfl, .inr (SqT.of (by rw [upd_ne (ne_of_none (s2 _ _ ha) ho)]; exact s2 _ _ ha)), _, _, rfl, rfl, _, rfl, ?_⟩⟩
      have pm : L.Perm ws := nodup_perm ndL nd fun x => ⟨i1 x, i2 x⟩
      rw [List.length_map, pm.length_eq]
      exact ite_F (decide_eq_false (Int.lt_irrefl _)) (k _ (s2.trans (same_new ho)))
end
end My

-- ===== KG10 =====
set_option Elab.async false
set_option linter.all false
set_option maxRecDepth 100000
set_option maxHeartbeats 4000000
namespace Kd
open PySem PySem.Spec PyProof.Rows L2 LamX NdefX
section
variable {X : Cx} {CX : CXT} {k i : Nat} {f : Addr} {fd : FuncData} {ps : List Str} {sp : Sp} {x : Str} {p pos : Pos} {e : Expr} {es : List Expr} {t : TA} {E : XK}
/-- f(..), f a name that holds a function of the program -/
def tCallGv (i : Nat) (f : Addr) (sp : Sp) (E : XK) (t : TA) : TE := fun σ H Q => σ[i]? = some (some (.ref f)) ∧ t σ H fun vs H1 => sp vs H1 Q E
theorem pe_callGv (F : FnOk X.prog X.w X.K X.mg X.base CX k f fd ps sp) (hr : Room k X.A) (hk : PySem.W.keepIn X.K (.ref f) = true) (hb : Binds X.K fd ps []) (hx : Passes CX X E) (hN : X.N[i]? = some x) (ha : PA X (e :: es) t)
    (hv : Vis X.env.scope x := by first | exact Or.inl rfl | exact Or.inr (Or.inl rfl) | exact Or.inr (Or.inr rfl)) (hd : (x == ("__debug__" : Str)) = false := by decide) (hcd : (x == ("__classdict__" : Str)) = false := by decide)
    (star : starEach (e :: es) X.env = (false, eval e X.env) :: starEach es X.env := by rfl) (plain : (backTo pos (starEach es X.env)).any (·.1) = false := by rfl) :
    PE X (.Call (.Name x p) (e :: es) [] pos) (tCallGv i f sp E t) := by
  refine ⟨fun pins s σ H Q I h => ?_⟩
  obtain ⟨hs, ht⟩ := h
  refine wpAny_Call_Name_kw (thn ((pe_var (pos := p) hN hv hd hcd).run pins s σ H (fun v H1 => v = .ref f ∧ H1 = H) I ⟨.ref f, hs, rfl, rfl⟩) fun u s1 ⟨v, H1, I1, r1, q1⟩ => ?_)
  obtain ⟨ev, eH⟩ := q1
  subst ev
  rw [eH] at I1
  obtain rfl : u = Value.ref f := r1
  refine PySem.W.callWith_K (h₀ := X.base) I1.ok.mod.kin hk (thn (ha.run pos pins s1 σ H _ I1 ht) fun us s2 ⟨vs, H2, I2, r, q⟩ => ⟨I2.kIn, ?_⟩) star plain
  exact run_fn F hr hb .nil hx I2 r (by rw [List.append_nil]; exact q)
end
end Kd
namespace My
open PySem L2 PyProof.Rows PySem.Spec Kd TL LamX NdefX StX ClX
abbrev sHolder : Stmt := top 55
abbrev sHom : Stmt := inDef sHolder 2
abbrev nHm : List Str := ["held", "places", "put_in", "to_take", "words", "steps", "word"]
theorem strsK_map : ∀ t : List Str, strsK (t.map Sum.inr) = t
  | [] => rfl
  | x :: t => by
    have ih := strsK_map t
    show x :: strsK (t.map Sum.inr) = x :: t
    rw [ih]
theorem kvs_map (t : List Str) : (t.map Sum.inr).map kV = t.map V.str := by
  rw [List.map_map]
  rfl
theorem gat_ws {H : Hp} {a : Addr} {t : List Str} (h : TxF H a t) : GAt H (.ref a) (wsG t) := ⟨a, rfl, by rw [kvs_map]; exact h⟩
theorem ws_gat {H : Hp} {v : V} {t : List Str} (h : GAt H v (wsG t)) : ∃ a, v = .ref a ∧ TxF H a t := by
  obtain ⟨a, e, h⟩ := h
  rw [kvs_map] at h
  exact ⟨a, e, h⟩
/-- text + text -/
def rAddS : R2 := fun x y H Q => ∃ i j, x = .str i ∧ y = .str j ∧ i.length + j.length ≤ sizeLine ∧ Q (.str (i ++ j)) H
def spMvH (put : List Str → Str → List Str) (take : List Str → List Str) (fP fT : Addr) : List (Option V) → Sp := fun ws vs H Q _ => ∃ (n : Nat) (aw a : Addr) (wds t : List Str), ws = [some (.int (n : Int)), some (.ref fP), some (.ref fT), some (.ref aw)] ∧ vs = [.ref a] ∧ TxF H a t ∧ TxT H aw wds ∧ t.length ≤ 100 ∧ wds.length ≤ 20 ∧ (∀ x ∈ wds, x.length ≤ 12) ∧ (∀ x ∈ take t, x ∈ t) ∧ (take t).length ≤ 100 ∧
  ∀ (l : Addr) (L : List (Addr × GStp)) (H' : Hp), Same H H' → Gst H' l L → L.map Prod.snd = holderM n wds put take (wsG t) → Q (.ref l) H'
section
variable {P : Program} {w : World} {K : PySem.W.Frag} {mg : Str → Option Value} {base : Heap} {C : Addr}
theorem nok_holder {put : List Str → Str → List Str} {take : List Str → List Str} {f c fP fT fW : Addr} {fdP fdT fdW : FuncData} {cl : List (Str × Addr)} {q : Str} (mlen : mg "len" = none)
    (GP : FnOk P w K mg base CX0 1 fP fdP ["held", "word"] (spPutIn put)) (kP : PySem.W.keepIn K (.ref fP) = true) (bP : Binds K fdP ["held", "word"] [])
    (GT : FnOk P w K mg base CX0 1 fT fdT ["held"] (spToTake take)) (kT : PySem.W.keepIn K (.ref fT) = true) (bT : Binds K fdT ["held"] [])
    (GW : FnOk P w K mg base CX0 1 fW fdW ["held", "word"] spWithout) (mW : mg "_without" = some (.ref fW)) (kW : PySem.W.keepIn K (.ref fW) = true) (bW : Binds K fdW ["held", "word"] []) :
    NOk P w K mg base CX0 2 f (NF.of sHom "moves" q cl c) ["held"] ["places", "put_in", "to_take", "words"] (spMvH put take fP fT) := by
  have S : NSc nHm ["held"] ["places", "put_in", "to_take", "words"] (NF.of sHom "moves" q cl c).scope := (nsc_by (by decide +kernel) : NSc nHm ["held"] ["places", "put_in", "to_take", "words"] (C8.fnScope sHom))
  refine nokc_of (N := nHm) S (fun doc pm ctv us hl => ?_) (fun ws vs H Q E h => ?_) (fun A outer s H vs ws Q E hr hf hc lw h => ?_)
  · obtain ⟨u, rfl⟩ : ∃ u, us = [u] := by
      match us, hl with
      | [u], _ => exact ⟨u, rfl⟩
    rfl
  · obtain ⟨n, _, _, _, _, _, rfl, _⟩ := h
    rfl
  · obtain ⟨n, aw, a, wds, t, rfl, rfl, ha, haw, lt, lw2, wl, tin, tl, k⟩ := h
    refine ⟨_, pss_cons (ps_setLc (i := 5) (own := [("word", 6)]) (g := gName 6) (tt := tYes) (te := tTup (tCons (tC (.str "take")) (tCons (tVar 6) (tCons (tCall spWithout [] E (tCons (tVar 0) (tCons (tVar 6) tNil))) tNil)))) rfl S.nd rfl rfl (sw_true rfl rfl rfl (by decide +kernel)) (pi_list (pe_callGv (i := 3) GT hr kT bT pass0 rfl (pa_cons (pv 0) pa_nil))) (blkOk_by (N := nHm) (sc := C8.fnScope sHom) (by decide +kernel)) (fun _ _ _ _ _ => pg_name (i := 6) S.nd rfl (Or.inl rfl)) (fun _ _ _ _ _ => pts_nil)
        (fun _ _ _ _ _ => pe_tup (pa_cons pe_str (pa_cons (pv 6) (pa_cons (pe_call GW hr (by rfl) mW kW bW .nil pass0 (pa_cons (pv 0) (pa_cons (pv 6) pa_nil))) pa_nil)))))
      (pss_cons (ps_if (pt_cmpR op_eq (pe_callB (r := rLenQ K) call_len_seq (by rfl) mlen PySem.boot_len (pa_cons (pv 0) pa_nil)) (pv 1) (nomark _)) (pss_one (ps_ret (pv 5))) pss_nil)
      (pss_one (ps_ret (pe_op op_cat (pv 5)
        (pe_lc (own := [("word", 6)]) (g := gName 6) (tt := tYes) (te := tTup (tCons (tOp rAddS (tC (.str "put")) (tVar 6)) (tCons (tC (.str "ok")) (tCons (tCallGv 2 fP (spPutIn put) E (tCons (tVar 0) (tCons (tVar 6) tNil))) tNil)))) rfl S.nd (pi_tup (pv 4)) (blkOk_by (N := nHm) (sc := C8.fnScope sHom) (by decide +kernel)) (fun _ _ _ _ _ => pg_name (i := 6) S.nd rfl (Or.inl rfl)) (fun _ _ _ _ _ => pts_nil)
          (fun _ _ _ _ _ => pe_tup (pa_cons (pe_op op_add_str pe_str (pv 6)) (pa_cons pe_str (pa_cons (pe_callGv (i := 2) GP hr kP bP pass0 rfl (pa_cons (pv 0) (pa_cons (pv 6) pa_nil))) pa_nil))))))))), ?_⟩
    -- steps = [("take", word, _without(held, word)) ..]
    refine ⟨rfl, _, rfl, a, t, rfl, ha, lt, fun lk H1 s1 hlk => ?_⟩
    refine ⟨lk, rfl, ⟨_, SqL.of hlk⟩, fun D hD => lc_list (K := K) (a := lk) (xs := (take t).map V.str) (fun j H2 => Same H1 H2 ∧ ∃ L, Gst H2 D L ∧ L.map Prod.snd = ((take t).take j).map fun x => stp "take" x (wsG (t.erase x))) ⟨same_new hD, [], ⟨upd_same, fun q mq => by cases mq⟩, rfl⟩ (fun j H2 _ ⟨s2, _⟩ => SqL.of (s2 _ _ hlk)) (fun j x H2 hj ⟨s2, L, gL, eL⟩ => ?_) fun H2 ⟨s2, L, gL, eL⟩ => ?_⟩
    · rw [List.getElem?_map] at hj
      obtain ⟨x, ex, rfl⟩ := Option.map_eq_some_iff.mp hj
      have xt := tin x (List.mem_of_getElem? ex)
      refine ⟨rfl, _, rfl, _, rfl, _, rfl, a, t, x, rfl, ha.to (TF.of (s1.trans s2)), lt, xt, fun p H3 s3 hp => ⟨small_len (m := 3) (Nat.le_refl _), fun u hu => ⟨_, by rw [upd_ne (ne_of_none (s3 _ _ gL.lst) hu)]; exact s3 _ _ gL.lst, ?_, same_at ((s2.trans s3).trans (same_new hu)) hD, L ++ [(u, stp "take" x (wsG (t.erase x)))], ?_, ?_⟩⟩⟩
      · have z := congrArg List.length eL
        rw [List.length_map, List.length_map, List.length_take] at z
        exact small_lt (m := 100) (by rw [List.length_map]; omega)
      · exact Gst.add (x := stp "take" x (wsG (t.erase x))) (gL.less s3) hu (gat_ws hp)
      · rw [take_map_succ ex, ← eL, List.map_append]
        rfl
    · rw [List.length_map, List.take_length] at eL
      have lL : L.length = (take t).length := by
        have z := congrArg List.length eL
        rwa [List.length_map, List.length_map] at z
      have s02 := s1.trans s2
      refine ⟨_, rfl, a, _, rfl, .inr (TpF.sq (ha.to (TF.of s02))), _, rfl, rfl, _, rfl, ?_⟩
      rw [List.length_map]
      by_cases full : t.length = n
      · refine ite_T (decide_eq_true (by rw [full])) ⟨_, rfl, k D L H2 s02 gL ?_⟩
        rw [eL]
        show _ = (take (strsK (t.map Sum.inr))).map (fun w => stp "take" w (wsG ((strsK (t.map Sum.inr)).erase w))) ++ if (strsK (t.map Sum.inr)).length = n then [] else wds.map fun w => stp (("put" : Str) ++ w) "ok" (wsG (put (strsK (t.map Sum.inr)) w))
        rw [strsK_map, if_pos full, List.append_nil]
      · refine ite_F (decide_eq_false fun z => full (Int.ofNat.inj (V.int.inj z))) ?_
        refine ⟨_, rfl, _, rfl, aw, rfl, ⟨_, SqT.of (s02 _ _ haw)⟩, fun D' hD' => lc_tup (K := K) (a := aw) (xs := wds.map V.str) (fun j H3 => Same H2 H3 ∧ ∃ L', Gst H3 D' L' ∧ L'.map Prod.snd = (wds.take j).map fun x => stp (("put" : Str) ++ x) "ok" (wsG (put t x))) ⟨same_new hD', [], ⟨upd_same, fun q mq => by cases mq⟩, rfl⟩ (fun j H3 _ ⟨s3, _⟩ => SqT.of (s3 _ _ (s02 _ _ haw))) (fun j x H3 hj ⟨s3, L', gL', eL'⟩ => ?_) fun H3 ⟨s3, L', gL', eL'⟩ => ?_⟩
        · rw [List.getElem?_map] at hj
          obtain ⟨x, ex, rfl⟩ := Option.map_eq_some_iff.mp hj
          have xl := wl x (List.mem_of_getElem? ex)
          have l3 : ("put" : Str).length = 3 := by decide +kernel
          refine ⟨rfl, _, rfl, _, _, rfl, rfl, by rw [l3, sizeLine_eq]; omega, rfl, _, rfl, _, rfl, a, t, x, rfl, ha.to (TF.of (s02.trans s3)), lt, fun p H4 s4 hp => ⟨small_len (m := 3) (Nat.le_refl _), fun u hu => ⟨_, by rw [upd_ne (ne_of_none (s4 _ _ gL'.lst) hu)]; exact s4 _ _ gL'.lst, ?_, same_at ((s3.trans s4).trans (same_new hu)) hD', L' ++ [(u, stp (("put" : Str) ++ x) "ok" (wsG (put t x)))], ?_, ?_⟩⟩⟩
          · have z := congrArg List.length eL'
            rw [List.length_map, List.length_map, List.length_take] at z
            exact small_lt (m := 20) (by rw [List.length_map]; omega)
          · exact Gst.add (x := stp (("put" : Str) ++ x) "ok" (wsG (put t x))) (gL'.less s4) hu (gat_ws hp)
          · rw [take_map_succ ex, ← eL', List.map_append]
            rfl
        · rw [List.length_map, List.take_length] at eL'
          have lL' : L'.length = wds.length := by
            have z := congrArg List.length eL'
            rwa [List.length_map, List.length_map] at z
          have gL3 := gL.less s3
          refine ⟨D, D', _, _, rfl, rfl, gL3.lst, gL'.lst, small_len (m := 120) (by rw [List.length_map, List.length_map]; omega), fun p hp => ?_⟩
          refine k p (L ++ L') _ ((s02.trans s3).trans (same_new hp)) ⟨by rw [upd_same, List.map_append], fun q mq => ?_⟩ ?_
          · exact ((List.mem_append.mp mq).elim (gL3.at_ q) (gL'.at_ q)).to (TF.of (same_new hp))
          · rw [List.map_append, eL, eL']
            show _ = (take (strsK (t.map Sum.inr))).map (fun w => stp "take" w (wsG ((strsK (t.map Sum.inr)).erase w))) ++ if (strsK (t.map Sum.inr)).length = n then [] else wds.map fun w => stp (("put" : Str) ++ w) "ok" (wsG (put (strsK (t.map Sum.inr)) w))
            rw [strsK_map, if_neg full]
end
end My

-- ===== KG11 =====
set_option Elab.async false
set_option linter.all false
set_option maxRecDepth 100000
set_option maxHeartbeats 4000000
namespace My
open PySem L2 PyProof.Rows PySem.Spec Kd TL LamX NdefX StX ClX
theorem ndHo : ndefB (defScope sHolder) (C8.fnScope sHom) ["places", "put_in", "to_take", "words"] = true := by decide +kernel
abbrev qHo : Str := "_holder.<locals>.moves"
abbrev nHo : List Str := ["places", "words", "put_in", "to_take", "moves"]
theorem scHo : FnScope nHo ["places", "words", "put_in", "to_take"] (defScope sHolder) := ⟨rfl, rfl, rfl, by decide +kernel, rfl, by decide +kernel, by decide +kernel⟩
/-- a holder's arguments, where a kind comes of them -/
structure HoOk (n : Nat) (wds : List Str) (put : List Str → Str → List Str) (take : List Str → List Str) (Dom : List GV) (es : List (Str × Str)) : Prop where
  one : 1 ≤ n
  ne : wds ≠ []
  wr : ∀ x ∈ wds, Wrd x
  nd : wds.Nodup
  few : wds.length ≤ 20
  mv : MvOk (holderM n wds put take) Dom es
  dom : ∀ g ∈ Dom, ∃ t : List Str, g = wsG t ∧ t.length ≤ 100 ∧ (∀ x ∈ take t, x ∈ t) ∧ (take t).length ≤ 100
  zero : wsG [] ∈ Dom
def spHolder (T : List NTab) (C : Addr) (put : List Str → Str → List Str) (take : List Str → List Str) (fP fT : Addr) : Sp := fun vs H Q _ => ∃ (n : Nat) (aw : Addr) (wds : List Str) (Dom : List GV) (es : List (Str × Str)), vs = [.int (n : Int), .ref aw, .ref fP, .ref fT] ∧ TxT H aw wds ∧ HoOk n wds put take Dom es ∧ TabsN T H ∧
  ∀ u vals ls H', ExtN H H' → TabsN T H' → KindAt C H' u ls → Grown (holderM n wds put take) (wsG []) vals ls → Q u H'
section
variable {P : Program} {w : World} {K : PySem.W.Frag} {mg : Str → Option Value} {base : Heap} {C : Addr}
theorem ok_holder {put : List Str → Str → List Str} {take : List Str → List Str} {T : List NTab} {f c Pt fC fA fG fP fT fW : Addr} {fdC fdA fdG fdP fdT fdW : FuncData} {oc kV doc pm ct : Value} {od an : Option Addr} {osl : Array (Option Value)}
    (lk : K.lookup f = some ⟨oc, od, .func (PySem.W.fnOf "_holder" "_holder" (defArgs sHolder) (defBody sHolder) (defScope sHolder) .none kV doc pm an (.ref c) ct), osl⟩) (hcd : PySem.W.codeIn K (.ref c) "_holder" = true) (mlen : mg "len" = none)
    (TB : LamX.TabB base mg c Pt) (hm : (Pt, fun _ _ => qHo) ∈ T) (hu : ∀ p ∈ T, p.1 = Pt → p.2 = fun _ _ => qHo)
    (GC : FnOk P w K mg base CX0 2 fC fdC ["thing", "least"] spCkNum) (mC : mg "_check_number" = some (.ref fC)) (kC : PySem.W.keepIn K (.ref fC) = true) (bC : Binds K fdC ["thing", "least"] [])
    (GA : FnOk P w K mg base CX0 2 fA fdA ["words"] spCkW) (mA : mg "_check_words" = some (.ref fA)) (kA : PySem.W.keepIn K (.ref fA) = true) (bA : Binds K fdA ["words"] [])
    (GP : FnOk P w K mg base CX0 1 fP fdP ["held", "word"] (spPutIn put)) (kP : PySem.W.keepIn K (.ref fP) = true) (bP : Binds K fdP ["held", "word"] [])
    (GT : FnOk P w K mg base CX0 1 fT fdT ["held"] (spToTake take)) (kT : PySem.W.keepIn K (.ref fT) = true) (bT : Binds K fdT ["held"] [])
    (GW : FnOk P w K mg base CX0 1 fW fdW ["held", "word"] spWithout) (mW : mg "_without" = some (.ref fW)) (kW : PySem.W.keepIn K (.ref fW) = true) (bW : Binds K fdW ["held", "word"] [])
    (GG : FnS P w K mg base CX0 7 fG fdG ["first", "moves"] (spGrown P w K mg base C "held")) (mG : mg "_grown" = some (.ref fG)) (kG : PySem.W.keepIn K (.ref fG) = true) (bG : Binds K fdG ["first", "moves"] []) :
    FnOk P w K mg base CX0 8 f (PySem.W.fnOf "_holder" "_holder" (defArgs sHolder) (defBody sHolder) (defScope sHolder) .none kV doc pm an (.ref c) ct) ["places", "words", "put_in", "to_take"] (spHolder T C put take fP fT) := by
  refine fn_of lk hcd scHo (fun vs H Q E h => ?_) (fun A outer s H vs Q E hr h => ?_)
  · obtain ⟨n, _, _, _, _, rfl, _⟩ := h
    rfl
  · obtain ⟨n, aw, wds, Dom, es, rfl, haw, HO_, tb, k⟩ := h
    have hr2 := hr.mono (show 2 ≤ 7 by omega)
    refine ⟨_, pss_cons (ps_expr (pe_call GC hr2 (by rfl) mC kC bC .nil pass0 (pa_cons (pv 0) (pa_cons pe_int pa_nil))))
      (pss_cons (ps_expr (pe_call GA hr2 (by rfl) mA kA bA .nil pass0 (pa_cons (pv 1) pa_nil)))
      (pss_cons (ps_ndefS (T := T) (nm := fun _ _ => qHo) (st := sHom) (name := "moves") (i := 4) rfl TB rfl hm rfl hu (ndef_free (sc := defScope sHolder) ndHo) rfl rfl rfl scHo.nd rfl (Or.inl rfl) (Or.inl rfl))
      (pss_one (ps_ret (pe_grown (mk := NF.of sHom "moves" qHo (cloFrom (envOfC "_holder" (defScope sHolder) s.heap.objs.size f (.ref c)).cells (C8.fnScope sHom).names [])) (fr := ["places", "put_in", "to_take", "words"]) (js := [0, 2, 3, 1]) (spF := spMvH put take fP fT) GG (fun _ => rfl) (fun ok c' => Caps.made ok (ndef_free (sc := defScope sHolder) ndHo) (ndef_fr ndHo) rfl) (fun _ => rfl) hr (by rfl) mG kG bG pass0 (pa_cons (pe_tupF pa_nil) (pa_cons (pv 4) pa_nil))))))), ?_⟩
    have one := HO_.one
    refine ⟨_, rfl, (n : Int), 1, rfl, by omega, by omega, fun H1 s1 => ?_⟩
    have haw1 : TxT H1 aw wds := s1 _ _ haw
    refine ⟨_, rfl, aw, wds, rfl, haw1, HO_.ne, HO_.wr, HO_.nd, HO_.few, fun H2 s2 => ?_⟩
    refine ⟨fun q mq => (tb q mq).ext (s1.trans s2), fun fm c' H3 e3 t3 n3 hf3 hc3 => ?_⟩
    have haw3 : TxT H3 aw wds := e3 _ _ (s2 _ _ haw1) fun ps z => by cases z
    refine ⟨small_len (m := 0) (Nat.le_refl _), fun p H4 s4 hp tp => ?_⟩
    refine ⟨_, rfl, .ref p, fm, c', wsG [], holderM n wds put take, Dom, es, true, rfl, gat_ws tp, HO_.zero, HO_.mv, fun g hg => ?_, s4 _ _ hf3, s4 _ _ hc3, (nok_holder mlen GP kP bP GT kT bT GW mW kW bW).mono (by decide), fun vs H5 Q E s5 h => ?_, fun u vals ls H5 s5 ka gr => ?_⟩
    · obtain ⟨t, rfl, _⟩ := HO_.dom g hg
      rfl
    · obtain ⟨v, g, rfl, hv, hg, k'⟩ := h
      obtain ⟨t, rfl, t1, t2, t3⟩ := HO_.dom g hg
      obtain ⟨a, rfl, ha⟩ := ws_gat hv
      exact ⟨n, aw, a, wds, t, rfl, rfl, ha, s5 _ _ (s4 _ _ haw3), t1, HO_.few, fun x mx => (HO_.wr x mx).2.1, t2, t3, fun l L H' s' G e => k' l L H' s' G.lst e G.at_⟩
    · exact k u vals ls H5 ((((ExtN.of (s1.trans s2)).trans e3).trans (ExtN.of s4)).trans (ExtN.of s5)) (fun q mq => (t3 q mq).ext (s4.trans s5)) ka gr
end
end My

-- ===== KG12 =====
set_option Elab.async false
set_option linter.all false
set_option maxRecDepth 100000
set_option maxHeartbeats 4000000
namespace My
open PySem L2 PyProof.Rows PySem.Spec Kd TL LamX NdefX StX ClX
/-- queue(places, *words), its arguments bound -/
def spQue (T : List NTab) (C : Addr) (put : List Str → Str → List Str) (take : List Str → List Str) : Sp := fun vs H Q _ => ∃ (n : Nat) (aw : Addr) (wds : List Str) (Dom : List GV) (es : List (Str × Str)), vs = [.int (n : Int), .ref aw] ∧ TxT H aw wds ∧ HoOk n wds put take Dom es ∧ TabsN T H ∧
  ∀ u vals ls H', ExtN H H' → TabsN T H' → KindAt C H' u ls → Grown (holderM n wds put take) (wsG []) vals ls → Q u H'
def spQueR (T : List NTab) (C : Addr) (put : List Str → Str → List Str) (take : List Str → List Str) : Sp := fun vs H Q E => ∃ ws rest, vs = ws ++ rest ∧ ws.length = ["places"].length ∧ rest.length ≤ sizeLine ∧ ∀ p, H p = Option.none → spQue T C put take (ws ++ [V.ref p]) (upd H p (.tup rest)) Q E

abbrev sQu : Stmt := top 39
section
variable {P : Program} {w : World} {K : PySem.W.Frag} {mg : Str → Option Value} {base : Heap} {C : Addr}
theorem scQu : FnScope ["places", "words"] ["places", "words"] (defScope sQu) := ⟨rfl, rfl, rfl, by decide +kernel, rfl, by decide +kernel, by decide +kernel⟩
theorem ok_queue {T : List NTab} {f fH fP fT : Addr} {fd fdH : FuncData} (F : Fun K "queue" "queue" sQu f fd)
    (GH : FnOk P w K mg base CX0 8 fH fdH ["places", "words", "put_in", "to_take"] (spHolder T C behindT firstT fP fT)) (mH : mg "_holder" = some (.ref fH)) (kH : PySem.W.keepIn K (.ref fH) = true) (bH : Binds K fdH ["places", "words", "put_in", "to_take"] [])
    (mP : mg "_behind" = some (.ref fP)) (mT : mg "_first" = some (.ref fT)) : FnR P w K mg base CX0 9 f (spQueR T C behindT firstT) := by
  obtain ⟨oc, od, kV, doc, pm, an, cdv, ct, osl, rfl, lk, hcd⟩ := F.ex
  refine fn_star (ps := ["places"]) (pv := "words") (sp := spQue T C behindT firstT) lk hcd scQu cxUp_none (bind_star1 (B := fun l => bindArgs (PySem.W.fnOf "queue" "queue" (defArgs sQu) (defBody sQu) (defScope sQu) .none kV doc pm an cdv ct) ⟨l, []⟩) (p1 := "places") (pv := "words") (fun a => rfl) (fun a r rs => rfl)) fun A outer s H vs Q E hr h => ?_
  obtain ⟨n, aw, wds, Dom, es, rfl, haw, HO_, tb, k⟩ := h
  refine ⟨_, pss_one (ps_ret (pe_call GH hr (by rfl) mH kH bH .nil pass0 (pa_cons (pv 0) (pa_cons (pv 1) (pa_cons (pe_glob (v := .ref fP) (by rfl) mP rfl) (pa_cons (pe_glob (v := .ref fT) (by rfl) mT rfl) pa_nil)))))), ?_⟩
  exact ⟨_, rfl, _, rfl, n, aw, wds, Dom, es, rfl, haw, HO_, tb, k⟩
end

abbrev sSk : Stmt := top 40
section
variable {P : Program} {w : World} {K : PySem.W.Frag} {mg : Str → Option Value} {base : Heap} {C : Addr}
theorem scSk : FnScope ["places", "words"] ["places", "words"] (defScope sSk) := ⟨rfl, rfl, rfl, by decide +kernel, rfl, by decide +kernel, by decide +kernel⟩
theorem ok_stack {T : List NTab} {f fH fP fT : Addr} {fd fdH : FuncData} (F : Fun K "stack" "stack" sSk f fd)
    (GH : FnOk P w K mg base CX0 8 fH fdH ["places", "words", "put_in", "to_take"] (spHolder T C aheadT firstT fP fT)) (mH : mg "_holder" = some (.ref fH)) (kH : PySem.W.keepIn K (.ref fH) = true) (bH : Binds K fdH ["places", "words", "put_in", "to_take"] [])
    (mP : mg "_ahead" = some (.ref fP)) (mT : mg "_first" = some (.ref fT)) : FnR P w K mg base CX0 9 f (spQueR T C aheadT firstT) := by
  obtain ⟨oc, od, kV, doc, pm, an, cdv, ct, osl, rfl, lk, hcd⟩ := F.ex
  refine fn_star (ps := ["places"]) (pv := "words") (sp := spQue T C aheadT firstT) lk hcd scSk cxUp_none (bind_star1 (B := fun l => bindArgs (PySem.W.fnOf "stack" "stack" (defArgs sSk) (defBody sSk) (defScope sSk) .none kV doc pm an cdv ct) ⟨l, []⟩) (p1 := "places") (pv := "words") (fun a => rfl) (fun a r rs => rfl)) fun A outer s H vs Q E hr h => ?_
  obtain ⟨n, aw, wds, Dom, es, rfl, haw, HO_, tb, k⟩ := h
  refine ⟨_, pss_one (ps_ret (pe_call GH hr (by rfl) mH kH bH .nil pass0 (pa_cons (pv 0) (pa_cons (pv 1) (pa_cons (pe_glob (v := .ref fP) (by rfl) mP rfl) (pa_cons (pe_glob (v := .ref fT) (by rfl) mT rfl) pa_nil)))))), ?_⟩
  exact ⟨_, rfl, _, rfl, n, aw, wds, Dom, es, rfl, haw, HO_, tb, k⟩
end

abbrev sPo : Stmt := top 41
section
variable {P : Program} {w : World} {K : PySem.W.Frag} {mg : Str → Option Value} {base : Heap} {C : Addr}
theorem scPo : FnScope ["places", "words"] ["places", "words"] (defScope sPo) := ⟨rfl, rfl, rfl, by decide +kernel, rfl, by decide +kernel, by decide +kernel⟩
theorem ok_pool {T : List NTab} {f fH fP fT : Addr} {fd fdH : FuncData} (F : Fun K "pool" "pool" sPo f fd)
    (GH : FnOk P w K mg base CX0 8 fH fdH ["places", "words", "put_in", "to_take"] (spHolder T C amongT eachT fP fT)) (mH : mg "_holder" = some (.ref fH)) (kH : PySem.W.keepIn K (.ref fH) = true) (bH : Binds K fdH ["places", "words", "put_in", "to_take"] [])
    (mP : mg "_among" = some (.ref fP)) (mT : mg "_each" = some (.ref fT)) : FnR P w K mg base CX0 9 f (spQueR T C amongT eachT) := by
  obtain ⟨oc, od, kV, doc, pm, an, cdv, ct, osl, rfl, lk, hcd⟩ := F.ex
  refine fn_star (ps := ["places"]) (pv := "words") (sp := spQue T C amongT eachT) lk hcd scPo cxUp_none (bind_star1 (B := fun l => bindArgs (PySem.W.fnOf "pool" "pool" (defArgs sPo) (defBody sPo) (defScope sPo) .none kV doc pm an cdv ct) ⟨l, []⟩) (p1 := "places") (pv := "words") (fun a => rfl) (fun a r rs => rfl)) fun A outer s H vs Q E hr h => ?_
  obtain ⟨n, aw, wds, Dom, es, rfl, haw, HO_, tb, k⟩ := h
  refine ⟨_, pss_one (ps_ret (pe_call GH hr (by rfl) mH kH bH .nil pass0 (pa_cons (pv 0) (pa_cons (pv 1) (pa_cons (pe_glob (v := .ref fP) (by rfl) mP rfl) (pa_cons (pe_glob (v := .ref fT) (by rfl) mT rfl) pa_nil)))))), ?_⟩
  exact ⟨_, rfl, _, rfl, n, aw, wds, Dom, es, rfl, haw, HO_, tb, k⟩
end
end My

-- ===== K61Lt =====
set_option Elab.async false
set_option linter.all false
set_option maxRecDepth 100000
set_option maxHeartbeats 4000000
namespace My
open PySem L2 PyProof.Rows PySem.Spec Kd TL StX ClX
abbrev sLett : Stmt := top 62
/-! ### a register's states -/
def setsL (ws : List Str) : List GStp := (List.range ws.length).map fun (j : Nat) => stp (("set" : Str) ++ ws.getD j "") "ok" (numG (j : Int))
def rowLt (ws : List Str) (k : Nat) : List GStp := stp "read" (ws.getD k "") (numG (k : Int)) :: setsL ws
def gInt : GV → Int
  | .inl (.inl i) => i
  | _ => 0
def toStp (x : GStp) : Stp := (x.1, x.2.1, gInt x.2.2)
def stL (ws : List Str) (k : Nat) : List Stp := (srtG (rowLt ws k)).map toStp
def ssL (ws : List Str) : List (List Stp) := (List.range ws.length).map (stL ws)
def wordsL : List (List Str) := [["a", "b"], ["b", "a", "c"], ["x1", "x"]]
def evsL (ws : List Str) : List Ev := (List.range ws.length).flatMap fun k => (rowLt ws k).map gev
def letB (ws : List Str) : Bool := (List.range ws.length).all (fun k => decide ((rowLt ws k).map gev).Nodup && (rowLt ws k).all fun x => decide (Wrd x.1) && (decide (Wrd x.2.1) && (decide (0 ≤ gInt x.2.2) && (decide (gInt x.2.2 < (ws.length : Int)) && decide (x.2.2 = numG (gInt x.2.2)))))) && (decide (1 ≤ ws.length) && (decide (ws.length ≤ 3) && (decide ((evsL ws).length ≤ 24) && ws.all fun z => decide (z.length ≤ 10))))
theorem let_all : ∀ ws ∈ wordsL, letB ws = true := by
  intro ws m
  simp only [wordsL, List.mem_cons, List.not_mem_nil, or_false] at m
  rcases m with rfl | rfl | rfl <;> decide +kernel
structure LetOk (ws : List Str) : Prop where
  nd : ∀ k < ws.length, ((rowLt ws k).map gev).Nodup
  st : ∀ k < ws.length, ∀ x ∈ rowLt ws k, (Wrd x.1 ∧ Wrd x.2.1) ∧ (0 ≤ gInt x.2.2 ∧ gInt x.2.2 < (ws.length : Int)) ∧ x.2.2 = numG (gInt x.2.2)
  one : 1 ≤ ws.length
  few : ws.length ≤ 3
  ev : (evsL ws).length ≤ 24
  len : ∀ z ∈ ws, z.length ≤ 10
theorem let_ok {ws : List Str} (m : ws ∈ wordsL) : LetOk ws := by
  have h := let_all ws m
  unfold letB at h
  simp only [Bool.and_eq_true, decide_eq_true_eq, List.all_eq_true, List.mem_range] at h
  obtain ⟨h1, h2, h3, h4, h5⟩ := h
  exact ⟨fun k l => (h1 k l).1, fun k l x mx => by
    obtain ⟨a, b, c, d, e⟩ := (h1 k l).2 x mx
    exact ⟨⟨a, b⟩, ⟨c, d⟩, e⟩, h2, h3, h4, h5⟩
theorem LetOk.sto {ws : List Str} (h : LetOk ws) {k : Nat} (l : k < ws.length) : StOk ws.length (stL ws k) := by
  have evs : (stL ws k).map evOf = (srtG (rowLt ws k)).map gev := by
    unfold stL
    rw [List.map_map]
    rfl
  refine ⟨fun x mx => ?_, by rw [evs]; exact srt_asc _ (h.nd k l), ?_⟩
  · obtain ⟨y, my, rfl⟩ := List.mem_map.mp mx
    obtain ⟨⟨a, b⟩, ⟨c, d⟩, e⟩ := h.st k l y ((srt_perm _).mem_iff.mp my)
    exact ⟨a, b, c, d⟩
  · unfold stL
    rw [List.length_map, (srt_perm _).length_eq]
    unfold rowLt setsL
    rw [List.length_cons, List.length_map, List.length_range]
    have := h.few
    omega
theorem LetOk.kok {ws : List Str} (h : LetOk ws) : KOk (ssL ws) := by
  have l : (ssL ws).length = ws.length := by unfold ssL; rw [List.length_map, List.length_range]
  have one := h.one
  have few := h.few
  refine ⟨by omega, by omega, fun st m => ?_, evsL ws, h.ev, fun st m x mx => ?_⟩
  · unfold ssL at m
    obtain ⟨k, mk, rfl⟩ := List.mem_map.mp m
    rw [l]
    exact h.sto (List.mem_range.mp mk)
  · unfold ssL at m
    obtain ⟨k, mk, rfl⟩ := List.mem_map.mp m
    obtain ⟨y, my, rfl⟩ := List.mem_map.mp mx
    exact List.mem_flatMap.mpr ⟨k, mk, List.mem_map.mpr ⟨y, (srt_perm _).mem_iff.mp my, rfl⟩⟩
theorem gst_td {H : Hp} {a : Addr} {x : GStp} (h : GSt H a x) (e : x.2.2 = numG (gInt x.2.2)) : TD H (.ref a) (stepD (toStp x)) := by
  obtain ⟨u, h1, h2⟩ := h
  rw [e] at h2
  have h3 : u = .int (gInt x.2.2) := h2
  rw [h3] at h1
  exact .tup h1 (.cons (.str _) (.cons (.str _) (.cons (.int _) .nil)))
theorem gsts_td {H : Hp} : ∀ (L : List (Addr × GStp)), (∀ q ∈ L, GSt H q.1 q.2 ∧ q.2.2.2 = numG (gInt q.2.2.2)) → TDs H (L.map fun q => V.ref q.1) ((L.map fun q => toStp q.2).map stepD)
  | [], _ => .nil
  | q :: L, h => .cons (gst_td (h q List.mem_cons_self).1 (h q List.mem_cons_self).2) (gsts_td L fun r m => h r (List.mem_cons_of_mem _ m))
/-- _law_letters(deck), its states -/
def spLett : Sp := fun vs H Q _ => ∃ (p c : Addr) (ks : List Int) (w n : Int), vs = [.ref p] ∧ FeedAt H p c ks w n ∧ n < 800000 ∧
  ∀ (a : Addr) (ss : List (List Stp)) (ks' : List Int) (n' : Int) (H' : Hp), TD H' (.ref a) (statesD ss) → KOk ss → FeedAt H' p c ks' w n' → n' ≤ n + 100 → Save p c H H' → Q (.ref a) H'
abbrev nLt : List Str := ["_law_deck_here", "_law_words", "_law_found", "_law_k", "_law_word", "_law_some", "_law_j", "_law_other"]
theorem scLt : FnScope nLt ["_law_deck_here"] (defScope sLett) := ⟨rfl, rfl, rfl, by decide +kernel, rfl, by decide +kernel, by decide +kernel⟩
section
variable {P : Program} {w : World} {K : PySem.W.Frag} {mg : Str → Option Value} {base : Heap} {C : Addr}
theorem ok_lett {f fP : Addr} {fd fdP : FuncData} (F : Fun K "_law_letters" "_law_letters" sLett f fd) (G : Gs mg)
    (GP : FnOk P w K mg base CX0 2 fP fdP ["_law_deck_here", "_law_some"] spPick) (mP : mg "_law_pick" = some (.ref fP)) (kP : PySem.W.keepIn K (.ref fP) = true) (bP : Binds K fdP ["_law_deck_here", "_law_some"] []) :
    FnOk P w K mg base CX0 3 f fd ["_law_deck_here"] spLett := by
  refine F.ok scLt (fun vs H Q E h => ?_) (fun cdv A outer s H vs Q E hr h => ?_)
  · obtain ⟨p, c, ks, y, n, rfl, _⟩ := h
    rfl
  · obtain ⟨p, c, ks, y, n, rfl, FA, hn, k⟩ := h
    have hu80 : (A.deeper (envOfC "_law_letters" (defScope sLett) s.heap.objs.size f cdv)).units + 80 < cLine := by have := hr.un; omega
    refine ⟨_, pss_cons (ps_par (i := 1) (j := 2) rfl scLt.nd rfl rfl (by decide) rfl rfl (pa_cons (pe_call GP hr (by rfl) mP kP bP .nil pass0 (pa_cons (pv 0) (pa_cons
          (pe_lst (pa_cons (pe_lst (pa_cons pe_str (pa_cons pe_str pa_nil))) (pa_cons (pe_lst (pa_cons pe_str (pa_cons pe_str (pa_cons pe_str pa_nil)))) (pa_cons (pe_lst (pa_cons pe_str (pa_cons pe_str pa_nil))) pa_nil)))) pa_nil))) (pa_cons (pe_lst pa_nil) pa_nil)) (by rfl))
      (pss_cons (ps_for PassesOwn.never rfl (pi_enum (by rfl) G.enum (pa_cons (pv 1) pa_nil)) (pg_tup (by rfl) (pgs_cons (pg_name (i := 3) scLt.nd rfl (Or.inl rfl)) (pgs_cons (pg_name (i := 4) scLt.nd rfl (Or.inl rfl)) pgs_nil)))
        (pss_cons (ps_setLc (i := 5) (own := [("_law_j", 6), ("_law_other", 7)]) (g := gTup K 2 (gCons (gName 6) (gCons (gName 7) gNil))) (tt := tYes) (te := tTup (tCons (tOp rAddS (tC (.str "set")) (tVar 7)) (tCons (tC (.str "ok")) (tCons (tVar 6) tNil)))) rfl scLt.nd rfl rfl (sw_true rfl rfl rfl (by decide +kernel))
            (pi_enum (by rfl) G.enum (pa_cons (pv 1) pa_nil)) (blkOk_by (N := nLt) (sc := defScope sLett) (by decide +kernel)) (fun _ _ _ _ _ => pg_tup (by rfl) (pgs_cons (pg_name (i := 6) scLt.nd rfl (Or.inl rfl)) (pgs_cons (pg_name (i := 7) scLt.nd rfl (Or.inl rfl)) pgs_nil)))
            (fun _ _ _ _ _ => pts_nil) (fun _ _ _ _ _ => pe_tup (pa_cons (pe_op op_add_str pe_str (pv 7)) (pa_cons pe_str (pa_cons (pv 6) pa_nil)))))
        (pss_one (ps_expr (pe_bm PySem.F.plainAttrs_list PySem.F.slot_list_append PySem.F.type_list_append mt_append (pv 2) (pa_cons (pe_callTy call_tuple_of (by rfl) G.tuple (by decide +kernel) (pa_cons
            (pe_callB (cr_sortX (enc := gstD) hu80) (by rfl) G.sorted PyProof.Rows.boot_sorted (pa_cons (pe_op op_cat (pe_lst (pa_cons (pe_tup (pa_cons pe_str (pa_cons (pv 4) (pa_cons (pv 3) pa_nil)))) pa_nil)) (pv 5)) pa_nil)) pa_nil)) pa_nil))))))
      (pss_one (ps_ret (pe_callTy call_tuple_of (by rfl) G.tuple (by decide +kernel) (pa_cons (pv 2) pa_nil))))), ?_⟩
    have n0 := FA.n0
    refine ⟨_, rfl, by show 2 ≤ sizeLine; decide, fun w1 hw1 => ?_⟩
    have b1 := upd_same (H := H) (a := w1) (o := .lst [V.str "a", .str "b"])
    have x1 := same_new (o := .lst [V.str "a", .str "b"]) hw1
    generalize upd H w1 (.lst [V.str "a", .str "b"]) = G1 at b1 x1 ⊢
    refine ⟨by show 3 ≤ sizeLine; decide, fun w2 hw2 => ?_⟩
    have b2 := upd_same (H := G1) (a := w2) (o := .lst [V.str "b", .str "a", .str "c"])
    have x2 := same_new (o := .lst [V.str "b", .str "a", .str "c"]) hw2
    generalize upd G1 w2 (.lst [V.str "b", .str "a", .str "c"]) = G2 at b2 x2 ⊢
    refine ⟨by show 2 ≤ sizeLine; decide, fun w3 hw3 => ?_⟩
    have b3 := upd_same (H := G2) (a := w3) (o := .lst [V.str "x1", .str "x"])
    have x3 := same_new (o := .lst [V.str "x1", .str "x"]) hw3
    generalize upd G2 w3 (.lst [V.str "x1", .str "x"]) = G3 at b3 x3 ⊢
    refine ⟨by show 3 ≤ sizeLine; decide, fun wl hwl => ?_⟩
    have b4 := upd_same (H := G3) (a := wl) (o := .lst [V.ref w1, .ref w2, .ref w3])
    have x4 := same_new (o := .lst [V.ref w1, .ref w2, .ref w3]) hwl
    have F3 := FA.same (x1.trans (x2.trans x3))
    have wp : wl ≠ p := Ne.symm (ne_of_none F3.ob hwl)
    have wc : wl ≠ c := Ne.symm (ne_of_none F3.cs hwl)
    generalize upd G3 wl (.lst [V.ref w1, .ref w2, .ref w3]) = G4 at b4 x4 ⊢
    have F4 := F3.same x4
    have x14 := x1.trans (x2.trans (x3.trans x4))
    refine ⟨p, c, wl, ks, _, y, n, rfl, F4, by omega, b4, wp, wc, by show 1 ≤ 3; decide, by show 3 ≤ 100; decide, fun v ks5 H5 mv F5 sv5 => ?_⟩
    have keep : ∀ {b : Addr} {xs : List V}, G4 b = some (.lst xs) → (∀ i : Int, V.int i ∉ xs) → xs ≠ [] → H5 b = some (.lst xs) := fun {b xs} e ni ne => sv5 _ _ e (fun z => by rw [z, F4.ob] at e; cases e) (fun z => by
      rw [z, F4.cs] at e
      cases xs with
      | nil => exact ne rfl
      | cons x r =>
        have z2 := HO.lst.inj (Option.some.inj e)
        cases ks with
        | nil => cases z2
        | cons k0 kr =>
          rw [List.map_cons] at z2
          injection z2 with z3 _
          exact ni k0 (by rw [z3]; exact List.mem_cons_self))
    obtain ⟨wa, ws, rfl, mw, hw⟩ : ∃ (wa : Addr) (ws : List Str), v = .ref wa ∧ ws ∈ wordsL ∧ H5 wa = some (.lst (ws.map V.str)) := by
      simp only [List.mem_cons, List.not_mem_nil, or_false] at mv
      rcases mv with rfl | rfl | rfl
      · exact ⟨w1, ["a", "b"], rfl, by simp [wordsL], keep ((x2.trans (x3.trans x4)) _ _ b1) (by simp) (by simp)⟩
      · exact ⟨w2, ["b", "a", "c"], rfl, by simp [wordsL], keep ((x3.trans x4) _ _ b2) (by simp) (by simp)⟩
      · exact ⟨w3, ["x1", "x"], rfl, by simp [wordsL], keep (x4 _ _ b3) (by simp) (by simp)⟩
    have LO := let_ok mw
    have svH : Save p c H H5 := (Save.of x14).trans sv5
    clear keep b1 b2 b3 b4 x1 x2 x3 x4 x14 F3 F4 mv
    have few := LO.few
    refine ⟨by show 0 ≤ sizeLine; decide, fun fo hfo => ⟨_, _, rfl, ?_⟩⟩
    have y5 := same_new (o := .lst []) hfo
    have fop : fo ≠ p := Ne.symm (ne_of_none F5.ob hfo)
    have foc : fo ≠ c := Ne.symm (ne_of_none F5.cs hfo)
    have wfo : wa ≠ fo := ne_of_none hw hfo
    refine ⟨_, rfl, wa, _, rfl, SqL.of (y5 _ _ hw), for_it (walk_enum (xs := ws.map V.str)) (fun j σ H6 => ∃ (o3 o4 o5 : Option V) (vs : List V), σ = [some (.ref p), some (.ref wa), some (.ref fo), o3, o4, o5, none, none] ∧ (∀ b o, H5 b = some o → H6 b = some o) ∧ H6 fo = some (.lst vs) ∧ TDs H6 vs (((List.range j).map (stL ws)).map stateD))
      ⟨none, none, none, [], rfl, y5, upd_same, .nil⟩ (fun j σ H6 _ ⟨_, _, _, _, _, s6, _⟩ => SqL.of (s6 _ _ hw)) ?_ ?_⟩
    · rintro j v σ H6 H7 lj ⟨o3, o4, o5, vs, rfl, s6, f6, t6⟩ ⟨T, x, z, rfl, hT, rfl, ex, ez⟩
      have fo5 : H5 fo = none := hfo
      have lz : j < ws.length := by rw [List.length_map] at lj; exact lj
      obtain rfl : V.int ((j : Nat) : Int) = x := Option.some.inj ex
      have ez : (ws.map V.str)[j]? = some z := ez
      rw [List.getElem?_map, List.getElem?_eq_getElem lz] at ez
      obtain rfl : V.str ws[j] = z := Option.some.inj ez
      have gj : ws.getD j "" = ws[j] := by rw [List.getD_eq_getElem?_getD, List.getElem?_eq_getElem lz]; rfl
      have sT := same_new (o := .tup [V.int ((j : Nat) : Int), V.str ws[j]]) hT
      have s7 : ∀ b o, H5 b = some o → (upd H6 T (.tup [V.int ((j : Nat) : Int), V.str ws[j]])) b = some o := fun b o e => sT _ _ (s6 b o e)
      have f7 := sT _ _ f6
      have t7 := t6.to (Tup.of sT)
      have bT := upd_same (H := H6) (a := T) (o := .tup [V.int ((j : Nat) : Int), V.str ws[j]])
      generalize upd H6 T (.tup [V.int ((j : Nat) : Int), V.str ws[j]]) = H7 at s7 f7 t7 bT ⊢
      have hw7 := s7 _ _ hw
      refine ⟨T, _, rfl, SqT.of bT, rfl, _, _, rfl, _, _, rfl, rfl, ?_⟩
      refine ⟨_, rfl, wa, _, rfl, SqL.of hw7, fun D hD => lc_it (walk_enum (xs := ws.map V.str)) (fun g H8 => Same H7 H8 ∧ ∃ L, Gst H8 D L ∧ L.map Prod.snd = (setsL ws).take g) ⟨same_new hD, [], ⟨upd_same, fun q m => nomatch m⟩, rfl⟩ (fun g H8 _ ⟨s8, _⟩ => SqL.of (s8 _ _ hw7)) (fun g v H8 H9 lg ⟨s8, L, gL, eL⟩ yy => ?_) fun H8 ⟨s8, L, gL, eL⟩ => ?_⟩
      · obtain ⟨T2, x2, z2, rfl, hT2, rfl, ex2, ez2⟩ := yy
        have lz2 : g < ws.length := by rw [List.length_map] at lg; exact lg
        obtain rfl : V.int ((g : Nat) : Int) = x2 := Option.some.inj ex2
        have ez2 : (ws.map V.str)[g]? = some z2 := ez2
        rw [List.getElem?_map, List.getElem?_eq_getElem lz2] at ez2
        obtain rfl : V.str ws[g] = z2 := Option.some.inj ez2
        have gg : ws.getD g "" = ws[g] := by rw [List.getD_eq_getElem?_getD, List.getElem?_eq_getElem lz2]; rfl
        have s9 := same_new (o := .tup [V.int ((g : Nat) : Int), V.str ws[g]]) hT2
        have bT2 := upd_same (H := H8) (a := T2) (o := .tup [V.int ((g : Nat) : Int), V.str ws[g]])
        generalize upd H8 T2 (.tup [V.int ((g : Nat) : Int), V.str ws[g]]) = H9 at s9 bT2 ⊢
        have wl := LO.len _ (List.getElem_mem lz2)
        have l3 : ("set" : Str).length = 3 := by decide +kernel
        have gL9 := gL.less s9
        have eg : (List.range ws.length)[g]? = some g := by rw [List.getElem?_range lz2]
        refine ⟨T2, _, rfl, SqT.of bT2, rfl, _, _, rfl, _, _, rfl, rfl, rfl, _, rfl, _, _, rfl, rfl, by rw [l3, sizeLine_eq]; omega, _, rfl, by show 3 ≤ sizeLine; decide, fun u hu => ⟨_, by rw [upd_ne (ne_of_none gL9.lst hu)]; exact gL9.lst, ?_, same_at ((s8.trans s9).trans (same_new hu)) hD, L ++ [(u, stp (("set" : Str) ++ ws[g]) "ok" (numG (g : Int)))], ?_, ?_⟩⟩
        · have z := congrArg List.length eL
          rw [List.length_map, List.length_take] at z
          unfold setsL at z
          rw [List.length_map, List.length_range] at z
          exact small_lt (m := 20) (by rw [List.length_map]; omega)
        · exact Gst.add (x := stp (("set" : Str) ++ ws[g]) "ok" (numG (g : Int))) gL9 hu rfl
        · unfold setsL at eL ⊢
          rw [List.take_succ, List.getElem?_map, eg, ← eL, List.map_append]
          show _ = L.map Prod.snd ++ [stp (("set" : Str) ++ ws.getD g "") "ok" (numG (g : Int))]
          rw [gg]
          rfl
      · have lset : (setsL ws).length = ws.length := by unfold setsL; rw [List.length_map, List.length_range]
        rw [List.length_map, List.take_of_length_le (by rw [lset]; exact Nat.le_refl _)] at eL
        have lL : L.length = ws.length := by
          have z := congrArg List.length eL
          rwa [List.length_map, lset] at z
        have f8 := s8 _ _ f7
        have t8 := t7.to (Tup.of s8)
        refine ⟨_, rfl, .inl ⟨rfl, _, SqL.of f8⟩, ?_⟩
        refine ⟨_, rfl, _, rfl, by show 3 ≤ sizeLine; decide, fun u hu => ?_⟩
        have sU := same_new (o := .tup [V.str "read", V.str ws[j], V.int ((j : Nat) : Int)]) hu
        have bU := upd_same (H := H8) (a := u) (o := .tup [V.str "read", V.str ws[j], V.int ((j : Nat) : Int)])
        generalize upd H8 u (.tup [V.str "read", V.str ws[j], V.int ((j : Nat) : Int)]) = H9 at sU bU ⊢
        refine ⟨by show 1 ≤ sizeLine; decide, fun ul hul => ?_⟩
        have sV := sU.trans (same_new (o := .lst [V.ref u]) hul)
        have bV := upd_same (H := H9) (a := ul) (o := .lst [V.ref u])
        have bU2 := same_new (o := .lst [V.ref u]) hul _ _ bU
        generalize upd H9 ul (.lst [V.ref u]) = H10 at sV bV bU2 ⊢
        have gL10 := gL.less sV
        refine ⟨_, rfl, ul, D, _, _, rfl, rfl, bV, gL10.lst, small_len (m := 40) (by rw [List.length_map, List.length_singleton]; omega), fun sl hsl => ?_⟩
        have sW := sV.trans (same_new (o := .lst ([V.ref u] ++ L.map fun q => V.ref q.1)) hsl)
        have bW := upd_same (H := H10) (a := sl) (o := .lst ([V.ref u] ++ L.map fun q => V.ref q.1))
        have gL11 := gL10.less (same_new (o := .lst ([V.ref u] ++ L.map fun q => V.ref q.1)) hsl)
        have bU3 := same_new (o := .lst ([V.ref u] ++ L.map fun q => V.ref q.1)) hsl _ _ bU2
        generalize upd H10 sl (.lst ([V.ref u] ++ L.map fun q => V.ref q.1)) = H11 at sW bW gL11 bU3 ⊢
        let LL : List (Addr × GStp) := (u, stp "read" ws[j] (numG (j : Int))) :: L
        have eLL : LL.map Prod.snd = rowLt ws j := by
          show stp "read" ws[j] (numG (j : Int)) :: L.map Prod.snd = _
          unfold rowLt
          rw [eL, gj]
        have hLL : ∀ q ∈ LL, GSt H11 q.1 q.2 := fun q m => by
          rcases List.mem_cons.mp m with rfl | m
          · exact ⟨_, bU3, rfl⟩
          · exact gL11.at_ q m
        have inL : ∀ q ∈ LL, q.2 ∈ rowLt ws j := fun q m => by rw [← eLL]; exact List.mem_map.mpr ⟨q, m, rfl⟩
        refine ⟨sl, LL, rfl, .inl (SqL.of bW), fun q m => (hLL q m).dp, fun d hd d' hd' => ?_, .inl fun d hd => ?_, fun q _ => gst_depth q.2, by show L.length + 1 ≤ 100000; omega, fun pp hpp => ?_⟩
        · obtain ⟨q, mq, rfl⟩ := List.mem_map.mp hd
          obtain ⟨q', mq', rfl⟩ := List.mem_map.mp hd'
          have e1 := (LO.st j lz _ (inL q mq)).2.2
          have e2 := (LO.st j lz _ (inL q' mq')).2.2
          refine gst_alike ?_
          rw [e1, e2]
          simp [numG, gD, kD, PySem.W.alike]
        · obtain ⟨q, mq, rfl⟩ := List.mem_map.mp hd
          exact ⟨_, _, rfl⟩
        have eM : (LL.mergeSort (PySem.W.dataLe false fun q : Addr × GStp => gstD q.2)).map Prod.snd = srtG (rowLt ws j) := by rw [sortG, eLL]
        have hM : ∀ q ∈ LL.mergeSort (PySem.W.dataLe false fun q : Addr × GStp => gstD q.2), GSt H11 q.1 q.2 ∧ q.2.2.2 = numG (gInt q.2.2.2) := fun q m => by
          have m2 := (List.mergeSort_perm _ _).mem_iff.mp m
          exact ⟨hLL q m2, (LO.st j lz _ (inL q m2)).2.2⟩
        generalize LL.mergeSort (PySem.W.dataLe false fun q : Addr × GStp => gstD q.2) = M at eM hM ⊢
        have sP := same_new (o := .lst (M.map fun q => V.ref q.1)) hpp
        have bP := upd_same (H := H11) (a := pp) (o := .lst (M.map fun q => V.ref q.1))
        have tM := (gsts_td M hM).to (Tup.of sP)
        have eS : (M.map fun q => toStp q.2) = stL ws j := by
          unfold stL
          rw [← eM, List.map_map]
          rfl
        rw [eS] at tM
        have sX := sW.trans sP
        generalize upd H11 pp (.lst (M.map fun q => V.ref q.1)) = H12 at sP bP tM sX ⊢
        refine ⟨pp, _, rfl, .inl ⟨SqL.of bP, fun b hb => ?_⟩⟩
        have sb := same_new (o := .tup (M.map fun q => V.ref q.1)) hb
        have f13 := sb _ _ (sX _ _ f8)
        have t13 := (t8.to (Tup.of sX)).to (Tup.of sb)
        have b13 := upd_same (H := H12) (a := b) (o := .tup (M.map fun q => V.ref q.1))
        have tM13 := tM.to (Tup.of sb)
        have s13 : ∀ b' o, H5 b' = some o → (upd H12 b (.tup (M.map fun q => V.ref q.1))) b' = some o := fun b' o e => sb _ _ (sX _ _ (s8 _ _ (s7 b' o e)))
        generalize upd H12 b (.tup (M.map fun q => V.ref q.1)) = H13 at sb f13 t13 b13 tM13 s13 ⊢
        have tp : Tup H13 (upd H13 fo (.lst (vs ++ [.ref b]))) := Tup.at_ f13 fun xs z => nomatch z
        have vlf := t6.len
        rw [List.length_map, List.length_map, List.length_range] at vlf
        refine ⟨fo, vs, _, rfl, rfl, f13, small_lt (m := 40) (by omega), _, _, _, vs ++ [.ref b], rfl, fun b' o e => ?_, upd_same, ?_⟩
        · rw [upd_ne fun z => by rw [z, fo5] at e; cases e]
          exact s13 b' o e
        · rw [List.range_succ, List.map_append, List.map_append]
          exact TDs.snoc (.tup (tp _ _ b13) (tM13.to tp)) (t13.to tp)
    · rintro σ H6 ⟨o3, o4, o5, vs, rfl, s6, f6, t6⟩
      rw [List.length_map] at t6
      have sv6 : Save p c H H6 := svH.trans (Save.of s6)
      have F6 := F5.same s6
      refine ⟨_, rfl, fo, vs, rfl, .inl ⟨SqL.of f6, fun b hb => ?_⟩⟩
      exact k b (ssL ws) ks5 (n + 1) _ (.tup upd_same (t6.to (Tup.new hb))) LO.kok (F6.same (same_new hb)) (by omega) (sv6.trans (Save.of (same_new hb)))
end
end My

-- ===== K61Ho =====
set_option Elab.async false
set_option linter.all false
set_option maxRecDepth 100000
set_option maxHeartbeats 4000000
namespace My
open PySem L2 PyProof.Rows PySem.Spec Kd TL StX ClX
/-! ### sorting that decides -/
def insT {α : Type} (le : α → α → Bool) (a : α) : List α → List α
  | [] => [a]
  | b :: r => if le a b = true then a :: b :: r else b :: insT le a r
def srtI {α : Type} (le : α → α → Bool) (l : List α) : List α := l.foldr (insT le) []
theorem ins_at {α : Type} {le : α → α → Bool} {a : α} : ∀ {l1 l2 : List α}, (∀ b ∈ l1, (!le a b) = true) → (∀ b, l2.head? = some b → le a b = true) → insT le a (l1 ++ l2) = l1 ++ a :: l2
  | [], [], _, _ => rfl
  | [], b :: l2, _, h => by
    show (if le a b = true then a :: b :: l2 else b :: insT le a l2) = _
    rw [if_pos (h b rfl)]
    rfl
  | b :: l1, l2, h, h2 => by
    have n : ¬ le a b = true := fun z => by
      have y := h b List.mem_cons_self
      rw [z] at y
      cases y
    show (if le a b = true then a :: b :: (l1 ++ l2) else b :: insT le a (l1 ++ l2)) = _
    rw [if_neg n, ins_at (fun c m => h c (List.mem_cons_of_mem _ m)) h2]
    rfl
theorem sort_ins {α : Type} {le : α → α → Bool} (tr : ∀ a b c : α, le a b = true → le b c = true → le a c = true) (tot : ∀ a b : α, (le a b || le b a) = true) : ∀ l : List α, l.mergeSort le = srtI le l
  | [] => by simp [srtI]
  | a :: l => by
    obtain ⟨l1, l2, e1, e2, h⟩ := List.mergeSort_cons tr tot a l
    have ih := sort_ins tr tot l
    have pw : (l1 ++ a :: l2).Pairwise fun x y => le x y = true := by
      rw [← e1]
      exact List.pairwise_mergeSort tr tot (a :: l)
    show _ = insT le a (srtI le l)
    rw [e1, ← ih, e2, ins_at h fun b hb => ?_]
    cases l2 with
    | nil => cases hb
    | cons c r =>
      obtain rfl : c = b := Option.some.inj hb
      exact (List.pairwise_cons.mp (List.pairwise_append.mp pw).2.1).1 c List.mem_cons_self
def leI (a b : Str) : Bool := !decide (b.cps.toList < a.cps.toList)
open PySem.W in
theorem le_txI : dataLe false PyData.str = leI := by
  funext a b
  rw [dataLe_eq]
  show (!dataLt (.str b) (.str a)) = _
  rw [dataLt_str]
  rfl
open PySem.W in
theorem srtS_ins (l : List Str) : srtS l = srtI leI l := by
  have tot := sortLe_total (listOrd itemOrd) false fun q : Str => keyToks (PyData.str q)
  unfold srtS
  rw [← le_txI]
  exact sort_ins tot.trans (fun a b => by rw [Bool.or_eq_true]; exact tot.total a b) l
def amongI (t : List Str) (x : Str) : List Str := srtI leI (t ++ [x])
def eachI (t : List Str) : List Str := srtI leI t.eraseDups
theorem among_eq : amongT = amongI := by
  funext t x
  exact srtS_ins _
theorem each_eq : eachT = eachI := by
  funext t
  exact srtS_ins _
/-! ### the kinds that the law builds -/
def hoB (n : Nat) (wds : List Str) (put : List Str → Str → List Str) (take : List Str → List Str) : Bool :=
  mvB (holderM n wds put take) (holdG wds n) (evsG (holderM n wds put take) (holdG wds n)) true && (decide (1 ≤ n) && (decide (wds ≠ []) && (wds.all (fun x => decide (Wrd x)) && (decide wds.Nodup && (decide (wds.length ≤ 20) && (decide (wsG [] ∈ holdG wds n) && (tupsG wds n).all fun t => decide (t.length ≤ 100) && (decide ((take t).length ≤ 100) && (take t).all fun x => decide (x ∈ t))))))))
theorem ho_by {n : Nat} {wds : List Str} {put : List Str → Str → List Str} {take : List Str → List Str} (h : hoB n wds put take = true) : HoOk n wds put take (holdG wds n) (evsG (holderM n wds put take) (holdG wds n)) := by
  unfold hoB at h
  simp only [Bool.and_eq_true, decide_eq_true_eq, List.all_eq_true] at h
  obtain ⟨h1, h2, h3, h4, h5, h6, h7, h8⟩ := h
  refine ⟨h2, h3, h4, h5, h6, (mv_by h1).1, fun g mg => ?_, h7⟩
  unfold holdG at mg
  obtain ⟨t, mt, rfl⟩ := List.mem_map.mp (List.mem_eraseDups.mp mg)
  obtain ⟨a, b, c⟩ := h8 t mt
  exact ⟨t, rfl, a, c, b⟩
theorem ho_q2 : hoB 2 ["a", "b"] behindT firstT = true := by decide +kernel
theorem ho_q3 : hoB 3 ["a", "b"] behindT firstT = true := by decide +kernel
theorem ho_q1 : hoB 3 ["a"] behindT firstT = true := by decide +kernel
theorem ho_s2 : hoB 2 ["a", "b"] aheadT firstT = true := by decide +kernel
theorem ho_p2 : hoB 2 ["a", "b"] amongT eachT = true := by
  rw [among_eq, each_eq]
  decide +kernel
theorem nums_in {m : Nat} (l : m ≤ 900) : ∀ g ∈ numsG m, ∃ i : Int, g = numG i ∧ 0 ≤ i ∧ i < 1000 := fun g mg => by
  unfold numsG at mg
  obtain ⟨i, mi, rfl⟩ := List.mem_map.mp mg
  have := List.mem_range.mp mi
  exact ⟨Int.ofNat i, rfl, Int.natCast_nonneg i, by show (i : Int) < 1000; omega⟩
theorem nums_zero (m : Nat) : numG 0 ∈ numsG m := List.mem_map.mpr ⟨0, List.mem_range.mpr (by omega), rfl⟩
/-- moves over the numbers up to m -/
def MvN (mv : Int → GV → List GStp) (m : Int) : Prop := MvOk (mv m) (numsG m.toNat) (evsG (mv m) (numsG m.toNat))
def mvN (mv : Int → GV → List GStp) (m : Nat) : Bool := mvB (mv m) (numsG m) (evsG (mv m) (numsG m)) false
theorem mvN_by {mv : Int → GV → List GStp} {m : Nat} (h : mvN mv m = true) : MvN mv (m : Int) := by
  unfold MvN
  rw [Int.toNat_natCast]
  exact (mv_by h).1
theorem upto {p : Nat → Bool} {n : Nat} (h : (List.range (n + 1)).all p = true) {m : Nat} (l : m ≤ n) : p m = true := List.all_eq_true.mp h m (List.mem_range.mpr (by omega))
theorem cnt_ok {m : Int} (h0 : 0 ≤ m) (h1 : m ≤ 3) : MvN counterM m := by
  obtain ⟨n, rfl⟩ := Int.eq_ofNat_of_zero_le h0
  exact mvN_by (upto (p := mvN counterM) (n := 3) (by decide +kernel) (by omega))
theorem tik_ok {m : Int} (h0 : 0 ≤ m) (h1 : m ≤ 3) : MvN ticketsM m := by
  obtain ⟨n, rfl⟩ := Int.eq_ofNat_of_zero_le h0
  exact mvN_by (upto (p := mvN ticketsM) (n := 3) (by decide +kernel) (by omega))
theorem per_ok {m : Int} (h0 : 0 ≤ m) (h1 : m ≤ 6) : MvN permitsM m := by
  obtain ⟨n, rfl⟩ := Int.eq_ofNat_of_zero_le h0
  exact mvN_by (upto (p := mvN permitsM) (n := 6) (by decide +kernel) (by omega))
theorem acc1_ok {m : Int} (h0 : 0 ≤ m) (h1 : m ≤ 5) : MvN (fun m => accountM m [1]) m := by
  obtain ⟨n, rfl⟩ := Int.eq_ofNat_of_zero_le h0
  exact mvN_by (upto (p := mvN fun m => accountM m [1]) (n := 5) (by decide +kernel) (by omega))
theorem acc2_ok {m : Int} (h0 : 0 ≤ m) (h1 : m ≤ 3) : MvN (fun m => accountM m [1, 2]) m := by
  obtain ⟨n, rfl⟩ := Int.eq_ofNat_of_zero_le h0
  exact mvN_by (upto (p := mvN fun m => accountM m [1, 2]) (n := 3) (by decide +kernel) (by omega))
end My

-- ===== K61Lk =====
set_option Elab.async false
set_option linter.all false
set_option maxRecDepth 100000
set_option maxHeartbeats 4000000
namespace Kd
open PySem L2 PyProof.Rows PySem.Spec
/-- x(e, ..), x a def of the module with a star, no argument with one -/
theorem pe_callR {X : Cx} {CX : CXT} {k : Nat} {f : Addr} {sp : Sp} {E : XK} {x : Str} {e : Expr} {es : List Expr} {t : TA} {p pos : Pos} (F : FnR X.prog X.w X.K X.mg X.base CX k f sp) (hr : Room k X.A) (hk : PySem.W.keepIn X.K (.ref f) = true) (hg : Gl X x) (hm : X.mg x = some (.ref f)) (hx : Passes CX X E) (ha : PA X (e :: es) t) (hd : (x == ("__debug__" : Str)) = false := by decide)
    (he : starEach (e :: es) X.env = (false, eval e X.env) :: starEach es X.env := by rfl) (hst : (backTo pos (starEach es X.env)).any (·.1) = false := by rfl) :
    PE X (.Call (.Name x p) (e :: es) [] pos) (fun σ H Q => t σ H fun vs H1 => sp vs H1 Q E) := by
  refine ⟨fun pins s σ H Q I h => ?_⟩
  refine wpAny_Call_Name_kw (ld_glob I hg hm ?_ hd)
  refine PySem.W.callWith_K (h₀ := X.base) I.ok.mod.kin hk (thn (ha.run pos pins s σ H _ I h) fun us s1 ⟨vs, H1, I1, r, q⟩ => ⟨I1.kIn, ?_⟩) he hst
  exact wpAny_call (run_fnR F hr hx I1 r q)
end Kd
namespace My
open PySem L2 PyProof.Rows PySem.Spec Kd TL StX ClX LamX NdefX
abbrev sLkind : Stmt := top 63
structure KOf (P : Program) (w : World) (K : PySem.W.Frag) (mg : Str → Option Value) (base : Heap) (C : Addr) : Prop where
  nm : mg "Kind" = some (.ref C)
  cr : ∃ mc, ClX.CRead K C mc ∧ ∃ p g fd, ClX.CMet K C mc "of" p g ∧ FnOk P w K mg base CX0 7 g fd ["cls", "states"] (spOf C) ∧ Binds K fd ["cls", "states"] []
theorem fnR_of {P : Program} {w : World} {K : PySem.W.Frag} {mg : Str → Option Value} {base : Heap} {CX : CXT} {k : Nat} {f : Addr} {fd : FuncData} {ps : List Str} {sp : Sp} (F : FnOk P w K mg base CX k f fd ps sp) (hb : Binds K fd ps []) : FnR P w K mg base CX k f sp :=
  (F.raw hb .nil).imp fun vs H Q E h => by rw [List.append_nil]; exact h
theorem tabsN_save {T : List NTab} {p c : Addr} {H H' : Hp} {ks : List Int} {y n : Int} (t : TabsN T H) (F : FeedAt H p c ks y n) (sv : Save p c H H') : TabsN T H' := fun q m => by
  obtain ⟨ps, h1, h2, h3⟩ := t q m
  refine ⟨ps, sv _ _ h1 (fun z => by rw [z, F.ob] at h1; cases h1) (fun z => by rw [z, F.cs] at h1; cases h1), h2, fun pos cv hc => ?_⟩
  obtain ⟨d, e1, e2⟩ := h3 pos cv hc
  exact ⟨d, e1, sv _ _ e2 (fun z => by rw [z, F.ob] at e2; unfold LamX.CodeO at e2; cases e2) (fun z => by rw [z, F.cs] at e2; unfold LamX.CodeO at e2; cases e2)⟩
theorem FeedAt.extN {H H' : Hp} {p c : Addr} {ks : List Int} {w n : Int} (F : FeedAt H p c ks w n) (s : LamX.ExtN H H') : FeedAt H' p c ks w n := ⟨s _ _ F.ob (fun ps z => nomatch z), s _ _ F.cs (fun ps z => nomatch z), F.bits, F.len, F.w0, F.w1, F.n0⟩
/-- _law_kind(deck) -/
def spLkind (T : List NTab) (C : Addr) : Sp := fun vs H Q _ => ∃ (p c : Addr) (ks : List Int) (w n : Int), vs = [.ref p] ∧ FeedAt H p c ks w n ∧ n < 700000 ∧ TabsN T H ∧
  ∀ (v : V) (ss : List (List Stp)) (ks' : List Int) (n' : Int) (H' : Hp), KindAt C H' v ss → KOk ss → FeedAt H' p c ks' w n' → n' ≤ n + 200 → TabsN T H' → Q v H'
abbrev nLk : List Str := ["_law_deck_here", "_law_choice", "_law_two"]
theorem scLk : FnScope nLk ["_law_deck_here"] (defScope sLkind) := ⟨rfl, rfl, rfl, by decide +kernel, rfl, by decide +kernel, by decide +kernel⟩
section
variable {P : Program} {w : World} {K : PySem.W.Frag} {mg : Str → Option Value} {base : Heap} {C : Addr}
theorem ok_lkind {Ts : List NTab} {f fD fM fL fA fC fQ fS fP fT fR : Addr} {fd fdD fdM fdL fdC fdT fdR : FuncData} (F : Fun K "_law_kind" "_law_kind" sLkind f fd) (T : KOf P w K mg base C)
    (GD : FnOk P w K mg base CX0 1 fD fdD ["_law_deck_here", "_law_many"] spDigit) (mD : mg "_law_draw" = some (.ref fD)) (kD : PySem.W.keepIn K (.ref fD) = true) (bD : Binds K fdD ["_law_deck_here", "_law_many"] [])
    (GM : FnOk P w K mg base CX0 2 fM fdM ["_law_deck_here"] spMach) (mM : mg "_law_machine" = some (.ref fM)) (kM : PySem.W.keepIn K (.ref fM) = true) (bM : Binds K fdM ["_law_deck_here"] [])
    (GL : FnOk P w K mg base CX0 3 fL fdL ["_law_deck_here"] spLett) (mL : mg "_law_letters" = some (.ref fL)) (kL : PySem.W.keepIn K (.ref fL) = true) (bL : Binds K fdL ["_law_deck_here"] [])
    (GA : FnR P w K mg base CX0 8 fA (spAccR Ts C)) (mA : mg "account" = some (.ref fA)) (kA : PySem.W.keepIn K (.ref fA) = true)
    (GC : FnOk P w K mg base CX0 8 fC fdC ["most"] (spB1 Ts counterM C)) (mC : mg "counter" = some (.ref fC)) (kC : PySem.W.keepIn K (.ref fC) = true) (bC : Binds K fdC ["most"] [])
    (GQ : FnR P w K mg base CX0 9 fQ (spQueR Ts C behindT firstT)) (mQ : mg "queue" = some (.ref fQ)) (kQ : PySem.W.keepIn K (.ref fQ) = true)
    (GS : FnR P w K mg base CX0 9 fS (spQueR Ts C aheadT firstT)) (mS : mg "stack" = some (.ref fS)) (kS : PySem.W.keepIn K (.ref fS) = true)
    (GP : FnR P w K mg base CX0 9 fP (spQueR Ts C amongT eachT)) (mP : mg "pool" = some (.ref fP)) (kP : PySem.W.keepIn K (.ref fP) = true)
    (GT : FnOk P w K mg base CX0 8 fT fdT ["most"] (spB1 Ts ticketsM C)) (mT : mg "tickets" = some (.ref fT)) (kT : PySem.W.keepIn K (.ref fT) = true) (bT : Binds K fdT ["most"] [])
    (GR : FnOk P w K mg base CX0 8 fR fdR ["many"] (spB1 Ts permitsM C)) (mR : mg "permits" = some (.ref fR)) (kR : PySem.W.keepIn K (.ref fR) = true) (bR : Binds K fdR ["many"] []) :
    FnOk P w K mg base CX0 10 f fd ["_law_deck_here"] (spLkind Ts C) := by
  obtain ⟨mc, cr, p1, g1, fd1, m1, G1, b1⟩ := T.cr
  have R1 := fnR_of G1 b1
  refine F.ok scLk (fun vs H Q E h => ?_) (fun cdv A outer s H vs Q E hr h => ?_)
  · obtain ⟨p, c, ks, y, n, rfl, _⟩ := h
    rfl
  · obtain ⟨p, c, ks, y, n, rfl, FA, hn, tb, k⟩ := h
    have hr8 := hr.mono (show 8 ≤ 9 by omega)
    have hr7 := hr.mono (show 7 ≤ 9 by omega)
    have hr3 := hr.mono (show 3 ≤ 9 by omega)
    have hr2 := hr.mono (show 2 ≤ 9 by omega)
    have hr1 := hr.mono (show 1 ≤ 9 by omega)
    refine ⟨_, pss_cons (ps_set (i := 1) scLk.nd rfl (Or.inl rfl) (pe_call GD hr1 (by rfl) mD kD bD .nil pass0 (pa_cons (pv 0) (pa_cons pe_int pa_nil))))
      (pss_cons (ps_if (pt_cmpR op_lt (pv 1) pe_int (nomark _)) (pss_one (ps_ret (ClX.pe_cmeth (pl := _) (pe_glob (v := .ref C) (by rfl) T.nm rfl) cr m1 R1 hr7 pass0 (pa_cons (pe_call GM hr2 (by rfl) mM kM bM .nil pass0 (pa_cons (pv 0) pa_nil)) pa_nil)))) pss_nil)
      (pss_cons (ps_if (pt_cmpR op_eq (pv 1) pe_int (nomark _)) (pss_one (ps_ret (ClX.pe_cmeth (pl := _) (pe_glob (v := .ref C) (by rfl) T.nm rfl) cr m1 R1 hr7 pass0 (pa_cons (pe_call GL hr3 (by rfl) mL kL bL .nil pass0 (pa_cons (pv 0) pa_nil)) pa_nil)))) pss_nil)
      (pss_cons (ps_if (pt_cmpR op_lt (pv 1) pe_int (nomark _)) (pss_one (ps_ret (pe_ifExp (pt_cmpR op_eq (pv 1) pe_int (nomark _))
          (Kd.pe_callR GA hr8 kA (by rfl) mA pass0 (pa_cons (pe_op op_add pe_int (pe_call GD hr1 (by rfl) mD kD bD .nil pass0 (pa_cons (pv 0) (pa_cons pe_int pa_nil)))) (pa_cons pe_int pa_nil)))
          (Kd.pe_callR GA hr8 kA (by rfl) mA pass0 (pa_cons (pe_op op_add pe_int (pe_call GD hr1 (by rfl) mD kD bD .nil pass0 (pa_cons (pv 0) (pa_cons pe_int pa_nil)))) (pa_cons pe_int (pa_cons pe_int pa_nil))))))) pss_nil)
      (pss_cons (ps_if (pt_cmpR op_eq (pv 1) pe_int (nomark _)) (pss_one (ps_ret (pe_call GC hr8 (by rfl) mC kC bC .nil pass0 (pa_cons (pe_call GD hr1 (by rfl) mD kD bD .nil pass0 (pa_cons (pv 0) (pa_cons pe_int pa_nil))) pa_nil)))) pss_nil)
      (pss_cons (ps_set (i := 2) scLk.nd rfl (Or.inl rfl) (pe_call GD hr1 (by rfl) mD kD bD .nil pass0 (pa_cons (pv 0) (pa_cons pe_int pa_nil))))
      (pss_cons (ps_if (pt_cmpR op_eq (pv 1) pe_int (nomark _)) (pss_one (ps_ret (pe_ifExp (pt_cmpR op_eq (pv 2) pe_int (nomark _)) (Kd.pe_callR GQ hr kQ (by rfl) mQ pass0 (pa_cons pe_int (pa_cons pe_str (pa_cons pe_str pa_nil))))
          (pe_ifExp (pt_cmpR op_eq (pv 2) pe_int (nomark _)) (Kd.pe_callR GS hr kS (by rfl) mS pass0 (pa_cons pe_int (pa_cons pe_str (pa_cons pe_str pa_nil)))) (Kd.pe_callR GP hr kP (by rfl) mP pass0 (pa_cons pe_int (pa_cons pe_str (pa_cons pe_str pa_nil)))))))) pss_nil)
      (pss_one (ps_ret (pe_ifExp (pt_cmpR op_eq (pv 2) pe_int (nomark _)) (Kd.pe_callR GQ hr kQ (by rfl) mQ pass0 (pa_cons pe_int (pa_cons pe_str pa_nil)))
          (pe_ifExp (pt_cmpR op_eq (pv 2) pe_int (nomark _)) (pe_call GT hr8 (by rfl) mT kT bT .nil pass0 (pa_cons pe_int pa_nil)) (pe_call GR hr8 (by rfl) mR kR bR .nil pass0 (pa_cons pe_int pa_nil)))))))))))), ?_⟩
    have n0 := FA.n0
    refine ⟨_, rfl, p, c, ks, y, n, 10, rfl, FA, by omega, by decide, by decide, fun d ks1 H1 d0 d1 F1 sv1 => ?_⟩
    have tb1 := tabsN_save tb FA sv1
    -- what a builder answers
    have fin : ∀ {Hx : Hp} {ks' : List Int} {n' : Int} {mv : GV → List GStp} {g0 : GV} {Dom : List GV} {es : List (Str × Str)}, FeedAt Hx p c ks' y n' → n' ≤ n + 150 → MvOk mv Dom es → g0 ∈ Dom → ∀ u vals ls H', ExtN Hx H' → TabsN Ts H' → KindAt C H' u ls → Grown mv g0 vals ls → Q u H' :=
      fun {Hx ks' n' mv g0 Dom es} F' le M z u vals ls H' ex t2 ka gr => k u ls ks' n' H' ka (gr.kok M z) (F'.extN ex) (by omega) t2
    have que : ∀ {Hx : Hp} {ks' : List Int} {n' : Int} {m : Nat} {wds : List Str} {put : List Str → Str → List Str} {take : List Str → List Str}, FeedAt Hx p c ks' y n' → n' ≤ n + 150 → TabsN Ts Hx → hoB m wds put take = true → ∀ pp, Hx pp = none → spQue Ts C put take [.int (m : Int), .ref pp] (upd Hx pp (.tup (wds.map V.str))) Q E :=
      fun {Hx ks' n' m wds put take} F' le t' hb pp hpp => ⟨m, pp, wds, _, _, rfl, upd_same, ho_by hb, TabsN.ext t' (same_new hpp), fin (F'.same (same_new hpp)) le (ho_by hb).mv (ho_by hb).zero⟩
    have acc : ∀ {Hx : Hp} {ks' : List Int} {n' m : Int} {as : List Int}, FeedAt Hx p c ks' y n' → n' ≤ n + 150 → TabsN Ts Hx → 1 ≤ m → m ≤ 3 → (∀ i ∈ as, 1 ≤ i ∧ i ≤ m) → as.Nodup → as.length ≤ 20 → MvN (fun m => accountM m as) m → ∀ pp, Hx pp = none → spAcc Ts C [.int m, .ref pp] (upd Hx pp (.tup (as.map V.int))) Q E :=
      fun {Hx ks' n' m as} F' le t' m1 m3 hin nd few mv pp hpp => ⟨m, pp, as, _, _, rfl, upd_same, by omega, by omega, hin, nd, few, mv, nums_in (by omega), nums_zero _, TabsN.ext t' (same_new hpp), fin (F'.same (same_new hpp)) le mv (nums_zero _)⟩
    have one : ∀ {Hx : Hp} {ks' : List Int} {n' m : Int} {mk : Int → GV → List GStp}, FeedAt Hx p c ks' y n' → n' ≤ n + 150 → TabsN Ts Hx → 0 ≤ m → m ≤ 6 → MvN mk m → spB1 Ts mk C [.int m] Hx Q E :=
      fun {Hx ks' n' m mk} F' le t' m0 m6 mv => ⟨m, _, _, rfl, m0, mv, nums_in (by omega), nums_zero _, t', fin F' le mv (nums_zero _)⟩
    refine ⟨_, rfl, _, _, rfl, rfl, _, rfl, ?_⟩
    generalize decide (d < 4) = c1
    cases c1 with
    | true =>
      refine iteT ⟨rfl, _, rfl, p, c, ks1, y, n + 1, rfl, F1, by omega, fun a ss ks2 n2 H2 tA ko F2 le2 sv2 => ⟨a, ss, rfl, tA, ko, fun v H3 s3 hk => k v ss ks2 n2 H3 hk ko (F2.same s3) (by omega) (TabsN.ext (tabsN_save tb1 F1 sv2) s3)⟩⟩
    | false =>
      refine iteF ⟨_, rfl, rfl, _, rfl, ?_⟩
      generalize decide (V.int d = V.int 4) = c2
      cases c2 with
      | true =>
        refine iteT ⟨rfl, _, rfl, p, c, ks1, y, n + 1, rfl, F1, by omega, fun a ss ks2 n2 H2 tA ko F2 le2 sv2 => ⟨a, ss, rfl, tA, ko, fun v H3 s3 hk => k v ss ks2 n2 H3 hk ko (F2.same s3) (by omega) (TabsN.ext (tabsN_save tb1 F1 sv2) s3)⟩⟩
      | false =>
        refine iteF ⟨_, rfl, _, _, rfl, rfl, _, rfl, ?_⟩
        generalize decide (d < 7) = c3
        cases c3 with
        | true =>
          refine iteT ⟨_, rfl, rfl, _, rfl, ?_⟩
          generalize decide (V.int d = V.int 5) = c4
          cases c4 with
          | true =>
            refine iteT ⟨_, rfl, p, c, ks1, y, n + 1, 3, rfl, F1, by omega, by decide, by decide, fun e ks2 H2 e0 e1 F2 sv2 => ⟨_, _, rfl, rfl, [.int (1 + e)], [.int 1], rfl, rfl, by show 1 ≤ sizeLine; decide, ?_⟩⟩
            exact acc (as := [1]) F2 (by omega) (tabsN_save tb1 F1 sv2) (by omega) (by omega) (fun i mi => by rw [List.mem_singleton.mp mi]; omega) (by simp) (by simp) (acc1_ok (by omega) (by omega))
          | false =>
            refine iteF ⟨_, rfl, p, c, ks1, y, n + 1, 2, rfl, F1, by omega, by decide, by decide, fun e ks2 H2 e0 e1 F2 sv2 => ⟨_, _, rfl, rfl, [.int (2 + e)], [.int 1, .int 2], rfl, rfl, by show 2 ≤ sizeLine; decide, ?_⟩⟩
            refine acc (as := [1, 2]) F2 (by omega) (tabsN_save tb1 F1 sv2) (by omega) (by omega) (fun i mi => ?_) (by simp) (by simp) (acc2_ok (by omega) (by omega))
            simp only [List.mem_cons, List.not_mem_nil, or_false] at mi
            rcases mi with rfl | rfl <;> omega
        | false =>
          refine iteF ⟨_, rfl, rfl, _, rfl, ?_⟩
          generalize decide (V.int d = V.int 7) = c4
          cases c4 with
          | true =>
            refine iteT ⟨_, rfl, p, c, ks1, y, n + 1, 4, rfl, F1, by omega, by decide, by decide, fun e ks2 H2 e0 e1 F2 sv2 => ?_⟩
            exact one F2 (by omega) (tabsN_save tb1 F1 sv2) e0 (by omega) (cnt_ok e0 (by omega))
          | false =>
            refine iteF ⟨_, rfl, p, c, ks1, y, n + 1, 3, rfl, F1, by omega, by decide, by decide, fun e ks2 H2 e0 e1 F2 sv2 => ?_⟩
            have tb2 := tabsN_save tb1 F1 sv2
            refine ⟨_, rfl, rfl, _, rfl, ?_⟩
            generalize decide (V.int d = V.int 8) = c5
            cases c5 with
            | true =>
              refine iteT ⟨_, rfl, rfl, _, rfl, ?_⟩
              generalize decide (V.int e = V.int 0) = c6
              cases c6 with
              | true => exact iteT ⟨[.int 2], [.str "a", .str "b"], rfl, rfl, by show 2 ≤ sizeLine; decide, que (m := 2) (wds := ["a", "b"]) F2 (by omega) tb2 ho_q2⟩
              | false =>
                refine iteF ⟨_, rfl, rfl, _, rfl, ?_⟩
                generalize decide (V.int e = V.int 1) = c7
                cases c7 with
                | true => exact iteT ⟨[.int 2], [.str "a", .str "b"], rfl, rfl, by show 2 ≤ sizeLine; decide, que (m := 2) (wds := ["a", "b"]) F2 (by omega) tb2 ho_s2⟩
                | false => exact iteF ⟨[.int 2], [.str "a", .str "b"], rfl, rfl, by show 2 ≤ sizeLine; decide, que (m := 2) (wds := ["a", "b"]) F2 (by omega) tb2 ho_p2⟩
            | false =>
              refine iteF ⟨_, rfl, rfl, _, rfl, ?_⟩
              generalize decide (V.int e = V.int 0) = c6
              cases c6 with
              | true => exact iteT ⟨[.int 3], [.str "a"], rfl, rfl, by show 1 ≤ sizeLine; decide, que (m := 3) (wds := ["a"]) F2 (by omega) tb2 ho_q1⟩
              | false =>
                refine iteF ⟨_, rfl, rfl, _, rfl, ?_⟩
                generalize decide (V.int e = V.int 1) = c7
                cases c7 with
                | true => exact iteT (one (m := 3) F2 (by omega) tb2 (by decide) (by decide) (tik_ok (by decide) (by decide)))
                | false => exact iteF (one (m := 2) F2 (by omega) tb2 (by decide) (by decide) (per_ok (by decide) (by decide)))
end
end My

-- ===== K61Lb =====
set_option Elab.async false
set_option linter.all false
set_option maxRecDepth 100000
set_option maxHeartbeats 4000000
namespace My
open PySem L2 PyProof.Rows PySem.Spec Kd TL StX ClX
abbrev sEvs : Stmt := top 65
abbrev sRea : Stmt := top 66
theorem in_intsL (g : Int) : ∀ xs : List Int, inV (.int g) (xs.map V.int) = decide (g ∈ xs)
  | [] => rfl
  | x :: xs => by
    have ih := in_intsL g xs
    unfold inV at ih ⊢
    rw [List.map_cons, List.any_cons, ih]
    have e : eqV (V.int x) (V.int g) = decide (x = g) := by
      show (x == g) = _
      by_cases h : x = g
      · rw [h, decide_eq_true rfl, beq_self_eq_true]
      · rw [decide_eq_false h]
        exact beq_eq_false_iff_ne.mpr h
    rw [e]
    by_cases h : x = g
    · subst h
      simp
    · have h' : ¬ g = x := fun z => h z.symm
      simp [h, h']
theorem cut_all (xs : List V) : cutV xs none none = xs := by
  unfold cutV HT.sIx
  simp
theorem flat_intsL : ∀ xs : List Int, (xs.map V.int).all flatV = true
  | [] => rfl
  | x :: xs => by
    rw [List.map_cons, List.all_cons, flat_intsL xs]
    rfl
theorem lay_evs : ∀ L : List (Addr × Ev), (∀ q ∈ L, Wev q.2) → PyData.canLayAll0 (L.map fun q => tD (evK q.2)) = true
  | [], _ => by simp only [List.map_nil, PyData.canLayAll0]
  | q :: L, h => by
    have h1 := wrd_ok (h q List.mem_cons_self).1
    have h2 := wrd_ok (h q List.mem_cons_self).2
    simp only [List.map_cons, List.map_nil, tD, evK, kD, PyData.canLayAll0, PyData.canLay0, h1, h2, Bool.and_self, Bool.true_and]
    exact lay_evs L fun r m => h r (List.mem_cons_of_mem _ m)
theorem deep_evs : ∀ L : List (Addr × Ev), PyData.depthAll (L.map fun q => tD (evK q.2)) ≤ 2
  | [] => by simp only [List.map_nil, PyData.depthAll]; omega
  | q :: L => by
    have h := deep_evs L
    simp only [List.map_cons, List.map_nil, tD, evK, kD, PyData.depthAll, PyData.depth] at h ⊢
    omega
theorem shaped_evs {L : List (Addr × Ev)} (h : ∀ q ∈ L, Wev q.2) : SeqAt.shaped (.list (L.map fun q => tD (evK q.2))) = true := by
  have h1 := lay_evs L h
  have h2 := deep_evs L
  unfold SeqAt.shaped
  rw [Bool.and_eq_true]
  refine ⟨by simp only [PyData.canLay0, h1], decide_eq_true ?_⟩
  simp only [PyData.depth]
  omega
theorem dps_evs {K : PySem.W.Frag} {H : Hp} : ∀ L : List (Addr × Ev), (∀ q ∈ L, EvA H q.1 q.2) → DpAll K H (L.map fun q => V.ref q.1) (L.map fun q => tD (evK q.2))
  | [], _ => .nil
  | q :: L, h => .cons (eva_dp (h q List.mem_cons_self)) (dps_evs L fun r m => h r (List.mem_cons_of_mem _ m))
theorem EvL.dp {K : PySem.W.Frag} {H : Hp} {l : Addr} {L : List (Addr × Ev)} (h : EvL H l L) : Dp K H (.ref l) (.list (L.map fun q => tD (evK q.2))) := .lst (SqL.of h.1) (dps_evs L fun q m => (h.2 q m).1)
theorem EvL.shaped {H : Hp} {l : Addr} {L : List (Addr × Ev)} (h : EvL H l L) : SeqAt.shaped (.list (L.map fun q => tD (evK q.2))) = true := shaped_evs fun q m => (h.2 q m).2
/-- _law_events(states) -/
def spEvs : Sp := fun vs H Q _ => ∃ (a : Addr) (ss : List (List Stp)), vs = [.ref a] ∧ TD H (.ref a) (statesD ss) ∧ KOk ss ∧ ∀ l (L : List (Addr × Ev)) H', Same H H' → EvL H' l L → L.length ≤ 960 → Q (.ref l) H'
/-- _law_reached(states) -/
def spRea : Sp := fun vs H Q _ => ∃ (a : Addr) (ss : List (List Stp)), vs = [.ref a] ∧ TD H (.ref a) (statesD ss) ∧ KOk ss ∧ ∀ l (fs : List Int) H', Same H H' → H' l = some (.lst (fs.map V.int)) → (∀ i, i ∈ fs ↔ Rch ss [0] i) → Q (.ref l) H'
/-! ### what is reached, found turn by turn -/
structure Rt (ss : List (List Stp)) (fs : List Int) : Prop where
  nd : fs.Nodup
  zero : 0 ∈ fs
  rch : ∀ i ∈ fs, Rch ss [0] i
def Shut1 (ss : List (List Stp)) (fs : List Int) : Prop := ∀ i ∈ fs, ∀ x ∈ rowI ss i, x.2.2 ∈ fs
theorem Rt.start {ss : List (List Stp)} : Rt ss [0] := ⟨by simp, List.mem_cons_self, fun i m => .base m⟩
theorem Rt.low {ss : List (List Stp)} (so : KOk ss) {fs : List Int} (h : Rt ss fs) : ∀ i ∈ fs, 0 ≤ i ∧ i < (ss.length : Int) := fun i m => rch_low so (h.rch i m)
theorem Rt.most {ss : List (List Stp)} (so : KOk ss) {fs : List Int} (h : Rt ss fs) : fs.length ≤ ss.length := ints_most h.nd (h.low so)
theorem rch_row {ss : List (List Stp)} (so : KOk ss) {i : Int} {x : Stp} (r : Rch ss [0] i) (m : x ∈ rowI ss i) : Rch ss [0] x.2.2 := by
  obtain ⟨i0, i1⟩ := rch_low so r
  obtain ⟨n, rfl, e⟩ := row_at i0 i1
  exact .step r e m
theorem Rt.done {ss : List (List Stp)} {fs : List Int} (h : Rt ss fs) (c : Shut1 ss fs) : ∀ i, i ∈ fs ↔ Rch ss [0] i := fun i => ⟨h.rch i, fun r => by
  induction r with
  | base m => rw [List.mem_singleton.mp m]; exact h.zero
  | @step n st x _ e m ih =>
    refine c _ ih x ?_
    have : rowI ss (n : Int) = st := by
      unfold rowI
      rw [Int.toNat_natCast, List.getD_eq_getElem?_getD, e]
      rfl
    rw [this]
    exact m⟩
/-- one turn, some of its states looked at -/
structure Tn (ss : List (List Stp)) (f0 fs : List Int) (j : Nat) : Prop where
  rt : Rt ss fs
  pre : ∃ more, fs = f0 ++ more ∧ ∀ k ∈ more, ∃ i ∈ f0, ∃ x ∈ rowI ss i, k = x.2.2
  look : ∀ i ∈ f0.take j, ∀ x ∈ rowI ss i, x.2.2 ∈ fs
theorem Tn.start {ss : List (List Stp)} {f0 : List Int} (h : Rt ss f0) : Tn ss f0 f0 0 := ⟨h, ⟨[], by simp, fun k m => nomatch m⟩, fun i m => nomatch m⟩
theorem Tn.next {ss : List (List Stp)} (so : KOk ss) {f0 fs gs : List Int} {j : Nat} {i : Int} (h : Tn ss f0 fs j) (ei : f0[j]? = some i) (nd : gs.Nodup) (mem : ∀ k, k ∈ gs ↔ (∃ x ∈ rowI ss i, k = x.2.2) ∧ k ∉ fs) : Tn ss f0 (fs ++ gs) (j + 1) := by
  have mi := List.mem_of_getElem? ei
  obtain ⟨more, e, hm⟩ := h.pre
  have i_in : i ∈ fs := by rw [e]; exact List.mem_append_left _ mi
  refine ⟨⟨List.nodup_append.mpr ⟨h.rt.nd, nd, fun a ha b hb z => ((mem b).mp hb).2 (z ▸ ha)⟩, List.mem_append_left _ h.rt.zero, fun k m => ?_⟩, ⟨more ++ gs, by rw [e, List.append_assoc], fun k m => ?_⟩, fun k m x mx => ?_⟩
  · rcases List.mem_append.mp m with m | m
    · exact h.rt.rch k m
    · obtain ⟨⟨x, mx, ex⟩, _⟩ := (mem k).mp m
      rw [ex]
      exact rch_row so (h.rt.rch i i_in) mx
  · rcases List.mem_append.mp m with m | m
    · exact hm k m
    · obtain ⟨⟨x, mx, ex⟩, _⟩ := (mem k).mp m
      exact ⟨i, mi, x, mx, ex⟩
  · rw [List.take_succ, ei] at m
    rcases List.mem_append.mp m with m | m
    · exact List.mem_append_left _ (h.look k m x mx)
    · have ek : k = i := by simpa using m
      rw [ek] at mx
      by_cases z : x.2.2 ∈ fs
      · exact List.mem_append_left _ z
      · exact List.mem_append_right _ ((mem _).mpr ⟨⟨x, mx, rfl⟩, z⟩)
theorem Tn.shut {ss : List (List Stp)} {f0 fs : List Int} (h : Tn ss f0 fs f0.length) : Shut1 ss fs ∨ f0.length + 1 ≤ fs.length := by
  obtain ⟨more, e, hm⟩ := h.pre
  have lk := h.look
  rw [List.take_length] at lk
  cases more with
  | nil =>
    rw [List.append_nil] at e
    rw [e] at lk ⊢
    exact .inl lk
  | cons k r =>
    right
    rw [e, List.length_append, List.length_cons]
    omega
theorem Tn.stay {ss : List (List Stp)} {f0 fs : List Int} {j : Nat} (h : Tn ss f0 fs j) (c : Shut1 ss f0) : fs = f0 := by
  obtain ⟨more, e, hm⟩ := h.pre
  cases more with
  | nil => rw [e, List.append_nil]
  | cons k r =>
    obtain ⟨i, mi, x, mx, ek⟩ := hm k List.mem_cons_self
    have nd := h.rt.nd
    rw [e, List.nodup_append] at nd
    exact absurd rfl (nd.2.2 k (by rw [ek]; exact c i mi x mx) k List.mem_cons_self)
section
variable {P : Program} {w : World} {K : PySem.W.Frag} {mg : Str → Option Value} {base : Heap} {C : Addr}
abbrev nEv : List Str := ["_law_states", "_law_found", "_law_parts", "_law_part"]
theorem scEv : FnScope nEv ["_law_states"] (defScope sEvs) := ⟨rfl, rfl, rfl, by decide +kernel, rfl, by decide +kernel, by decide +kernel⟩
theorem ok_evs {f : Addr} {fd : FuncData} (F : Fun K "_law_events" "_law_events" sEvs f fd) (msorted : mg "sorted" = none) : FnOk P w K mg base CX0 1 f fd ["_law_states"] spEvs := by
  refine F.ok scEv (fun vs H Q E h => ?_) (fun cdv A outer s H vs Q E hr h => ?_)
  · obtain ⟨a, ss, rfl, _⟩ := h
    rfl
  · obtain ⟨a, ss, rfl, ta, so, k⟩ := h
    have hu := hr.units
    have hu65 : (A.deeper (envOfC "_law_events" (defScope sEvs) s.heap.objs.size f cdv)).units + 65 < cLine := by have := hr.un; omega
    have hu80 : (A.deeper (envOfC "_law_events" (defScope sEvs) s.heap.objs.size f cdv)).units + 80 < cLine := by have := hr.un; omega
    refine ⟨_, pss_cons (ps_set (i := 1) scEv.nd rfl (Or.inr rfl) (pe_lst pa_nil))
      (pss_cons (ps_for PassesOwn.never rfl (pi_tup (pv 0)) (pg_name (i := 2) scEv.nd rfl (Or.inl rfl))
        (pss_one (ps_set (i := 1) scEv.nd rfl (Or.inr rfl) (pe_op op_cat (pv 1) (pe_lc (own := [("_law_part", 3)]) (g := gName 3) (tt := tTest (tOp (rNotInD K) (teCut K 3) (tVar 1))) (te := teCut K 3) rfl scEv.nd
            (pi_tup (pv 2)) (blkOk_by (N := nEv) (sc := defScope sEvs) (by decide +kernel)) (fun _ _ _ _ _ => pg_name (i := 3) scEv.nd rfl (Or.inl rfl))
            (fun _ _ _ _ _ => pts_one (pt_cmpR (op_notInD hu65) (pe_slice (r := rSlT K) sl_tup (pv 3) po_none (po_some pe_int)) (pv 1) (by rfl)))
            (fun _ _ _ _ _ => pe_slice (r := rSlT K) sl_tup (pv 3) po_none (po_some pe_int)))))))
      (pss_one (ps_ret (pe_callB (r := rSortX (fun e : Ev => tD (evK e)) K) (cr_sortX hu80) (by rfl) msorted PyProof.Rows.boot_sorted (pa_cons (pv 1) pa_nil))))), ?_⟩
    obtain ⟨xs, ha, hxs⟩ := ta.tup_of
    have len : xs.length = ss.length := by
      have z := hxs.len
      rwa [List.length_map] at z
    have most := so.most
    refine ⟨by show 0 ≤ sizeLine; decide, fun l0 hl0 => ?_⟩
    have z0 := same_new (o := .lst []) hl0
    refine ⟨_, rfl, a, rfl, ⟨_, SqT.of (z0 _ _ ha)⟩, for_tup (K := K) (a := a) (xs := xs) (fun j σ H' => ∃ (o2 : Option V) (l : Addr) (L : List (Addr × Ev)), σ = [some (.ref a), some (.ref l), o2, none] ∧ Same H H' ∧ EvL H' l L ∧ L.length ≤ 24 * j) ⟨none, l0, [], rfl, z0, ⟨upd_same, fun q m => nomatch m⟩, by simp⟩ (fun j σ H' _ ⟨_, _, _, _, s1, _⟩ => SqT.of (s1 _ _ ha)) (fun j x σ H' ex ⟨o2, l, L, eσ, s1, hL, few⟩ => ?_) fun σ H' ⟨o2, l, L, eσ, s1, hL, few⟩ => ?_⟩
    · subst eσ
      obtain ⟨d, ed, td⟩ := (hxs.to (Tup.of s1)).get ex
      rw [List.getElem?_map] at ed
      obtain ⟨st, es, rfl⟩ := Option.map_eq_some_iff.mp ed
      obtain ⟨b, ys, rfl, hb, hy⟩ := td.ref_of
      have sto := so.all st (List.mem_of_getElem? es)
      have sf := sto.few
      have lj := (List.getElem?_eq_some_iff.mp es).1
      have ylen : ys.length = st.length := by
        have z := hy.len
        rwa [List.length_map] at z
      refine ⟨_, rfl, _, rfl, b, rfl, ⟨_, SqT.of hb⟩, fun D hD => lc_tup (K := K) (a := b) (xs := ys) (fun g H2 => Same H' H2 ∧ ∃ L' : List (Addr × Ev), EvL H2 D L' ∧ L'.length ≤ g) ⟨same_new hD, [], ⟨upd_same, fun q m => nomatch m⟩, by simp⟩ (fun g H2 _ ⟨s2, _⟩ => SqT.of (s2 _ _ hb)) (fun g x H2 exy ⟨s2, L', hL', few'⟩ => ?_) fun H2 ⟨s2, L', hL', few'⟩ => ?_⟩
      · obtain ⟨dv, edv, tv⟩ := hy.get exy
        rw [List.getElem?_map] at edv
        obtain ⟨z, ez, rfl⟩ := Option.map_eq_some_iff.mp edv
        obtain ⟨b3, rfl, hz⟩ := step_of tv
        have hz2 := s2 _ _ hz
        have zo := sto.all z (List.mem_of_getElem? ez)
        have lg := (List.getElem?_eq_some_iff.mp ez).1
        have nwh : ¬ (HT.sIx [V.str z.1, V.str z.2.1, V.int z.2.2].length 0 none = 0 ∧ HT.sIx [V.str z.1, V.str z.2.1, V.int z.2.2].length [V.str z.1, V.str z.2.1, V.int z.2.2].length (some 2) = [V.str z.1, V.str z.2.1, V.int z.2.2].length) := fun z => absurd (show HT.sIx 3 3 (some 2) = 3 from z.2) (by decide)
        refine ⟨rfl, _, rfl, 2, rfl, b3, _, rfl, SqT.of hz2, nwh, fun p hp => ?_⟩
        have sp_ := same_new (o := .tup (cutV [V.str z.1, V.str z.2.1, V.int z.2.2] none (some 2))) hp
        have hp1 : EvA (upd H2 p (.tup (cutV [V.str z.1, V.str z.2.1, V.int z.2.2] none (some 2)))) p (evOf z) := upd_same
        generalize upd H2 p (.tup (cutV [V.str z.1, V.str z.2.1, V.int z.2.2] none (some 2))) = H3 at sp_ hp1 ⊢
        have hL3 := hL.to (s2.trans sp_)
        refine ⟨_, rfl, _, _, eva_dp hp1, hL3.dp, shaped_ev ⟨zo.w1, zo.w2⟩, hL3.shaped, _, rfl, ?_⟩
        generalize (!(L.map fun q => tD (evK q.2)).any fun z_1 => PyData.eqv z_1 (tD (evK (evOf z)))) = c
        have hL4 := hL'.to sp_
        cases c with
        | false => exact iteF ⟨s2.trans sp_, L', hL4, by omega⟩
        | true =>
          refine iteT ⟨_, rfl, 2, rfl, b3, _, rfl, SqT.of (sp_ _ _ hz2), nwh, fun p2 hp2 => ?_⟩
          have sq_ := same_new (o := .tup (cutV [V.str z.1, V.str z.2.1, V.int z.2.2] none (some 2))) hp2
          have hq1 : EvA (upd H3 p2 (.tup (cutV [V.str z.1, V.str z.2.1, V.int z.2.2] none (some 2)))) p2 (evOf z) := upd_same
          generalize upd H3 p2 (.tup (cutV [V.str z.1, V.str z.2.1, V.int z.2.2] none (some 2))) = H5 at sq_ hq1 ⊢
          have hL5 := hL4.to sq_
          refine ⟨_, hL5.1, small_lt (m := 24) (by rw [List.length_map]; omega), same_at ((s2.trans sp_).trans sq_) hD, L' ++ [(p2, evOf z)], ⟨by rw [upd_same, List.map_append]; rfl, fun q m => ?_⟩, by rw [List.length_append, List.length_singleton]; omega⟩
          have neD : ∀ {c : Addr} {xs : List V}, H5 c = some (.tup xs) → (upd H5 D (.lst (L'.map (fun q => V.ref q.1) ++ [V.ref p2]))) c = some (.tup xs) := fun {c xs} e => by
            rw [upd_ne fun z => by rw [z, hL5.1] at e; cases e]
            exact e
          rcases List.mem_append.mp m with m | m
          · exact ⟨neD (hL5.2 q m).1, (hL5.2 q m).2⟩
          · rw [List.mem_singleton.mp m]
            exact ⟨neD hq1, ⟨zo.w1, zo.w2⟩⟩
      · have s12 := s1.trans s2
        have hL2 := hL.to s2
        refine ⟨l, D, _, _, rfl, rfl, hL2.1, hL'.1, small_len (m := 1000) (by rw [List.length_map, List.length_map]; omega), fun r hr' => ?_⟩
        have s3 := same_new (o := .lst (L.map (fun q => V.ref q.1) ++ L'.map fun q => V.ref q.1)) hr'
        refine ⟨_, r, L ++ L', rfl, s12.trans s3, ⟨by rw [upd_same, List.map_append], fun q m => ?_⟩, by rw [List.length_append]; omega⟩
        rcases List.mem_append.mp m with m | m
        · exact (hL2.to s3).2 q m
        · exact (hL'.to s3).2 q m
    · subst eσ
      refine ⟨_, rfl, l, L, rfl, .inl (SqL.of hL.1), fun q m => eva_dp (hL.2 q m).1, fun d hd d' hd' => ?_, .inl fun d hd => ?_, fun q _ => ?_, by omega, fun p hp => ?_⟩
      · obtain ⟨q, _, rfl⟩ := List.mem_map.mp hd
        obtain ⟨r, _, rfl⟩ := List.mem_map.mp hd'
        simp [tD, evK, kD, PySem.W.alike, PySem.W.alikeAll]
      · obtain ⟨q, _, rfl⟩ := List.mem_map.mp hd
        exact ⟨_, _, rfl⟩
      · simp [tD, evK, kD, PyData.depth, PyData.depthAll]
      · have s3 := same_new (o := .lst ((L.mergeSort (PySem.W.dataLe false fun q : Addr × Ev => tD (evK q.2))).map fun q => V.ref q.1)) hp
        refine k p (L.mergeSort (PySem.W.dataLe false fun q : Addr × Ev => tD (evK q.2))) _ (s1.trans s3) ⟨upd_same, fun q m => (hL.to s3).2 q ((List.mergeSort_perm _ _).mem_iff.mp m)⟩ ?_
        rw [(List.mergeSort_perm _ _).length_eq]
        omega
abbrev nRa : List Str := ["_law_states", "_law_found", "_law_turn", "_law_here", "_law_part"]
theorem scRa : FnScope nRa ["_law_states"] (defScope sRea) := ⟨rfl, rfl, rfl, by decide +kernel, rfl, by decide +kernel, by decide +kernel⟩
theorem ok_rea {f : Addr} {fd : FuncData} (F : Fun K "_law_reached" "_law_reached" sRea f fd) (G : Gs mg) (mrange : mg "range" = none) : FnOk P w K mg base CX0 1 f fd ["_law_states"] spRea := by
  refine F.ok scRa (fun vs H Q E h => ?_) (fun cdv A outer s H vs Q E hr h => ?_)
  · obtain ⟨a, ss, rfl, _⟩ := h
    rfl
  · obtain ⟨a, ss, rfl, ta, so, k⟩ := h
    refine ⟨_, pss_cons (ps_set (i := 1) scRa.nd rfl (Or.inr rfl) (pe_lst (pa_cons pe_int pa_nil)))
      (pss_cons (ps_for PassesOwn.never rfl (pi_range1 (by rfl) mrange (pa_cons (pe_callB (r := rLenQ K) call_len_seq (by rfl) G.len PySem.boot_len (pa_cons (pv 0) pa_nil)) pa_nil)) (pg_name (i := 2) scRa.nd rfl (Or.inl rfl))
        (pss_one (ps_for PassesOwn.never rfl (pi_list (pe_slice (r := rSlL K) sl_list (pv 1) po_none po_none)) (pg_name (i := 3) scRa.nd rfl (Or.inl rfl))
          (pss_one (ps_set (i := 1) scRa.nd rfl (Or.inr rfl) (pe_op op_cat (pv 1)
            (pe_callB (r := rSortedSet w) (cr_sortedSet rfl) (by rfl) G.sorted PyProof.Rows.boot_sorted (pa_cons (pe_callTy (r := rSetZ K w) (cr_setZ rfl) (by rfl) G.set PyProof.Rows.boot_set (pa_cons
              (pe_lc (own := [("_law_part", 4)]) (g := gName 4) (tt := tTest (tOp (rIn K true) (teTo K 4) (tVar 1))) (te := teTo K 4) rfl scRa.nd
                (pi_tup (pe_ix (r := rIxT K) ix_tup (pv 0) (pv 3) (fun _ _ => rfl))) (blkOk_by (N := nRa) (sc := defScope sRea) (by decide +kernel)) (fun _ _ _ _ _ => pg_name (i := 4) scRa.nd rfl (Or.inl rfl))
                (fun _ _ _ _ _ => pts_one (pt_cmpR op_notIn_seq (pe_ix (r := rIxT K) ix_tup (pv 4) pe_int (fun _ _ => rfl)) (pv 1) (by rfl)))
                (fun _ _ _ _ _ => pe_ix (r := rIxT K) ix_tup (pv 4) pe_int (fun _ _ => rfl))) pa_nil)) pa_nil))))))))
      (pss_one (ps_ret (pe_callB cr_sortedI (by rfl) G.sorted PyProof.Rows.boot_sorted (pa_cons (pv 1) pa_nil))))), ?_⟩
    obtain ⟨xs, ha, hxs⟩ := ta.tup_of
    have len : xs.length = ss.length := by
      have z := hxs.len
      rwa [List.length_map] at z
    have most := so.most
    have one := so.one
    refine ⟨by show 1 ≤ sizeLine; decide, fun l0 hl0 => ?_⟩
    have z0 := same_new (o := .lst [V.int 0]) hl0
    have e0 : (upd H l0 (.lst [V.int 0])) l0 = some (.lst ([0].map V.int)) := upd_same
    generalize upd H l0 (.lst [V.int 0]) = H0 at z0 e0 ⊢
    refine ⟨_, rfl, a, xs, rfl, .inr (SqT.of (z0 _ _ ha)), (xs.length : Int), rfl, by omega, by omega, for_range (lo := 0) (n := (xs.length : Int).toNat) (fun t σ H' => ∃ (o2 o3 : Option V) (l : Addr) (fs : List Int), σ = [some (.ref a), some (.ref l), o2, o3, none] ∧ Same H H' ∧ H' l = some (.lst (fs.map V.int)) ∧ Rt ss fs ∧ (Shut1 ss fs ∨ t + 1 ≤ fs.length)) ⟨none, none, l0, [0], rfl, z0, e0, Rt.start, .inr (by simp)⟩ ?_ ?_⟩
    · rintro t σ H' ht ⟨o2, o3, l, f0, rfl, s1, hl, R0, c0⟩
      have m0 := R0.most so
      refine ⟨_, rfl, l, _, rfl, SqL.of hl, fun lc hlc => ?_⟩
      have y1 := same_new (o := .lst (cutV (f0.map V.int) none none)) hlc
      have ec : (upd H' lc (.lst (cutV (f0.map V.int) none none))) lc = some (.lst (f0.map V.int)) := by rw [upd_same, cut_all]
      generalize upd H' lc (.lst (cutV (f0.map V.int) none none)) = H1 at y1 ec ⊢
      have s2 := s1.trans y1
      refine ⟨lc, rfl, ⟨_, SqL.of ec⟩, for_list (K := K) (a := lc) (xs := f0.map V.int) (fun j σ H2 => ∃ (o3 : Option V) (l : Addr) (fs : List Int), σ = [some (.ref a), some (.ref l), some (.int (0 + (t : Int))), o3, none] ∧ Same H1 H2 ∧ H2 l = some (.lst (fs.map V.int)) ∧ Tn ss f0 fs j) ⟨o3, l, f0, rfl, Same.refl _, y1 _ _ hl, Tn.start R0⟩ (fun j σ H2 _ ⟨_, _, _, _, s3, _⟩ => SqL.of (s3 _ _ ec)) (fun j x σ H2 ex ⟨o3, l, fs, eσ, s3, hl2, T⟩ => ?_) fun σ H2 ⟨o3, l, fs, eσ, s3, hl2, T⟩ => ?_⟩
      · subst eσ
        rw [List.getElem?_map] at ex
        obtain ⟨i, ei, rfl⟩ := Option.map_eq_some_iff.mp ex
        have s03 := s2.trans s3
        obtain ⟨i0, i1⟩ := R0.low so i (List.mem_of_getElem? ei)
        obtain ⟨xs', b, ys, ha', lx, eat, hb, hy⟩ := states_row (ta.to (Tup.of s03)) i0 i1
        have sto := so.row i0 i1
        have sf := sto.few
        have ylen : ys.length = (rowI ss i).length := by
          have z := hy.len
          rwa [List.length_map] at z
        have fm := T.rt.most so
        refine ⟨_, rfl, _, rfl, _, rfl, a, _, _, _, rfl, rfl, SqT.of ha', eat, b, rfl, ⟨_, SqT.of hb⟩, fun D hD => lc_tup (K := K) (a := b) (xs := ys) (fun g H3 => Same H2 H3 ∧ ∃ ns : List Int, H3 D = some (.lst (ns.map V.int)) ∧ ns.length ≤ g ∧ ∀ k, k ∈ ns ↔ (∃ x ∈ (rowI ss i).take g, k = x.2.2) ∧ k ∉ fs) ⟨same_new hD, [], upd_same, by simp, fun k => by simp⟩ (fun g H3 _ ⟨s4, _⟩ => SqT.of (s4 _ _ hb)) (fun g x H3 exy ⟨s4, ns, d4, few, mem⟩ => ?_) fun H3 ⟨s4, ns, d4, few, mem⟩ => ?_⟩
        · obtain ⟨dv, edv, tv⟩ := hy.get exy
          rw [List.getElem?_map] at edv
          obtain ⟨z, ez, rfl⟩ := Option.map_eq_some_iff.mp edv
          obtain ⟨b3, rfl, hz⟩ := step_of tv
          have hz4 := s4 _ _ hz
          have lg := (List.getElem?_eq_some_iff.mp ez).1
          have tk : (rowI ss i).take (g + 1) = (rowI ss i).take g ++ [z] := by rw [List.take_succ, ez]; rfl
          refine ⟨rfl, _, rfl, b3, _, 2, _, rfl, rfl, SqT.of hz4, rfl, _, rfl, l, _, rfl, .inl (SqL.of (s4 _ _ hl2)), rfl, flat_intsL fs, _, rfl, ?_⟩
          rw [show (if true = true then !inV (V.int z.2.2) (fs.map V.int) else inV (V.int z.2.2) (fs.map V.int)) = !inV (V.int z.2.2) (fs.map V.int) from if_pos rfl, in_intsL]
          by_cases zi : z.2.2 ∈ fs
          · rw [decide_eq_true zi]
            refine iteF ⟨s4, ns, d4, by omega, fun k => ?_⟩
            rw [mem, tk]
            constructor
            · rintro ⟨⟨x, mx, e⟩, n⟩
              exact ⟨⟨x, List.mem_append_left _ mx, e⟩, n⟩
            · rintro ⟨⟨x, mx, e⟩, n⟩
              rcases List.mem_append.mp mx with mx | mx
              · exact ⟨⟨x, mx, e⟩, n⟩
              · rw [List.mem_singleton.mp mx] at e
                exact absurd (e ▸ zi) n
          · rw [decide_eq_false zi]
            refine iteT ⟨_, rfl, b3, _, 2, _, rfl, rfl, SqT.of hz4, rfl, _, d4, small_lt (m := 24) (by rw [List.length_map]; omega), same_at s4 hD, ns ++ [z.2.2], by rw [upd_same, List.map_append]; rfl, by rw [List.length_append, List.length_singleton]; omega, fun k => ?_⟩
            rw [List.mem_append, mem, tk]
            constructor
            · rintro (⟨⟨x, mx, e⟩, n⟩ | m)
              · exact ⟨⟨x, List.mem_append_left _ mx, e⟩, n⟩
              · rw [List.mem_singleton.mp m]
                exact ⟨⟨z, List.mem_append_right _ List.mem_cons_self, rfl⟩, zi⟩
            · rintro ⟨⟨x, mx, e⟩, n⟩
              rcases List.mem_append.mp mx with mx | mx
              · exact .inl ⟨⟨x, mx, e⟩, n⟩
              · rw [List.mem_singleton.mp mx] at e
                exact .inr (by rw [e]; exact List.mem_cons_self)
        · rw [ylen, List.take_length] at mem
          refine ⟨D, ns, rfl, .inl (SqL.of d4), by omega, fun sa c hsa hc => ⟨sa, _, c, rfl, upd_same, by omega, fun gs fo asc gmem glen hfo => ?_⟩⟩
          have s5 := (s4.trans (same_new (o := L2.SetO w sa (fun j => decide (j ∈ ns)) c) hsa)).trans (same_new (o := .lst (gs.map V.int)) hfo)
          have f5 : (upd (upd H3 sa (L2.SetO w sa (fun j => decide (j ∈ ns)) c)) fo (.lst (gs.map V.int))) fo = some (.lst (gs.map V.int)) := upd_same
          generalize upd (upd H3 sa (L2.SetO w sa (fun j => decide (j ∈ ns)) c)) fo (.lst (gs.map V.int)) = H5 at s5 f5 ⊢
          have gnd : gs.Nodup := asc.imp fun h => by omega
          have T2 := T.next so ei gnd fun k => by
            rw [gmem, ← mem]
            exact decide_eq_true_iff
          have fm2 := T2.rt.most so
          rw [List.length_append] at fm2
          refine ⟨l, fo, _, _, rfl, rfl, s5 _ _ hl2, f5, small_len (m := 40) (by rw [List.length_map, List.length_map]; omega), fun r hr' => ?_⟩
          refine ⟨_, r, fs ++ gs, rfl, (s3.trans s5).trans (same_new hr'), by rw [upd_same, List.map_append], T2⟩
      · subst eσ
        rw [List.length_map] at T
        refine ⟨_, o3, l, fs, rfl, s2.trans s3, hl2, T.rt, ?_⟩
        rcases c0 with c0 | c0
        · left
          rw [T.stay c0]
          exact c0
        · rcases T.shut with z | z
          · exact .inl z
          · exact .inr (by omega)
    · rintro σ H' ⟨o2, o3, l, fs, rfl, s1, hl, R, c⟩
      have fm := R.most so
      have c' : Shut1 ss fs := c.elim id fun z => by omega
      refine ⟨_, rfl, l, fs, rfl, SqL.of hl, fun gs p perm asc hp => ?_⟩
      exact k p gs _ (s1.trans (same_new hp)) upd_same fun i => by rw [perm.mem_iff]; exact R.done c' i
end
end My

-- ===== KX16 =====
set_option Elab.async false
set_option linter.all false
set_option maxRecDepth 100000
set_option maxHeartbeats 4000000
/-! d.pop(k), k a tuple that is a key of d -/
namespace Kd
open PySem L2 PyProof.Rows PySem.Spec
theorem kt_drop {H : Hp} {kvs : List (List Key × V)} {xs : List (List Key × Addr × Value)} (r : KT H kvs xs) (k : List Key) : KT H (dropK kvs k) (withoutH xs k) := by
  induction r with
  | nil => exact .nil
  | @cons p q ps qs h t ih =>
    obtain ⟨h1, h2⟩ := h
    unfold dropK withoutH
    rw [List.filter_cons, List.filter_cons]
    by_cases e : p.1 = k
    · rw [if_neg (by simp [e]), if_neg (by simp [← h1, e])]
      exact ih
    · rw [if_pos (by simp [e]), if_pos (by simp [← h1, e])]
      exact .cons ⟨h1, h2⟩ ih
section
variable {X : Cx} {pins : List (Addr × Obj)} {σ : L2.St} {H : Hp} {s : Shared}
theorem d_popT {D b : Addr} {kvs : List (List Key × V)} {k : List Key} {v : V} {A : Around} {E Q : Value → Shared → Prop} (hu : A.units + 1 < cLine) (I : Inv X pins σ H s) (hD : H D = some (.dT kvs)) (hb : H b = some (.tup (k.map kV))) (l : valV kvs k = some v)
    (h : ∀ w' s', Inv X pins σ (upd H D (.dT (dropK kvs k))) s' → RelV v w' → Q w' s') : wpAny (model X.prog X.w) A (call (.builtin "dict.pop") [.ref D, .ref b]) Q E s := by
  obtain ⟨z, nsys, xs, rel, dd⟩ := dt_of I.hok hD
  have xz : xs.length ≤ sizeLine := by rw [← Paired.length rel]; exact z
  obtain ⟨w', hw, rw'⟩ := RelO.some_of (v := v) (o := (atKey xs k).map (·.2)) (by rw [← l]; exact rel.val k)
  obtain ⟨p, hp, hp2⟩ := Option.map_eq_some_iff.mp hw
  refine call_pop_heap (more := []) (hsz := xz) (.inl rfl) (PySem.F.args_dict_pop_2 _ _) (tupleKind_room_in1 hu) (key_of I.hok hb) nsys dd hp fun h' dd' sb => ?_
  rw [hp2]
  refine h w' _ ?_ rw'
  have pz : (dropK kvs k).length ≤ sizeLine := Nat.le_trans (dropK_le kvs k) z
  obtain ⟨o, es, ep, ho, o2, o3, o4, _, o5⟩ := dd'
  refine d_write I (by rw [hD]; exact True.intro) sb ⟨o, ho⟩ ⟨pz, nsys, _, (kt_drop rel k).keeps fun c ys e => ?_, o, es, ep, ho, o2, o3, o4, o5⟩
  rw [upd_ne (ne_of e hD (fun z => nomatch z))]
  exact e
end
def tDPop1T (td ty : TE) : TE := fun σ H Q => td σ H fun x H1 => ∃ a, x = .ref a ∧ IsD H1 a ∧ ty σ H1 fun y H2 => ∃ kvs k b v, H2 a = some (.dT kvs) ∧ y = .ref b ∧ H2 b = some (.tup (k.map kV)) ∧ valV kvs k = some v ∧ Q v (upd H2 a (.dT (dropK kvs k)))
theorem pe_dpop1T {X : Cx} {o e : Expr} {apos cpos : Pos} {td ty : TE} (hu : X.A.units + 1 < cLine) (ho : PE X o td) (he : PE X e ty) (m : M1 X o "pop" apos e cpos) : PE X (.Call (.Attribute o "pop" apos) [e] [] cpos) (tDPop1T td ty) := by
  refine ⟨fun pins s σ H Q I h => ?_⟩
  refine wpAny_Call_method m.base m.few m.line PySem.F.plainAttrs_dict PySem.F.slot_dict_pop PySem.F.type_dict_pop (thn (ho.run pins s σ H _ I h) fun u s1 ⟨x, H1, I1, rx, a, ex, d, q1⟩ => ?_)
  subst ex
  obtain rfl : u = Value.ref a := rx
  obtain ⟨t1, t2, _⟩ := isD_at I1 d
  refine ⟨t1, t2, ?_⟩
  rw [m.trees]
  refine Calls.callWith_builtin rfl (Calls.evalArgs_plain (Calls.spliced_cons (thn (he.run pins s1 σ H1 _ I1 q1) fun iv s2 ⟨y, H2, I2, ry, kvs, k, b, v, ea, ey, eb, l, q2⟩ => Calls.spliced_nil ?_)))
  subst ey
  cases (show iv = Value.ref b from ry)
  exact d_popT hu I2 ea eb l fun w' s3 I3 rw' => ⟨v, _, I3, rw', q2⟩
end Kd

-- ===== KL2 =====
set_option Elab.async false
set_option linter.all false
set_option maxRecDepth 100000
set_option maxHeartbeats 4000000
namespace Kd
open PySem L2 PyProof.Rows PySem.Spec PySem.W PySem.Calls
/-! ### list(d), the keys being tuples -/
def rListD : List V → Hp → VK → Prop := fun vs H Q => ∃ (a : Addr) (kvs : List (List Key × V)), vs = [V.ref a] ∧ H a = some (.dT kvs) ∧ kvs.length ≤ 100000 ∧
  ∀ (L : List (Addr × List Key)) p, L.map Prod.snd = kvs.map Prod.fst → (∀ q ∈ L, H q.1 = some (.tup (q.2.map kV))) → H p = none → Q (.ref p) (upd H p (.lst (L.map fun q => V.ref q.1)))
/-! ### min(xs), xs a list of data -/
def rMinL {β : Type} (enc : β → PyData) (K : PySem.W.Frag) : List V → Hp → VK → Prop := fun vs H Q => ∃ (l : Addr) (x : Addr × β) (L : List (Addr × β)), vs = [V.ref l] ∧ H l = some (.lst ((x :: L).map fun q => V.ref q.1)) ∧ DpRows enc K H (x :: L) ∧ AlikeAll ((x :: L).map fun q => enc q.2) ∧ (∀ q ∈ x :: L, (enc q.2).depth ≤ 60) ∧
  ∀ q ∈ x :: L, enc q.2 = minD (enc x.2) (L.map fun q => enc q.2) → Q (.ref q.1) H
theorem depthAll_le {k : Nat} : ∀ {ds : List PyData}, (∀ d ∈ ds, d.depth ≤ k) → PyData.depthAll ds ≤ k
  | [], _ => by simp [PyData.depthAll]
  | d :: r, h => by
    have h1 := h d List.mem_cons_self
    have h2 := depthAll_le (ds := r) fun x m => h x (List.mem_cons_of_mem _ m)
    simp only [PyData.depthAll]
    omega
section
variable {X : Cx}
theorem cr_listD (hc : X.calm = true) : CallR X (.type "list") rListD := by
  intro pins s σ H vs us Q I r h
  obtain ⟨a, kvs, rfl, ha, less, q⟩ := h
  rw [Vals.ref1 r]
  obtain ⟨od, J⟩ := I.lock ha trivial
  obtain ⟨lo, hod, hex, es, ep, hdt, hsz, ent⟩ := J.frzT upd_same
  obtain ⟨L, ll, hL⟩ := pick_each (fun i (q : Addr × List Key) => (∃ v, kvs[i]? = some (q.2, v)) ∧ (∃ en, es[i]? = some en ∧ en.key = Value.ref q.1) ∧ H q.1 = some (.tup (q.2.map kV))) kvs.length fun i hi => by
    obtain ⟨⟨k, v⟩, hkv⟩ : ∃ p, kvs[i]? = some p := ⟨kvs[i], List.getElem?_eq_getElem hi⟩
    obtain ⟨en, b, hen, hkey, hb⟩ := ent i k v hkv
    refine ⟨(b, k), ⟨v, hkv⟩, ⟨en, hen, hkey⟩, ?_⟩
    rw [upd_ne fun z => by rw [z, upd_same] at hb; cases hb] at hb
    exact hb
  have keys : L.map Prod.snd = kvs.map Prod.fst := by
    refine List.ext_getElem? fun i => ?_
    rw [List.getElem?_map, List.getElem?_map]
    rcases Nat.lt_or_ge i L.length with lt | ge
    · obtain ⟨⟨v, e⟩, _⟩ := hL i L[i] (List.getElem?_eq_getElem lt)
      rw [List.getElem?_eq_getElem lt, e]
      rfl
    · rw [List.getElem?_eq_none ge, List.getElem?_eq_none (by omega)]
      rfl
  have tups : ∀ q ∈ L, H q.1 = some (.tup (q.2.map kV)) := fun q m => by
    obtain ⟨i, e⟩ := List.mem_iff_getElem?.mp m
    exact (hL i q e).2.2
  refine kdl_call (src_raw lo hex hdt) (I.ok.hd hc) hod (by rw [hsz, sizeLine_eq]; omega) fun h' tk acc c hk hl hacc => ?_
  have ev : acc.toList = L.map fun q => Value.ref q.1 := by
    refine List.ext_getElem? fun i => ?_
    rw [List.getElem?_map]
    have al : acc.size = L.length := by rw [hacc.1, hsz, ll]
    rcases Nat.lt_or_ge i L.length with lt | ge
    · obtain ⟨v, hv⟩ : ∃ v, acc[i]? = some v := ⟨acc[i]'(by omega), by simp [al, lt]⟩
      obtain ⟨en, h1, rfl⟩ := hacc.2 i v hv
      obtain ⟨_, ⟨en', h2, h3⟩, _⟩ := hL i L[i] (List.getElem?_eq_getElem lt)
      rw [h1] at h2
      cases h2
      rw [Array.getElem?_toList, hv, h3, List.getElem?_eq_getElem lt]
      rfl
    · rw [List.getElem?_eq_none ge, List.getElem?_eq_none (by rw [Array.length_toList]; omega)]
      rfl
  have ea : acc = (L.map fun q => Value.ref q.1).toArray := by rw [← ev]
  have lz : (L.map fun q => V.ref q.1).length ≤ sizeLine := by rw [List.length_map, ll, sizeLine_eq]; omega
  rw [ea] at hl
  exact ⟨.ref s.heap.objs.size, upd H s.heap.objs.size (.lst (L.map fun q => V.ref q.1)), I.laid (t' := tk) hk (Nat.le_refl _) ⟨lz, _, c, refs_vals Prod.fst _, hl⟩, rfl, q L _ keys tups (I.hok.fresh (Nat.le_refl _))⟩
theorem cr_minL {β : Type} {enc : β → PyData} (hh : X.A.handled = none) (hu : X.A.units + 80 < cLine) : CallR X (.builtin "min") (rMinL enc X.K) := by
  intro pins s σ H vs us Q I r h
  obtain ⟨l, x, L, rfl, hl, hk, al, dp, q⟩ := h
  rw [Vals.ref1 r]
  obtain ⟨its, rv, il, _⟩ := I.list (.inl (.inl hl))
  have ei := refs_of rv
  subst ei
  have rd : ∀ q ∈ x :: L, ∃ as, Reads s.heap (.ref q.1) (enc q.2) as := fun q m => Dp.reads I (enc q.2) (.ref q.1) (.ref q.1) (hk q m) rfl
  have all : ∀ M : List (Addr × β), (∀ q ∈ M, ∃ as, Reads s.heap (.ref q.1) (enc q.2) as) → ∃ as, ReadsAll s.heap (M.map fun q => Value.ref q.1) (M.map fun q => enc q.2) as := by
    intro M
    induction M with
    | nil => exact fun _ => ⟨[], .nil⟩
    | cons y M ih =>
      intro g
      obtain ⟨as, h1⟩ := g y List.mem_cons_self
      obtain ⟨bs, h2⟩ := ih fun z m => g z (List.mem_cons_of_mem _ m)
      exact ⟨as ++ bs, .cons h1 h2⟩
  obtain ⟨as, ra⟩ := all (x :: L) rd
  have dl : PyData.depthAll ((x :: L).map fun q => enc q.2) ≤ 60 := depthAll_le fun d m => by
    obtain ⟨p, mp, rfl⟩ := List.mem_map.mp m
    exact dp p mp
  have hdep : X.A.units + 1 + PyData.depthAll (enc x.2 :: L.map fun q => enc q.2) < cLine := by
    have z : PyData.depthAll (enc x.2 :: L.map fun q => enc q.2) ≤ 60 := dl
    omega
  refine min_list_data (as := as) hh il.isList (by simpa using ra) (by simpa using al) hdep fun i v h' tk bs ev rm ext => ?_
  have ev2 : ((x :: L).map fun q => Value.ref q.1)[i]? = some v := by simpa using ev
  rw [List.getElem?_map] at ev2
  obtain ⟨p, ep, rfl⟩ := Option.map_eq_some_iff.mp ev2
  have mp := List.mem_of_getElem? ep
  obtain ⟨cs, rp⟩ := rd p mp
  have rp' : Reads h' (.ref p.1) (enc p.2) cs := PyProof.Rows.Reads.keeps ext rp
  have me : ∀ (y : PyData) (ys : List PyData), minD y ys ∈ y :: ys := by
    intro y ys
    unfold minD
    induction ys generalizing y with
    | nil => exact List.mem_cons_self
    | cons z ys ih =>
      rw [List.foldl_cons]
      rcases List.mem_cons.mp (ih (if dataLt z y = true then z else y)) with e | m
      · rw [e]
        split
        · exact List.mem_cons_of_mem _ List.mem_cons_self
        · exact List.mem_cons_self
      · exact List.mem_cons_of_mem _ (List.mem_cons_of_mem _ m)
  have mm : minD (enc x.2) (L.map fun q => enc q.2) ∈ (x :: L).map fun q => enc q.2 := me _ _
  have eq := alike_unique (enc p.2) (minD (enc x.2) (L.map fun q => enc q.2)) (.ref p.1) cs bs (al.1 _ (List.mem_map.mpr ⟨p, mp, rfl⟩) _ mm) rp' rm
  exact ⟨.ref p.1, H, I.kept (t' := tk) ext, rfl, q p mp eq⟩
end
end Kd

-- ===== K61Lc =====
set_option Elab.async false
set_option linter.all false
set_option maxRecDepth 100000
set_option maxHeartbeats 4000000
namespace My
open PySem L2 PyProof.Rows PySem.Spec Kd TL StX ClX
abbrev sKeeps : Stmt := top 67
abbrev sAllow : Stmt := top 68
abbrev sOnce : Stmt := top 70
abbrev sKept : Stmt := top 71
/-- a dict whose keys are tuples, whatever it holds -/
def DAny (H : Hp) (g : Addr) : Prop := ∃ kvs, H g = some (.dT kvs)
theorem DAny.to {H H' : Hp} {g : Addr} (h : DAny H g) (s : Same H H') : DAny H' g := by
  obtain ⟨kvs, e⟩ := h
  exact ⟨kvs, s _ _ e⟩
def AnyF (pl : Bool) (ss : List (List Stp)) (p q : Ev) : Prop := ∃ i, Rch ss [0] i ∧ failsB pl ss (rowI ss i) p q = true
theorem sort_any {pl : Bool} {ss : List (List Stp)} {p q : Ev} {fs : List Int} (h : ∀ i, i ∈ fs ↔ Rch ss [0] i) : (AnyF pl ss p q → sortT pl ss p q fs = (if pl then ("abort" : Str) else ("commit" : Str))) ∧ (¬ AnyF pl ss p q → sortT pl ss p q fs = "ring") := by
  unfold sortT
  refine ⟨fun ⟨i, r, b⟩ => if_pos (List.any_eq_true.mpr ⟨i, (h i).mpr r, b⟩), fun n => if_neg fun z => ?_⟩
  obtain ⟨i, m, b⟩ := List.any_eq_true.mp z
  exact n ⟨i, (h i).mp m, b⟩
/-- _law_sort_at_once, _law_sort_kept(states, good, first, second) -/
def spJd (pl : Bool) (word : Str) : Sp := fun vs H Q _ => ∃ (a g p1 p2 : Addr) (ss : List (List Stp)) (p q : Ev), vs = [.ref a, .ref g, .ref p1, .ref p2] ∧ TD H (.ref a) (statesD ss) ∧ KOk ss ∧ DAny H g ∧ EvA H p1 p ∧ Wev p ∧ EvA H p2 q ∧ Wev q ∧
  ∀ (z : Str) (H' : Hp), Same H H' → (AnyF pl ss p q → z = word) → (¬ AnyF pl ss p q → z = "" ∨ z = "ring") → Q (.str z) H'
def spKeeps : Sp := fun vs H Q _ => ∃ (a g l : Addr) (ss : List (List Stp)) (i j : Int) (L : List (Addr × Ev)), vs = [.ref a, .ref g, .int i, .int j, .ref l] ∧ TD H (.ref a) (statesD ss) ∧ KOk ss ∧ 0 ≤ i ∧ i < (ss.length : Int) ∧ 0 ≤ j ∧ j < (ss.length : Int) ∧ DAny H g ∧ EvL H l L ∧
  ∀ (b : Bool) (H' : Hp), Same H H' → Q (.bl b) H'
def spAllow : Sp := fun vs H Q _ => ∃ (a l : Addr) (ss : List (List Stp)) (L : List (Addr × Ev)), vs = [.ref a, .ref l] ∧ TD H (.ref a) (statesD ss) ∧ KOk ss ∧ EvL H l L ∧ ∀ (g : Addr) (H' : Hp), Same H H' → DAny H' g → Q (.ref g) H'
section
variable {P : Program} {w : World} {K : PySem.W.Frag} {mg : Str → Option Value} {base : Heap} {C : Addr}
abbrev nOn : List Str := ["_law_states", "_law_good", "_law_first", "_law_second", "_law_found", "_law_here", "_law_lone", "_law_other", "_law_behind", "_law_turned"]
theorem scOn : FnScope nOn ["_law_states", "_law_good", "_law_first", "_law_second"] (defScope sOnce) := ⟨rfl, rfl, rfl, by decide +kernel, rfl, by decide +kernel, by decide +kernel⟩
theorem scKp : FnScope nOn ["_law_states", "_law_good", "_law_first", "_law_second"] (defScope sKept) := ⟨rfl, rfl, rfl, by decide +kernel, rfl, by decide +kernel, by decide +kernel⟩
theorem ok_once {f fR fA : Addr} {fd fdR fdA : FuncData} (F : Fun K "_law_sort_at_once" "_law_sort_at_once" sOnce f fd)
    (GR : FnOk P w K mg base CX0 1 fR fdR ["_law_states"] spRea) (mR : mg "_law_reached" = some (.ref fR)) (kR : PySem.W.keepIn K (.ref fR) = true) (bR : Binds K fdR ["_law_states"] [])
    (GA : FnOk P w K mg base CX0 2 fA fdA ["_law_states", "_law_here", "_law_first", "_law_second"] spAt) (mA : mg "_law_at" = some (.ref fA)) (kA : PySem.W.keepIn K (.ref fA) = true) (bA : Binds K fdA ["_law_states", "_law_here", "_law_first", "_law_second"] []) :
    FnOk P w K mg base CX0 3 f fd ["_law_states", "_law_good", "_law_first", "_law_second"] (spJd true "abort") := by
  refine F.ok scOn (fun vs H Q E h => ?_) (fun cdv A outer s H vs Q E hr h => ?_)
  · obtain ⟨a, g, p1, p2, ss, p, q, rfl, _⟩ := h
    rfl
  · obtain ⟨a, g, p1, p2, ss, p, q, rfl, ta, so, hg, h1, w1, h2, w2, k⟩ := h
    have hu := hr.units
    have hu1 : (A.deeper (envOfC "_law_sort_at_once" (defScope sOnce) s.heap.objs.size f cdv)).units + 1 < cLine := by omega
    have hr1 := hr.mono (show 1 ≤ 2 by omega)
    refine ⟨_, pss_cons (ps_set (i := 4) scOn.nd rfl (Or.inl rfl) pe_str)
      (pss_cons (ps_for PassesOwn.never rfl (pi_list (pe_call GR hr1 (by rfl) mR kR bR .nil pass0 (pa_cons (pv 0) pa_nil))) (pg_name (i := 5) scOn.nd rfl (Or.inl rfl))
        (pss_cons (ps_asg (pe_call GA hr (by rfl) mA kA bA .nil pass0 (pa_cons (pv 0) (pa_cons (pv 5) (pa_cons (pv 2) (pa_cons (pv 3) pa_nil))))) (pg_unl (by rfl) (pgs_cons (pg_name (i := 6) scOn.nd rfl (Or.inl rfl)) (pgs_cons (pg_name (i := 7) scOn.nd rfl (Or.inl rfl)) (pgs_cons (pg_name (i := 8) scOn.nd rfl (Or.inl rfl)) (pgs_cons (pg_name (i := 9) scOn.nd rfl (Or.inl rfl)) pgs_nil))))))
        (pss_cons (ps_if (PW.pt (pw_and (pt_cmp (pc_notN (pv 8))) (pw_and1 (pt_cmp (pc_isN (pv 6)))))) (pss_one (ps_ret pe_str)) pss_nil)
        (pss_one (ps_if (PW.pt (pw_and (pt_cmp (pc_notN (pv 8))) (pw_and1 (PW.pt (pw_or (pt_cmp (pc_isN (pv 9))) (pw_or1 (pt_cmp (pc_dnotin hu1 (pe_tup (pa_cons (pv 9) (pa_cons (pv 8) pa_nil))) (pv 1)))))))))
          (pss_one (ps_set (i := 4) scOn.nd rfl (Or.inl rfl) pe_str)) pss_nil)))))
      (pss_one (ps_ret (pv 4)))), ?_⟩
    refine ⟨_, rfl, a, ss, rfl, ta, so, fun lr fs H1 s1 hlr all => ?_⟩
    refine ⟨lr, rfl, ⟨_, SqL.of hlr⟩, for_list (K := K) (a := lr) (xs := fs.map V.int) (fun j σ H' => ∃ (z : Str) (o5 o6 o7 o8 o9 : Option V), σ = [some (.ref a), some (.ref g), some (.ref p1), some (.ref p2), some (.str z), o5, o6, o7, o8, o9] ∧ Same H1 H' ∧ (z = "" ∨ z = "ring") ∧ ∀ i ∈ fs.take j, failsB true ss (rowI ss i) p q = false) ⟨"", none, none, none, none, none, rfl, Same.refl _, .inl rfl, fun i m => nomatch m⟩ (fun j σ H' _ ⟨_, _, _, _, _, _, _, s2, _⟩ => SqL.of (s2 _ _ hlr)) (fun j x σ H' ex ⟨z, o5, o6, o7, o8, o9, eσ, s2, hz, no⟩ => ?_) fun σ H' ⟨z, o5, o6, o7, o8, o9, eσ, s2, hz, no⟩ => ?_⟩
    · subst eσ
      rw [List.getElem?_map] at ex
      obtain ⟨i, ei, rfl⟩ := Option.map_eq_some_iff.mp ex
      have ri := (all i).mp (List.mem_of_getElem? ei)
      obtain ⟨i0, i1⟩ := rch_low so ri
      have s02 := s1.trans s2
      have tk : fs.take (j + 1) = fs.take j ++ [i] := by rw [List.take_succ, ei]; rfl
      refine ⟨_, rfl, _, rfl, _, rfl, _, rfl, a, p1, p2, ss, i, p, q, rfl, ta.to (Tup.of s02), so, i0, i1, h1.to s02, w1, h2.to s02, w2, fun l H2 s3 hl => ?_⟩
      have s03 := s02.trans s3
      have s13 := s2.trans s3
      refine ⟨l, _, rfl, SqL.of hl, rfl, _, _, rfl, _, _, rfl, _, _, rfl, _, _, rfl, rfl, ?_⟩
      have fb : failsB true ss (rowI ss i) p q = ((goalW ss (rowI ss i) q p).isSome && !(glV (rowI ss i) p).isSome) := rfl
      have add : ∀ {c : Bool}, failsB true ss (rowI ss i) p q = c → c = false → ∀ i' ∈ fs.take (j + 1), failsB true ss (rowI ss i') p q = false := fun {c} e ec i' m => by
        rw [tk] at m
        rcases List.mem_append.mp m with m | m
        · exact no i' m
        · rw [List.mem_singleton.mp m, e, ec]
      generalize glV (rowI ss i) p = lone at fb ⊢
      generalize glV (rowI ss i) q = other at fb ⊢
      generalize goalW ss (rowI ss i) q p = behind at fb ⊢
      generalize goalW ss (rowI ss i) p q = turned at fb ⊢
      refine ⟨_, rfl, _, rfl, ?_⟩
      cases behind with
      | none =>
        refine iteF (iteF ⟨_, rfl, _, rfl, iteF (iteF ⟨z, _, _, _, _, _, rfl, s13, hz, add fb rfl⟩)⟩)
      | some bh =>
        refine iteT ⟨_, rfl, _, rfl, ?_⟩
        cases lone with
        | none =>
          exact iteT (k _ _ s03 (fun _ => rfl) fun n => absurd ⟨i, ri, fb⟩ n)
        | some ln =>
          refine iteF ⟨_, rfl, _, rfl, iteT ⟨_, rfl, _, rfl, ?_⟩⟩
          cases turned with
          | none => exact iteT (iteT ⟨_, _, _, _, _, _, rfl, s13, .inr rfl, add fb rfl⟩)
          | some tn =>
            refine iteF ⟨_, rfl, _, rfl, by show 2 ≤ sizeLine; decide, fun pp hpp => ?_⟩
            obtain ⟨kv, ekv⟩ := (hg.to s03).to (same_new (o := .tup [V.int tn, V.int bh]) hpp)
            refine ⟨_, rfl, g, _, rfl, DGet.t (k := [Sum.inl tn, Sum.inl bh]) ekv upd_same, _, rfl, ?_⟩
            generalize (!(valV kv [Sum.inl tn, Sum.inl bh]).isSome) = c
            have s4 := s13.trans (same_new (o := .tup [V.int tn, V.int bh]) hpp)
            cases c with
            | true => exact iteT ⟨_, _, _, _, _, _, rfl, s4, .inr rfl, add fb rfl⟩
            | false => exact iteF ⟨z, _, _, _, _, _, rfl, s4, hz, add fb rfl⟩
    · subst eσ
      rw [List.length_map, List.take_length] at no
      refine ⟨_, rfl, k z _ (s1.trans s2) (fun ⟨i, r, b⟩ => ?_) fun _ => hz⟩
      rw [no i ((all i).mpr r)] at b
      cases b
theorem ok_kept {f fR fA : Addr} {fd fdR fdA : FuncData} (F : Fun K "_law_sort_kept" "_law_sort_kept" sKept f fd)
    (GR : FnOk P w K mg base CX0 1 fR fdR ["_law_states"] spRea) (mR : mg "_law_reached" = some (.ref fR)) (kR : PySem.W.keepIn K (.ref fR) = true) (bR : Binds K fdR ["_law_states"] [])
    (GA : FnOk P w K mg base CX0 2 fA fdA ["_law_states", "_law_here", "_law_first", "_law_second"] spAt) (mA : mg "_law_at" = some (.ref fA)) (kA : PySem.W.keepIn K (.ref fA) = true) (bA : Binds K fdA ["_law_states", "_law_here", "_law_first", "_law_second"] []) :
    FnOk P w K mg base CX0 3 f fd ["_law_states", "_law_good", "_law_first", "_law_second"] (spJd false "commit") := by
  refine F.ok scKp (fun vs H Q E h => ?_) (fun cdv A outer s H vs Q E hr h => ?_)
  · obtain ⟨a, g, p1, p2, ss, p, q, rfl, _⟩ := h
    rfl
  · obtain ⟨a, g, p1, p2, ss, p, q, rfl, ta, so, hg, h1, w1, h2, w2, k⟩ := h
    have hu := hr.units
    have hu1 : (A.deeper (envOfC "_law_sort_kept" (defScope sKept) s.heap.objs.size f cdv)).units + 1 < cLine := by omega
    have hr1 := hr.mono (show 1 ≤ 2 by omega)
    refine ⟨_, pss_cons (ps_set (i := 4) scKp.nd rfl (Or.inl rfl) pe_str)
      (pss_cons (ps_for PassesOwn.never rfl (pi_list (pe_call GR hr1 (by rfl) mR kR bR .nil pass0 (pa_cons (pv 0) pa_nil))) (pg_name (i := 5) scKp.nd rfl (Or.inl rfl))
        (pss_cons (ps_asg (pe_call GA hr (by rfl) mA kA bA .nil pass0 (pa_cons (pv 0) (pa_cons (pv 5) (pa_cons (pv 2) (pa_cons (pv 3) pa_nil))))) (pg_unl (by rfl) (pgs_cons (pg_name (i := 6) scKp.nd rfl (Or.inl rfl)) (pgs_cons (pg_name (i := 7) scKp.nd rfl (Or.inl rfl)) (pgs_cons (pg_name (i := 8) scKp.nd rfl (Or.inl rfl)) (pgs_cons (pg_name (i := 9) scKp.nd rfl (Or.inl rfl)) pgs_nil))))))
        (pss_one (ps_if (PW.pt (pw_and (pt_cmp (pc_notN (pv 6))) (pw_and1 (pt_cmp (pc_notN (pv 7))))))
          (pss_cons (ps_if (PW.pt (pw_and (pt_cmp (pc_isN (pv 8))) (pw_and1 (pt_cmp (pc_isN (pv 9)))))) (pss_one (ps_ret pe_str)) pss_nil)
          (pss_one (ps_if (PW.pt (pw_or (pt_cmp (pc_isN (pv 8))) (pw_or (pt_cmp (pc_isN (pv 9))) (pw_or (pt_cmp (pc_dnotin hu1 (pe_tup (pa_cons (pv 9) (pa_cons (pv 8) pa_nil))) (pv 1))) (pw_or1 (pt_cmp (pc_dnotin hu1 (pe_tup (pa_cons (pv 8) (pa_cons (pv 9) pa_nil))) (pv 1))))))))
            (pss_one (ps_set (i := 4) scKp.nd rfl (Or.inl rfl) pe_str)) pss_nil))) pss_nil))))
      (pss_one (ps_ret (pv 4)))), ?_⟩
    refine ⟨_, rfl, a, ss, rfl, ta, so, fun lr fs H1 s1 hlr all => ?_⟩
    refine ⟨lr, rfl, ⟨_, SqL.of hlr⟩, for_list (K := K) (a := lr) (xs := fs.map V.int) (fun j σ H' => ∃ (z : Str) (o5 o6 o7 o8 o9 : Option V), σ = [some (.ref a), some (.ref g), some (.ref p1), some (.ref p2), some (.str z), o5, o6, o7, o8, o9] ∧ Same H1 H' ∧ (z = "" ∨ z = "ring") ∧ ∀ i ∈ fs.take j, failsB false ss (rowI ss i) p q = false) ⟨"", none, none, none, none, none, rfl, Same.refl _, .inl rfl, fun i m => nomatch m⟩ (fun j σ H' _ ⟨_, _, _, _, _, _, _, s2, _⟩ => SqL.of (s2 _ _ hlr)) (fun j x σ H' ex ⟨z, o5, o6, o7, o8, o9, eσ, s2, hz, no⟩ => ?_) fun σ H' ⟨z, o5, o6, o7, o8, o9, eσ, s2, hz, no⟩ => ?_⟩
    · subst eσ
      rw [List.getElem?_map] at ex
      obtain ⟨i, ei, rfl⟩ := Option.map_eq_some_iff.mp ex
      have ri := (all i).mp (List.mem_of_getElem? ei)
      obtain ⟨i0, i1⟩ := rch_low so ri
      have s02 := s1.trans s2
      have tk : fs.take (j + 1) = fs.take j ++ [i] := by rw [List.take_succ, ei]; rfl
      refine ⟨_, rfl, _, rfl, _, rfl, _, rfl, a, p1, p2, ss, i, p, q, rfl, ta.to (Tup.of s02), so, i0, i1, h1.to s02, w1, h2.to s02, w2, fun l H2 s3 hl => ?_⟩
      have s03 := s02.trans s3
      have s13 := s2.trans s3
      refine ⟨l, _, rfl, SqL.of hl, rfl, _, _, rfl, _, _, rfl, _, _, rfl, _, _, rfl, rfl, ?_⟩
      have fb : failsB false ss (rowI ss i) p q = ((glV (rowI ss i) p).isSome && ((glV (rowI ss i) q).isSome && ((goalW ss (rowI ss i) q p).isNone && (goalW ss (rowI ss i) p q).isNone))) := rfl
      have add : ∀ {c : Bool}, failsB false ss (rowI ss i) p q = c → c = false → ∀ i' ∈ fs.take (j + 1), failsB false ss (rowI ss i') p q = false := fun {c} e ec i' m => by
        rw [tk] at m
        rcases List.mem_append.mp m with m | m
        · exact no i' m
        · rw [List.mem_singleton.mp m, e, ec]
      generalize glV (rowI ss i) p = lone at fb ⊢
      generalize glV (rowI ss i) q = other at fb ⊢
      generalize goalW ss (rowI ss i) q p = behind at fb ⊢
      generalize goalW ss (rowI ss i) p q = turned at fb ⊢
      refine ⟨_, rfl, _, rfl, ?_⟩
      cases lone with
      | none => exact iteF (iteF ⟨z, _, _, _, _, _, rfl, s13, hz, add fb rfl⟩)
      | some ln =>
        refine iteT ⟨_, rfl, _, rfl, ?_⟩
        cases other with
        | none => exact iteF ⟨z, _, _, _, _, _, rfl, s13, hz, add fb rfl⟩
        | some ot =>
          refine iteT ⟨_, rfl, _, rfl, ?_⟩
          cases behind with
          | none =>
            refine iteT ⟨_, rfl, _, rfl, ?_⟩
            cases turned with
            | none => exact iteT (k _ _ s03 (fun _ => rfl) fun n => absurd ⟨i, ri, fb⟩ n)
            | some tn => exact iteF ⟨_, rfl, _, rfl, iteT (iteT ⟨_, _, _, _, _, _, rfl, s13, .inr rfl, add fb rfl⟩)⟩
          | some bh =>
            refine iteF (iteF ⟨_, rfl, _, rfl, iteF ⟨_, rfl, _, rfl, ?_⟩⟩)
            cases turned with
            | none => exact iteT (iteT ⟨_, _, _, _, _, _, rfl, s13, .inr rfl, add fb rfl⟩)
            | some tn =>
              refine iteF ⟨_, rfl, _, rfl, by show 2 ≤ sizeLine; decide, fun pp hpp => ?_⟩
              obtain ⟨kv, ekv⟩ := (hg.to s03).to (same_new (o := .tup [V.int tn, V.int bh]) hpp)
              refine ⟨_, rfl, g, _, rfl, DGet.t (k := [Sum.inl tn, Sum.inl bh]) ekv upd_same, _, rfl, ?_⟩
              generalize (!(valV kv [Sum.inl tn, Sum.inl bh]).isSome) = c
              have s4 := s13.trans (same_new (o := .tup [V.int tn, V.int bh]) hpp)
              have hg4 := (hg.to s03).to (same_new (o := .tup [V.int tn, V.int bh]) hpp)
              cases c with
              | true => exact iteT (iteT ⟨_, _, _, _, _, _, rfl, s4, .inr rfl, add fb rfl⟩)
              | false =>
                refine iteF ⟨_, rfl, _, rfl, by show 2 ≤ sizeLine; decide, fun pq hpq => ?_⟩
                obtain ⟨kw, ekw⟩ := hg4.to (same_new (o := .tup [V.int bh, V.int tn]) hpq)
                refine ⟨_, rfl, g, _, rfl, DGet.t (k := [Sum.inl bh, Sum.inl tn]) ekw upd_same, _, rfl, ?_⟩
                generalize (!(valV kw [Sum.inl bh, Sum.inl tn]).isSome) = c
                have s5 := s4.trans (same_new (o := .tup [V.int bh, V.int tn]) hpq)
                cases c with
                | true => exact iteT ⟨_, _, _, _, _, _, rfl, s5, .inr rfl, add fb rfl⟩
                | false => exact iteF ⟨z, _, _, _, _, _, rfl, s5, hz, add fb rfl⟩
    · subst eσ
      rw [List.length_map, List.take_length] at no
      refine ⟨_, rfl, k z _ (s1.trans s2) (fun ⟨i, r, b⟩ => ?_) fun _ => hz⟩
      rw [no i ((all i).mpr r)] at b
      cases b
end
end My

-- ===== K61Ld =====
set_option Elab.async false
set_option linter.all false
set_option maxRecDepth 100000
set_option maxHeartbeats 4000000
namespace My
open PySem L2 PyProof.Rows PySem.Spec Kd TL StX ClX
/-- pairs of states that are left -/
structure PrK (n : Nat) (kvs : List (List L2.Key × V)) : Prop where
  nd : (kvs.map Prod.fst).Nodup
  pr : ∀ k ∈ kvs.map Prod.fst, ∃ i j : Int, k = [Sum.inl i, Sum.inl j] ∧ (0 ≤ i ∧ i < (n : Int)) ∧ 0 ≤ j ∧ j < (n : Int)
theorem PrK.most {n : Nat} {kvs : List (List L2.Key × V)} (h : PrK n kvs) (hn : n ≤ 40) : kvs.length ≤ 1600 := by
  have z := nodup_most _ ((List.range n).flatMap fun (i : Nat) => (List.range n).map fun (j : Nat) => ([Sum.inl (i : Int), Sum.inl (j : Int)] : List L2.Key)) h.nd fun k m => by
    obtain ⟨i, j, rfl, ⟨i0, i1⟩, j0, j1⟩ := h.pr k m
    exact List.mem_flatMap.mpr ⟨i.toNat, List.mem_range.mpr (by omega), List.mem_map.mpr ⟨j.toNat, List.mem_range.mpr (by omega), by rw [Int.toNat_of_nonneg i0, Int.toNat_of_nonneg j0]⟩⟩
  have l : ((List.range n).flatMap fun (i : Nat) => (List.range n).map fun (j : Nat) => ([Sum.inl (i : Int), Sum.inl (j : Int)] : List L2.Key)).length = n * n := by
    simp [List.length_flatMap, List.map_const', List.sum_replicate_nat]
  rw [l, List.length_map] at z
  exact Nat.le_trans z (Nat.mul_le_mul hn hn)
theorem putK_keysL {kvs : List (List L2.Key × V)} {k : List L2.Key} {v : V} : (k ∈ kvs.map Prod.fst → (putK kvs k v).map Prod.fst = kvs.map Prod.fst) ∧ (k ∉ kvs.map Prod.fst → (putK kvs k v).map Prod.fst = kvs.map Prod.fst ++ [k]) := putK_keys
theorem PrK.put {n : Nat} {kvs : List (List L2.Key × V)} (h : PrK n kvs) {i j : Int} {v : V} (i0 : 0 ≤ i ∧ i < (n : Int)) (j0 : 0 ≤ j ∧ j < (n : Int)) : PrK n (putK kvs [Sum.inl i, Sum.inl j] v) := by
  by_cases m : ([Sum.inl i, Sum.inl j] : List L2.Key) ∈ kvs.map Prod.fst
  · have e := (putK_keysL (v := v)).1 m
    exact ⟨by rw [e]; exact h.nd, by rw [e]; exact h.pr⟩
  · have e := (putK_keysL (v := v)).2 m
    refine ⟨by rw [e]; exact List.nodup_append.mpr ⟨h.nd, by simp, fun a ha b hb => by rw [List.mem_singleton.mp hb]; exact fun z => m (z ▸ ha)⟩, fun k mk => ?_⟩
    rw [e] at mk
    rcases List.mem_append.mp mk with mk | mk
    · exact h.pr k mk
    · exact ⟨i, j, List.mem_singleton.mp mk, i0, j0⟩
theorem PrK.drop {n : Nat} {kvs : List (List L2.Key × V)} (h : PrK n kvs) (k : List L2.Key) : PrK n (dropK kvs k) := by
  have sub : ((dropK kvs k).map Prod.fst).Sublist (kvs.map Prod.fst) := List.Sublist.map _ List.filter_sublist
  exact ⟨sub.nodup h.nd, fun x m => h.pr x (sub.subset m)⟩
theorem drop_in {kvs : List (List L2.Key × V)} {k x : List L2.Key} (h : x ∈ kvs.map Prod.fst) (n : x ≠ k) : x ∈ (dropK kvs k).map Prod.fst := by
  obtain ⟨p, m, rfl⟩ := List.mem_map.mp h
  exact List.mem_map.mpr ⟨p, List.mem_filter.mpr ⟨m, decide_eq_true n⟩, rfl⟩
theorem drop_less {kvs : List (List L2.Key × V)} {k : List L2.Key} (h : k ∈ kvs.map Prod.fst) : (dropK kvs k).length < kvs.length := by
  obtain ⟨p, m, rfl⟩ := List.mem_map.mp h
  exact List.length_filter_lt_length_iff_exists.mpr ⟨p, m, by simp⟩
theorem val_key {kvs : List (List L2.Key × V)} {k : List L2.Key} (h : k ∈ kvs.map Prod.fst) : ∃ v, valV kvs k = some v := by
  induction kvs with
  | nil => cases h
  | cons p r ih =>
    by_cases e : p.1 = k
    · exact ⟨_, valV_pos e⟩
    · rw [valV_neg e]
      refine ih ?_
      rcases List.mem_cons.mp h with z | z
      · exact absurd z.symm e
      · exact z
section
variable {P : Program} {w : World} {K : PySem.W.Frag} {mg : Str → Option Value} {base : Heap} {C : Addr}
abbrev nKe : List Str := ["_law_states", "_law_good", "_law_one", "_law_other", "_law_used", "_law_operation", "_law_answer", "_law_then", "_law_mine"]
theorem scKe : FnScope nKe ["_law_states", "_law_good", "_law_one", "_law_other", "_law_used"] (defScope sKeeps) := ⟨rfl, rfl, rfl, by decide +kernel, rfl, by decide +kernel, by decide +kernel⟩
theorem ok_keeps {f fL : Addr} {fd fdL : FuncData} (F : Fun K "_law_keeps" "_law_keeps" sKeeps f fd)
    (GL : FnOk P w K mg base CX0 1 fL fdL ["_law_states", "_law_here", "_law_row"] spLed) (mL : mg "_law_led" = some (.ref fL)) (kL : PySem.W.keepIn K (.ref fL) = true) (bL : Binds K fdL ["_law_states", "_law_here", "_law_row"] []) :
    FnOk P w K mg base CX0 2 f fd ["_law_states", "_law_good", "_law_one", "_law_other", "_law_used"] spKeeps := by
  refine F.ok scKe (fun vs H Q E h => ?_) (fun cdv A outer s H vs Q E hr h => ?_)
  · obtain ⟨a, g, l, ss, i, j, L, rfl, _⟩ := h
    rfl
  · obtain ⟨a, g, l, ss, i, j, L, rfl, ta, so, i0, i1, j0, j1, hg, hL, k⟩ := h
    have hu := hr.units
    have hu1 : (A.deeper (envOfC "_law_keeps" (defScope sKeeps) s.heap.objs.size f cdv)).units + 1 < cLine := by omega
    have hu65 : (A.deeper (envOfC "_law_keeps" (defScope sKeeps) s.heap.objs.size f cdv)).units + 65 < cLine := by have := hr.un; omega
    refine ⟨_, pss_cons (ps_for PassesOwn.never rfl (pi_tup (pe_ix (r := rIxT K) ix_tup (pv 0) (pv 3) (fun _ _ => rfl))) (pg_tup (by rfl) (pgs_cons (pg_name (i := 5) scKe.nd rfl (Or.inl rfl)) (pgs_cons (pg_name (i := 6) scKe.nd rfl (Or.inl rfl)) (pgs_cons (pg_name (i := 7) scKe.nd rfl (Or.inl rfl)) pgs_nil))))
        (pss_cons (ps_set (i := 8) scKe.nd rfl (Or.inl rfl) (pe_call GL hr (by rfl) mL kL bL .nil pass0 (pa_cons (pv 0) (pa_cons (pv 2) (pa_cons (pe_lst (pa_cons (pe_tup (pa_cons (pv 5) (pa_cons (pv 6) pa_nil))) pa_nil)) pa_nil)))))
        (pss_one (ps_if (PW.pt (pw_and (pt_cmpR (r := rInD K) (op_inD hu65) (pe_tup (pa_cons (pv 5) (pa_cons (pv 6) pa_nil))) (pv 4) (by rfl)) (pw_and1 (PW.pt (pw_or (pt_cmp (pc_isN (pv 8))) (pw_or1 (pt_cmp (pc_dnotin hu1 (pe_tup (pa_cons (pv 8) (pa_cons (pv 7) pa_nil))) (pv 1)))))))))
          (pss_one (ps_ret pe_bl)) pss_nil))))
      (pss_one (ps_ret pe_bl)), ?_⟩
    obtain ⟨xs, b, ys, ha, lx, eat, hb, hy⟩ := states_row ta j0 j1
    have sto := so.row j0 j1
    refine ⟨_, rfl, _, rfl, a, _, _, _, rfl, rfl, SqT.of ha, eat, b, rfl, ⟨_, SqT.of hb⟩, for_tup (K := K) (a := b) (xs := ys) (fun g_ σ H' => ∃ (o5 o6 o7 o8 : Option V), σ = [some (.ref a), some (.ref g), some (.int i), some (.int j), some (.ref l), o5, o6, o7, o8] ∧ Same H H') ⟨none, none, none, none, rfl, Same.refl _⟩ (fun g_ σ H' _ ⟨_, _, _, _, _, s1⟩ => SqT.of (s1 _ _ hb)) (fun g_ x σ H' ex ⟨o5, o6, o7, o8, eσ, s1⟩ => ?_) fun σ H' ⟨o5, o6, o7, o8, eσ, s1⟩ => ?_⟩
    · subst eσ
      obtain ⟨dv, edv, tv⟩ := (hy.to (Tup.of s1)).get ex
      rw [List.getElem?_map] at edv
      obtain ⟨z, ez, rfl⟩ := Option.map_eq_some_iff.mp edv
      obtain ⟨b3, rfl, hz⟩ := step_of tv
      have zo := sto.all z (List.mem_of_getElem? ez)
      have wz : Wev (evOf z) := ⟨zo.w1, zo.w2⟩
      refine ⟨b3, _, rfl, SqT.of hz, rfl, _, _, rfl, _, _, rfl, _, _, rfl, rfl, ?_⟩
      refine ⟨_, rfl, _, rfl, _, rfl, _, rfl, by show 2 ≤ sizeLine; decide, fun t1 ht1 => ⟨by show 1 ≤ sizeLine; decide, fun l1 hl1 => ?_⟩⟩
      have y1 := (same_new (o := .tup [V.str z.1, V.str z.2.1]) ht1).trans (same_new (o := .lst [V.ref t1]) hl1)
      have e1 : EvA (upd (upd H' t1 (.tup [V.str z.1, V.str z.2.1])) l1 (.lst [V.ref t1])) t1 (evOf z) := same_new hl1 _ _ upd_same
      have e2 : (upd (upd H' t1 (.tup [V.str z.1, V.str z.2.1])) l1 (.lst [V.ref t1])) l1 = some (.lst [V.ref t1]) := upd_same
      generalize upd (upd H' t1 (.tup [V.str z.1, V.str z.2.1])) l1 (.lst [V.ref t1]) = H1 at y1 e1 e2 ⊢
      have s2 := s1.trans y1
      refine ⟨a, l1, ss, i, [(t1, evOf z)], rfl, ta.to (Tup.of s2), so, i0, i1, ⟨e2, fun q m => by rw [List.mem_singleton.mp m]; exact ⟨e1, wz⟩⟩, fun H2 y2 => ?_⟩
      have s3 := s2.trans y2
      generalize goL ss i ([(t1, evOf z)].map Prod.snd) = mine
      refine ⟨_, rfl, _, rfl, by show 2 ≤ sizeLine; decide, fun t2 ht2 => ?_⟩
      have y3 := same_new (o := .tup [V.str z.1, V.str z.2.1]) ht2
      have e3 : EvA (upd H2 t2 (.tup [V.str z.1, V.str z.2.1])) t2 (evOf z) := upd_same
      generalize upd H2 t2 (.tup [V.str z.1, V.str z.2.1]) = H3 at y3 e3 ⊢
      have s4 := s3.trans y3
      have hL4 := hL.to s4
      refine ⟨_, rfl, _, _, eva_dp e3, hL4.dp, shaped_ev wz, hL4.shaped, _, rfl, ?_⟩
      generalize ((L.map fun q => tD (evK q.2)).any fun z_1 => PyData.eqv z_1 (tD (evK (evOf z)))) = c
      cases c with
      | false => exact iteF (iteF ⟨_, _, _, _, rfl, s4⟩)
      | true =>
        refine iteT ⟨_, rfl, _, rfl, ?_⟩
        cases mine with
        | none => exact iteT (iteT (k _ _ s4))
        | some mn =>
          refine iteF ⟨_, rfl, _, rfl, by show 2 ≤ sizeLine; decide, fun pp hpp => ?_⟩
          obtain ⟨kv, ekv⟩ := (hg.to s4).to (same_new (o := .tup [V.int mn, V.int z.2.2]) hpp)
          refine ⟨_, rfl, g, _, rfl, DGet.t (k := [Sum.inl mn, Sum.inl z.2.2]) ekv upd_same, _, rfl, ?_⟩
          generalize (!(valV kv [Sum.inl mn, Sum.inl z.2.2]).isSome) = c
          have s5 := s4.trans (same_new (o := .tup [V.int mn, V.int z.2.2]) hpp)
          cases c with
          | true => exact iteT (k _ _ s5)
          | false => exact iteF ⟨_, _, _, _, rfl, s5⟩
    · subst eσ
      exact k _ _ s1
abbrev nAl : List Str := ["_law_states", "_law_used", "_law_good", "_law_many", "_law_one", "_law_other", "_law_pair"]
theorem scAl : FnScope nAl ["_law_states", "_law_used"] (defScope sAllow) := ⟨rfl, rfl, rfl, by decide +kernel, rfl, by decide +kernel, by decide +kernel⟩
theorem ok_allow {f fK : Addr} {fd fdK : FuncData} (F : Fun K "_law_allowed" "_law_allowed" sAllow f fd) (G : Gs mg) (mlist : mg "list" = none) (mrange : mg "range" = none)
    (GK : FnOk P w K mg base CX0 2 fK fdK ["_law_states", "_law_good", "_law_one", "_law_other", "_law_used"] spKeeps) (mK : mg "_law_keeps" = some (.ref fK)) (kK : PySem.W.keepIn K (.ref fK) = true) (bK : Binds K fdK ["_law_states", "_law_good", "_law_one", "_law_other", "_law_used"] []) :
    FnOk P w K mg base CX0 3 f fd ["_law_states", "_law_used"] spAllow := by
  refine F.ok scAl (fun vs H Q E h => ?_) (fun cdv A outer s H vs Q E hr h => ?_)
  · obtain ⟨a, l, ss, L, rfl, _⟩ := h
    rfl
  · obtain ⟨a, l, ss, L, rfl, ta, so, hL, k⟩ := h
    have hu := hr.units
    have hu1 : (A.deeper (envOfC "_law_allowed" (defScope sAllow) s.heap.objs.size f cdv)).units + 1 < cLine := by omega
    refine ⟨_, pss_cons (ps_par (i := 2) (j := 3) rfl scAl.nd rfl rfl (by decide) rfl rfl (pa_cons pe_dnewT (pa_cons (pe_un un_neg pe_int) pa_nil)) (by rfl))
      (pss_cons (ps_for PassesOwn.never rfl (pi_range1 (by rfl) mrange (pa_cons (pe_callB (r := rLenQ K) call_len_seq (by rfl) G.len PySem.boot_len (pa_cons (pv 0) pa_nil)) pa_nil)) (pg_name (i := 4) scAl.nd rfl (Or.inl rfl))
        (pss_one (ps_for PassesOwn.never rfl (pi_range1 (by rfl) mrange (pa_cons (pe_callB (r := rLenQ K) call_len_seq (by rfl) G.len PySem.boot_len (pa_cons (pv 0) pa_nil)) pa_nil)) (pg_name (i := 5) scAl.nd rfl (Or.inl rfl))
          (pss_one (ps_dput hu1 (pv 2) (pe_tup (pa_cons (pv 4) (pa_cons (pv 5) pa_nil))) pe_bl (by rfl))))))
      (pss_cons (ps_while PassesOwn.never (pt_cmpR op_ne (pv 3) (pe_callB (r := rLenT) call_len_dT (by rfl) G.len PySem.boot_len (pa_cons (pv 2) pa_nil)) (nomark _))
        (pss_cons (ps_set (i := 3) scAl.nd rfl (Or.inl rfl) (pe_callB (r := rLenT) call_len_dT (by rfl) G.len PySem.boot_len (pa_cons (pv 2) pa_nil)))
        (pss_one (ps_for PassesOwn.never rfl (pi_list (pe_callTy (Kd.cr_listD rfl) (by rfl) mlist (by decide +kernel) (pa_cons (pv 2) pa_nil))) (pg_name (i := 6) scAl.nd rfl (Or.inl rfl))
          (pss_one (ps_if (pt_not (pt_val (pe_call GK hr (by rfl) mK kK bK .nil pass0 (pa_cons (pv 0) (pa_cons (pv 2) (pa_cons (pe_ix (r := rIxT K) ix_tup (pv 6) pe_int (fun _ _ => rfl)) (pa_cons (pe_ix (r := rIxT K) ix_tup (pv 6) pe_int (fun _ _ => rfl)) (pa_cons (pv 1) pa_nil))))))))
            (pss_one (ps_expr (pe_dpop1T hu1 (pv 2) (pv 6) ⟨rfl, rfl, rfl, rfl⟩))) pss_nil))))))
      (pss_one (ps_ret (pv 2))))), ?_⟩
    obtain ⟨xs, ha, hxs⟩ := ta.tup_of
    have len : xs.length = ss.length := by
      have z := hxs.len
      rwa [List.length_map] at z
    have most := so.most
    refine fun g hgn => ⟨_, rfl, _, _, rfl, ?_⟩
    have z0 := same_new (o := .dT []) hgn
    have e0 : (upd H g (.dT [])) g = some (.dT []) := upd_same
    -- all pairs
    refine ⟨_, rfl, a, xs, rfl, .inr (SqT.of (z0 _ _ ha)), (xs.length : Int), rfl, by omega, by omega, for_range (lo := 0) (n := (xs.length : Int).toNat) (fun t σ H' => ∃ (o4 o5 : Option V) (kvs : List (List L2.Key × V)), σ = [some (.ref a), some (.ref l), some (.ref g), some (.int (-1)), o4, o5, none] ∧ Same H H' ∧ H' g = some (.dT kvs) ∧ PrK ss.length kvs) ⟨none, none, [], rfl, z0, e0, ⟨by simp, fun k m => nomatch m⟩⟩ ?_ ?_⟩
    · rintro t σ H' ht ⟨o4, o5, kvs, rfl, s1, hg, pk⟩
      refine ⟨_, rfl, a, xs, rfl, .inr (SqT.of (s1 _ _ ha)), (xs.length : Int), rfl, by omega, by omega, for_range (lo := 0) (n := (xs.length : Int).toNat) (fun u σ H' => ∃ (o5 : Option V) (kvs : List (List L2.Key × V)), σ = [some (.ref a), some (.ref l), some (.ref g), some (.int (-1)), some (.int (0 + (t : Int))), o5, none] ∧ Same H H' ∧ H' g = some (.dT kvs) ∧ PrK ss.length kvs) ⟨o5, kvs, rfl, s1, hg, pk⟩ ?_ ?_⟩
      · rintro u σ H2 hu2 ⟨o5, kvs, rfl, s2, hg2, pk⟩
        have m16 := pk.most most
        refine ⟨_, rfl, _, rfl, _, rfl, by show 2 ≤ sizeLine; decide, fun p hp => ?_⟩
        have y1 := same_new (o := .tup [V.int (0 + (t : Int)), .int (0 + (u : Int))]) hp
        have hp1 : (upd H2 p (.tup [V.int (0 + (t : Int)), .int (0 + (u : Int))])) p = some (.tup (([Sum.inl (0 + (t : Int)), Sum.inl (0 + (u : Int))] : List L2.Key).map kV)) := upd_same
        generalize upd H2 p (.tup [V.int (0 + (t : Int)), .int (0 + (u : Int))]) = H3 at y1 hp1 ⊢
        have hg3 := y1 _ _ hg2
        refine ⟨g, _, rfl, DPut.t hg3 hp1 (small_lt (m := 1601) (by omega)), _, _, rfl, same_at (s2.trans y1) hgn, upd_same, pk.put ⟨by omega, by omega⟩ ⟨by omega, by omega⟩⟩
      · rintro σ H2 ⟨o5, kvs, rfl, s2, hg2, pk⟩
        exact ⟨_, _, _, rfl, s2, hg2, pk⟩
    · rintro σ H' ⟨o4, o5, kvs0, rfl, s1, hg, pk0⟩
      -- they fall one by one
      refine ⟨fun μ σ Hw => ∃ (m : Int) (o4 o5 o6 : Option V) (kvs : List (List L2.Key × V)), μ = 2 * kvs.length + (if m = (kvs.length : Int) then 0 else 1) ∧ σ = [some (.ref a), some (.ref l), some (.ref g), some (.int m), o4, o5, o6] ∧ Same H Hw ∧ Hw g = some (.dT kvs) ∧ PrK ss.length kvs,
        ⟨_, -1, o4, o5, none, kvs0, rfl, rfl, s1, hg, pk0⟩, fun μ σ Hw ⟨m, o4, o5, o6, kvs, eμ, eσ, sw, hw, pk⟩ => ?_⟩
      subst eμ
      subst eσ
      have m16 := pk.most most
      refine ⟨_, rfl, _, rfl, g, kvs, rfl, hw, rfl, _, rfl, ?_⟩
      by_cases em : m = (kvs.length : Int)
      · have : (!decide (V.int m = V.int (kvs.length : Int))) = false := by rw [em]; simp
        rw [this]
        exact iteF ⟨_, rfl, k g _ sw ⟨_, hw⟩⟩
      · have : (!decide (V.int m = V.int (kvs.length : Int))) = true := by simp [em]
        rw [this, if_neg em]
        refine iteT ⟨fun σ' H' => ∃ (o4 o5 o6 : Option V) (kvs' : List (List L2.Key × V)), σ' = [some (.ref a), some (.ref l), some (.ref g), some (.int (kvs.length : Int)), o4, o5, o6] ∧ Same H H' ∧ H' g = some (.dT kvs') ∧ PrK ss.length kvs' ∧ kvs'.length ≤ kvs.length,
          fun σ' H' ⟨p4, p5, p6, kvs', e, r1, r2, r3, r4⟩ => ⟨_, ?_, (kvs.length : Int), p4, p5, p6, kvs', rfl, e, r1, r2, r3⟩, ?_⟩
        · split <;> omega
        refine ⟨_, rfl, g, kvs, rfl, hw, ?_⟩
        refine ⟨_, rfl, g, kvs, rfl, hw, by omega, fun LK D eL hLK hD => ?_⟩
        have yD := same_new (o := .lst (LK.map fun q => V.ref q.1)) hD
        have eD : (upd Hw D (.lst (LK.map fun q => V.ref q.1))) D = some (.lst (LK.map fun q => V.ref q.1)) := upd_same
        have hLK2 : ∀ q ∈ LK, (upd Hw D (.lst (LK.map fun q => V.ref q.1))) q.1 = some (.tup (q.2.map kV)) := fun q mq => yD _ _ (hLK q mq)
        have hg2 := yD _ _ hw
        have sD := sw.trans yD
        have fD : H D = none := none_of sw hD
        generalize upd Hw D (.lst (LK.map fun q => V.ref q.1)) = HD at eD hLK2 hg2 sD ⊢
        have gD : g ≠ D := fun z => by rw [z, eD] at hg2; cases hg2
        refine ⟨D, rfl, ⟨_, SqL.of eD⟩, for_list (K := K) (a := D) (xs := LK.map fun q => V.ref q.1) (fun j σ H' => ∃ (o6 : Option V) (kvs' : List (List L2.Key × V)), σ = [some (.ref a), some (.ref l), some (.ref g), some (.int (kvs.length : Int)), o4, o5, o6] ∧ (∀ b o, HD b = some o → b ≠ g → H' b = some o) ∧ H' g = some (.dT kvs') ∧ PrK ss.length kvs' ∧ kvs'.length ≤ kvs.length ∧ ∀ q ∈ LK.drop j, q.2 ∈ kvs'.map Prod.fst)
          ⟨o6, kvs, rfl, fun b o e _ => e, hg2, pk, Nat.le_refl _, fun q mq => by rw [← eL]; exact List.mem_map.mpr ⟨q, List.mem_of_mem_drop mq, rfl⟩⟩ (fun j σ H' _ ⟨_, _, _, s3, _⟩ => SqL.of (s3 _ _ eD (Ne.symm gD))) (fun j x σ H' ex ⟨o6, kvs', eσ, s3, hg3, pk3, le3, rest⟩ => ?_) fun σ H' ⟨o6, kvs', eσ, s3, hg3, pk3, le3, rest⟩ => ?_⟩
        · subst eσ
          rw [List.getElem?_map] at ex
          obtain ⟨q, eq, rfl⟩ := Option.map_eq_some_iff.mp ex
          have mq := List.mem_of_getElem? eq
          have back : Same H H' := fun b o e => s3 _ _ (sD _ _ e) (fun z => by rw [z, hgn] at e; cases e)
          have hq : H' q.1 = some (.tup (q.2.map kV)) := s3 _ _ (hLK2 q mq) (fun z => by have z2 := hLK2 q mq; rw [z, hg2] at z2; cases z2)
          have qin : q.2 ∈ kvs'.map Prod.fst := by
            obtain ⟨lj, ej⟩ := List.getElem?_eq_some_iff.mp eq
            refine rest q ?_
            rw [List.drop_eq_getElem_cons lj, ej]
            exact List.mem_cons_self
          have dr : ∀ r ∈ LK.drop (j + 1), r.2 ∈ kvs'.map Prod.fst ∧ r.2 ≠ q.2 := fun r mr => by
            obtain ⟨lj, ej⟩ := List.getElem?_eq_some_iff.mp eq
            have ec := List.drop_eq_getElem_cons lj
            refine ⟨rest r (by rw [ec]; exact List.mem_cons_of_mem _ mr), fun z => ?_⟩
            have nd : ((LK.drop j).map Prod.snd).Nodup := by
              rw [List.map_drop, eL]
              exact (List.drop_sublist _ _).nodup pk.nd
            rw [ec, List.map_cons, List.nodup_cons, ej] at nd
            exact nd.1 (List.mem_map.mpr ⟨r, mr, z⟩)
          obtain ⟨i, jj, ek, ⟨i0, i1⟩, j0, j1⟩ := pk3.pr q.2 qin
          have hq' : H' q.1 = some (.tup [V.int i, V.int jj]) := by rw [hq, ek]; rfl
          refine ⟨_, rfl, _, rfl, _, rfl, q.1, _, 0, _, rfl, rfl, SqT.of hq', rfl, _, rfl, q.1, _, 1, _, rfl, rfl, SqT.of hq', rfl, _, rfl, ?_⟩
          refine ⟨a, g, l, ss, i, jj, L, rfl, ta.to (Tup.of back), so, i0, i1, j0, j1, ⟨_, hg3⟩, hL.to back, fun b H4 s4 => ⟨_, rfl, ?_⟩⟩
          cases b with
          | true => exact iteF ⟨_, kvs', rfl, fun b o e n => s4 _ _ (s3 b o e n), s4 _ _ hg3, pk3, le3, fun r mr => (dr r mr).1⟩
          | false =>
            obtain ⟨v, ev⟩ := val_key qin
            refine iteT ⟨_, rfl, g, rfl, .inr ⟨_, .inl (s4 _ _ hg3)⟩, _, rfl, kvs', q.2, q.1, v, s4 _ _ hg3, rfl, s4 _ _ hq, ev, ?_⟩
            have less := drop_less qin
            refine ⟨_, dropK kvs' q.2, rfl, fun b o e n => by rw [upd_ne n]; exact s4 _ _ (s3 b o e n), upd_same, pk3.drop _, by omega, fun r mr => drop_in (dr r mr).1 (dr r mr).2⟩
        · subst eσ
          exact ⟨_, _, _, kvs', rfl, fun b o e => s3 _ _ (sD _ _ e) (fun z => by rw [z, hgn] at e; cases e), hg3, pk3, le3⟩
end
end My

-- ===== K61Km =====
set_option Elab.async false
set_option linter.all false
set_option maxRecDepth 100000
set_option maxHeartbeats 4000000
namespace My
open PySem L2 PyProof.Rows PySem.Spec Kd TL StX ClX
/-! ### sorts of pairs, told by the values that a kind is grown of -/
def glM (mv : GV → List GStp) (g : GV) (e : Ev) : Option GV := ((mv g).find? fun x => decide (gev x = e)).map fun x => x.2.2
def goM (mv : GV → List GStp) : GV → List Ev → Option GV
  | g, [] => some g
  | g, e :: w => (glM mv g e).bind fun h => goM mv h w
def goalM (mv : GV → List GStp) (g : GV) (e f : Ev) : Option GV := (glM mv g e).bind fun h => glM mv h f
def failsM (pl : Bool) (mv : GV → List GStp) (g : GV) (p q : Ev) : Bool :=
  if pl then (goalM mv g q p).isSome && !(glM mv g p).isSome else (glM mv g p).isSome && ((glM mv g q).isSome && ((goalM mv g q p).isNone && (goalM mv g p q).isNone))
theorem find_perm {α β : Type} [DecidableEq β] {l m : List α} (key : α → β) (pm : l.Perm m) (nd : (m.map key).Nodup) (e : β) : l.find? (fun x => decide (key x = e)) = m.find? (fun x => decide (key x = e)) := by
  have uq : ∀ x ∈ m, ∀ y ∈ m, key x = key y → x = y := by
    clear pm l
    induction m with
    | nil => exact fun x h => nomatch h
    | cons z m ih =>
      rw [List.map_cons, List.nodup_cons] at nd
      intro x mx y my exy
      rcases List.mem_cons.mp mx with ex | mx <;> rcases List.mem_cons.mp my with ey | my
      · rw [ex, ey]
      · exact absurd (List.mem_map.mpr ⟨y, my, by rw [← exy, ex]⟩) nd.1
      · exact absurd (List.mem_map.mpr ⟨x, mx, by rw [exy, ey]⟩) nd.1
      · exact ih nd.2 x mx y my exy
  cases h : l.find? (fun x => decide (key x = e)) with
  | none =>
    cases h2 : m.find? (fun x => decide (key x = e)) with
    | none => rfl
    | some y =>
      have my := List.mem_of_find?_eq_some h2
      have z := List.find?_eq_none.mp h y (pm.mem_iff.mpr my)
      exact absurd (List.find?_some h2) z
  | some x =>
    have mx := pm.mem_iff.mp (List.mem_of_find?_eq_some h)
    have kx : key x = e := by simpa using List.find?_some h
    cases h2 : m.find? (fun x => decide (key x = e)) with
    | none => exact absurd (decide_eq_true kx) (List.find?_eq_none.mp h2 x mx)
    | some y =>
      have my := List.mem_of_find?_eq_some h2
      have ky : key y = e := by simpa using List.find?_some h2
      rw [uq x mx y my (kx.trans ky.symm)]
section
variable {mv : GV → List GStp} {g0 : GV} {Dom : List GV} {es : List Ev} {vals : List GV} {ls : List (List Stp)}
theorem Grown.in_ (G : Grown mv g0 vals ls) (M : MvOk mv Dom es) (h0 : g0 ∈ Dom) : ∀ g ∈ vals, g ∈ Dom := by
  rw [G.1]
  exact valsG_in M h0 _
theorem Grown.nd (G : Grown mv g0 vals ls) : vals.Nodup := by
  rw [G.1]
  exact valsG_nd _
theorem Grown.zero (G : Grown mv g0 vals ls) : vals[0]? = some g0 := by
  rw [G.1]
  exact valsG_zero _
theorem Grown.len (G : Grown mv g0 vals ls) : ls.length = vals.length := by rw [G.2, List.length_map]
theorem Grown.row (G : Grown mv g0 vals ls) {h : GV} (m : h ∈ vals) : rowI ls ((vals.idxOf h : Nat) : Int) = rowG vals (srtG (mv h)) := by
  unfold rowI
  rw [Int.toNat_natCast, List.getD_eq_getElem?_getD, G.2, List.getElem?_map, List.getElem?_eq_getElem (List.idxOf_lt_length_of_mem m), List.getElem_idxOf]
  rfl
theorem gl_rowG (M : MvOk mv Dom es) {g : GV} (gd : g ∈ Dom) (e : Ev) : glV (rowG vals (srtG (mv g))) e = (glM mv g e).map fun h => ((vals.idxOf h : Nat) : Int) := by
  unfold glV rowG glM
  rw [List.find?_map, Option.map_map, Option.map_map, ← find_perm gev (srt_perm (mv g)) (M.nd g gd) e]
  rfl
theorem gl_in (G : Grown mv g0 vals ls) {g h : GV} {e : Ev} (m : g ∈ vals) (eh : glM mv g e = some h) : h ∈ vals := by
  unfold glM at eh
  obtain ⟨x, h1, rfl⟩ := Option.map_eq_some_iff.mp eh
  exact G.shut g m x (List.mem_of_find?_eq_some h1)
theorem goal_G (G : Grown mv g0 vals ls) (M : MvOk mv Dom es) (h0 : g0 ∈ Dom) {g : GV} (m : g ∈ vals) (e f : Ev) : goalW ls (rowG vals (srtG (mv g))) e f = (goalM mv g e f).map fun h => ((vals.idxOf h : Nat) : Int) := by
  unfold goalW goalM
  rw [gl_rowG M (G.in_ M h0 g m)]
  cases eh : glM mv g e with
  | none => rfl
  | some h =>
    have mh := gl_in G m eh
    show glV (rowI ls ((vals.idxOf h : Nat) : Int)) f = (glM mv h f).map _
    rw [G.row mh, gl_rowG M (G.in_ M h0 h mh)]
theorem fails_G (G : Grown mv g0 vals ls) (M : MvOk mv Dom es) (h0 : g0 ∈ Dom) {g : GV} (m : g ∈ vals) (pl : Bool) (p q : Ev) : failsB pl ls (rowI ls ((vals.idxOf g : Nat) : Int)) p q = failsM pl mv g p q := by
  have gd := G.in_ M h0 g m
  rw [G.row m]
  unfold failsB failsM
  rw [goal_G G M h0 m, goal_G G M h0 m, gl_rowG M gd, gl_rowG M gd]
  simp only [Option.isSome_map, Option.isNone_map]
theorem rch_G (G : Grown mv g0 vals ls) (M : MvOk mv Dom es) (h0 : g0 ∈ Dom) : ∀ (w : List Ev) {g h : GV}, g ∈ vals → Rch ls [0] ((vals.idxOf g : Nat) : Int) → goM mv g w = some h → h ∈ vals ∧ Rch ls [0] ((vals.idxOf h : Nat) : Int)
  | [], g, h, m, r, e => by
    obtain rfl : g = h := Option.some.inj e
    exact ⟨m, r⟩
  | e :: w, g, h, m, r, eg => by
    unfold goM at eg
    cases eh : glM mv g e with
    | none => rw [eh] at eg; cases eg
    | some k =>
      rw [eh] at eg
      have mk := gl_in G m eh
      refine rch_G G M h0 w mk ?_ eg
      have z := gl_rowG (vals := vals) M (G.in_ M h0 g m) e
      rw [eh] at z
      obtain ⟨y, my, _, ey⟩ := gl_mem z
      rw [← G.row m] at my
      have ey2 : y.2.2 = ((vals.idxOf k : Nat) : Int) := ey
      rw [← ey2]
      exact rch_row (G.kok M h0) r my
theorem start_G (G : Grown mv g0 vals ls) : g0 ∈ vals ∧ Rch ls [0] ((vals.idxOf g0 : Nat) : Int) := by
  have z := G.zero
  have m := List.mem_of_getElem? z
  refine ⟨m, ?_⟩
  have e : vals.idxOf g0 = 0 := by
    cases vals with
    | nil => cases z
    | cons v r =>
      obtain rfl : v = g0 := Option.some.inj z
      rw [List.idxOf_cons]
      simp
  rw [e]
  exact .base List.mem_cons_self
def witB (pl : Bool) (mv : GV → List GStp) (g0 : GV) (w : List Ev) (p q : Ev) : Bool := match goM mv g0 w with
  | some g => failsM pl mv g p q
  | none => false
theorem any_wit (G : Grown mv g0 vals ls) (M : MvOk mv Dom es) (h0 : g0 ∈ Dom) {pl : Bool} {p q : Ev} {w : List Ev} (h : witB pl mv g0 w p q = true) : AnyF pl ls p q := by
  unfold witB at h
  cases e : goM mv g0 w with
  | none => rw [e] at h; cases h
  | some g =>
    rw [e] at h
    obtain ⟨m0, r0⟩ := start_G G
    obtain ⟨m, r⟩ := rch_G G M h0 w m0 r0 e
    exact ⟨_, r, by rw [fails_G G M h0 m]; exact h⟩
theorem any_no (G : Grown mv g0 vals ls) (M : MvOk mv Dom es) (h0 : g0 ∈ Dom) {pl : Bool} {p q : Ev} (h : Dom.all (fun g => !failsM pl mv g p q) = true) : ¬ AnyF pl ls p q := by
  rintro ⟨i, r, b⟩
  obtain ⟨i0, i1⟩ := rch_low (G.kok M h0) r
  obtain ⟨n, rfl⟩ := Int.eq_ofNat_of_zero_le i0
  have ln : n < vals.length := by have := G.len; omega
  have ei : vals.idxOf vals[n] = n := (List.getElem_inj (h₀ := List.idxOf_lt_length_of_mem (List.getElem_mem ln)) (h₁ := ln) G.nd).mp (List.getElem_idxOf _)
  have z := fails_G G M h0 (List.getElem_mem ln) pl p q
  rw [ei] at z
  rw [z] at b
  have y := List.all_eq_true.mp h _ (G.in_ M h0 _ (List.getElem_mem ln))
  rw [b] at y
  cases y
end
abbrev eGet : Ev := ("get", "ok")
abbrev eBack : Ev := ("back", "ok")
def perB (m : Nat) : Bool := decide (m = 0) || (witB true (permitsM m) (numG 0) [] eBack eGet && (witB true (permitsM m) (numG 0) (List.replicate m eGet) eGet eBack && (witB false (permitsM m) (numG 0) (List.replicate (m - 1) eGet) eGet eGet && witB false (permitsM m) (numG 0) [eGet] eBack eBack)))
theorem per_all : (List.range 7).all perB = true := by decide +kernel
theorem per_sorts {m : Int} (m0 : 1 ≤ m) (m1 : m ≤ 6) {vals : List GV} {ls : List (List Stp)} (G : Grown (permitsM m) (numG 0) vals ls) :
    AnyF true ls eBack eGet ∧ AnyF true ls eGet eBack ∧ AnyF false ls eGet eGet ∧ AnyF false ls eBack eBack := by
  obtain ⟨n, rfl⟩ := Int.eq_ofNat_of_zero_le (show 0 ≤ m by omega)
  have M := per_ok (m := (n : Int)) (by omega) m1
  have z := upto (p := perB) (n := 6) per_all (m := n) (by omega)
  unfold perB at z
  rw [decide_eq_false (by omega), Bool.false_or] at z
  simp only [Bool.and_eq_true] at z
  obtain ⟨z1, z2, z3, z4⟩ := z
  exact ⟨any_wit G M (nums_zero _) z1, any_wit G M (nums_zero _) z2, any_wit G M (nums_zero _) z3, any_wit G M (nums_zero _) z4⟩
abbrev eTa : Ev := ("take", "a")
abbrev ePa : Ev := ("puta", "ok")
abbrev ePb : Ev := ("putb", "ok")
abbrev quM (n : Nat) := holderM n ["a", "b"] behindT firstT
theorem que_sorts {n : Nat} (h : n = 2 ∨ n = 3) {vals : List GV} {ls : List (List Stp)} (G : Grown (quM n) (wsG []) vals ls) : AnyF true ls eTa ePa ∧ AnyF false ls ePa ePb := by
  rcases h with rfl | rfl
  · have M := ho_by ho_q2
    exact ⟨any_wit G M.mv M.zero (w := []) (by decide +kernel), any_wit G M.mv M.zero (w := [ePa]) (by decide +kernel)⟩
  · have M := ho_by ho_q3
    exact ⟨any_wit G M.mv M.zero (w := []) (by decide +kernel), any_wit G M.mv M.zero (w := [ePa, ePa]) (by decide +kernel)⟩
abbrev eFull : Ev := ("put1", "full")
abbrev eOk : Ev := ("put1", "ok")
abbrev eTo : Ev := ("take1", "ok")
abbrev eTn : Ev := ("take1", "no")
def accB (m : Nat) : Bool := (numsG m).all (fun g => !failsM false (accountM m [1]) g eFull eTo) && (numsG m).all (fun g => !failsM true (accountM m [1]) g eOk eTn)
theorem acc_all : (List.range 6).all accB = true := by decide +kernel
theorem acc_sorts {m : Int} (m0 : 1 ≤ m) (m1 : m ≤ 5) {vals : List GV} {ls : List (List Stp)} (G : Grown (accountM m [1]) (numG 0) vals ls) : ¬ AnyF false ls eFull eTo ∧ ¬ AnyF true ls eOk eTn := by
  obtain ⟨n, rfl⟩ := Int.eq_ofNat_of_zero_le (show 0 ≤ m by omega)
  have M := acc1_ok (m := (n : Int)) (by omega) m1
  have z := upto (p := accB) (n := 5) acc_all (m := n) (by omega)
  unfold accB at z
  simp only [Bool.and_eq_true] at z
  have e : ((n : Int)).toNat = n := Int.toNat_natCast n
  unfold MvN at M
  rw [e] at M
  exact ⟨any_no G M (nums_zero _) z.1, any_no G M (nums_zero _) z.2⟩
end My

-- ===== K61X =====
set_option Elab.async false
set_option linter.all false
set_option maxRecDepth 100000
set_option maxHeartbeats 4000000
namespace My
open PySem L2 PyProof.Rows PySem.Spec Kd TL StX ClX LamX NdefX
theorem MovesAt.ext {H H' : Hp} {m : Addr} {ss : List (List Stp)} (h : MovesAt H m ss) (s : LamX.ExtN H H') : MovesAt H' m ss := by
  obtain ⟨bs, h1, h2, h3⟩ := h
  exact ⟨bs, s _ _ h1 (fun ps z => nomatch z), h2, fun i b st e1 e2 => s _ _ (h3 i b st e1 e2) fun ps z => nomatch z⟩
theorem Tup.extNN {H H' : Hp} (s : LamX.ExtN H H') : Tup H H' := fun a xs e => s a _ e fun ps z => nomatch z
theorem KindAt.ext {C : Addr} {H H' : Hp} {v : V} {ss : List (List Stp)} (h : KindAt C H v ss) (s : LamX.ExtN H H') : KindAt C H' v ss := by
  obtain ⟨o, dx, a, m, rfl, ho, ht, hm⟩ := h
  exact ⟨o, dx, a, m, rfl, s _ _ ho (fun ps z => nomatch z), ht.to (Tup.extNN s), hm.ext s⟩
theorem KindAt.save {C p c : Addr} {H H' : Hp} {v : V} {ss : List (List Stp)} {ks : List Int} {y n : Int} (h : KindAt C H v ss) (so : KOk ss) (F : FeedAt H p c ks y n) (sv : Save p c H H') : KindAt C H' v ss := by
  obtain ⟨o, dx, a, m, rfl, ho, ta, bs, m1, m2, m3⟩ := h
  have one := so.one
  have keep : ∀ {b : Addr} {x : HO}, H b = some x → (∀ k n, x ≠ .dK (dkOf c k n)) → (∀ is : List Int, x ≠ .lst (is.map V.int)) → H' b = some x := fun {b x} e n1 n2 =>
    sv _ _ e (fun z => by rw [z, F.ob] at e; exact n1 _ _ (Option.some.inj e).symm) (fun z => by rw [z, F.cs] at e; exact n2 _ (Option.some.inj e).symm)
  refine ⟨o, dx, a, m, rfl, keep ho (fun _ _ z => nomatch z) (fun _ z => nomatch z), ta.to (Save.tup F sv), bs, keep m1 (fun _ _ z => nomatch z) (fun is z => ?_), m2, fun i b st e1 e2 => keep (m3 i b st e1 e2) (fun _ _ z => nomatch z) (fun _ z => nomatch z)⟩
  have z2 := HO.lst.inj z
  cases bs with
  | nil => simp at m2; omega
  | cons b r =>
    cases is with
    | nil => cases z2
    | cons i j => cases z2
theorem EvA.ext {H H' : Hp} {p : Addr} {e : Ev} (h : EvA H p e) (s : LamX.ExtN H H') : EvA H' p e := s _ _ h fun ps z => nomatch z
/-- names given: q, p, way, kind -/
def kgs {α : Type} : List α → List α → List α
  | [], [q, p, w, k] => [k, w, p, q]
  | _, _ => []
/-! ### what the law compares -/
def Jd3 (pl : Bool) (z : Str) : Prop := z = (if pl then ("abort" : Str) else ("commit" : Str)) ∨ z = "ring"
/-- a judge's word beside the program's: unless it is empty they are one -/
def JdOk (pl : Bool) (ss : List (List Stp)) (p q : Ev) (z : Str) : Prop := z ≠ "" → Jd3 pl z ∧ ∀ fs : List Int, (∀ i, i ∈ fs ↔ Rch ss [0] i) → sortT pl ss p q fs = z
theorem jd_ok {pl : Bool} {ss : List (List Stp)} {p q : Ev} {z : Str} (h1 : AnyF pl ss p q → z = (if pl then ("abort" : Str) else ("commit" : Str))) (h2 : ¬ AnyF pl ss p q → z = "" ∨ z = "ring") : JdOk pl ss p q z := fun nz => by
  by_cases a : AnyF pl ss p q
  · exact ⟨.inl (h1 a), fun fs all => by rw [(sort_any all).1 a, h1 a]⟩
  · have e := (h2 a).resolve_left nz
    exact ⟨.inr e, fun fs all => by rw [(sort_any all).2 a, e]⟩
theorem sh_jd {pl : Bool} {z : Str} (h : Jd3 pl z) : (PyData.str z).showable = true ∧ (PyData.str z).depth ≤ 60 ∧ (PyData.str z).shown.length ≤ sizeLine := by
  have g : ∀ x : Str, (PyData.str x).shown.length ≤ 100 → (PyData.str x).showable = true ∧ (PyData.str x).depth ≤ 60 ∧ (PyData.str x).shown.length ≤ sizeLine := fun x l =>
    ⟨by simp only [PyData.showable], by simp only [PyData.depth]; omega, by rw [sizeLine_eq]; omega⟩
  rcases h with rfl | rfl
  · cases pl
    · exact g _ (by decide +kernel)
    · exact g _ (by decide +kernel)
  · exact g _ (by decide +kernel)
def uIfB (pl : Bool) (C : Addr) : TS := fun D σ H => ∃ (v : V) (p1 p2 : Addr) (ss : List (List Stp)) (e1 e2 : Ev) (z : Str), σ[3]? = some (some v) ∧ σ[7]? = some (some (.ref p1)) ∧ σ[8]? = some (some (.ref p2)) ∧ σ[9]? = some (some (.str z)) ∧
  KindAt C H v ss ∧ KOk ss ∧ EvA H p1 e1 ∧ EvA H p2 e2 ∧ JdOk pl ss e1 e2 z ∧ ∀ H', Same H H' → D.nx σ H'
abbrev uIf1 (C : Addr) : TS := uIfB true C
abbrev uIf2 (C : Addr) : TS := uIfB false C
theorem srt_ab {ss : List (List Stp)} {p q : Ev} {fs : List Int} (all : ∀ i, i ∈ fs ↔ Rch ss [0] i) (a : AnyF true ss p q) : sortT true ss p q fs = "abort" := (sort_any all).1 a
theorem srt_co {ss : List (List Stp)} {p q : Ev} {fs : List Int} (all : ∀ i, i ∈ fs ↔ Rch ss [0] i) (a : AnyF false ss p q) : sortT false ss p q fs = "commit" := (sort_any all).1 a
theorem srt_no {pl : Bool} {ss : List (List Stp)} {p q : Ev} {fs : List Int} (all : ∀ i, i ∈ fs ↔ Rch ss [0] i) (a : ¬ AnyF pl ss p q) : sortT pl ss p q fs = "ring" := (sort_any all).2 a
def spLaw (K : PySem.W.Frag) (Ts : List NTab) : Sp := fun vs H Q _ => ∃ (a : Addr) (ns : List Int), vs = [.ref a] ∧ SqL K H a (ns.map V.int) ∧ ns.length ≤ 63 ∧ Bits ns ∧ TabsN Ts H ∧ ∀ H', Q (.bl true) H'
section
variable {P : Program} {w : World} {K : PySem.W.Frag} {mg : Str → Option Value} {base : Heap} {C : Addr}
abbrev nLw : List Str := ["_law_script", "_law_deck_here", "_law_turn", "_law_made", "_law_states", "_law_events_here", "_law_good", "_law_first", "_law_second", "_law_due", "_law_get", "_law_back", "_law_line", "_law_told", "_law_purse"]
theorem scLw : FnScope nLw ["_law_script"] (defScope sLaw) := ⟨rfl, rfl, rfl, by decide +kernel, rfl, by decide +kernel, by decide +kernel⟩
theorem ok_law {Ts : List NTab} {f fF fD fN fV fA fO fJ fS fR fQ fU : Addr} {fd fdF fdD fdN fdV fdA fdO fdJ fdS fdR : FuncData} (F : Fun K "law" "law" sLaw f fd) (cl : Cls K C) (na : NoAttr K C "states") (mrepr : mg "repr" = none) (mrange : mg "range" = none)
    (GF : FnOk P w K mg base CX0 1 fF fdF ["_law_script"] (spFeed K)) (mF : mg "_law_deck" = some (.ref fF)) (kF : PySem.W.keepIn K (.ref fF) = true) (bF : Binds K fdF ["_law_script"] [])
    (GD : FnOk P w K mg base CX0 1 fD fdD ["_law_deck_here", "_law_many"] spDigit) (mD : mg "_law_draw" = some (.ref fD)) (kD : PySem.W.keepIn K (.ref fD) = true) (bD : Binds K fdD ["_law_deck_here", "_law_many"] [])
    (GN : FnOk P w K mg base CX0 10 fN fdN ["_law_deck_here"] (spLkind Ts C)) (mN : mg "_law_kind" = some (.ref fN)) (kN : PySem.W.keepIn K (.ref fN) = true) (bN : Binds K fdN ["_law_deck_here"] [])
    (GV : FnOk P w K mg base CX0 1 fV fdV ["_law_states"] spEvs) (mV : mg "_law_events" = some (.ref fV)) (kV : PySem.W.keepIn K (.ref fV) = true) (bV : Binds K fdV ["_law_states"] [])
    (GA : FnOk P w K mg base CX0 3 fA fdA ["_law_states", "_law_used"] spAllow) (mA : mg "_law_allowed" = some (.ref fA)) (kA : PySem.W.keepIn K (.ref fA) = true) (bA : Binds K fdA ["_law_states", "_law_used"] [])
    (GO : FnOk P w K mg base CX0 3 fO fdO ["_law_states", "_law_good", "_law_first", "_law_second"] (spJd true "abort")) (mO : mg "_law_sort_at_once" = some (.ref fO)) (kO : PySem.W.keepIn K (.ref fO) = true) (bO : Binds K fdO ["_law_states", "_law_good", "_law_first", "_law_second"] [])
    (GJ : FnOk P w K mg base CX0 3 fJ fdJ ["_law_states", "_law_good", "_law_first", "_law_second"] (spJd false "commit")) (mJ : mg "_law_sort_kept" = some (.ref fJ)) (kJ : PySem.W.keepIn K (.ref fJ) = true) (bJ : Binds K fdJ ["_law_states", "_law_good", "_law_first", "_law_second"] [])
    (GS : FnOk P w K mg base CX0 3 fS fdS ["kind", "way", "p", "q"] (spSort C)) (mS : mg "sort_of" = some (.ref fS)) (kS : PySem.W.keepIn K (.ref fS) = true) (bS : Binds K fdS ["kind", "way", "p", "q"] []) (kbS : KBinds K fdS ["kind", "way", "p", "q"] ["q", "p", "way", "kind"] kgs kgs)
    (GR : FnOk P w K mg base CX0 8 fR fdR ["many"] (spB1 Ts permitsM C)) (mR : mg "permits" = some (.ref fR)) (kR : PySem.W.keepIn K (.ref fR) = true) (bR : Binds K fdR ["many"] [])
    (GQ : FnR P w K mg base CX0 9 fQ (spQueR Ts C behindT firstT)) (mQ : mg "queue" = some (.ref fQ)) (kQ : PySem.W.keepIn K (.ref fQ) = true)
    (GU : FnR P w K mg base CX0 8 fU (spAccR Ts C)) (mU : mg "account" = some (.ref fU)) (kU : PySem.W.keepIn K (.ref fU) = true) :
    FnG true (fun A => A.guards = some []) P w K mg base CX0 11 f fd ["_law_script"] (spLaw K Ts) := by
  refine okG F scLw (fun vs H Q E h => ?_) (fun cdv A outer s H vs Q E hh hgA hr h => ?_)
  · obtain ⟨a, ns, rfl, _⟩ := h
    rfl
  · obtain ⟨a, ns, rfl, hS, hlen, hbits, tb0, k⟩ := h
    have hR : Room 10 (A.deeper (envOfC "law" (defScope sLaw) s.heap.objs.size f cdv)) := ⟨hh rfl, hr.dp, hr.un⟩
    have hG : (A.deeper (envOfC "law" (defScope sLaw) s.heap.objs.size f cdv)).guards = some [] := hgA
    have hu64 := hR.units
    have hR9 := hR.mono (show 9 ≤ 10 by omega)
    have hR8 := hR.mono (show 8 ≤ 10 by omega)
    have hR3 := hR.mono (show 3 ≤ 10 by omega)
    have hR1 := hR.mono (show 1 ≤ 10 by omega)
    refine ⟨_, PSs.nox (pss_cons (ps_set (i := 1) scLw.nd rfl (Or.inl rfl) (pe_call GF hR1 (by rfl) mF kF bF .nil pass0 (pa_cons (pv 0) pa_nil))) (pss_cons (ps_for PassesOwn.never rfl (pi_range1 (by rfl) mrange (pa_cons pe_int pa_nil)) (pg_name (i := 2) scLw.nd rfl (Or.inl rfl)) (pss_cons (ps_set (i := 3) scLw.nd rfl (Or.inl rfl) (pe_call GN hR (by rfl) mN kN bN .nil pass0 (pa_cons (pv 1) pa_nil))) (pss_cons (ps_set (i := 4) scLw.nd rfl (Or.inl rfl) (pe_fld (pv 3) rfl)) (pss_cons (ps_par (i := 5) (j := 6) rfl scLw.nd rfl rfl (by decide) rfl rfl (pa_cons (pe_call GV hR1 (by rfl) mV kV bV .nil pass0 (pa_cons (pv 4) pa_nil)) (pa_cons (pe_call GA hR3 (by rfl) mA kA bA .nil pass0 (pa_cons (pv 4) (pa_cons (pe_call GV hR1 (by rfl) mV kV bV .nil pass0 (pa_cons (pv 4) pa_nil)) pa_nil))) pa_nil)) (by rfl)) (pss_one (ps_for PassesOwn.never rfl (pi_list (pv 5)) (pg_name (i := 7) scLw.nd rfl (Or.inl rfl)) (pss_one (ps_for PassesOwn.never rfl (pi_list (pv 5)) (pg_name (i := 8) scLw.nd rfl (Or.inl rfl)) (pss_cons (ps_set (i := 9) scLw.nd rfl (Or.inl rfl) (pe_call GO hR3 (by rfl) mO kO bO .nil pass0 (pa_cons (pv 4) (pa_cons (pv 6) (pa_cons (pv 7) (pa_cons (pv 8) pa_nil)))))) (pss_cons (PS.wkG (u := uIf1 C) (ps_if (PW.pt (pw_and (pt_cmpR op_ne (pv 9) pe_str (nomark _)) (pw_and1 (pt_cmpR op_ne (pe_callB (call_reprD (F := fun _ => True) hG hu64) (by rfl) mrepr boot_repr (pa_cons (pe_call GS hR3 (by rfl) mS kS bS .nil pass0 (pa_cons (pv 3) (pa_cons pe_str (pa_cons (pv 7) (pa_cons (pv 8) pa_nil))))) pa_nil)) (pe_callB (call_reprD (F := fun _ => True) hG hu64) (by rfl) mrepr boot_repr (pa_cons (pv 9) pa_nil)) (nomark _))))) (pss_one (ps_ret pe_bl)) pss_nil) fun D σ H hq => ?_) (pss_cons (ps_set (i := 9) scLw.nd rfl (Or.inl rfl) (pe_call GJ hR3 (by rfl) mJ kJ bJ .nil pass0 (pa_cons (pv 4) (pa_cons (pv 6) (pa_cons (pv 7) (pa_cons (pv 8) pa_nil)))))) (pss_one (PS.wkG (u := uIf2 C) (ps_if (PW.pt (pw_and (pt_cmpR op_ne (pv 9) pe_str (nomark _)) (pw_and1 (pt_cmpR op_ne (pe_callK0 GS hR3 (by rfl) mS kS kbS pass0 (pk_cons (pv 8) (pk_cons (pv 7) (pk_cons pe_str (pk_cons (pv 3) pk_nil))))) (pv 9) (nomark _))))) (pss_one (ps_ret pe_bl)) pss_nil) fun D σ H hq => ?_))))))))))))) (pss_cons (ps_asg (pe_tup (pa_cons (pe_tup (pa_cons pe_str (pa_cons pe_str pa_nil))) (pa_cons (pe_tup (pa_cons pe_str (pa_cons pe_str pa_nil))) pa_nil))) (pg_tup (by rfl) (pgs_cons (pg_name (i := 10) scLw.nd rfl (Or.inl rfl)) (pgs_cons (pg_name (i := 11) scLw.nd rfl (Or.inl rfl)) pgs_nil)))) (pss_cons (ps_par (i := 3) (j := 12) rfl scLw.nd rfl rfl (by decide) rfl rfl (pa_cons (pe_call GR hR8 (by rfl) mR kR bR .nil pass0 (pa_cons (pe_op op_add pe_int (pe_call GD hR1 (by rfl) mD kD bD .nil pass0 (pa_cons (pv 1) (pa_cons pe_int pa_nil)))) pa_nil)) (pa_cons (Kd.pe_callR GQ hR9 kQ (by rfl) mQ pass0 (pa_cons (pe_op op_add pe_int (pe_call GD hR1 (by rfl) mD kD bD .nil pass0 (pa_cons (pv 1) (pa_cons pe_int pa_nil)))) (pa_cons pe_str (pa_cons pe_str pa_nil)))) pa_nil)) (by rfl)) (pss_cons (ps_set (i := 13) scLw.nd rfl (Or.inl rfl) (pe_lst (pa_cons (pe_call GS hR3 (by rfl) mS kS bS .nil pass0 (pa_cons (pv 3) (pa_cons pe_str (pa_cons (pv 11) (pa_cons (pv 10) pa_nil))))) (pa_cons (pe_call GS hR3 (by rfl) mS kS bS .nil pass0 (pa_cons (pv 3) (pa_cons pe_str (pa_cons (pv 10) (pa_cons (pv 11) pa_nil))))) pa_nil)))) (pss_cons (ps_set (i := 13) scLw.nd rfl (Or.inl rfl) (pe_op op_cat (pv 13) (pe_lst (pa_cons (pe_call GS hR3 (by rfl) mS kS bS .nil pass0 (pa_cons (pv 3) (pa_cons pe_str (pa_cons (pv 10) (pa_cons (pv 10) pa_nil))))) (pa_cons (pe_call GS hR3 (by rfl) mS kS bS .nil pass0 (pa_cons (pv 3) (pa_cons pe_str (pa_cons (pv 11) (pa_cons (pv 11) pa_nil))))) pa_nil))))) (pss_cons (ps_set (i := 13) scLw.nd rfl (Or.inl rfl) (pe_op op_cat (pv 13) (pe_lst (pa_cons (pe_call GS hR3 (by rfl) mS kS bS .nil pass0 (pa_cons (pv 12) (pa_cons pe_str (pa_cons (pe_tup (pa_cons pe_str (pa_cons pe_str pa_nil))) (pa_cons (pe_tup (pa_cons pe_str (pa_cons pe_str pa_nil))) pa_nil))))) pa_nil)))) (pss_cons (ps_set (i := 13) scLw.nd rfl (Or.inl rfl) (pe_op op_cat (pv 13) (pe_lst (pa_cons (pe_call GS hR3 (by rfl) mS kS bS .nil pass0 (pa_cons (pv 12) (pa_cons pe_str (pa_cons (pe_tup (pa_cons pe_str (pa_cons pe_str pa_nil))) (pa_cons (pe_tup (pa_cons pe_str (pa_cons pe_str pa_nil))) pa_nil))))) pa_nil)))) (pss_cons (ps_set (i := 14) scLw.nd rfl (Or.inl rfl) (Kd.pe_callR GU hR8 kU (by rfl) mU pass0 (pa_cons (pe_op op_add pe_int (pe_call GD hR1 (by rfl) mD kD bD .nil pass0 (pa_cons (pv 1) (pa_cons pe_int pa_nil)))) (pa_cons pe_int pa_nil)))) (pss_cons (ps_set (i := 13) scLw.nd rfl (Or.inl rfl) (pe_op op_cat (pv 13) (pe_lst (pa_cons (pe_call GS hR3 (by rfl) mS kS bS .nil pass0 (pa_cons (pv 14) (pa_cons pe_str (pa_cons (pe_tup (pa_cons pe_str (pa_cons pe_str pa_nil))) (pa_cons (pe_tup (pa_cons pe_str (pa_cons pe_str pa_nil))) pa_nil))))) pa_nil)))) (pss_cons (ps_set (i := 13) scLw.nd rfl (Or.inl rfl) (pe_op op_cat (pv 13) (pe_lst (pa_cons (pe_call GS hR3 (by rfl) mS kS bS .nil pass0 (pa_cons (pv 14) (pa_cons pe_str (pa_cons (pe_tup (pa_cons pe_str (pa_cons pe_str pa_nil))) (pa_cons (pe_tup (pa_cons pe_str (pa_cons pe_str pa_nil))) pa_nil))))) pa_nil)))) (pss_one (ps_ret (pe_cmpR (op_eqD hu64) (pv 13) (pe_lst (pa_cons pe_str (pa_cons pe_str (pa_cons pe_str (pa_cons pe_str (pa_cons pe_str (pa_cons pe_str (pa_cons pe_str (pa_cons pe_str pa_nil))))))))) (nomark _))))))))))))))), ?_⟩
    · obtain ⟨v, p1, p2, ss, e1, e2, z, h3, h7, h8, h9, hk, so, ev1, ev2, jd, kk⟩ := hq
      refine ⟨_, h9, rfl, _, rfl, ?_⟩
      by_cases hz : z = ""
      · rw [show (!decide (V.str z = V.str "")) = false by rw [hz]; simp]
        exact iteF (iteF (kk _ (Same.refl _)))
      · obtain ⟨j3, js⟩ := jd hz
        rw [show (!decide (V.str z = V.str "")) = true by simp [hz]]
        refine iteT ⟨_, h3, _, h7, _, h8, v, p1, p2, true, ss, e1, e2, rfl, hk, so, ev1, ev2, fun fs H' s' all => ?_⟩
        rw [js fs all]
        obtain ⟨sh1, sh2, sh3⟩ := sh_jd j3
        refine ⟨.str z, .str z, rfl, .str z, sh1, sh2, sh3, _, h9, .str z, .str z, rfl, .str z, sh1, sh2, sh3, rfl, _, rfl, ?_⟩
        rw [show (!decide (V.str (PyData.str z).shown = V.str (PyData.str z).shown)) = false by simp]
        exact iteF (kk _ s')
    · obtain ⟨v, p1, p2, ss, e1, e2, z, h3, h7, h8, h9, hk, so, ev1, ev2, jd, kk⟩ := hq
      refine ⟨_, h9, rfl, _, rfl, ?_⟩
      by_cases hz : z = ""
      · rw [show (!decide (V.str z = V.str "")) = false by rw [hz]; simp]
        exact iteF (iteF (kk _ (Same.refl _)))
      · obtain ⟨j3, js⟩ := jd hz
        rw [show (!decide (V.str z = V.str "")) = true by simp [hz]]
        refine iteT ⟨_, h8, _, h7, _, h3, v, p1, p2, false, ss, e1, e2, rfl, hk, so, ev1, ev2, fun fs H' s' all => ?_⟩
        rw [js fs all]
        refine ⟨_, h9, rfl, _, rfl, ?_⟩
        rw [show (!decide (V.str z = V.str z)) = false by simp]
        exact iteF (kk _ s')
    refine ⟨_, rfl, a, ns, rfl, hS, hlen, hbits, fun p c ks y H1 s1 hp hc FA => ?_⟩
    refine ⟨4, rfl, by decide, by decide, for_range (lo := 0) (n := 4) (fun m σ H2 => ∃ (o2 o3 o4 o5 o6 o7 o8 o9 : Option V) (ks' : List Int) (n' : Int), σ = [some (.ref a), some (.ref p), o2, o3, o4, o5, o6, o7, o8, o9, none, none, none, none, none] ∧ FeedAt H2 p c ks' y n' ∧ n' ≤ 1000 * (m : Int) ∧ TabsN Ts H2) ⟨none, none, none, none, none, none, none, none, ks, 0, rfl, FA, by omega, TabsN.ext tb0 s1⟩ ?_ ?_⟩
    · rintro m σ H2 hm ⟨o2, o3, o4, o5, o6, o7, o8, o9, ks1, n1, rfl, F1, le1, tb2⟩
      refine ⟨_, rfl, p, c, ks1, y, n1, rfl, F1, by omega, tb2, fun v ss ks2 n2 H3 hk so F2 le2 tb3 => ?_⟩
      obtain ⟨o, dx, as, mv, rfl, ho, ta, hmv⟩ := id hk
      refine ⟨_, rfl, o, C, dx, _, _, rfl, ho, cl, na, rfl, ?_⟩
      refine ⟨_, rfl, as, ss, rfl, ta, so, fun le L H4 s4 hL few => ⟨_, rfl, _, rfl, as, ss, rfl, ta.to (Tup.of s4), so, fun le2 L2 H5 s5 hL2 few2 => ⟨as, le2, ss, L2, rfl, (ta.to (Tup.of s4)).to (Tup.of s5), so, hL2, fun g H6 s6 hg => ⟨_, _, rfl, ?_⟩⟩⟩⟩
      have s36 := (s4.trans s5).trans s6
      have hL6 := (hL.to s5).to s6
      have F6 := F2.same s36
      have tb6 := TabsN.ext tb3 s36
      have ta6 := ta.to (Tup.of s36)
      have hk6 := hk.same s36
      clear s4 s5 s6 hL hL2 F2 tb3 ho ta hk hmv
      refine ⟨_, rfl, le, rfl, ⟨_, SqL.of hL6.1⟩, for_list (K := K) (a := le) (xs := L.map fun q => V.ref q.1) (fun j σ H7 => ∃ (o7 o8 o9 : Option V), σ = [some (.ref a), some (.ref p), some (.int (0 + (m : Int))), some (.ref o), some (.ref as), some (.ref le), some (.ref g), o7, o8, o9, none, none, none, none, none] ∧ Same H6 H7) ⟨o7, o8, o9, rfl, Same.refl _⟩ (fun j σ H7 _ ⟨_, _, _, _, s7⟩ => SqL.of (s7 _ _ hL6.1)) (fun j x σ H7 ex ⟨p7, p8, p9, eσ, s7⟩ => ?_) fun σ H7 ⟨p7, p8, p9, eσ, s7⟩ => ?_⟩
      · subst eσ
        rw [List.getElem?_map] at ex
        obtain ⟨q1, eq1, rfl⟩ := Option.map_eq_some_iff.mp ex
        have mq1 := List.mem_of_getElem? eq1
        refine ⟨_, rfl, le, rfl, ⟨_, SqL.of (s7 _ _ hL6.1)⟩, for_list (K := K) (a := le) (xs := L.map fun q => V.ref q.1) (fun j σ H8 => ∃ (o8 o9 : Option V), σ = [some (.ref a), some (.ref p), some (.int (0 + (m : Int))), some (.ref o), some (.ref as), some (.ref le), some (.ref g), some (.ref q1.1), o8, o9, none, none, none, none, none] ∧ Same H6 H8) ⟨p8, p9, rfl, s7⟩ (fun j σ H8 _ ⟨_, _, _, s8⟩ => SqL.of (s8 _ _ hL6.1)) (fun j x σ H8 ex2 ⟨p8, p9, eσ, s8⟩ => ?_) fun σ H8 ⟨p8, p9, eσ, s8⟩ => ?_⟩
        · subst eσ
          rw [List.getElem?_map] at ex2
          obtain ⟨q2, eq2, rfl⟩ := Option.map_eq_some_iff.mp ex2
          have mq2 := List.mem_of_getElem? eq2
          have w1 := (hL6.2 q1 mq1).2
          have w2 := (hL6.2 q2 mq2).2
          refine ⟨_, rfl, _, rfl, _, rfl, _, rfl, as, g, q1.1, q2.1, ss, q1.2, q2.2, rfl, ta6.to (Tup.of s8), so, hg.to s8, (hL6.2 q1 mq1).1.to s8, w1, (hL6.2 q2 mq2).1.to s8, w2, fun z H9 s9 z1 z2 => ?_⟩
          have s69 := s8.trans s9
          refine ⟨.ref o, q1.1, q2.1, ss, q1.2, q2.2, z, rfl, rfl, rfl, rfl, hk6.same s69, so, (hL6.2 q1 mq1).1.to s69, (hL6.2 q2 mq2).1.to s69, jd_ok z1 z2, fun H10 s10 => ?_⟩
          have s6a := s69.trans s10
          refine ⟨_, rfl, _, rfl, _, rfl, _, rfl, as, g, q1.1, q2.1, ss, q1.2, q2.2, rfl, ta6.to (Tup.of s6a), so, hg.to s6a, (hL6.2 q1 mq1).1.to s6a, w1, (hL6.2 q2 mq2).1.to s6a, w2, fun z' H11 s11 z1' z2' => ?_⟩
          have s6b := s6a.trans s11
          refine ⟨.ref o, q1.1, q2.1, ss, q1.2, q2.2, z', rfl, rfl, rfl, rfl, hk6.same s6b, so, (hL6.2 q1 mq1).1.to s6b, (hL6.2 q2 mq2).1.to s6b, jd_ok z1' z2', fun H12 s12 => ?_⟩
          exact ⟨_, _, rfl, s6b.trans s12⟩
        · subst eσ
          exact ⟨_, _, _, rfl, s8⟩
      · subst eσ
        exact ⟨_, _, _, _, _, _, _, _, ks2, n2, rfl, F6.same s7, by omega, TabsN.ext tb6 s7⟩
    · rintro σ H2 ⟨o2, o3, o4, o5, o6, o7, o8, o9, ks1, n1, rfl, F1, le1, tb2⟩
      refine ⟨by show 2 ≤ sizeLine; decide, fun tg htg => ?_⟩
      have y1 := same_new (o := .tup [V.str "get", .str "ok"]) htg
      have g1 : EvA (upd H2 tg (.tup [V.str "get", .str "ok"])) tg eGet := upd_same
      generalize upd H2 tg (.tup [V.str "get", .str "ok"]) = G1 at y1 g1 ⊢
      refine ⟨by show 2 ≤ sizeLine; decide, fun tk htk => ?_⟩
      have y2 := same_new (o := .tup [V.str "back", .str "ok"]) htk
      have b2 : EvA (upd G1 tk (.tup [V.str "back", .str "ok"])) tk eBack := upd_same
      generalize upd G1 tk (.tup [V.str "back", .str "ok"]) = G2 at y2 b2 ⊢
      refine ⟨by show 2 ≤ sizeLine; decide, fun tt htt => ?_⟩
      have y3 := same_new (o := .tup [V.ref tg, .ref tk]) htt
      have t3 := upd_same (H := G2) (a := tt) (o := .tup [V.ref tg, .ref tk])
      generalize upd G2 tt (.tup [V.ref tg, .ref tk]) = G3 at y3 t3 ⊢
      refine ⟨tt, _, rfl, SqT.of t3, rfl, _, _, rfl, _, _, rfl, rfl, ?_⟩
      have y13 := (y1.trans y2).trans y3
      have F3 := F1.same y13
      have tb3 := TabsN.ext tb2 y13
      have eg3 := (g1.to y2).to y3
      have eb3 := b2.to y3
      clear y1 y2 y3 g1 b2 t3 y13
      -- permits, a queue
      refine ⟨_, rfl, p, c, ks1, y, n1, 6, rfl, F3, by omega, by decide, by decide, fun d ks2 H4 d0 d1 F4 sv4 => ⟨_, _, rfl, rfl, ?_⟩⟩
      have tb4 := tabsN_save tb3 F3 sv4
      have eg4 : EvA H4 tg eGet := Save.tup F3 sv4 _ _ eg3
      have eb4 : EvA H4 tk eBack := Save.tup F3 sv4 _ _ eb3
      refine ⟨1 + d, _, _, rfl, by omega, per_ok (by omega) (by omega), nums_in (by omega), nums_zero _, tb4, fun u vals ls H5 ex5 tb5 hk5 gr5 => ?_⟩
      have F5 := F4.extN ex5
      have eg5 := eg4.ext ex5
      have eb5 := eb4.ext ex5
      have ko5 := gr5.kok (per_ok (m := 1 + d) (by omega) (by omega)) (nums_zero _)
      obtain ⟨a1, a2, a3, a4⟩ := per_sorts (m := 1 + d) (by omega) (by omega) gr5
      refine ⟨_, rfl, p, c, ks2, y, n1 + 1, 2, rfl, F5, by omega, by decide, by decide, fun e ks3 H6 e0 e1 F6 sv6 => ⟨_, _, rfl, rfl, [.int (2 + e)], [.str "a", .str "b"], rfl, rfl, by show 2 ≤ sizeLine; decide, fun pp hpp => ?_⟩⟩
      have tb6 := tabsN_save tb5 F5 sv6
      have hk6 := hk5.save ko5 F5 sv6
      have eg6 : EvA H6 tg eGet := Save.tup F5 sv6 _ _ eg5
      have eb6 : EvA H6 tk eBack := Save.tup F5 sv6 _ _ eb5
      obtain ⟨qn, hq, hqn⟩ : ∃ qn : Nat, 2 + e = (qn : Int) ∧ (qn = 2 ∨ qn = 3) := ⟨(2 + e).toNat, by omega, by omega⟩
      have HQ : HoOk qn ["a", "b"] behindT firstT (holdG ["a", "b"] qn) (evsG (holderM qn ["a", "b"] behindT firstT) (holdG ["a", "b"] qn)) := by
        rcases hqn with rfl | rfl
        · exact ho_by ho_q2
        · exact ho_by ho_q3
      refine ⟨qn, pp, ["a", "b"], _, _, by rw [hq]; rfl, upd_same, HQ, TabsN.ext tb6 (same_new hpp), fun uq vq lq H7 ex7 tb7 hkq grq => ⟨_, _, rfl, ?_⟩⟩
      have ex67 := (ExtN.of (same_new (o := .tup [V.str "a", .str "b"]) hpp)).trans ex7
      have F7 := F6.extN ex67
      have hk7 := hk6.ext ex67
      have eg7 := eg6.ext ex67
      have eb7 := eb6.ext ex67
      have koq := grq.kok HQ.mv HQ.zero
      obtain ⟨b1, b2⟩ := que_sorts hqn grq
      clear ex67 ex7 ex5 eg3 eb3 eg4 eb4 eg5 eb5 eg6 eb6 hk5 hk6 F3 F4 F5 F6 tb2 tb3 tb4 tb5 tb6 sv4 sv6
      -- the first two
      refine ⟨_, rfl, _, rfl, _, rfl, ?_⟩
      refine ⟨_, _, _, true, _, _, _, rfl, hk7, ko5, eb7, eg7, fun fs H8 s8 all => ?_⟩
      rw [srt_ab all a1]
      refine ⟨_, rfl, _, rfl, _, rfl, ?_⟩
      refine ⟨_, _, _, true, _, _, _, rfl, (hk7.same s8), ko5, (eg7.to s8), (eb7.to s8), fun fs H9 s9 all => ?_⟩
      rw [srt_ab all a2]
      refine ⟨by show 2 ≤ sizeLine; decide, fun l1 hl1 => ?_⟩
      have z1 := (s8.trans s9).trans (same_new (o := .lst [V.str "abort", .str "abort"]) hl1)
      have c1 := upd_same (H := H9) (a := l1) (o := .lst [V.str "abort", .str "abort"])
      generalize upd H9 l1 (.lst [V.str "abort", .str "abort"]) = Ha at z1 c1 ⊢
      clear s8 s9 hl1
      -- two more
      refine ⟨_, rfl, _, rfl, _, rfl, _, rfl, ?_⟩
      refine ⟨_, _, _, false, _, _, _, rfl, (hk7.same z1), ko5, (eg7.to z1), (eg7.to z1), fun fs Hb sb all => ?_⟩
      rw [srt_co all a3]
      refine ⟨_, rfl, _, rfl, _, rfl, ?_⟩
      have zb := z1.trans sb
      refine ⟨_, _, _, false, _, _, _, rfl, (hk7.same zb), ko5, (eb7.to zb), (eb7.to zb), fun fs Hc sc all => ?_⟩
      rw [srt_co all a4]
      refine ⟨by show 2 ≤ sizeLine; decide, fun l2 hl2 => ?_⟩
      have y2 := (sb.trans sc).trans (same_new (o := .lst [V.str "commit", .str "commit"]) hl2)
      have c2 := upd_same (H := Hc) (a := l2) (o := .lst [V.str "commit", .str "commit"])
      generalize upd Hc l2 (.lst [V.str "commit", .str "commit"]) = Hd at y2 c2 ⊢
      refine ⟨l1, l2, _, _, rfl, rfl, y2 _ _ c1, c2, by show 4 ≤ sizeLine; decide, fun l3 hl3 => ?_⟩
      have z2 := (z1.trans y2).trans (same_new (o := .lst ([V.str "abort", .str "abort"] ++ [V.str "commit", .str "commit"])) hl3)
      have d2 := upd_same (H := Hd) (a := l3) (o := .lst ([V.str "abort", .str "abort"] ++ [V.str "commit", .str "commit"]))
      generalize upd Hd l3 (.lst ([V.str "abort", .str "abort"] ++ [V.str "commit", .str "commit"])) = He at z2 d2 ⊢
      clear hl2 hl3 y2 c1 c2 sb sc zb
      refine ⟨_, rfl, _, rfl, ?_⟩
      refine ⟨by show 2 ≤ sizeLine; decide, fun t3a ht3a => ?_⟩
      have w3a := same_new (o := .tup [V.str "take", .str "a"]) ht3a
      have v3a : EvA (upd He t3a (.tup [V.str "take", .str "a"])) t3a eTa := upd_same
      generalize upd He t3a (.tup [V.str "take", .str "a"]) = P3a at w3a v3a ⊢
      refine ⟨by show 2 ≤ sizeLine; decide, fun t3b ht3b => ?_⟩
      have w3b := same_new (o := .tup [V.str "puta", .str "ok"]) ht3b
      have v3b : EvA (upd P3a t3b (.tup [V.str "puta", .str "ok"])) t3b ePa := upd_same
      generalize upd P3a t3b (.tup [V.str "puta", .str "ok"]) = P3b at w3b v3b ⊢
      have w3 := z2.trans (w3a.trans w3b)
      refine ⟨_, _, _, true, _, _, _, rfl, (hkq.same (w3)), koq, (v3a.to w3b), v3b, fun fs P3c s3 all => ?_⟩
      rw [srt_ab all b1]
      refine ⟨by show 1 ≤ sizeLine; decide, fun m3 hm3 => ?_⟩
      have y3 := ((w3a.trans w3b).trans s3).trans (same_new (o := .lst [V.str "abort"]) hm3)
      have c3 := upd_same (H := P3c) (a := m3) (o := .lst [V.str "abort"])
      generalize upd P3c m3 (.lst [V.str "abort"]) = P3d at y3 c3 ⊢
      refine ⟨l3, m3, _, _, rfl, rfl, y3 _ _ d2, c3, by show 5 ≤ sizeLine; decide, fun k3 hk3' => ?_⟩
      have z3 := (z2.trans y3).trans (same_new (o := .lst ([V.str "abort", .str "abort"] ++ [V.str "commit", .str "commit"] ++ [V.str "abort"])) hk3')
      have d3 := upd_same (H := P3d) (a := k3) (o := .lst ([V.str "abort", .str "abort"] ++ [V.str "commit", .str "commit"] ++ [V.str "abort"]))
      generalize upd P3d k3 (.lst ([V.str "abort", .str "abort"] ++ [V.str "commit", .str "commit"] ++ [V.str "abort"])) = P3 at z3 d3 ⊢
      refine ⟨_, rfl, _, rfl, ?_⟩
      refine ⟨by show 2 ≤ sizeLine; decide, fun t4a ht4a => ?_⟩
      have w4a := same_new (o := .tup [V.str "puta", .str "ok"]) ht4a
      have v4a : EvA (upd P3 t4a (.tup [V.str "puta", .str "ok"])) t4a ePa := upd_same
      generalize upd P3 t4a (.tup [V.str "puta", .str "ok"]) = P4a at w4a v4a ⊢
      refine ⟨by show 2 ≤ sizeLine; decide, fun t4b ht4b => ?_⟩
      have w4b := same_new (o := .tup [V.str "putb", .str "ok"]) ht4b
      have v4b : EvA (upd P4a t4b (.tup [V.str "putb", .str "ok"])) t4b ePb := upd_same
      generalize upd P4a t4b (.tup [V.str "putb", .str "ok"]) = P4b at w4b v4b ⊢
      have w4 := z3.trans (w4a.trans w4b)
      refine ⟨_, _, _, false, _, _, _, rfl, (hkq.same (w4)), koq, (v4a.to w4b), v4b, fun fs P4c s4 all => ?_⟩
      rw [srt_co all b2]
      refine ⟨by show 1 ≤ sizeLine; decide, fun m4 hm4 => ?_⟩
      have y4 := ((w4a.trans w4b).trans s4).trans (same_new (o := .lst [V.str "commit"]) hm4)
      have c4 := upd_same (H := P4c) (a := m4) (o := .lst [V.str "commit"])
      generalize upd P4c m4 (.lst [V.str "commit"]) = P4d at y4 c4 ⊢
      refine ⟨k3, m4, _, _, rfl, rfl, y4 _ _ d3, c4, by show 6 ≤ sizeLine; decide, fun k4 hk4' => ?_⟩
      have z4 := (z3.trans y4).trans (same_new (o := .lst ([V.str "abort", .str "abort"] ++ [V.str "commit", .str "commit"] ++ [V.str "abort"] ++ [V.str "commit"])) hk4')
      have d4 := upd_same (H := P4d) (a := k4) (o := .lst ([V.str "abort", .str "abort"] ++ [V.str "commit", .str "commit"] ++ [V.str "abort"] ++ [V.str "commit"]))
      generalize upd P4d k4 (.lst ([V.str "abort", .str "abort"] ++ [V.str "commit", .str "commit"] ++ [V.str "abort"] ++ [V.str "commit"])) = P4 at z4 d4 ⊢
      -- the purse
      have F8 := F7.same z4
      have tb8 := TabsN.ext tb7 z4
      have n70 := F7.n0
      refine ⟨_, rfl, p, c, ks3, y, n1 + 1 + 1, 5, rfl, F8, by omega, by decide, by decide, fun e5 ks5 H9 f0 f1 F9 sv9 => ⟨_, _, rfl, rfl, [.int (1 + e5)], [.int 1], rfl, rfl, by show 1 ≤ sizeLine; decide, fun pq hpq => ?_⟩⟩
      have tb9 := tabsN_save tb8 F8 sv9
      refine ⟨1 + e5, pq, [1], _, _, rfl, upd_same, by omega, by omega, fun i mi => by rw [List.mem_singleton.mp mi]; omega, by simp, by simp, acc1_ok (by omega) (by omega), nums_in (by omega), nums_zero _, TabsN.ext tb9 (same_new hpq), fun ua va la HA exA tbA hka gra => ?_⟩
      have koa := gra.kok (acc1_ok (m := 1 + e5) (by omega) (by omega)) (nums_zero _)
      obtain ⟨g1, g2⟩ := acc_sorts (m := 1 + e5) (by omega) (by omega) gra
      have dA : HA k4 = some (.lst ([V.str "abort", .str "abort"] ++ [V.str "commit", .str "commit"] ++ [V.str "abort"] ++ [V.str "commit"])) := exA _ _ (same_new hpq _ _ (sv9 _ _ d4 (fun z => by rw [z, F8.ob] at d4; cases d4) (fun z => by
        rw [z, F8.cs] at d4
        have z2 := HO.lst.inj (Option.some.inj d4)
        cases ks3 with
        | nil => cases z2
        | cons i j => cases z2))) fun ps z => nomatch z
      have zA := Same.refl HA
      refine ⟨_, rfl, _, rfl, ?_⟩
      refine ⟨by show 2 ≤ sizeLine; decide, fun t5a ht5a => ?_⟩
      have w5a := same_new (o := .tup [V.str "put1", .str "full"]) ht5a
      have v5a : EvA (upd HA t5a (.tup [V.str "put1", .str "full"])) t5a eFull := upd_same
      generalize upd HA t5a (.tup [V.str "put1", .str "full"]) = P5a at w5a v5a ⊢
      refine ⟨by show 2 ≤ sizeLine; decide, fun t5b ht5b => ?_⟩
      have w5b := same_new (o := .tup [V.str "take1", .str "ok"]) ht5b
      have v5b : EvA (upd P5a t5b (.tup [V.str "take1", .str "ok"])) t5b eTo := upd_same
      generalize upd P5a t5b (.tup [V.str "take1", .str "ok"]) = P5b at w5b v5b ⊢
      have w5 := zA.trans (w5a.trans w5b)
      refine ⟨_, _, _, false, _, _, _, rfl, (hka.same (w5)), koa, (v5a.to w5b), v5b, fun fs P5c s5 all => ?_⟩
      rw [srt_no all g1]
      refine ⟨by show 1 ≤ sizeLine; decide, fun m5 hm5 => ?_⟩
      have y5 := ((w5a.trans w5b).trans s5).trans (same_new (o := .lst [V.str "ring"]) hm5)
      have c5 := upd_same (H := P5c) (a := m5) (o := .lst [V.str "ring"])
      generalize upd P5c m5 (.lst [V.str "ring"]) = P5d at y5 c5 ⊢
      refine ⟨k4, m5, _, _, rfl, rfl, y5 _ _ dA, c5, by show 7 ≤ sizeLine; decide, fun k5 hk5' => ?_⟩
      have z5 := (zA.trans y5).trans (same_new (o := .lst ([V.str "abort", .str "abort"] ++ [V.str "commit", .str "commit"] ++ [V.str "abort"] ++ [V.str "commit"] ++ [V.str "ring"])) hk5')
      have d5 := upd_same (H := P5d) (a := k5) (o := .lst ([V.str "abort", .str "abort"] ++ [V.str "commit", .str "commit"] ++ [V.str "abort"] ++ [V.str "commit"] ++ [V.str "ring"]))
      generalize upd P5d k5 (.lst ([V.str "abort", .str "abort"] ++ [V.str "commit", .str "commit"] ++ [V.str "abort"] ++ [V.str "commit"] ++ [V.str "ring"])) = P5 at z5 d5 ⊢
      refine ⟨_, rfl, _, rfl, ?_⟩
      refine ⟨by show 2 ≤ sizeLine; decide, fun t6a ht6a => ?_⟩
      have w6a := same_new (o := .tup [V.str "put1", .str "ok"]) ht6a
      have v6a : EvA (upd P5 t6a (.tup [V.str "put1", .str "ok"])) t6a eOk := upd_same
      generalize upd P5 t6a (.tup [V.str "put1", .str "ok"]) = P6a at w6a v6a ⊢
      refine ⟨by show 2 ≤ sizeLine; decide, fun t6b ht6b => ?_⟩
      have w6b := same_new (o := .tup [V.str "take1", .str "no"]) ht6b
      have v6b : EvA (upd P6a t6b (.tup [V.str "take1", .str "no"])) t6b eTn := upd_same
      generalize upd P6a t6b (.tup [V.str "take1", .str "no"]) = P6b at w6b v6b ⊢
      have w6 := z5.trans (w6a.trans w6b)
      refine ⟨_, _, _, true, _, _, _, rfl, (hka.same (w6)), koa, (v6a.to w6b), v6b, fun fs P6c s6 all => ?_⟩
      rw [srt_no all g2]
      refine ⟨by show 1 ≤ sizeLine; decide, fun m6 hm6 => ?_⟩
      have y6 := ((w6a.trans w6b).trans s6).trans (same_new (o := .lst [V.str "ring"]) hm6)
      have c6 := upd_same (H := P6c) (a := m6) (o := .lst [V.str "ring"])
      generalize upd P6c m6 (.lst [V.str "ring"]) = P6d at y6 c6 ⊢
      refine ⟨k5, m6, _, _, rfl, rfl, y6 _ _ d5, c6, by show 8 ≤ sizeLine; decide, fun k6 hk6' => ?_⟩
      have z6 := (z5.trans y6).trans (same_new (o := .lst ([V.str "abort", .str "abort"] ++ [V.str "commit", .str "commit"] ++ [V.str "abort"] ++ [V.str "commit"] ++ [V.str "ring"] ++ [V.str "ring"])) hk6')
      have d6 := upd_same (H := P6d) (a := k6) (o := .lst ([V.str "abort", .str "abort"] ++ [V.str "commit", .str "commit"] ++ [V.str "abort"] ++ [V.str "commit"] ++ [V.str "ring"] ++ [V.str "ring"]))
      generalize upd P6d k6 (.lst ([V.str "abort", .str "abort"] ++ [V.str "commit", .str "commit"] ++ [V.str "abort"] ++ [V.str "commit"] ++ [V.str "ring"] ++ [V.str "ring"])) = P6 at z6 d6 ⊢
      -- all eight
      refine ⟨_, rfl, by show 8 ≤ sizeLine; decide, fun fl hfl => ?_⟩
      have zf := same_new (o := .lst [V.str "abort", V.str "abort", V.str "commit", V.str "commit", V.str "abort", V.str "commit", V.str "ring", V.str "ring"]) hfl
      have df := upd_same (H := P6) (a := fl) (o := .lst [V.str "abort", V.str "abort", V.str "commit", V.str "commit", V.str "abort", V.str "commit", V.str "ring", V.str "ring"])
      generalize upd P6 fl (.lst [V.str "abort", V.str "abort", V.str "commit", V.str "commit", V.str "abort", V.str "commit", V.str "ring", V.str "ring"]) = HF at zf df ⊢
      refine ⟨.list [PyData.str "abort", PyData.str "abort", PyData.str "commit", PyData.str "commit", PyData.str "abort", PyData.str "commit", PyData.str "ring", PyData.str "ring"], .list [PyData.str "abort", PyData.str "abort", PyData.str "commit", PyData.str "commit", PyData.str "abort", PyData.str "commit", PyData.str "ring", PyData.str "ring"], .lst (SqL.of (zf _ _ d6)) (.cons (.str _) (.cons (.str _) (.cons (.str _) (.cons (.str _) (.cons (.str _) (.cons (.str _) (.cons (.str _) (.cons (.str _) .nil)))))))), .lst (SqL.of df) (.cons (.str _) (.cons (.str _) (.cons (.str _) (.cons (.str _) (.cons (.str _) (.cons (.str _) (.cons (.str _) (.cons (.str _) .nil)))))))), by decide +kernel, by decide +kernel, ?_⟩
      rw [SeqAt.eqv_refl]
      · exact k _
      · decide +kernel
end
end My

-- ===== K61V =====
set_option Elab.async false
set_option linter.all false
set_option maxRecDepth 100000
set_option maxHeartbeats 4000000
namespace My
open PySem L2 PyProof.Rows PySem.Spec
/-! ### the end of a law with several tables of code: CP, each code object with its table -/
theorem law_callMs {P : Program} {w : World} {K : PySem.W.Frag} {mg mb : Str → Option Value} {CX : CXT} {k : Nat} {fa a : Addr} {CP : List (Addr × Addr)} {fd : FuncData} {x : Str} {sp : Sp} {s₁ : Shared} {vs : List Value} {ns : List Int}
    (KX : K.In s₁.heap) (hns : s₁.heap.Ns mainGlobals mg) (hb : s₁.heap.Ns builtinsNs mb) (hbb : ∀ x : Str, x ≠ "__name__" → mb x = bootBuiltins x) (hlim : s₁.heap.NoLimit) (hg : s₁.gens = #[])
    (tabs : ∀ t ∈ CP.map Prod.snd, s₁.heap.get? t = some (PySem.W.tabObj #[])) (own : ∀ t ∈ CP.map Prod.snd, K.lookup t = none) (codes : ∀ q ∈ CP, PySem.W.CodeHd s₁.heap q.1 q.2)
    (hbm : ∃ bm ob, mg "__builtins__" = some (.ref bm) ∧ bm ≠ builtinsNs ∧ s₁.heap.get? bm = some ob ∧ ob.cls = .type "module" ∧ ob.dict = some builtinsNs ∧ ob.data = .plain)
    (ha : s₁.heap.get? a = some { cls := .type "list", data := .seq vs.toArray }) (hi : IntsAre vs ns) (hl : ns.length ≤ sizeLine) (hr : Room k callerA)
    (F : ∀ base : Heap, K.In base → base.Ns mainGlobals mg → (∀ q ∈ CP, LamX.TabB base mg q.1 q.2) → FnG true (fun A => A.guards = some []) P w K mg base CX k fa fd [x] sp) (hbind : ∀ (s : Shared) (u : Value), BindsTo s fd ⟨[u], []⟩ [(x, u)])
    (hsp : ∀ H : Hp, (∀ t ∈ CP.map Prod.snd, H t = some (.tbl #[])) → SqL K H a (ns.map V.int) → sp [.ref a] H (fun v _ => v = .bl true) fun _ _ _ => False)
    (hCX : ∀ H e s', CX [] H s₁ (fun _ _ _ => False) e s' → False) :
    codeAny (model P w) callerA (.call (.ref fa) ⟨[.ref a], []⟩) (fun r s' => r = .ok (.ret (.bool true)) ∧ OldK s₁.heap s'.heap ∧ s'.os = s₁.os ∧ AllBare s'.gens) s₁ := by
  have rv := vals_ints hi
  have lenV := hi.length
  have aP : a ∉ CP.map Prod.snd := fun z => by
    have y := tabs a z
    rw [ha] at y
    cases y
  have core : ∀ H : Hp, (∀ t ∈ CP.map Prod.snd, H t = some (.tbl #[])) → (∀ b, b ∉ CP.map Prod.snd → H b = none ∨ ∃ o xs, H b = some (.frz o (.lst xs))) → SqL K H a (ns.map V.int) → HOk P w H s₁.heap → (∀ b, H b ≠ none → b = a ∨ b ∈ CP.map Prod.snd) → (H a ≠ none → K.lookup a = none) →
      codeAny (model P w) callerA (.call (.ref fa) ⟨[.ref a], []⟩) (fun r s' => r = .ok (.ret (.bool true)) ∧ OldK s₁.heap s'.heap ∧ s'.os = s₁.os ∧ AllBare s'.gens) s₁ := by
    intro H hP hO hS hok hA hK
    have stands : ∀ {b : Addr} {o : Obj}, s₁.heap.get? b = some o → (∀ es, o.data ≠ .seq es) → o.data ≠ .fields #[] → (hidT s₁.heap H).get? b = some o := fun {b o} e d1 d2 => hidT_get e (by
      cases q : H b with
      | none => rfl
      | some u =>
        rcases hA b (by rw [q]; simp) with rfl | z
        · rw [ha] at e
          cases e
          exact absurd rfl (d1 _)
        · rw [tabs b z] at e
          cases e
          exact absurd rfl d2)
    have nsK : ∀ {b : Addr} {m : Str → Option Value}, s₁.heap.Ns b m → (hidT s₁.heap H).Ns b m := fun {b m} ⟨o, es, ep, e, d, r⟩ => ⟨o, es, ep, stands e (fun es z => by rw [d] at z; cases z) (fun z => by rw [d] at z; cases z), d, r⟩
    have hKb : K.In (hidT s₁.heap H) := fun b o e => hidT_get (KX b o e) (by
      cases q : H b with
      | none => rfl
      | some u =>
        rcases hA b (by rw [q]; simp) with rfl | z
        · rw [hK (by rw [q]; simp)] at e
          cases e
        · rw [own b z] at e
          cases e)
    have hM : Mod K mg (hidT s₁.heap H) := ⟨hKb, nsK hns, ⟨mb, nsK hb, hbb⟩, let ⟨mc, h1, h2⟩ := hlim; ⟨mc, nsK h1, h2⟩⟩
    have e0 : Env0 P w K mg (hidT s₁.heap H) callerA [] s₁ H := ⟨rfl, hM, fun b o e => of_hidT e, Nat.le_of_eq (hidT_size _ _), trivial, fun b hb => absurd (show b ∈ ([] : List Addr) from hb) (by simp), hok, .of_eq hg⟩
    have tb : ∀ q ∈ CP, LamX.TabB (hidT s₁.heap H) mg q.1 q.2 := fun q mq => by
      have mP : q.2 ∈ CP.map Prod.snd := List.mem_map.mpr ⟨q, mq, rfl⟩
      have tq := tabs _ mP
      obtain ⟨co, cvs, file, tf, flags, tg, inF, text, tt, c1, c2, c3, c4, c5, c6, c7, c8, c9, c10⟩ := codes q mq
      obtain ⟨bm, ob, m1, m2, m3, m4, m5, m6⟩ := hbm
      refine ⟨⟨co, cvs, file, tf, flags, tg, inF, text, tt, stands c1 (fun es z => by rw [c3] at z; cases z) (fun z => ?_), c2, c3, c4, c5, c6, c7, c8, c9, c10⟩, ⟨bm, ob, m1, m2, fun z => ?_, fun z => ?_, stands m3 (fun es z => by rw [m6] at z; cases z) (fun z => by rw [m6] at z; cases z), m4, m5, m6⟩, fun z => ?_⟩
      · rw [c3] at z
        injection z with z
        rw [z] at c4
        simp at c4
      · obtain ⟨o, es, ep, e, d, _⟩ := hns
        rw [← z, m3] at e
        cases e
        rw [m6] at d
        cases d
      · rw [z, tq] at m3
        cases m3
        cases m4
      · obtain ⟨o, es, ep, e, d, _⟩ := hns
        rw [z, tq] at e
        cases e
        cases d
    refine codeAny_mono ((F _ hKb (nsK hns) tb).run callerA [] s₁ H ⟨[.ref a], []⟩ [.ref a] [.ref a] _ _ (fun _ => rfl) rfl (L2H.roomH_of hr) e0 (hbind s₁ (.ref a)) (.cons rfl .nil) (hsp H hP hS)) fun r s' h => ?_
    cases r with
    | error e => exact (hCX H e s' h).elim
    | ok fl =>
      cases fl with
      | next => exact False.elim h
      | brk => exact False.elim h
      | cont => exact False.elim h
      | ret u =>
        obtain ⟨v, H', os, bare, un, hok', r', q⟩ := h
        have q' : v = .bl true := q
        subst q'
        obtain rfl : u = Value.bool true := r'
        refine ⟨rfl, ⟨fun b o e => ?_, fun b o e => un.there b o e (by simp)⟩, os, bare⟩
        cases q : H b with
        | none => exact .inl (un.keep b o e q (by intro z; exact absurd (show b ∈ ([] : List Addr) from z) (by simp)) (by simp))
        | some u =>
          by_cases bp : b ∈ CP.map Prod.snd
          · obtain ⟨⟨cc, tt⟩, mq, rfl⟩ := List.mem_map.mp bp
            rw [tabs _ bp] at e
            cases e
            obtain ⟨co, cvs, _, _, _, _, _, _, _, c1, c2, c3, c4, _⟩ := codes _ mq
            obtain ⟨more, z⟩ := un.tbls _ _ (hP _ bp)
            have z2 : s'.heap.get? tt = some { cls := Value.none, data := Data.fields (#[] ++ more) } := hok' tt _ z
            exact .inr (.inl ⟨⟨cc, co, cvs, c1, c2, c3, c4⟩, rfl, #[], more, rfl, z2⟩)
          · rcases hO b bp with z | ⟨ob, xs, z⟩
            · rw [q] at z; cases z
            · have z2 := un.frzs b ob _ z
              obtain ⟨e1, _⟩ := hok b _ z
              obtain ⟨e2, _⟩ := hok' b _ z2
              rw [e] at e1; cases e1
              exact .inl e2
  cases hk : K.lookup a with
  | some o =>
    have e := KX a o hk
    rw [ha] at e
    cases e
    refine core (fun b => if b ∈ CP.map Prod.snd then some (.tbl #[]) else none) (fun t mt => if_pos mt) (fun b nb => .inl (if_neg nb)) (.inr ⟨_, vs.toArray, _, hk, rfl, rfl, rfl, by rw [List.size_toArray, lenV]; exact hl, by simpa using rv⟩) (fun b u z => ?_) (fun b z => ?_) fun z => absurd (if_neg aP) z
    · by_cases hb : b ∈ CP.map Prod.snd
      · have z' := (if_pos hb).symm.trans z
        cases z'
        exact tabs b hb
      · have z' := (if_neg hb).symm.trans z
        cases z'
    · by_cases hb : b ∈ CP.map Prod.snd
      · exact .inr hb
      · exact absurd (if_neg hb) z
  | none =>
    refine core (fun b => if b = a then some (.frz { cls := .type "list", data := .seq vs.toArray } (.lst (ns.map V.int))) else if b ∈ CP.map Prod.snd then some (.tbl #[]) else none) (fun t mt => (if_neg fun z : t = a => aP (z ▸ mt)).trans (if_pos mt)) (fun b nb => ?_) (.inl (.inr ⟨{ cls := .type "list", data := .seq vs.toArray }, if_pos rfl⟩)) (fun b u z => ?_) (fun b z => ?_) fun _ => hk
    · by_cases hb : b = a
      · exact .inr ⟨_, _, if_pos hb⟩
      · exact .inl ((if_neg hb).trans (if_neg nb))
    · by_cases hb : b = a
      · have z' := (if_pos hb).symm.trans z
        cases z'
        subst hb
        exact ⟨ha, by rw [List.length_map]; exact hl, vs, _, rv, ha⟩
      · by_cases hc : b ∈ CP.map Prod.snd
        · have z' := ((if_neg hb).trans (if_pos hc)).symm.trans z
          cases z'
          exact tabs b hc
        · have z' := ((if_neg hb).trans (if_neg hc)).symm.trans z
          cases z'
    · by_cases hb : b = a
      · exact .inl hb
      · by_cases hc : b ∈ CP.map Prod.snd
        · exact .inr hc
        · exact absurd ((if_neg hb).trans (if_neg hc)) z
theorem walk_ofMs {l : PySem.W.OpenLaw} {n k : Nat} {q : Program} {loose : List Str} {XP : (Str → Option Value) → Heap → Prop} {YP : World → Heap → Prop} {d : DefRec} {K : Params → PySem.W.Frag} {sp : PySem.W.Frag → Sp} {x : Str} (CP : List (Addr × Addr))
    (hn : l.most = some n) (hn2 : n ≤ sizeLine) (hdf : d.params.defaults = []) (hr : Room k callerA) (hY : ∀ (w : World) (h : Heap), YP w h → (K w.params).In h) (hT : ∀ (w : World) (h : Heap), YP w h → ∀ t ∈ CP.map Prod.snd, h.get? t = some (PySem.W.tabObj #[]))
    (hkp : ∀ w : World, ∀ t ∈ CP.map Prod.snd, (K w.params).lookup t = none) (hcd : ∀ (w : World) (h : Heap), (K w.params).In h → ∀ q ∈ CP, PySem.W.CodeHd h q.1 q.2)
    (F : ∀ (w : World) (mg : Str → Option Value) (fa : Addr) (h : Heap), (K w.params).In h → h.Ns mainGlobals mg → mg d.name = some (.ref fa) →
      ∃ fd : FuncData, (∀ (s : Shared) (u : Value), BindsTo s fd ⟨[u], []⟩ [(x, u)]) ∧ ∀ base : Heap, (K w.params).In base → base.Ns mainGlobals mg → (∀ q ∈ CP, LamX.TabB base mg q.1 q.2) → FnG true (fun A => A.guards = some []) l.prog w (K w.params) mg base CX0 k fa fd [x] (sp (K w.params)))
    (hsp : ∀ (K : PySem.W.Frag) (H : Hp) (a : Addr) (ns : List Int), ns.length ≤ n → (∀ z ∈ ns, Builtin.Int.intBits z ≤ 1048576) → (∀ t ∈ CP.map Prod.snd, H t = some (.tbl #[])) → SqL K H a (ns.map V.int) → sp K [.ref a] H (fun v _ => v = .bl true) fun _ _ _ => False) :
    PySem.W.WalkO q loose XP YP l.row.toRowW d [] (fun f vs => PySem.call f vs) := by
  refine Att.attach_callB hn hdf fun w s₀ s₁ mg mb fa o pm cd doc a vs ns G Y ho hd hcd' hmg hobj hints hlen hbits hg => ?_
  have KX := hY w _ Y
  obtain ⟨fd, hb, hF⟩ := F w mg fa _ KX G.T.g hmg
  exact law_callMs KX G.T.g G.T.b G.T.builtins G.T.nolimit hg (hT w _ Y) (hkp w) (hcd w _ KX) G.T.bmain hobj hints (Nat.le_trans hlen hn2) hr hF hb (fun H hP hS => hsp _ H a ns hlen hbits hP hS) fun _ _ _ z => z
end My

-- ===== K61Y =====
set_option Elab.async false
set_option linter.all false
set_option maxRecDepth 100000
set_option maxHeartbeats 4000000
namespace My
open PySem L2 PyProof.Rows PySem.Spec Kd StX ClX TL LamX NdefX
theorem kgs_rel {vs zs : List V} {us ws : List Value} (r : Vals vs us) (z : Vals zs ws) : Vals (kgs vs zs) (kgs us ws) := by
  match vs, us, r with
  | _ :: _, _, .cons _ _ => exact .nil
  | [], _, .nil =>
    match zs, ws, z with
    | [], _, .nil => exact .nil
    | [_], _, .cons _ .nil => exact .nil
    | [_, _], _, .cons _ (.cons _ .nil) => exact .nil
    | [_, _, _], _, .cons _ (.cons _ (.cons _ .nil)) => exact .nil
    | [_, _, _, _], _, .cons a (.cons b (.cons c (.cons d .nil))) => exact .cons d (.cons c (.cons b (.cons a .nil)))
    | _ :: _ :: _ :: _ :: _ :: _, _, .cons _ (.cons _ (.cons _ (.cons _ (.cons _ _)))) => exact .nil
/-- the tables of the five defs that make a function -/
def tabs5 (a b c d e : Addr) : List NTab := [(a, fun _ _ => qCo), (b, fun _ _ => qAc), (c, fun _ _ => qTi), (d, fun _ _ => qPm), (e, fun _ _ => qHo)]
theorem uq_tab {T : List NTab} (nd : (T.map Prod.fst).Nodup) {t : Addr} {nm : Nat → Nat → Str} (m : (t, nm) ∈ T) : ∀ p ∈ T, p.1 = t → p.2 = nm := by
  induction T with
  | nil => exact fun p mp => nomatch mp
  | cons q T ih =>
    rw [List.map_cons, List.nodup_cons] at nd
    intro p mp e
    rcases List.mem_cons.mp mp with e1 | mp <;> rcases List.mem_cons.mp m with e2 | m
    · rw [e1, ← e2]
    · exact absurd (List.mem_map.mpr ⟨_, m, by rw [← e1]; exact e.symm⟩) nd.1
    · exact absurd (List.mem_map.mpr ⟨_, mp, by rw [← e2]; exact e⟩) nd.1
    · exact ih nd.2 m p mp e
theorem tabs_nil {a b c d e : Addr} {H : Hp} (h : ∀ t ∈ [a, b, c, d, e], H t = some (.tbl #[])) : TabsN (tabs5 a b c d e) H := fun p mp => TabN.nil (h p.1 (by
  have z : p.1 ∈ (tabs5 a b c d e).map Prod.fst := List.mem_map.mpr ⟨p, mp, rfl⟩
  exact z))
set_option linter.unusedVariables false in
theorem all_mk {P : Program} {w : World} {K : PySem.W.Frag} {h : Heap} {mg : Str → Option Value} {fa C p1 c_co c_ac c_ti c_pe c_ho t_co t_ac t_ti t_pe t_ho f_M f_R f_W f_B f_S f_A f_E f_G f_T f_X f_co f_ac f_qu f_st f_po f_ti f_pe f_cn f_cw f_ca f_pu f_ta f_be f_ah f_am f_fi f_ea f_wi f_ho f_gr f_F f_D f_K f_lm f_ll f_lk f_le f_lv f_lr f_lp f_la f_lt f_lo f_ls f_L f_i f_o f_r : Addr} {rest1 : List Value} {t1 t2 t3 t4 t5 : Tok} (X : K.In h) (G : h.Ns mainGlobals mg) (hfa : mg "law" = some (.ref fa)) (nd : [t_co, t_ac, t_ti, t_pe, t_ho].Nodup)
    {oc_M kV_M doc_M pm_M cd_M ct_M : Value} {od_M an_M : Option Addr} {sl_M : Array (Option Value)} {oc_R kV_R doc_R pm_R cd_R ct_R : Value} {od_R an_R : Option Addr} {sl_R : Array (Option Value)} {oc_W kV_W doc_W pm_W cd_W ct_W : Value} {od_W an_W : Option Addr} {sl_W : Array (Option Value)} {oc_B kV_B doc_B pm_B cd_B ct_B : Value} {od_B an_B : Option Addr} {sl_B : Array (Option Value)} {oc_S kV_S doc_S pm_S cd_S ct_S : Value} {od_S an_S : Option Addr} {sl_S : Array (Option Value)} {oc_A kV_A doc_A pm_A cd_A ct_A : Value} {od_A an_A : Option Addr} {sl_A : Array (Option Value)} {oc_E kV_E doc_E pm_E cd_E ct_E : Value} {od_E an_E : Option Addr} {sl_E : Array (Option Value)} {oc_G kV_G doc_G pm_G cd_G ct_G : Value} {od_G an_G : Option Addr} {sl_G : Array (Option Value)} {oc_T kV_T doc_T pm_T cd_T ct_T : Value} {od_T an_T : Option Addr} {sl_T : Array (Option Value)} {oc_X kV_X doc_X pm_X cd_X ct_X : Value} {od_X an_X : Option Addr} {sl_X : Array (Option Value)} {oc_co kV_co doc_co pm_co ct_co : Value} {od_co an_co : Option Addr} {sl_co : Array (Option Value)} {oc_ac kV_ac doc_ac pm_ac ct_ac : Value} {od_ac an_ac : Option Addr} {sl_ac : Array (Option Value)} {oc_qu kV_qu doc_qu pm_qu cd_qu ct_qu : Value} {od_qu an_qu : Option Addr} {sl_qu : Array (Option Value)} {oc_st kV_st doc_st pm_st cd_st ct_st : Value} {od_st an_st : Option Addr} {sl_st : Array (Option Value)} {oc_po kV_po doc_po pm_po cd_po ct_po : Value} {od_po an_po : Option Addr} {sl_po : Array (Option Value)} {oc_ti kV_ti doc_ti pm_ti ct_ti : Value} {od_ti an_ti : Option Addr} {sl_ti : Array (Option Value)} {oc_pe kV_pe doc_pe pm_pe ct_pe : Value} {od_pe an_pe : Option Addr} {sl_pe : Array (Option Value)} {oc_cn kV_cn doc_cn pm_cn cd_cn ct_cn : Value} {od_cn an_cn : Option Addr} {sl_cn : Array (Option Value)} {oc_cw kV_cw doc_cw pm_cw cd_cw ct_cw : Value} {od_cw an_cw : Option Addr} {sl_cw : Array (Option Value)} {oc_ca kV_ca doc_ca pm_ca cd_ca ct_ca : Value} {od_ca an_ca : Option Addr} {sl_ca : Array (Option Value)} {oc_pu kV_pu doc_pu pm_pu cd_pu ct_pu : Value} {od_pu an_pu : Option Addr} {sl_pu : Array (Option Value)} {oc_ta kV_ta doc_ta pm_ta cd_ta ct_ta : Value} {od_ta an_ta : Option Addr} {sl_ta : Array (Option Value)} {oc_be kV_be doc_be pm_be cd_be ct_be : Value} {od_be an_be : Option Addr} {sl_be : Array (Option Value)} {oc_ah kV_ah doc_ah pm_ah cd_ah ct_ah : Value} {od_ah an_ah : Option Addr} {sl_ah : Array (Option Value)} {oc_am kV_am doc_am pm_am cd_am ct_am : Value} {od_am an_am : Option Addr} {sl_am : Array (Option Value)} {oc_fi kV_fi doc_fi pm_fi cd_fi ct_fi : Value} {od_fi an_fi : Option Addr} {sl_fi : Array (Option Value)} {oc_ea kV_ea doc_ea pm_ea cd_ea ct_ea : Value} {od_ea an_ea : Option Addr} {sl_ea : Array (Option Value)} {oc_wi kV_wi doc_wi pm_wi cd_wi ct_wi : Value} {od_wi an_wi : Option Addr} {sl_wi : Array (Option Value)} {oc_ho kV_ho doc_ho pm_ho ct_ho : Value} {od_ho an_ho : Option Addr} {sl_ho : Array (Option Value)} {oc_gr kV_gr doc_gr pm_gr cd_gr ct_gr : Value} {od_gr an_gr : Option Addr} {sl_gr : Array (Option Value)} {oc_F kV_F doc_F pm_F cd_F ct_F : Value} {od_F an_F : Option Addr} {sl_F : Array (Option Value)} {oc_D kV_D doc_D pm_D cd_D ct_D : Value} {od_D an_D : Option Addr} {sl_D : Array (Option Value)} {oc_K kV_K doc_K pm_K cd_K ct_K : Value} {od_K an_K : Option Addr} {sl_K : Array (Option Value)} {oc_lm kV_lm doc_lm pm_lm cd_lm ct_lm : Value} {od_lm an_lm : Option Addr} {sl_lm : Array (Option Value)} {oc_ll kV_ll doc_ll pm_ll cd_ll ct_ll : Value} {od_ll an_ll : Option Addr} {sl_ll : Array (Option Value)} {oc_lk kV_lk doc_lk pm_lk cd_lk ct_lk : Value} {od_lk an_lk : Option Addr} {sl_lk : Array (Option Value)} {oc_le kV_le doc_le pm_le cd_le ct_le : Value} {od_le an_le : Option Addr} {sl_le : Array (Option Value)} {oc_lv kV_lv doc_lv pm_lv cd_lv ct_lv : Value} {od_lv an_lv : Option Addr} {sl_lv : Array (Option Value)} {oc_lr kV_lr doc_lr pm_lr cd_lr ct_lr : Value} {od_lr an_lr : Option Addr} {sl_lr : Array (Option Value)} {oc_lp kV_lp doc_lp pm_lp cd_lp ct_lp : Value} {od_lp an_lp : Option Addr} {sl_lp : Array (Option Value)} {oc_la kV_la doc_la pm_la cd_la ct_la : Value} {od_la an_la : Option Addr} {sl_la : Array (Option Value)} {oc_lt kV_lt doc_lt pm_lt cd_lt ct_lt : Value} {od_lt an_lt : Option Addr} {sl_lt : Array (Option Value)} {oc_lo kV_lo doc_lo pm_lo cd_lo ct_lo : Value} {od_lo an_lo : Option Addr} {sl_lo : Array (Option Value)} {oc_ls kV_ls doc_ls pm_ls cd_ls ct_ls : Value} {od_ls an_ls : Option Addr} {sl_ls : Array (Option Value)} {oc_L kV_L doc_L pm_L cd_L ct_L : Value} {od_L an_L : Option Addr} {sl_L : Array (Option Value)} {oc_i kV_i doc_i pm_i cd_i ct_i : Value} {od_i an_i : Option Addr} {sl_i : Array (Option Value)} {oc_o kV_o doc_o pm_o cd_o ct_o : Value} {od_o an_o : Option Addr} {sl_o : Array (Option Value)} {oc_r kV_r doc_r pm_r cd_r ct_r : Value} {od_r an_r : Option Addr} {sl_r : Array (Option Value)}
    (aC : PySem.W.nsIn K mainGlobals "Kind" = some (some (.ref C)))
    (clpg : PySem.W.plainGet K C Str.empty = true)
    (clhd : PySem.W.hasDictIn K C = true)
    (clpo : PySem.W.plainOver K C = true)
    (clsa : PySem.W.findIn K (.ref C) "__setattr__" = some (some (.builtin "object.__setattr__")))
    (n1 : PySem.W.findIn K (.ref C) "states" = some none)
    (n2 : PySem.W.findIn K (.ref C) "moves" = some none)
    (rd : PySem.W.readsIn K C (.type "type") = true)
    (ga : PySem.W.specialIn K (.ref C) "__getattribute__" = some (some (.builtin "type.__getattribute__")))
    (m_of : PySem.W.findCls K (.ref C) (.type "type") "of" = some (.get (.builtin "classmethod.__get__") (.ref p1) .none (.ref C)))
    (r_of : PySem.W.recIn K p1 "classmethod" = some (.ref f_o :: rest1))
    (f_of : PySem.W.fnIn K f_o = true)
    (mk1 : PySem.W.makesIn K C = true)
    (mk2 : PySem.W.findIn K (.ref C) "__init__" = some (some (.ref f_i)))
    (mk3 : PySem.W.isFn K (.ref f_i) = true)
    (mk4 : PySem.W.keepIn K (.ref C) = true)
    (rc1 : PySem.W.findIn K (.ref C) "reached" = some (some (.ref f_r)))
    (rc2 : PySem.W.isFn K (.ref f_r) = true)
    (a_M : PySem.W.nsIn K mainGlobals "moves_of" = some (some (.ref f_M)))
    (l_M : K.lookup f_M = some ⟨oc_M, od_M, .func (PySem.W.fnOf "moves_of" "moves_of" (defArgs sMoves) (defBody sMoves) (defScope sMoves) .none kV_M doc_M pm_M an_M cd_M ct_M), sl_M⟩)
    (e_M : PySem.W.codeIn K cd_M "moves_of" = true)
    (k_M : PySem.W.keepIn K (.ref f_M) = true)
    (a_R : PySem.W.nsIn K mainGlobals "reached_from" = some (some (.ref f_R)))
    (l_R : K.lookup f_R = some ⟨oc_R, od_R, .func (PySem.W.fnOf "reached_from" "reached_from" (defArgs sReach) (defBody sReach) (defScope sReach) .none kV_R doc_R pm_R an_R cd_R ct_R), sl_R⟩)
    (e_R : PySem.W.codeIn K cd_R "reached_from" = true)
    (k_R : PySem.W.keepIn K (.ref f_R) = true)
    (a_W : PySem.W.nsIn K mainGlobals "is_word" = some (some (.ref f_W)))
    (l_W : K.lookup f_W = some ⟨oc_W, od_W, .func (PySem.W.fnOf "is_word" "is_word" (defArgs sWord) (defBody sWord) (defScope sWord) .none kV_W doc_W pm_W an_W cd_W ct_W), sl_W⟩)
    (e_W : PySem.W.codeIn K cd_W "is_word" = true)
    (k_W : PySem.W.keepIn K (.ref f_W) = true)
    (a_B : PySem.W.nsIn K mainGlobals "is_number" = some (some (.ref f_B)))
    (l_B : K.lookup f_B = some ⟨oc_B, od_B, .func (PySem.W.fnOf "is_number" "is_number" (defArgs sNumber) (defBody sNumber) (defScope sNumber) .none kV_B doc_B pm_B an_B cd_B ct_B), sl_B⟩)
    (e_B : PySem.W.codeIn K cd_B "is_number" = true)
    (k_B : PySem.W.keepIn K (.ref f_B) = true)
    (a_S : PySem.W.nsIn K mainGlobals "is_states" = some (some (.ref f_S)))
    (l_S : K.lookup f_S = some ⟨oc_S, od_S, .func (PySem.W.fnOf "is_states" "is_states" (defArgs sStates) (defBody sStates) (defScope sStates) .none kV_S doc_S pm_S an_S cd_S ct_S), sl_S⟩)
    (e_S : PySem.W.codeIn K cd_S "is_states" = true)
    (k_S : PySem.W.keepIn K (.ref f_S) = true)
    (a_A : PySem.W.nsIn K mainGlobals "_is_state" = some (some (.ref f_A)))
    (l_A : K.lookup f_A = some ⟨oc_A, od_A, .func (PySem.W.fnOf "_is_state" "_is_state" (defArgs sState) (defBody sState) (defScope sState) .none kV_A doc_A pm_A an_A cd_A ct_A), sl_A⟩)
    (e_A : PySem.W.codeIn K cd_A "_is_state" = true)
    (k_A : PySem.W.keepIn K (.ref f_A) = true)
    (a_E : PySem.W.nsIn K mainGlobals "_is_step" = some (some (.ref f_E)))
    (l_E : K.lookup f_E = some ⟨oc_E, od_E, .func (PySem.W.fnOf "_is_step" "_is_step" (defArgs sStep) (defBody sStep) (defScope sStep) .none kV_E doc_E pm_E an_E cd_E ct_E), sl_E⟩)
    (e_E : PySem.W.codeIn K cd_E "_is_step" = true)
    (k_E : PySem.W.keepIn K (.ref f_E) = true)
    (a_G : PySem.W.nsIn K mainGlobals "goal_of" = some (some (.ref f_G)))
    (l_G : K.lookup f_G = some ⟨oc_G, od_G, .func (PySem.W.fnOf "goal_of" "goal_of" (defArgs sGoal) (defBody sGoal) (defScope sGoal) .none kV_G doc_G pm_G an_G cd_G ct_G), sl_G⟩)
    (e_G : PySem.W.codeIn K cd_G "goal_of" = true)
    (k_G : PySem.W.keepIn K (.ref f_G) = true)
    (a_T : PySem.W.nsIn K mainGlobals "sort_of" = some (some (.ref f_T)))
    (l_T : K.lookup f_T = some ⟨oc_T, od_T, .func (PySem.W.fnOf "sort_of" "sort_of" (defArgs sSort) (defBody sSort) (defScope sSort) .none kV_T doc_T pm_T an_T cd_T ct_T), sl_T⟩)
    (e_T : PySem.W.codeIn K cd_T "sort_of" = true)
    (k_T : PySem.W.keepIn K (.ref f_T) = true)
    (a_X : PySem.W.nsIn K mainGlobals "_fails_alone" = some (some (.ref f_X)))
    (l_X : K.lookup f_X = some ⟨oc_X, od_X, .func (PySem.W.fnOf "_fails_alone" "_fails_alone" (defArgs sFails) (defBody sFails) (defScope sFails) .none kV_X doc_X pm_X an_X cd_X ct_X), sl_X⟩)
    (e_X : PySem.W.codeIn K cd_X "_fails_alone" = true)
    (k_X : PySem.W.keepIn K (.ref f_X) = true)
    (a_co : PySem.W.nsIn K mainGlobals "counter" = some (some (.ref f_co)))
    (l_co : K.lookup f_co = some ⟨oc_co, od_co, .func (PySem.W.fnOf "counter" "counter" (defArgs sCo) (defBody sCo) (defScope sCo) .none kV_co doc_co pm_co an_co (.ref c_co) ct_co), sl_co⟩)
    (e_co : PySem.W.codeIn K (.ref c_co) "counter" = true)
    (k_co : PySem.W.keepIn K (.ref f_co) = true)
    (a_ac : PySem.W.nsIn K mainGlobals "account" = some (some (.ref f_ac)))
    (l_ac : K.lookup f_ac = some ⟨oc_ac, od_ac, .func (PySem.W.fnOf "account" "account" (defArgs sAccount) (defBody sAccount) (defScope sAccount) .none kV_ac doc_ac pm_ac an_ac (.ref c_ac) ct_ac), sl_ac⟩)
    (e_ac : PySem.W.codeIn K (.ref c_ac) "account" = true)
    (k_ac : PySem.W.keepIn K (.ref f_ac) = true)
    (a_qu : PySem.W.nsIn K mainGlobals "queue" = some (some (.ref f_qu)))
    (l_qu : K.lookup f_qu = some ⟨oc_qu, od_qu, .func (PySem.W.fnOf "queue" "queue" (defArgs sQu) (defBody sQu) (defScope sQu) .none kV_qu doc_qu pm_qu an_qu cd_qu ct_qu), sl_qu⟩)
    (e_qu : PySem.W.codeIn K cd_qu "queue" = true)
    (k_qu : PySem.W.keepIn K (.ref f_qu) = true)
    (a_st : PySem.W.nsIn K mainGlobals "stack" = some (some (.ref f_st)))
    (l_st : K.lookup f_st = some ⟨oc_st, od_st, .func (PySem.W.fnOf "stack" "stack" (defArgs sSk) (defBody sSk) (defScope sSk) .none kV_st doc_st pm_st an_st cd_st ct_st), sl_st⟩)
    (e_st : PySem.W.codeIn K cd_st "stack" = true)
    (k_st : PySem.W.keepIn K (.ref f_st) = true)
    (a_po : PySem.W.nsIn K mainGlobals "pool" = some (some (.ref f_po)))
    (l_po : K.lookup f_po = some ⟨oc_po, od_po, .func (PySem.W.fnOf "pool" "pool" (defArgs sPo) (defBody sPo) (defScope sPo) .none kV_po doc_po pm_po an_po cd_po ct_po), sl_po⟩)
    (e_po : PySem.W.codeIn K cd_po "pool" = true)
    (k_po : PySem.W.keepIn K (.ref f_po) = true)
    (a_ti : PySem.W.nsIn K mainGlobals "tickets" = some (some (.ref f_ti)))
    (l_ti : K.lookup f_ti = some ⟨oc_ti, od_ti, .func (PySem.W.fnOf "tickets" "tickets" (defArgs sTi) (defBody sTi) (defScope sTi) .none kV_ti doc_ti pm_ti an_ti (.ref c_ti) ct_ti), sl_ti⟩)
    (e_ti : PySem.W.codeIn K (.ref c_ti) "tickets" = true)
    (k_ti : PySem.W.keepIn K (.ref f_ti) = true)
    (a_pe : PySem.W.nsIn K mainGlobals "permits" = some (some (.ref f_pe)))
    (l_pe : K.lookup f_pe = some ⟨oc_pe, od_pe, .func (PySem.W.fnOf "permits" "permits" (defArgs sPermits) (defBody sPermits) (defScope sPermits) .none kV_pe doc_pe pm_pe an_pe (.ref c_pe) ct_pe), sl_pe⟩)
    (e_pe : PySem.W.codeIn K (.ref c_pe) "permits" = true)
    (k_pe : PySem.W.keepIn K (.ref f_pe) = true)
    (a_cn : PySem.W.nsIn K mainGlobals "_check_number" = some (some (.ref f_cn)))
    (l_cn : K.lookup f_cn = some ⟨oc_cn, od_cn, .func (PySem.W.fnOf "_check_number" "_check_number" (defArgs sCkNum) (defBody sCkNum) (defScope sCkNum) .none kV_cn doc_cn pm_cn an_cn cd_cn ct_cn), sl_cn⟩)
    (e_cn : PySem.W.codeIn K cd_cn "_check_number" = true)
    (k_cn : PySem.W.keepIn K (.ref f_cn) = true)
    (a_cw : PySem.W.nsIn K mainGlobals "_check_words" = some (some (.ref f_cw)))
    (l_cw : K.lookup f_cw = some ⟨oc_cw, od_cw, .func (PySem.W.fnOf "_check_words" "_check_words" (defArgs sCkW) (defBody sCkW) (defScope sCkW) .none kV_cw doc_cw pm_cw an_cw cd_cw ct_cw), sl_cw⟩)
    (e_cw : PySem.W.codeIn K cd_cw "_check_words" = true)
    (k_cw : PySem.W.keepIn K (.ref f_cw) = true)
    (a_ca : PySem.W.nsIn K mainGlobals "_check_amounts" = some (some (.ref f_ca)))
    (l_ca : K.lookup f_ca = some ⟨oc_ca, od_ca, .func (PySem.W.fnOf "_check_amounts" "_check_amounts" (defArgs sCkAm) (defBody sCkAm) (defScope sCkAm) .none kV_ca doc_ca pm_ca an_ca cd_ca ct_ca), sl_ca⟩)
    (e_ca : PySem.W.codeIn K cd_ca "_check_amounts" = true)
    (k_ca : PySem.W.keepIn K (.ref f_ca) = true)
    (a_pu : PySem.W.nsIn K mainGlobals "_put" = some (some (.ref f_pu)))
    (l_pu : K.lookup f_pu = some ⟨oc_pu, od_pu, .func (PySem.W.fnOf "_put" "_put" (defArgs sPut) (defBody sPut) (defScope sPut) .none kV_pu doc_pu pm_pu an_pu cd_pu ct_pu), sl_pu⟩)
    (e_pu : PySem.W.codeIn K cd_pu "_put" = true)
    (k_pu : PySem.W.keepIn K (.ref f_pu) = true)
    (a_ta : PySem.W.nsIn K mainGlobals "_take" = some (some (.ref f_ta)))
    (l_ta : K.lookup f_ta = some ⟨oc_ta, od_ta, .func (PySem.W.fnOf "_take" "_take" (defArgs sTake) (defBody sTake) (defScope sTake) .none kV_ta doc_ta pm_ta an_ta cd_ta ct_ta), sl_ta⟩)
    (e_ta : PySem.W.codeIn K cd_ta "_take" = true)
    (k_ta : PySem.W.keepIn K (.ref f_ta) = true)
    (a_be : PySem.W.nsIn K mainGlobals "_behind" = some (some (.ref f_be)))
    (l_be : K.lookup f_be = some ⟨oc_be, od_be, .func (PySem.W.fnOf "_behind" "_behind" (defArgs sBehind) (defBody sBehind) (defScope sBehind) .none kV_be doc_be pm_be an_be cd_be ct_be), sl_be⟩)
    (e_be : PySem.W.codeIn K cd_be "_behind" = true)
    (k_be : PySem.W.keepIn K (.ref f_be) = true)
    (a_ah : PySem.W.nsIn K mainGlobals "_ahead" = some (some (.ref f_ah)))
    (l_ah : K.lookup f_ah = some ⟨oc_ah, od_ah, .func (PySem.W.fnOf "_ahead" "_ahead" (defArgs sAhead) (defBody sAhead) (defScope sAhead) .none kV_ah doc_ah pm_ah an_ah cd_ah ct_ah), sl_ah⟩)
    (e_ah : PySem.W.codeIn K cd_ah "_ahead" = true)
    (k_ah : PySem.W.keepIn K (.ref f_ah) = true)
    (a_am : PySem.W.nsIn K mainGlobals "_among" = some (some (.ref f_am)))
    (l_am : K.lookup f_am = some ⟨oc_am, od_am, .func (PySem.W.fnOf "_among" "_among" (defArgs sAmong) (defBody sAmong) (defScope sAmong) .none kV_am doc_am pm_am an_am cd_am ct_am), sl_am⟩)
    (e_am : PySem.W.codeIn K cd_am "_among" = true)
    (k_am : PySem.W.keepIn K (.ref f_am) = true)
    (a_fi : PySem.W.nsIn K mainGlobals "_first" = some (some (.ref f_fi)))
    (l_fi : K.lookup f_fi = some ⟨oc_fi, od_fi, .func (PySem.W.fnOf "_first" "_first" (defArgs sFirst) (defBody sFirst) (defScope sFirst) .none kV_fi doc_fi pm_fi an_fi cd_fi ct_fi), sl_fi⟩)
    (e_fi : PySem.W.codeIn K cd_fi "_first" = true)
    (k_fi : PySem.W.keepIn K (.ref f_fi) = true)
    (a_ea : PySem.W.nsIn K mainGlobals "_each" = some (some (.ref f_ea)))
    (l_ea : K.lookup f_ea = some ⟨oc_ea, od_ea, .func (PySem.W.fnOf "_each" "_each" (defArgs sEach) (defBody sEach) (defScope sEach) .none kV_ea doc_ea pm_ea an_ea cd_ea ct_ea), sl_ea⟩)
    (e_ea : PySem.W.codeIn K cd_ea "_each" = true)
    (k_ea : PySem.W.keepIn K (.ref f_ea) = true)
    (a_wi : PySem.W.nsIn K mainGlobals "_without" = some (some (.ref f_wi)))
    (l_wi : K.lookup f_wi = some ⟨oc_wi, od_wi, .func (PySem.W.fnOf "_without" "_without" (defArgs sWithout) (defBody sWithout) (defScope sWithout) .none kV_wi doc_wi pm_wi an_wi cd_wi ct_wi), sl_wi⟩)
    (e_wi : PySem.W.codeIn K cd_wi "_without" = true)
    (k_wi : PySem.W.keepIn K (.ref f_wi) = true)
    (a_ho : PySem.W.nsIn K mainGlobals "_holder" = some (some (.ref f_ho)))
    (l_ho : K.lookup f_ho = some ⟨oc_ho, od_ho, .func (PySem.W.fnOf "_holder" "_holder" (defArgs sHolder) (defBody sHolder) (defScope sHolder) .none kV_ho doc_ho pm_ho an_ho (.ref c_ho) ct_ho), sl_ho⟩)
    (e_ho : PySem.W.codeIn K (.ref c_ho) "_holder" = true)
    (k_ho : PySem.W.keepIn K (.ref f_ho) = true)
    (a_gr : PySem.W.nsIn K mainGlobals "_grown" = some (some (.ref f_gr)))
    (l_gr : K.lookup f_gr = some ⟨oc_gr, od_gr, .func (PySem.W.fnOf "_grown" "_grown" (defArgs sGrown) (defBody sGrown) (defScope sGrown) .none kV_gr doc_gr pm_gr an_gr cd_gr ct_gr), sl_gr⟩)
    (e_gr : PySem.W.codeIn K cd_gr "_grown" = true)
    (k_gr : PySem.W.keepIn K (.ref f_gr) = true)
    (a_F : PySem.W.nsIn K mainGlobals "_law_deck" = some (some (.ref f_F)))
    (l_F : K.lookup f_F = some ⟨oc_F, od_F, .func (PySem.W.fnOf "_law_deck" "_law_deck" (defArgs sDeck) (defBody sDeck) (defScope sDeck) .none kV_F doc_F pm_F an_F cd_F ct_F), sl_F⟩)
    (e_F : PySem.W.codeIn K cd_F "_law_deck" = true)
    (k_F : PySem.W.keepIn K (.ref f_F) = true)
    (a_D : PySem.W.nsIn K mainGlobals "_law_draw" = some (some (.ref f_D)))
    (l_D : K.lookup f_D = some ⟨oc_D, od_D, .func (PySem.W.fnOf "_law_draw" "_law_draw" (defArgs sDraw) (defBody sDraw) (defScope sDraw) .none kV_D doc_D pm_D an_D cd_D ct_D), sl_D⟩)
    (e_D : PySem.W.codeIn K cd_D "_law_draw" = true)
    (k_D : PySem.W.keepIn K (.ref f_D) = true)
    (a_K : PySem.W.nsIn K mainGlobals "_law_pick" = some (some (.ref f_K)))
    (l_K : K.lookup f_K = some ⟨oc_K, od_K, .func (PySem.W.fnOf "_law_pick" "_law_pick" (defArgs sPick) (defBody sPick) (defScope sPick) .none kV_K doc_K pm_K an_K cd_K ct_K), sl_K⟩)
    (e_K : PySem.W.codeIn K cd_K "_law_pick" = true)
    (k_K : PySem.W.keepIn K (.ref f_K) = true)
    (a_lm : PySem.W.nsIn K mainGlobals "_law_machine" = some (some (.ref f_lm)))
    (l_lm : K.lookup f_lm = some ⟨oc_lm, od_lm, .func (PySem.W.fnOf "_law_machine" "_law_machine" (defArgs sMach) (defBody sMach) (defScope sMach) .none kV_lm doc_lm pm_lm an_lm cd_lm ct_lm), sl_lm⟩)
    (e_lm : PySem.W.codeIn K cd_lm "_law_machine" = true)
    (k_lm : PySem.W.keepIn K (.ref f_lm) = true)
    (a_ll : PySem.W.nsIn K mainGlobals "_law_letters" = some (some (.ref f_ll)))
    (l_ll : K.lookup f_ll = some ⟨oc_ll, od_ll, .func (PySem.W.fnOf "_law_letters" "_law_letters" (defArgs sLett) (defBody sLett) (defScope sLett) .none kV_ll doc_ll pm_ll an_ll cd_ll ct_ll), sl_ll⟩)
    (e_ll : PySem.W.codeIn K cd_ll "_law_letters" = true)
    (k_ll : PySem.W.keepIn K (.ref f_ll) = true)
    (a_lk : PySem.W.nsIn K mainGlobals "_law_kind" = some (some (.ref f_lk)))
    (l_lk : K.lookup f_lk = some ⟨oc_lk, od_lk, .func (PySem.W.fnOf "_law_kind" "_law_kind" (defArgs sLkind) (defBody sLkind) (defScope sLkind) .none kV_lk doc_lk pm_lk an_lk cd_lk ct_lk), sl_lk⟩)
    (e_lk : PySem.W.codeIn K cd_lk "_law_kind" = true)
    (k_lk : PySem.W.keepIn K (.ref f_lk) = true)
    (a_le : PySem.W.nsIn K mainGlobals "_law_led" = some (some (.ref f_le)))
    (l_le : K.lookup f_le = some ⟨oc_le, od_le, .func (PySem.W.fnOf "_law_led" "_law_led" (defArgs sLed) (defBody sLed) (defScope sLed) .none kV_le doc_le pm_le an_le cd_le ct_le), sl_le⟩)
    (e_le : PySem.W.codeIn K cd_le "_law_led" = true)
    (k_le : PySem.W.keepIn K (.ref f_le) = true)
    (a_lv : PySem.W.nsIn K mainGlobals "_law_events" = some (some (.ref f_lv)))
    (l_lv : K.lookup f_lv = some ⟨oc_lv, od_lv, .func (PySem.W.fnOf "_law_events" "_law_events" (defArgs sEvs) (defBody sEvs) (defScope sEvs) .none kV_lv doc_lv pm_lv an_lv cd_lv ct_lv), sl_lv⟩)
    (e_lv : PySem.W.codeIn K cd_lv "_law_events" = true)
    (k_lv : PySem.W.keepIn K (.ref f_lv) = true)
    (a_lr : PySem.W.nsIn K mainGlobals "_law_reached" = some (some (.ref f_lr)))
    (l_lr : K.lookup f_lr = some ⟨oc_lr, od_lr, .func (PySem.W.fnOf "_law_reached" "_law_reached" (defArgs sRea) (defBody sRea) (defScope sRea) .none kV_lr doc_lr pm_lr an_lr cd_lr ct_lr), sl_lr⟩)
    (e_lr : PySem.W.codeIn K cd_lr "_law_reached" = true)
    (k_lr : PySem.W.keepIn K (.ref f_lr) = true)
    (a_lp : PySem.W.nsIn K mainGlobals "_law_keeps" = some (some (.ref f_lp)))
    (l_lp : K.lookup f_lp = some ⟨oc_lp, od_lp, .func (PySem.W.fnOf "_law_keeps" "_law_keeps" (defArgs sKeeps) (defBody sKeeps) (defScope sKeeps) .none kV_lp doc_lp pm_lp an_lp cd_lp ct_lp), sl_lp⟩)
    (e_lp : PySem.W.codeIn K cd_lp "_law_keeps" = true)
    (k_lp : PySem.W.keepIn K (.ref f_lp) = true)
    (a_la : PySem.W.nsIn K mainGlobals "_law_allowed" = some (some (.ref f_la)))
    (l_la : K.lookup f_la = some ⟨oc_la, od_la, .func (PySem.W.fnOf "_law_allowed" "_law_allowed" (defArgs sAllow) (defBody sAllow) (defScope sAllow) .none kV_la doc_la pm_la an_la cd_la ct_la), sl_la⟩)
    (e_la : PySem.W.codeIn K cd_la "_law_allowed" = true)
    (k_la : PySem.W.keepIn K (.ref f_la) = true)
    (a_lt : PySem.W.nsIn K mainGlobals "_law_at" = some (some (.ref f_lt)))
    (l_lt : K.lookup f_lt = some ⟨oc_lt, od_lt, .func (PySem.W.fnOf "_law_at" "_law_at" (defArgs sAt) (defBody sAt) (defScope sAt) .none kV_lt doc_lt pm_lt an_lt cd_lt ct_lt), sl_lt⟩)
    (e_lt : PySem.W.codeIn K cd_lt "_law_at" = true)
    (k_lt : PySem.W.keepIn K (.ref f_lt) = true)
    (a_lo : PySem.W.nsIn K mainGlobals "_law_sort_at_once" = some (some (.ref f_lo)))
    (l_lo : K.lookup f_lo = some ⟨oc_lo, od_lo, .func (PySem.W.fnOf "_law_sort_at_once" "_law_sort_at_once" (defArgs sOnce) (defBody sOnce) (defScope sOnce) .none kV_lo doc_lo pm_lo an_lo cd_lo ct_lo), sl_lo⟩)
    (e_lo : PySem.W.codeIn K cd_lo "_law_sort_at_once" = true)
    (k_lo : PySem.W.keepIn K (.ref f_lo) = true)
    (a_ls : PySem.W.nsIn K mainGlobals "_law_sort_kept" = some (some (.ref f_ls)))
    (l_ls : K.lookup f_ls = some ⟨oc_ls, od_ls, .func (PySem.W.fnOf "_law_sort_kept" "_law_sort_kept" (defArgs sKept) (defBody sKept) (defScope sKept) .none kV_ls doc_ls pm_ls an_ls cd_ls ct_ls), sl_ls⟩)
    (e_ls : PySem.W.codeIn K cd_ls "_law_sort_kept" = true)
    (k_ls : PySem.W.keepIn K (.ref f_ls) = true)
    (a_L : PySem.W.nsIn K mainGlobals "law" = some (some (.ref f_L)))
    (l_L : K.lookup f_L = some ⟨oc_L, od_L, .func (PySem.W.fnOf "law" "law" (defArgs sLaw) (defBody sLaw) (defScope sLaw) .none kV_L doc_L pm_L an_L cd_L ct_L), sl_L⟩)
    (e_L : PySem.W.codeIn K cd_L "law" = true)
    (k_L : PySem.W.keepIn K (.ref f_L) = true)
    (l_i : K.lookup f_i = some ⟨oc_i, od_i, .func (PySem.W.fnOf "__init__" "Kind.__init__" (defArgs sInit) (defBody sInit) (defScope sInit) .none kV_i doc_i pm_i an_i cd_i ct_i), sl_i⟩)
    (e_i : PySem.W.codeIn K cd_i "Kind.__init__" = true)
    (k_i : PySem.W.keepIn K (.ref f_i) = true)
    (l_o : K.lookup f_o = some ⟨oc_o, od_o, .func (PySem.W.fnOf "of" "Kind.of" (defArgs sOf) (defBody sOf) (defScope sOf) .none kV_o doc_o pm_o an_o cd_o ct_o), sl_o⟩)
    (e_o : PySem.W.codeIn K cd_o "Kind.of" = true)
    (k_o : PySem.W.keepIn K (.ref f_o) = true)
    (l_r : K.lookup f_r = some ⟨oc_r, od_r, .func (PySem.W.fnOf "reached" "Kind.reached" (defArgs sKreached) (defBody sKreached) (defScope sKreached) .none kV_r doc_r pm_r an_r cd_r ct_r), sl_r⟩)
    (e_r : PySem.W.codeIn K cd_r "Kind.reached" = true)
    (k_r : PySem.W.keepIn K (.ref f_r) = true)
    (z_isinstance : PySem.W.nsIn K mainGlobals "isinstance" = some none)
    (z_str : PySem.W.nsIn K mainGlobals "str" = some none)
    (z_int : PySem.W.nsIn K mainGlobals "int" = some none)
    (z_bool : PySem.W.nsIn K mainGlobals "bool" = some none)
    (z_tuple : PySem.W.nsIn K mainGlobals "tuple" = some none)
    (z_len : PySem.W.nsIn K mainGlobals "len" = some none)
    (z_all : PySem.W.nsIn K mainGlobals "all" = some none)
    (z_set : PySem.W.nsIn K mainGlobals "set" = some none)
    (z_sorted : PySem.W.nsIn K mainGlobals "sorted" = some none)
    (z_range : PySem.W.nsIn K mainGlobals "range" = some none)
    (z_repr : PySem.W.nsIn K mainGlobals "repr" = some none)
    (z_enumerate : PySem.W.nsIn K mainGlobals "enumerate" = some none)
    (z_list : PySem.W.nsIn K mainGlobals "list" = some none)
    (z_min : PySem.W.nsIn K mainGlobals "min" = some none)
    (v_MOST_STATES : PySem.W.nsIn K mainGlobals "MOST_STATES" = some (some (.int 40 t1)))
    (v_MOST_EVENTS : PySem.W.nsIn K mainGlobals "MOST_EVENTS" = some (some (.int 24 t2)))
    (v_MOST_LETTERS : PySem.W.nsIn K mainGlobals "MOST_LETTERS" = some (some (.int 12 t3)))
    (v_LETTERS : PySem.W.nsIn K mainGlobals "LETTERS" = some (some (.str LETS t4)))
    (v_TOO_LONG : PySem.W.nsIn K mainGlobals "TOO_LONG" = some (some (.int 100000000 t5))) :
    ∃ fd : FuncData, (∀ (s : Shared) (v : Value), BindsTo s fd ⟨[v], []⟩ [("_law_script", v)]) ∧ ∀ base : Heap, K.In base → base.Ns mainGlobals mg → (∀ q ∈ [(c_co, t_co), (c_ac, t_ac), (c_ti, t_ti), (c_pe, t_pe), (c_ho, t_ho)], LamX.TabB base mg q.1 q.2) → FnG true (fun A => A.guards = some []) P w K mg base CX0 11 fa fd ["_law_script"] (spLaw K (tabs5 t_co t_ac t_ti t_pe t_ho)) := by
  have e := hfa.symm.trans (PySem.W.mg_of X G a_L)
  cases e
  have nn : ∀ {n : Str}, PySem.W.nsIn K mainGlobals n = some none → mg n = none := fun {n} e => PySem.W.mg_none_of X G e
  have g : Gs mg := ⟨nn z_isinstance, nn z_str, nn z_int, nn z_bool, nn z_tuple, nn z_len, nn z_all, nn z_set, nn z_sorted, nn z_range, nn z_repr, nn z_enumerate, nn z_list, nn z_min, ⟨t1, PySem.W.mg_of X G v_MOST_STATES⟩, ⟨t2, PySem.W.mg_of X G v_MOST_EVENTS⟩, ⟨t3, PySem.W.mg_of X G v_MOST_LETTERS⟩, ⟨t4, PySem.W.mg_of X G v_LETTERS⟩⟩
  have cl : Cls K C := ⟨clpg, clhd, clpo, clsa⟩
  have M : Mk K C f_i := ⟨mk1, mk2, mk3, mk4⟩
  have FM := fun_mk (st := sMoves) l_M e_M k_M
  have bM := FM.binds (ps := ["states"]) fun _ _ _ _ _ _ us hl => match us, hl with | [_], _ => rfl
  have mM := PySem.W.mg_of X G a_M
  have FR := fun_mk (st := sReach) l_R e_R k_R
  have bR := FR.binds (ps := ["moves", "starts"]) fun _ _ _ _ _ _ us hl => match us, hl with | [_, _], _ => rfl
  have mR := PySem.W.mg_of X G a_R
  have FW := fun_mk (st := sWord) l_W e_W k_W
  have bW := FW.binds (ps := ["thing"]) fun _ _ _ _ _ _ us hl => match us, hl with | [_], _ => rfl
  have mW := PySem.W.mg_of X G a_W
  have FB := fun_mk (st := sNumber) l_B e_B k_B
  have bB := FB.binds (ps := ["thing"]) fun _ _ _ _ _ _ us hl => match us, hl with | [_], _ => rfl
  have mB := PySem.W.mg_of X G a_B
  have FS := fun_mk (st := sStates) l_S e_S k_S
  have bS := FS.binds (ps := ["thing"]) fun _ _ _ _ _ _ us hl => match us, hl with | [_], _ => rfl
  have mS := PySem.W.mg_of X G a_S
  have FA := fun_mk (st := sState) l_A e_A k_A
  have bA := FA.binds (ps := ["thing", "many"]) fun _ _ _ _ _ _ us hl => match us, hl with | [_, _], _ => rfl
  have mA := PySem.W.mg_of X G a_A
  have FE := fun_mk (st := sStep) l_E e_E k_E
  have bE := FE.binds (ps := ["thing", "many"]) fun _ _ _ _ _ _ us hl => match us, hl with | [_, _], _ => rfl
  have mE := PySem.W.mg_of X G a_E
  have FG := fun_mk (st := sGoal) l_G e_G k_G
  have bG := FG.binds (ps := ["moves", "row", "one", "other"]) fun _ _ _ _ _ _ us hl => match us, hl with | [_, _, _, _], _ => rfl
  have mG := PySem.W.mg_of X G a_G
  have FT := fun_mk (st := sSort) l_T e_T k_T
  have bT := FT.binds (ps := ["kind", "way", "p", "q"]) fun _ _ _ _ _ _ us hl => match us, hl with | [_, _, _, _], _ => rfl
  have mT := PySem.W.mg_of X G a_T
  have FX := fun_mk (st := sFails) l_X e_X k_X
  have bX := FX.binds (ps := ["moves", "way", "row", "p", "q"]) fun _ _ _ _ _ _ us hl => match us, hl with | [_, _, _, _, _], _ => rfl
  have mX := PySem.W.mg_of X G a_X
  have Fco := fun_mk (st := sCo) l_co e_co k_co
  have bco := Fco.binds (ps := ["most"]) fun _ _ _ _ _ _ us hl => match us, hl with | [_], _ => rfl
  have mco := PySem.W.mg_of X G a_co
  have Fac := fun_mk (st := sAccount) l_ac e_ac k_ac
  have mac := PySem.W.mg_of X G a_ac
  have Fqu := fun_mk (st := sQu) l_qu e_qu k_qu
  have mqu := PySem.W.mg_of X G a_qu
  have Fst := fun_mk (st := sSk) l_st e_st k_st
  have mst := PySem.W.mg_of X G a_st
  have Fpo := fun_mk (st := sPo) l_po e_po k_po
  have mpo := PySem.W.mg_of X G a_po
  have Fti := fun_mk (st := sTi) l_ti e_ti k_ti
  have bti := Fti.binds (ps := ["most"]) fun _ _ _ _ _ _ us hl => match us, hl with | [_], _ => rfl
  have mti := PySem.W.mg_of X G a_ti
  have Fpe := fun_mk (st := sPermits) l_pe e_pe k_pe
  have bpe := Fpe.binds (ps := ["many"]) fun _ _ _ _ _ _ us hl => match us, hl with | [_], _ => rfl
  have mpe := PySem.W.mg_of X G a_pe
  have Fcn := fun_mk (st := sCkNum) l_cn e_cn k_cn
  have bcn := Fcn.binds (ps := ["thing", "least"]) fun _ _ _ _ _ _ us hl => match us, hl with | [_, _], _ => rfl
  have mcn := PySem.W.mg_of X G a_cn
  have Fcw := fun_mk (st := sCkW) l_cw e_cw k_cw
  have bcw := Fcw.binds (ps := ["words"]) fun _ _ _ _ _ _ us hl => match us, hl with | [_], _ => rfl
  have mcw := PySem.W.mg_of X G a_cw
  have Fca := fun_mk (st := sCkAm) l_ca e_ca k_ca
  have bca := Fca.binds (ps := ["most", "amounts"]) fun _ _ _ _ _ _ us hl => match us, hl with | [_, _], _ => rfl
  have mca := PySem.W.mg_of X G a_ca
  have Fpu := fun_mk (st := sPut) l_pu e_pu k_pu
  have bpu := Fpu.binds (ps := ["most", "held", "amount"]) fun _ _ _ _ _ _ us hl => match us, hl with | [_, _, _], _ => rfl
  have mpu := PySem.W.mg_of X G a_pu
  have Fta := fun_mk (st := sTake) l_ta e_ta k_ta
  have bta := Fta.binds (ps := ["held", "amount"]) fun _ _ _ _ _ _ us hl => match us, hl with | [_, _], _ => rfl
  have mta := PySem.W.mg_of X G a_ta
  have Fbe := fun_mk (st := sBehind) l_be e_be k_be
  have bbe := Fbe.binds (ps := ["held", "word"]) fun _ _ _ _ _ _ us hl => match us, hl with | [_, _], _ => rfl
  have mbe := PySem.W.mg_of X G a_be
  have Fah := fun_mk (st := sAhead) l_ah e_ah k_ah
  have bah := Fah.binds (ps := ["held", "word"]) fun _ _ _ _ _ _ us hl => match us, hl with | [_, _], _ => rfl
  have mah := PySem.W.mg_of X G a_ah
  have Fam := fun_mk (st := sAmong) l_am e_am k_am
  have bam := Fam.binds (ps := ["held", "word"]) fun _ _ _ _ _ _ us hl => match us, hl with | [_, _], _ => rfl
  have mam := PySem.W.mg_of X G a_am
  have Ffi := fun_mk (st := sFirst) l_fi e_fi k_fi
  have bfi := Ffi.binds (ps := ["held"]) fun _ _ _ _ _ _ us hl => match us, hl with | [_], _ => rfl
  have mfi := PySem.W.mg_of X G a_fi
  have Fea := fun_mk (st := sEach) l_ea e_ea k_ea
  have bea := Fea.binds (ps := ["held"]) fun _ _ _ _ _ _ us hl => match us, hl with | [_], _ => rfl
  have mea := PySem.W.mg_of X G a_ea
  have Fwi := fun_mk (st := sWithout) l_wi e_wi k_wi
  have bwi := Fwi.binds (ps := ["held", "word"]) fun _ _ _ _ _ _ us hl => match us, hl with | [_, _], _ => rfl
  have mwi := PySem.W.mg_of X G a_wi
  have Fho := fun_mk (st := sHolder) l_ho e_ho k_ho
  have bho := Fho.binds (ps := ["places", "words", "put_in", "to_take"]) fun _ _ _ _ _ _ us hl => match us, hl with | [_, _, _, _], _ => rfl
  have mho := PySem.W.mg_of X G a_ho
  have Fgr := fun_mk (st := sGrown) l_gr e_gr k_gr
  have bgr := Fgr.binds (ps := ["first", "moves"]) fun _ _ _ _ _ _ us hl => match us, hl with | [_, _], _ => rfl
  have mgr := PySem.W.mg_of X G a_gr
  have FF := fun_mk (st := sDeck) l_F e_F k_F
  have bF := FF.binds (ps := ["_law_script"]) fun _ _ _ _ _ _ us hl => match us, hl with | [_], _ => rfl
  have mF := PySem.W.mg_of X G a_F
  have FD := fun_mk (st := sDraw) l_D e_D k_D
  have bD := FD.binds (ps := ["_law_deck_here", "_law_many"]) fun _ _ _ _ _ _ us hl => match us, hl with | [_, _], _ => rfl
  have mD := PySem.W.mg_of X G a_D
  have FK := fun_mk (st := sPick) l_K e_K k_K
  have bK := FK.binds (ps := ["_law_deck_here", "_law_some"]) fun _ _ _ _ _ _ us hl => match us, hl with | [_, _], _ => rfl
  have mK := PySem.W.mg_of X G a_K
  have Flm := fun_mk (st := sMach) l_lm e_lm k_lm
  have blm := Flm.binds (ps := ["_law_deck_here"]) fun _ _ _ _ _ _ us hl => match us, hl with | [_], _ => rfl
  have mlm := PySem.W.mg_of X G a_lm
  have Fll := fun_mk (st := sLett) l_ll e_ll k_ll
  have bll := Fll.binds (ps := ["_law_deck_here"]) fun _ _ _ _ _ _ us hl => match us, hl with | [_], _ => rfl
  have mll := PySem.W.mg_of X G a_ll
  have Flk := fun_mk (st := sLkind) l_lk e_lk k_lk
  have blk := Flk.binds (ps := ["_law_deck_here"]) fun _ _ _ _ _ _ us hl => match us, hl with | [_], _ => rfl
  have mlk := PySem.W.mg_of X G a_lk
  have Fle := fun_mk (st := sLed) l_le e_le k_le
  have ble := Fle.binds (ps := ["_law_states", "_law_here", "_law_row"]) fun _ _ _ _ _ _ us hl => match us, hl with | [_, _, _], _ => rfl
  have mle := PySem.W.mg_of X G a_le
  have Flv := fun_mk (st := sEvs) l_lv e_lv k_lv
  have blv := Flv.binds (ps := ["_law_states"]) fun _ _ _ _ _ _ us hl => match us, hl with | [_], _ => rfl
  have mlv := PySem.W.mg_of X G a_lv
  have Flr := fun_mk (st := sRea) l_lr e_lr k_lr
  have blr := Flr.binds (ps := ["_law_states"]) fun _ _ _ _ _ _ us hl => match us, hl with | [_], _ => rfl
  have mlr := PySem.W.mg_of X G a_lr
  have Flp := fun_mk (st := sKeeps) l_lp e_lp k_lp
  have blp := Flp.binds (ps := ["_law_states", "_law_good", "_law_one", "_law_other", "_law_used"]) fun _ _ _ _ _ _ us hl => match us, hl with | [_, _, _, _, _], _ => rfl
  have mlp := PySem.W.mg_of X G a_lp
  have Fla := fun_mk (st := sAllow) l_la e_la k_la
  have bla := Fla.binds (ps := ["_law_states", "_law_used"]) fun _ _ _ _ _ _ us hl => match us, hl with | [_, _], _ => rfl
  have mla := PySem.W.mg_of X G a_la
  have Flt := fun_mk (st := sAt) l_lt e_lt k_lt
  have blt := Flt.binds (ps := ["_law_states", "_law_here", "_law_first", "_law_second"]) fun _ _ _ _ _ _ us hl => match us, hl with | [_, _, _, _], _ => rfl
  have mlt := PySem.W.mg_of X G a_lt
  have Flo := fun_mk (st := sOnce) l_lo e_lo k_lo
  have blo := Flo.binds (ps := ["_law_states", "_law_good", "_law_first", "_law_second"]) fun _ _ _ _ _ _ us hl => match us, hl with | [_, _, _, _], _ => rfl
  have mlo := PySem.W.mg_of X G a_lo
  have Fls := fun_mk (st := sKept) l_ls e_ls k_ls
  have bls := Fls.binds (ps := ["_law_states", "_law_good", "_law_first", "_law_second"]) fun _ _ _ _ _ _ us hl => match us, hl with | [_, _, _, _], _ => rfl
  have mls := PySem.W.mg_of X G a_ls
  have FL := fun_mk (st := sLaw) l_L e_L k_L
  have Fi := fun_mk (st := sInit) l_i e_i k_i
  have Fo := fun_mk (st := sOf) l_o e_o k_o
  have bo := Fo.binds (ps := ["cls", "states"]) fun _ _ _ _ _ _ us hl => match us, hl with | [_, _], _ => rfl
  have Fr := fun_mk (st := sKreached) l_r e_r k_r
  refine ⟨PySem.W.fnOf "law" "law" (defArgs sLaw) (defBody sLaw) (defScope sLaw) .none kV_L doc_L pm_L an_L cd_L ct_L, fun s v => .of_eq rfl, fun base _ _ TB => ?_⟩
  have mC := PySem.W.mg_of X G aC
  have mTL := PySem.W.mg_of X G v_TOO_LONG
  have oF := ok_feed (P := P) (w := w) (mg := mg) (base := base) FF g.list
  have oD := ok_digit (P := P) (w := w) (mg := mg) (base := base) FD
  have oK := ok_pick (P := P) (w := w) (mg := mg) (base := base) FK g.len oD mD k_D bD
  have oW := ok_word (P := P) (w := w) (mg := mg) (base := base) FW g
  have oB := ok_number (P := P) (w := w) (mg := mg) (base := base) FB g
  have oE := ok_step (P := P) (w := w) (mg := mg) (base := base) FE g oW mW k_W bW oB mB k_B bB
  have oA := ok_state (P := P) (w := w) (mg := mg) (base := base) FA g oE mE k_E bE
  have oS := ok_states (P := P) (w := w) (mg := mg) (base := base) FS g oA mA k_A bA
  have oM := ok_moves (P := P) (w := w) (mg := mg) (base := base) FM
  have oi := ok_init (P := P) (w := w) (mg := mg) (base := base) Fi cl n1 n2 oS mS k_S bS oM mM k_M bM
  have oo := ok_of (P := P) (w := w) (mg := mg) (base := base) Fo g M oi
  have T : KOf P w K mg base C := ⟨mC, ⟨.type "type", ⟨rd, ga⟩, p1, f_o, _, ⟨m_of, ⟨rest1, r_of⟩, f_of⟩, oo, bo⟩⟩
  have oR := ok_reach (P := P) (w := w) (mg := mg) (base := base) FR g
  have hmA : Meth K C "reached" f_r := ⟨rc1, rc2, k_r⟩
  have orr := ok_reached (P := P) (w := w) (mg := mg) (base := base) Fr cl n2 oR mR k_R bR
  have oG := ok_goal (P := P) (w := w) (mg := mg) (base := base) FG
  have oX := ok_fails (P := P) (w := w) (mg := mg) (base := base) FX oG mG k_G bG
  have oT := ok_sort (P := P) (w := w) (mg := mg) (base := base) FT cl n2 hmA orr oX mX k_X bX
  have kbT : KBinds K (PySem.W.fnOf "sort_of" "sort_of" (defArgs sSort) (defBody sSort) (defScope sSort) .none kV_T doc_T pm_T an_T cd_T ct_T) ["kind", "way", "p", "q"] ["q", "p", "way", "kind"] kgs kgs := by
    refine ⟨fun s us ws _ hl => ?_, fun r z => kgs_rel r z⟩
    match us, ws, hl with
    | [], [a, b, c, d], _ => exact .of_eq rfl
  have ogr := fun nm => ok_grown (P := P) (w := w) (mg := mg) (base := base) (nm := nm) Fgr g M oi mC
  have ocn := ok_cknum (P := P) (w := w) (mg := mg) (base := base) Fcn oB mB k_B bB
  have ocw := ok_ckw (P := P) (w := w) (mg := mg) (base := base) Fcw g oW mW k_W bW
  have oca := ok_ckam (P := P) (w := w) (mg := mg) (base := base) Fca g.len g.set mTL oB mB k_B bB
  have opu := ok_put (P := P) (w := w) (mg := mg) (base := base) Fpu
  have ota := ok_take (P := P) (w := w) (mg := mg) (base := base) Fta
  have obe := ok_behind (P := P) (w := w) (mg := mg) (base := base) Fbe
  have oah := ok_ahead (P := P) (w := w) (mg := mg) (base := base) Fah
  have oam := ok_among (P := P) (w := w) (mg := mg) (base := base) Fam g.sorted g.tuple
  have ofi := ok_first (P := P) (w := w) (mg := mg) (base := base) Ffi g.list
  have oea := ok_each (P := P) (w := w) (mg := mg) (base := base) Fea g.sorted g.set
  have owi := ok_without (P := P) (w := w) (mg := mg) (base := base) Fwi
  have oco := ok_counter (P := P) (w := w) (mg := mg) (base := base) (T := tabs5 t_co t_ac t_ti t_pe t_ho) l_co e_co g.str (TB _ (.head _)) (.head _) (uq_tab (T := tabs5 t_co t_ac t_ti t_pe t_ho) nd (.head _)) ocn mcn k_cn bcn (ogr "held") mgr k_gr bgr
  have oti := ok_tickets (P := P) (w := w) (mg := mg) (base := base) (T := tabs5 t_co t_ac t_ti t_pe t_ho) l_ti e_ti g.str (TB _ (.tail _ (.tail _ (.head _)))) (.tail _ (.tail _ (.head _))) (uq_tab (T := tabs5 t_co t_ac t_ti t_pe t_ho) nd (.tail _ (.tail _ (.head _)))) ocn mcn k_cn bcn (ogr "given") mgr k_gr bgr
  have ope := ok_permits (P := P) (w := w) (mg := mg) (base := base) (T := tabs5 t_co t_ac t_ti t_pe t_ho) l_pe e_pe (TB _ (.tail _ (.tail _ (.tail _ (.head _))))) (.tail _ (.tail _ (.tail _ (.head _)))) (uq_tab (T := tabs5 t_co t_ac t_ti t_pe t_ho) nd (.tail _ (.tail _ (.tail _ (.head _))))) ocn mcn k_cn bcn (ogr "out") mgr k_gr bgr
  have oac := ok_account (P := P) (w := w) (mg := mg) (base := base) (T := tabs5 t_co t_ac t_ti t_pe t_ho) l_ac e_ac (TB _ (.tail _ (.head _))) (.tail _ (.head _)) (uq_tab (T := tabs5 t_co t_ac t_ti t_pe t_ho) nd (.tail _ (.head _))) ocn mcn k_cn bcn oca mca k_ca bca opu mpu k_pu bpu ota mta k_ta bta (ogr "held") mgr k_gr bgr
  have oq := ok_holder (P := P) (w := w) (mg := mg) (base := base) (T := tabs5 t_co t_ac t_ti t_pe t_ho) l_ho e_ho g.len (TB _ (.tail _ (.tail _ (.tail _ (.tail _ (.head _)))))) (.tail _ (.tail _ (.tail _ (.tail _ (.head _))))) (uq_tab (T := tabs5 t_co t_ac t_ti t_pe t_ho) nd (.tail _ (.tail _ (.tail _ (.tail _ (.head _)))))) ocn mcn k_cn bcn ocw mcw k_cw bcw obe k_be bbe ofi k_fi bfi owi mwi k_wi bwi (ogr "held") mgr k_gr bgr
  have os := ok_holder (P := P) (w := w) (mg := mg) (base := base) (T := tabs5 t_co t_ac t_ti t_pe t_ho) l_ho e_ho g.len (TB _ (.tail _ (.tail _ (.tail _ (.tail _ (.head _)))))) (.tail _ (.tail _ (.tail _ (.tail _ (.head _))))) (uq_tab (T := tabs5 t_co t_ac t_ti t_pe t_ho) nd (.tail _ (.tail _ (.tail _ (.tail _ (.head _)))))) ocn mcn k_cn bcn ocw mcw k_cw bcw oah k_ah bah ofi k_fi bfi owi mwi k_wi bwi (ogr "held") mgr k_gr bgr
  have op := ok_holder (P := P) (w := w) (mg := mg) (base := base) (T := tabs5 t_co t_ac t_ti t_pe t_ho) l_ho e_ho g.len (TB _ (.tail _ (.tail _ (.tail _ (.tail _ (.head _)))))) (.tail _ (.tail _ (.tail _ (.tail _ (.head _))))) (uq_tab (T := tabs5 t_co t_ac t_ti t_pe t_ho) nd (.tail _ (.tail _ (.tail _ (.tail _ (.head _)))))) ocn mcn k_cn bcn ocw mcw k_cw bcw oam k_am bam oea k_ea bea owi mwi k_wi bwi (ogr "held") mgr k_gr bgr
  have oqu := ok_queue (P := P) (w := w) (mg := mg) (base := base) Fqu oq mho k_ho bho mbe mfi
  have ost := ok_stack (P := P) (w := w) (mg := mg) (base := base) Fst os mho k_ho bho mah mfi
  have opo := ok_pool (P := P) (w := w) (mg := mg) (base := base) Fpo op mho k_ho bho mam mea
  have olm := ok_mach (P := P) (w := w) (mg := mg) (base := base) Flm g g.range oD mD k_D bD
  have oll := ok_lett (P := P) (w := w) (mg := mg) (base := base) Fll g oK mK k_K bK
  have olk := ok_lkind (P := P) (w := w) (mg := mg) (base := base) Flk T oD mD k_D bD olm mlm k_lm blm oll mll k_ll bll oac mac k_ac oco mco k_co bco oqu mqu k_qu ost mst k_st opo mpo k_po oti mti k_ti bti ope mpe k_pe bpe
  have ole := ok_lled (P := P) (w := w) (mg := mg) (base := base) Fle
  have olv := ok_evs (P := P) (w := w) (mg := mg) (base := base) Flv g.sorted
  have olr := ok_rea (P := P) (w := w) (mg := mg) (base := base) Flr g g.range
  have olt := ok_at (P := P) (w := w) (mg := mg) (base := base) Flt ole mle k_le ble
  have olp := ok_keeps (P := P) (w := w) (mg := mg) (base := base) Flp ole mle k_le ble
  have ola := ok_allow (P := P) (w := w) (mg := mg) (base := base) Fla g g.list g.range olp mlp k_lp blp
  have olo := ok_once (P := P) (w := w) (mg := mg) (base := base) Flo olr mlr k_lr blr olt mlt k_lt blt
  have ols := ok_kept (P := P) (w := w) (mg := mg) (base := base) Fls olr mlr k_lr blr olt mlt k_lt blt
  exact ok_law FL cl n1 g.repr g.range oF mF k_F bF oD mD k_D bD olk mlk k_lk blk olv mlv k_lv blv ola mla k_la bla olo mlo k_lo blo ols mls k_ls bls oT mT k_T bT kbT ope mpe k_pe bpe oqu mqu k_qu oac mac k_ac
end My
-- ===== end =====
open PySem PySem.W PyProof.Rows
set_option maxRecDepth 100000
set_option maxHeartbeats 0
open_top head61 for PySem.Challenge.rw_mustwait_k61_sorts_of_pairs
set_option maxRecDepth 100000 in
set_option maxHeartbeats 0 in
theorem PySem.Challenge.cw_mustwait_k61_sorts_of_pairs_holds : PySem.Challenge.rw_mustwait_k61_sorts_of_pairs.Holds :=
  head61 (by
  k_fill
  refine My.walk_ofMs (l := PySem.Challenge.rw_mustwait_k61_sorts_of_pairs) (n := 63) (k := 11) (x := "_law_script") (sp := fun K => My.spLaw K (My.tabs5 305 312 340 347 429)) [(309, 305), (316, 312), (344, 340), (351, 347), (433, 429)] rfl (by decide) rfl ⟨rfl, by decide, by decide⟩ (fun w h Y => PySem.W.km_in_of Y) ?hT ?hkp ?hcd ?F (fun K H a ns hl hb hP hS => ⟨a, ns, rfl, hS, hl, hb, My.tabs_nil hP, fun _ => rfl⟩)
  case hT =>
    intro w h Y t mt
    exact PySem.W.km_tabs_of Y t (by
      simp only [List.map_cons, List.map_nil, List.mem_cons, List.not_mem_nil, or_false] at mt
      rcases mt with rfl | rfl | rfl | rfl | rfl <;> decide)
  case hkp =>
    intro w t mt
    simp only [List.map_cons, List.map_nil, List.mem_cons, List.not_mem_nil, or_false] at mt
    rcases mt with rfl | rfl | rfl | rfl | rfl <;> first | rfl | kernel_rfl
  case hcd =>
    intro w h KX q mq
    simp only [List.mem_cons, List.not_mem_nil, or_false] at mq
    rcases mq with rfl | rfl | rfl | rfl | rfl
    · refine PySem.W.codeHd_of_K KX ?hc
      case hc => first | rfl | kernel_rfl
    · refine PySem.W.codeHd_of_K KX ?hc
      case hc => first | rfl | kernel_rfl
    · refine PySem.W.codeHd_of_K KX ?hc
      case hc => first | rfl | kernel_rfl
    · refine PySem.W.codeHd_of_K KX ?hc
      case hc => first | rfl | kernel_rfl
    · refine PySem.W.codeHd_of_K KX ?hc
      case hc => first | rfl | kernel_rfl
  case F =>
    intro w mg fa h KX G hmg
    refine' My.all_mk (c_co := 309) (t_co := 305) (c_ac := 316) (t_ac := 312) (c_ti := 344) (t_ti := 340) (c_pe := 351) (t_pe := 347) (c_ho := 433) (t_ho := 429) KX G hmg (by decide) ?aC ?clpg ?clhd ?clpo ?clsa ?n1 ?n2 ?rd ?ga ?m_of ?r_of ?f_of ?mk1 ?mk2 ?mk3 ?mk4 ?rc1 ?rc2 ?a_M ?l_M ?e_M ?k_M ?a_R ?l_R ?e_R ?k_R ?a_W ?l_W ?e_W ?k_W ?a_B ?l_B ?e_B ?k_B ?a_S ?l_S ?e_S ?k_S ?a_A ?l_A ?e_A ?k_A ?a_E ?l_E ?e_E ?k_E ?a_G ?l_G ?e_G ?k_G ?a_T ?l_T ?e_T ?k_T ?a_X ?l_X ?e_X ?k_X ?a_co ?l_co ?e_co ?k_co ?a_ac ?l_ac ?e_ac ?k_ac ?a_qu ?l_qu ?e_qu ?k_qu ?a_st ?l_st ?e_st ?k_st ?a_po ?l_po ?e_po ?k_po ?a_ti ?l_ti ?e_ti ?k_ti ?a_pe ?l_pe ?e_pe ?k_pe ?a_cn ?l_cn ?e_cn ?k_cn ?a_cw ?l_cw ?e_cw ?k_cw ?a_ca ?l_ca ?e_ca ?k_ca ?a_pu ?l_pu ?e_pu ?k_pu ?a_ta ?l_ta ?e_ta ?k_ta ?a_be ?l_be ?e_be ?k_be ?a_ah ?l_ah ?e_ah ?k_ah ?a_am ?l_am ?e_am ?k_am ?a_fi ?l_fi ?e_fi ?k_fi ?a_ea ?l_ea ?e_ea ?k_ea ?a_wi ?l_wi ?e_wi ?k_wi ?a_ho ?l_ho ?e_ho ?k_ho ?a_gr ?l_gr ?e_gr ?k_gr ?a_F ?l_F ?e_F ?k_F ?a_D ?l_D ?e_D ?k_D ?a_K ?l_K ?e_K ?k_K ?a_lm ?l_lm ?e_lm ?k_lm ?a_ll ?l_ll ?e_ll ?k_ll ?a_lk ?l_lk ?e_lk ?k_lk ?a_le ?l_le ?e_le ?k_le ?a_lv ?l_lv ?e_lv ?k_lv ?a_lr ?l_lr ?e_lr ?k_lr ?a_lp ?l_lp ?e_lp ?k_lp ?a_la ?l_la ?e_la ?k_la ?a_lt ?l_lt ?e_lt ?k_lt ?a_lo ?l_lo ?e_lo ?k_lo ?a_ls ?l_ls ?e_ls ?k_ls ?a_L ?l_L ?e_L ?k_L ?l_i ?e_i ?k_i ?l_o ?e_o ?k_o ?l_r ?e_r ?k_r ?z_isinstance ?z_str ?z_int ?z_bool ?z_tuple ?z_len ?z_all ?z_set ?z_sorted ?z_range ?z_repr ?z_enumerate ?z_list ?z_min ?v_MOST_STATES ?v_MOST_EVENTS ?v_MOST_LETTERS ?v_LETTERS ?v_TOO_LONG
    (case aC => k_is)
    (case clpg => k_is)
    (case clhd => k_is)
    (case clpo => k_is)
    (case clsa => k_is)
    (case n1 => k_is)
    (case n2 => k_is)
    (case rd => k_is)
    (case ga => k_is)
    (case m_of => k_is)
    (case r_of => k_is)
    (case f_of => k_is)
    (case mk1 => k_is)
    (case mk2 => k_is)
    (case mk3 => k_is)
    (case mk4 => k_is)
    (case rc1 => k_is)
    (case rc2 => k_is)
    (case a_M => k_is)
    (case l_M => k_is)
    (case e_M => k_is)
    (case k_M => k_is)
    (case a_R => k_is)
    (case l_R => k_is)
    (case e_R => k_is)
    (case k_R => k_is)
    (case a_W => k_is)
    (case l_W => k_is)
    (case e_W => k_is)
    (case k_W => k_is)
    (case a_B => k_is)
    (case l_B => k_is)
    (case e_B => k_is)
    (case k_B => k_is)
    (case a_S => k_is)
    (case l_S => k_is)
    (case e_S => k_is)
    (case k_S => k_is)
    (case a_A => k_is)
    (case l_A => k_is)
    (case e_A => k_is)
    (case k_A => k_is)
    (case a_E => k_is)
    (case l_E => k_is)
    (case e_E => k_is)
    (case k_E => k_is)
    (case a_G => k_is)
    (case l_G => k_is)
    (case e_G => k_is)
    (case k_G => k_is)
    (case a_T => k_is)
    (case l_T => k_is)
    (case e_T => k_is)
    (case k_T => k_is)
    (case a_X => k_is)
    (case l_X => k_is)
    (case e_X => k_is)
    (case k_X => k_is)
    (case a_co => k_is)
    (case l_co => k_is)
    (case e_co => k_is)
    (case k_co => k_is)
    (case a_ac => k_is)
    (case l_ac => k_is)
    (case e_ac => k_is)
    (case k_ac => k_is)
    (case a_qu => k_is)
    (case l_qu => k_is)
    (case e_qu => k_is)
    (case k_qu => k_is)
    (case a_st => k_is)
    (case l_st => k_is)
    (case e_st => k_is)
    (case k_st => k_is)
    (case a_po => k_is)
    (case l_po => k_is)
    (case e_po => k_is)
    (case k_po => k_is)
    (case a_ti => k_is)
    (case l_ti => k_is)
    (case e_ti => k_is)
    (case k_ti => k_is)
    (case a_pe => k_is)
    (case l_pe => k_is)
    (case e_pe => k_is)
    (case k_pe => k_is)
    (case a_cn => k_is)
    (case l_cn => k_is)
    (case e_cn => k_is)
    (case k_cn => k_is)
    (case a_cw => k_is)
    (case l_cw => k_is)
    (case e_cw => k_is)
    (case k_cw => k_is)
    (case a_ca => k_is)
    (case l_ca => k_is)
    (case e_ca => k_is)
    (case k_ca => k_is)
    (case a_pu => k_is)
    (case l_pu => k_is)
    (case e_pu => k_is)
    (case k_pu => k_is)
    (case a_ta => k_is)
    (case l_ta => k_is)
    (case e_ta => k_is)
    (case k_ta => k_is)
    (case a_be => k_is)
    (case l_be => k_is)
    (case e_be => k_is)
    (case k_be => k_is)
    (case a_ah => k_is)
    (case l_ah => k_is)
    (case e_ah => k_is)
    (case k_ah => k_is)
    (case a_am => k_is)
    (case l_am => k_is)
    (case e_am => k_is)
    (case k_am => k_is)
    (case a_fi => k_is)
    (case l_fi => k_is)
    (case e_fi => k_is)
    (case k_fi => k_is)
    (case a_ea => k_is)
    (case l_ea => k_is)
    (case e_ea => k_is)
    (case k_ea => k_is)
    (case a_wi => k_is)
    (case l_wi => k_is)
    (case e_wi => k_is)
    (case k_wi => k_is)
    (case a_ho => k_is)
    (case l_ho => k_is)
    (case e_ho => k_is)
    (case k_ho => k_is)
    (case a_gr => k_is)
    (case l_gr => k_is)
    (case e_gr => k_is)
    (case k_gr => k_is)
    (case a_F => k_is)
    (case l_F => k_is)
    (case e_F => k_is)
    (case k_F => k_is)
    (case a_D => k_is)
    (case l_D => k_is)
    (case e_D => k_is)
    (case k_D => k_is)
    (case a_K => k_is)
    (case l_K => k_is)
    (case e_K => k_is)
    (case k_K => k_is)
    (case a_lm => k_is)
    (case l_lm => k_is)
    (case e_lm => k_is)
    (case k_lm => k_is)
    (case a_ll => k_is)
    (case l_ll => k_is)
    (case e_ll => k_is)
    (case k_ll => k_is)
    (case a_lk => k_is)
    (case l_lk => k_is)
    (case e_lk => k_is)
    (case k_lk => k_is)
    (case a_le => k_is)
    (case l_le => k_is)
    (case e_le => k_is)
    (case k_le => k_is)
    (case a_lv => k_is)
    (case l_lv => k_is)
    (case e_lv => k_is)
    (case k_lv => k_is)
    (case a_lr => k_is)
    (case l_lr => k_is)
    (case e_lr => k_is)
    (case k_lr => k_is)
    (case a_lp => k_is)
    (case l_lp => k_is)
    (case e_lp => k_is)
    (case k_lp => k_is)
    (case a_la => k_is)
    (case l_la => k_is)
    (case e_la => k_is)
    (case k_la => k_is)
    (case a_lt => k_is)
    (case l_lt => k_is)
    (case e_lt => k_is)
    (case k_lt => k_is)
    (case a_lo => k_is)
    (case l_lo => k_is)
    (case e_lo => k_is)
    (case k_lo => k_is)
    (case a_ls => k_is)
    (case l_ls => k_is)
    (case e_ls => k_is)
    (case k_ls => k_is)
    (case a_L => k_is)
    (case l_L => k_is)
    (case e_L => k_is)
    (case k_L => k_is)
    (case l_i => k_is)
    (case e_i => k_is)
    (case k_i => k_is)
    (case l_o => k_is)
    (case e_o => k_is)
    (case k_o => k_is)
    (case l_r => k_is)
    (case e_r => k_is)
    (case k_r => k_is)
    (case z_isinstance => k_is)
    (case z_str => k_is)
    (case z_int => k_is)
    (case z_bool => k_is)
    (case z_tuple => k_is)
    (case z_len => k_is)
    (case z_all => k_is)
    (case z_set => k_is)
    (case z_sorted => k_is)
    (case z_range => k_is)
    (case z_repr => k_is)
    (case z_enumerate => k_is)
    (case z_list => k_is)
    (case z_min => k_is)
    (case v_MOST_STATES => k_is)
    (case v_MOST_EVENTS => k_is)
    (case v_MOST_LETTERS => k_is)
    (case v_LETTERS => k_is)
    (case v_TOO_LONG => k_is))
#print axioms PySem.Challenge.cw_mustwait_k61_sorts_of_pairs_holds
