import PyProof.Rows.All
import Wide.All
import OpenK.AllK
import Wide.FinOn
import HandS.ForMost
import HandS.DictComp
import HandS.Walk
import HandS.More
import KE.KDictWalk
import KE.KDictCopyH
import KE.KeyNested
import PyProof.Rows.TupTab
import PyProof.DictMoreH
import HandS.TupLen
import HandS.Deep
import KE.SortData
import PyProof.TupleOfSeq
import PyProof.P3In
import HandS.Wide
import HandS.Style
import HandS.EndBits
import HandS.Conv
import PyProof.ReprLen
import PyProof.ReprReads
import PyProof.ReprRoads
import HandS.WordsExc
import HandS.HotCalls
import HandS.IsInst
import HandS.Star
import HandS.Property
import HandS.Words
import PySem.Challenge.RW_mustwait_k59_modes
-- ===== KN1 =====
set_option Elab.async false
set_option linter.all false
set_option maxRecDepth 100000
set_option maxHeartbeats 4000000
namespace Kd
open PySem L2 PyProof.Rows PySem.Spec PySem.W
theorem paired_snoc {α β : Type} {R : α → β → Prop} {l : List α} {m : List β} {a : α} {b : β} (r : Paired R l m) (h : R a b) : Paired R (l ++ [a]) (m ++ [b]) := by
  induction r with
  | nil => exact .cons h .nil
  | cons x _ ih => exact .cons x ih
/-! ### dicts whose keys are nested tuples (of numbers, truth values, texts), their values anything -/
mutual
/-- v is the key k -/
inductive NqV (H : Hp) : V → NestedKey → Prop
  | num (i : Int) : NqV H (.int i) (.num i)
  | bool (b : Bool) : NqV H (.bl b) (.num (if b = true then 1 else 0))
  | text (x : Str) : NqV H (.str x) (.text x)
  | tup {a : Addr} {vs : List V} {ks : List NestedKey} : H a = some (.tup vs) → NqVs H vs ks → NqV H (.ref a) (.tup ks)
inductive NqVs (H : Hp) : List V → List NestedKey → Prop
  | nil : NqVs H [] []
  | cons {v : V} {vs : List V} {k : NestedKey} {ks : List NestedKey} : NqV H v k → NqVs H vs ks → NqVs H (v :: vs) (k :: ks)
end
mutual
theorem NqV.to {H H' : Hp} (s : ∀ a xs, H a = some (.tup xs) → H' a = some (.tup xs)) : ∀ {v : V} {k : NestedKey}, NqV H v k → NqV H' v k
  | _, _, .num i => .num i
  | _, _, .bool b => .bool b
  | _, _, .text x => .text x
  | _, _, .tup h1 h2 => .tup (s _ _ h1) (NqVs.to s h2)
theorem NqVs.to {H H' : Hp} (s : ∀ a xs, H a = some (.tup xs) → H' a = some (.tup xs)) : ∀ {vs : List V} {ks : List NestedKey}, NqVs H vs ks → NqVs H' vs ks
  | _, _, .nil => .nil
  | _, _, .cons h1 h2 => .cons (NqV.to s h1) (NqVs.to s h2)
end
section
variable {X : Cx} {pins : List (Addr × Obj)} {σ : L2.St} {H : Hp} {s : Shared}
mutual
theorem nq_is (I : Inv X pins σ H s) : ∀ (k : NestedKey) {v : V} {u : Value}, NqV H v k → RelV v u → NestedIs s.heap k u
  | .none, _, _, h, _ => by cases h
  | .num i, _, _, h, r => by
    cases h with
    | num i =>
      obtain ⟨t, rfl⟩ := r
      exact .int i t
    | bool b =>
      have e : _ = Value.bool b := r
      subst e
      exact .bool rfl
  | .text x, _, _, h, r => by
    cases h
    obtain ⟨t, rfl⟩ := r
    exact .text x t
  | .tup ks, _, _, h, r => by
    cases h with
    | tup h1 h2 =>
      cases r
      obtain ⟨_, its, rv, o, ho, hc, n, hd⟩ := (show ObjOk X.prog X.w H s.heap _ (.tup _) from I.hok _ _ h1)
      exact .tup ho hc hd (by simpa using nqs_are I ks h2 rv)
theorem nqs_are (I : Inv X pins σ H s) : ∀ (ks : List NestedKey) {vs : List V} {us : List Value}, NqVs H vs ks → Vals vs us → NestedAll s.heap ks us
  | [], _, _, h, r => by
    cases h
    cases r
    exact .nil
  | k :: ks, _, _, h, r => by
    cases h with
    | cons h1 h2 =>
      cases r with
      | cons r1 r2 => exact .cons (nq_is I k h1 r1) (nqs_are I ks h2 r2)
end
end
/-- a key, where its tuple stands, its value -/
abbrev VRow := NestedKey × Addr × V
def VRows (L : List VRow) (xs : List (NestedKey × Addr × Value)) : Prop := Paired (fun (p : VRow) x => p.1 = x.1 ∧ p.2.1 = x.2.1 ∧ RelV p.2.2 x.2.2) L xs
def VHeld (P : Program) (w : World) (a : Addr) (L : List VRow) (h : Heap) : Prop := ∃ (xs : List (NestedKey × Addr × Value)) (o : Obj) (es : Array DictEntry) (ep : Nat), h.get? a = some o ∧ o.ExactDict ∧ o.data = .dict es ep ∧ es.toList = xs.map (entryOfKey (nestedKind P w)) ∧ (xs.map (·.1)).Nodup ∧ VRows L xs ∧ (a == sysModules) = false ∧ L.length ≤ 1000
def VDict (P : Program) (w : World) (a : Addr) (L : List VRow) : HO := .ext (VHeld P w a L)
theorem vdict_ok {P : Program} {w : World} {H : Hp} {h : Heap} {a : Addr} {L : List VRow} (x : VHeld P w a L h) : ObjOk P w H h a (VDict P w a L) := by
  refine ⟨x, ?_, fun h1 h2 y k => ?_⟩
  · obtain ⟨_, o, _, _, ho, _⟩ := x
    exact ⟨o, ho⟩
  · obtain ⟨xs, o, es, ep, ho, r⟩ := y
    exact ⟨xs, o, es, ep, k o ho, r⟩
/-- the keys' tuples stand -/
def VKeys (H : Hp) (L : List VRow) : Prop := ∀ p ∈ L, NqV H (.ref p.2.1) p.1 ∧ p.1.depth ≤ 8
theorem VKeys.to {H H' : Hp} {L : List VRow} (s : ∀ a xs, H a = some (.tup xs) → H' a = some (.tup xs)) (k : VKeys H L) : VKeys H' L := fun p m => ⟨(k p m).1.to s, (k p m).2⟩
theorem VKeys.snoc {H : Hp} {L : List VRow} {k : NestedKey} {b : Addr} {v : V} (h : VKeys H L) (hk : NqV H (.ref b) k) (hd : k.depth ≤ 8) : VKeys H (L ++ [(k, b, v)]) := fun p m => by
  rcases List.mem_append.mp m with m | m
  · exact h p m
  · rw [List.mem_singleton.mp m]
    exact ⟨hk, hd⟩
def valW (L : List VRow) (k : NestedKey) : Option V := (L.find? fun p => decide (p.1 = k)).map (·.2.2)
theorem valW_none {L : List VRow} {k : NestedKey} : valW L k = none ↔ k ∉ L.map (·.1) := by
  unfold valW
  rw [Option.map_eq_none_iff, List.find?_eq_none]
  constructor
  · intro h m
    obtain ⟨p, hp, e⟩ := List.mem_map.mp m
    exact h p hp (decide_eq_true e)
  · intro h p hp e
    exact h (List.mem_map.mpr ⟨p, hp, of_decide_eq_true e⟩)
theorem valW_some {L : List VRow} {k : NestedKey} {v : V} (h : valW L k = some v) : ∃ b, (k, b, v) ∈ L := by
  unfold valW at h
  obtain ⟨p, hp, e⟩ := Option.map_eq_some_iff.mp h
  have h1 := List.mem_of_find?_eq_some hp
  have h2 : p.1 = k := of_decide_eq_true (by simpa using List.find?_some hp)
  exact ⟨p.2.1, by rw [← h2, ← e]; exact h1⟩
theorem valW_mem {L : List VRow} (nd : (L.map (·.1)).Nodup) {k : NestedKey} {b : Addr} {v : V} (h : (k, b, v) ∈ L) : valW L k = some v := by
  induction L with
  | nil => cases h
  | cons p L ih =>
    rw [List.map_cons, List.nodup_cons] at nd
    unfold valW
    rw [List.find?_cons]
    by_cases e : p.1 = k
    · rw [decide_eq_true e]
      rcases List.mem_cons.mp h with rfl | m
      · rfl
      · exact absurd (List.mem_map.mpr ⟨_, m, rfl⟩) (by rw [e] at nd; exact nd.1)
    · rw [decide_eq_false e]
      rcases List.mem_cons.mp h with rfl | m
      · exact absurd rfl e
      · exact ih nd.2 m
theorem valW_is {L : List VRow} {k : NestedKey} : (valW L k).isSome = decide (k ∈ L.map (·.1)) := by
  cases e : valW L k with
  | none => exact (decide_eq_false (valW_none.mp e)).symm
  | some v =>
    obtain ⟨b, m⟩ := valW_some e
    exact (decide_eq_true (List.mem_map.mpr ⟨_, m, rfl⟩)).symm
theorem rows_atV {L : List VRow} {xs : List (NestedKey × Addr × Value)} (r : VRows L xs) (k : NestedKey) : (∀ v, valW L k = some v → ∃ b u, atKey xs k = some (b, u) ∧ RelV v u) ∧ (valW L k = none → atKey xs k = none) := by
  unfold VRows at r
  induction r with
  | nil => exact ⟨fun i e => (nomatch (show (none : Option V) = some i from e)), fun _ => rfl⟩
  | @cons p x ps xs h t ih =>
    obtain ⟨h1, h2, h3⟩ := h
    unfold valW atKey at ih ⊢
    rw [List.find?_cons, List.find?_cons, ← h1]
    by_cases e : p.1 = k
    · rw [decide_eq_true e]
      refine ⟨fun i q => ?_, fun q => by cases q⟩
      have q2 : p.2.2 = i := Option.some.inj q
      exact ⟨x.2.1, x.2.2, rfl, by rw [← q2]; exact h3⟩
    · rw [decide_eq_false e]
      exact ih
section
variable {X : Cx} {pins : List (Addr × Obj)} {σ : L2.St} {H : Hp} {s : Shared}
theorem vheld_rd {a : Addr} {L : List VRow} (I : Inv X pins σ H s) (h : VHeld X.prog X.w a L s.heap) (ks : VKeys H L) : ∃ xs, s.heap.DictOfH (nestedKind X.prog X.w) a xs ∧ VRows L xs ∧ (a == sysModules) = false ∧ L.length ≤ 1000 := by
  obtain ⟨xs, o, es, ep, ho, hx, hd, he, hn, r, lo, few⟩ := h
  refine ⟨xs, ⟨o, es, ep, ho, hx, hd, he, fun x hx => ?_, hn⟩, r, lo, few⟩
  have all : ∀ {L : List VRow} {xs : List (NestedKey × Addr × Value)}, VRows L xs → VKeys H L → ∀ x ∈ xs, NestedIs s.heap x.1 (.ref x.2.1) ∧ x.1.depth ≤ 8 := by
    intro L xs r
    unfold VRows at r
    induction r with
    | nil => exact fun _ x m => nomatch m
    | @cons p y ps ys h t ih =>
      intro k x m
      rcases List.mem_cons.mp m with rfl | m
      · obtain ⟨h1, h2, _⟩ := h
        rw [← h1, ← h2]
        have q := k p List.mem_cons_self
        exact ⟨nq_is I _ q.1 rfl, q.2⟩
      · exact ih (fun q mq => k q (List.mem_cons_of_mem _ mq)) x m
  exact all r ks x hx
theorem vdict_rd {a : Addr} {L : List VRow} (I : Inv X pins σ H s) (ha : H a = some (VDict X.prog X.w a L)) (ks : VKeys H L) : ∃ xs, s.heap.DictOfH (nestedKind X.prog X.w) a xs ∧ VRows L xs ∧ (a == sysModules) = false ∧ L.length ≤ 1000 :=
  vheld_rd I (show VHeld X.prog X.w a L s.heap from (I.hok a _ ha).1) ks
theorem vheld_new {P : Program} {w : World} (h : Heap) (big : sysModules < h.objs.size) : VHeld P w h.objs.size [] (h.push { cls := .type "dict", data := .dict #[] }) :=
  ⟨[], _, #[], 0, Heap.get?_push_size _ rfl, ⟨rfl, rfl, rfl⟩, rfl, rfl, List.nodup_nil, .nil, beq_eq_false_iff_ne.mpr (Ne.symm (Nat.ne_of_lt big)), Nat.zero_le _⟩
theorem vheld_put {a b : Addr} {L : List VRow} {k : NestedKey} {v : V} {u : Value} {xs : List (NestedKey × Addr × Value)} {h' : Heap} {P : Program} {w : World} (rr : VRows L xs) (rv : RelV v u) (lo : (a == sysModules) = false) (hn : valW L k = none) (few : L.length < 1000)
    (D2 : h'.DictOfH (nestedKind P w) a (storedH xs k b u)) : VHeld P w a (L ++ [(k, b, v)]) h' := by
  rw [storedH_new ((rows_atV rr k).2 hn)] at D2
  obtain ⟨o2, es, ep, g1, g2, g3, g4, _, g5⟩ := D2
  refine ⟨xs ++ [(k, b, u)], o2, es, ep, g1, g2, g3, g4, g5, ?_, lo, by rw [List.length_append]; exact few⟩
  exact paired_snoc rr ⟨rfl, rfl, rv⟩
end
/-- {}, to be such a dict -/
def tDNewV (P : Program) (w : World) : TE := fun _ H Q => ∀ p, H p = none → Q (.ref p) (upd H p (VDict P w p []))
/-- k in d -/
def rInV (P : Program) (w : World) : R2 := fun x y H Q => ∃ b a k L, x = .ref b ∧ y = .ref a ∧ NqV H (.ref b) k ∧ k.depth ≤ 8 ∧ H a = some (VDict P w a L) ∧ VKeys H L ∧ Q (.bl (valW L k).isSome) H
/-- d[k] -/
def tGetV (P : Program) (w : World) (td ty : TE) : TE := fun σ H Q => td σ H fun x H1 => ty σ H1 fun y H2 => ∃ a b k L v, x = .ref a ∧ y = .ref b ∧ NqV H2 (.ref b) k ∧ k.depth ≤ 8 ∧ H2 a = some (VDict P w a L) ∧ VKeys H2 L ∧ valW L k = some v ∧ Q v H2
/-- d[k] = v, the key being new there -/
def sPutV (P : Program) (w : World) (td ty tv : TE) : TS := fun D σ H => tv σ H fun v H1 => td σ H1 fun x H2 => ty σ H2 fun y H3 => ∃ a b k L, x = .ref a ∧ y = .ref b ∧ NqV H3 (.ref b) k ∧ k.depth ≤ 8 ∧ H3 a = some (VDict P w a L) ∧ VKeys H3 L ∧ valW L k = none ∧ L.length < 1000 ∧
  D.nx σ (upd H3 a (VDict P w a (L ++ [(k, b, v)])))
/-- d.setdefault(k, x) -/
def tSetdV (P : Program) (w : World) (td ty tx : TE) : TE := fun σ H Q => td σ H fun x H1 => ∃ a L0, x = .ref a ∧ H1 a = some (VDict P w a L0) ∧ ty σ H1 fun y H2 => tx σ H2 fun z H3 => ∃ b k L, y = .ref b ∧ NqV H3 (.ref b) k ∧ k.depth ≤ 8 ∧ H3 a = some (VDict P w a L) ∧ VKeys H3 L ∧ L.length < 1000 ∧
  (∀ v, valW L k = some v → Q v H3) ∧ (valW L k = none → Q z (upd H3 a (VDict P w a (L ++ [(k, b, z)]))))
section
variable {X : Cx} {o i e f value : Expr} {pos pos' apos cpos : Pos} {td ty tv tx : TE}
theorem pe_dnewV : PE X (.Dict [] [] pos) (tDNewV X.prog X.w) := ⟨fun pins s σ H Q I h =>
  wpAny_Dict_empty ⟨.ref s.heap.objs.size, _, I.laid (a := s.heap.objs.size) (t' := s.toks) (fun _ _ q => Heap.get?_push_of_some _ q) (Nat.le_refl _)
    (vdict_ok (vheld_new s.heap I.big)), rfl, h _ (I.hok.fresh (Nat.le_refl _))⟩⟩
theorem roomV {X : Cx} (hu : X.A.units + 64 < cLine) : (nestedKind X.prog X.w).room X.A.in1 := (show X.A.in1.units + 8 < cLine by simp only [Around.in1]; omega)
theorem op_inV (hu : X.A.units + 64 < cLine) : OpR X (compareOp .In) (rInV X.prog X.w) := by
  intro pins s σ H x y v u Q I rx ry h
  obtain ⟨b, a, k, L, rfl, rfl, hk, hd, ha, ks, q⟩ := h
  cases (show v = Value.ref b from rx)
  cases (show u = Value.ref a from ry)
  obtain ⟨xs, D, r, lo, few⟩ := vdict_rd I ha ks
  refine wpAny_in_heap (roomV hu) ⟨nq_is I k hk rfl, hd⟩ lo D ⟨.bl (valW L k).isSome, H, I.tok _, ?_, q⟩
  have z := rows_atV r k
  cases e : valW L k with
  | none => rw [z.2 e]; rfl
  | some i =>
    obtain ⟨c, t, q, _⟩ := z.1 i e
    rw [q]
    rfl
theorem pe_getV (hu : X.A.units + 64 < cLine) (ho : PE X o td) (hi : PE X i ty) (hs : NoSl i) : PE X (.Subscript o i pos) (tGetV X.prog X.w td ty) := by
  refine ⟨fun pins s σ H Q I h => ?_⟩
  refine subD_of PySem.F.slot_dict_getitem.lookup hs (thn (ho.run pins s σ H _ I h) fun u s1 ⟨x, H1, I1, rx, q1⟩ => thn (hi.run pins s1 σ H1 _ I1 q1) fun iv s2 ⟨y, H2, I2, ry, a, b, k, L, j, ex, ey, hk, hd, ha, ks, hv, q2⟩ => ?_)
  subst ex ey
  obtain rfl : u = Value.ref a := rx
  obtain rfl : iv = Value.ref b := ry
  obtain ⟨xs, D, r, lo, few⟩ := vdict_rd I2 ha ks
  obtain ⟨c, t, q, rv⟩ := (rows_atV r k).1 j hv
  exact ⟨D.typeIs, wpAny_getItem_heap (roomV hu) ⟨nq_is I2 k hk rfl, hd⟩ D q ⟨j, H2, I2.tok _, rv, q2⟩⟩
theorem ps_putV (hu : X.A.units + 64 < cLine) (ho : PE X o td) (hi : PE X i ty) (hv : PE X value tv) (hs : swapsWith value (some (.Subscript o i pos')) pos.line X.env = pure false) :
    PS X (.Assign [.Subscript o i pos'] value pos) (sPutV X.prog X.w td ty tv) := by
  refine ⟨fun pins s σ H D I h => ?_⟩
  refine wpAny_Assign_Subscript (thn (hv.run pins s σ H _ I h) fun r s1 ⟨v, H1, I1, rv, q1⟩ => thn (ho.run pins s1 σ H1 _ I1 q1) fun u s2 ⟨x, H2, I2, rx, q2⟩ => thn (hi.run pins s2 σ H2 _ I2 q2) fun iv s3 ⟨y, H3, I3, ry, a, b, k, L, ex, ey, hk, hd, ha, ks, hn, few, q3⟩ => ?_) hs
  subst ex ey
  obtain rfl : u = Value.ref a := rx
  obtain rfl : iv = Value.ref b := ry
  obtain ⟨xs, Dd, rr, lo, _⟩ := vdict_rd I3 ha ks
  have lx : L.length = xs.length := Paired.length rr
  have big := sizeLine_eq
  refine wpAny_setItem_heap (hsz := by omega) (roomV hu) ⟨nq_is I3 k hk rfl, hd⟩ Dd fun h' D2 sb => ?_
  have VH := vheld_put rr rv lo hn few D2
  obtain ⟨_, o2, _, _, g1, _⟩ := id VH
  exact ⟨σ, _, d_write I3 (by rw [ha]; exact True.intro) sb ⟨o2, g1⟩ (vdict_ok VH), q3⟩
theorem pe_setdV (hu : X.A.units + 64 < cLine) (ho : PE X o td) (he : PE X e ty) (hf : PE X f tx) (m : M2 X o "setdefault" apos e f cpos) : PE X (.Call (.Attribute o "setdefault" apos) [e, f] [] cpos) (tSetdV X.prog X.w td ty tx) := by
  refine ⟨fun pins s σ H Q I h => ?_⟩
  refine wpAny_Call_method m.base m.few m.line PySem.F.plainAttrs_dict PySem.F.slot_dict_setdefault PySem.F.type_dict_setdefault (thn (ho.run pins s σ H _ I h) fun u s1 ⟨x, H1, I1, rx, a, L0, ex, d, q1⟩ => ?_)
  subst ex
  obtain rfl : u = Value.ref a := rx
  obtain ⟨_, o1, _, _, ho1, hx1, _⟩ := (show VHeld X.prog X.w a L0 s1.heap from (I1.hok a _ d).1)
  refine ⟨⟨o1, ho1, hx1.1⟩, (fun b z => by cases z; exact ⟨o1, ho1, hx1.2.1⟩), ?_⟩
  rw [m.trees]
  refine Calls.callWith_builtin rfl (Calls.evalArgs_plain (Calls.spliced_cons (thn (he.run pins s1 σ H1 _ I1 q1) fun iv s2 ⟨y, H2, I2, ry, q2⟩ =>
    Calls.spliced_cons (thn (hf.run pins s2 σ H2 _ I2 q2) fun fv s3 ⟨z, H3, I3, rz, b, k, L, ey, hk, hd, ha, ks, few, q3, q4⟩ => Calls.spliced_nil ?_))))
  subst ey
  obtain rfl : iv = Value.ref b := ry
  obtain ⟨xs, Dd, rr, lo, _⟩ := vdict_rd I3 ha ks
  have lx : L.length = xs.length := Paired.length rr
  have big := sizeLine_eq
  refine call_setdefault_heap (hsz := by omega) (roomV hu) ⟨nq_is I3 k hk rfl, hd⟩ lo Dd (fun p hp => ?_) fun hn h' D2 sb => ?_
  · cases ev : valW L k with
    | none => rw [(rows_atV rr k).2 ev] at hp; cases hp
    | some v =>
      obtain ⟨c, t, q, rv⟩ := (rows_atV rr k).1 v ev
      rw [q] at hp
      cases hp
      exact ⟨v, H3, I3.tok _, rv, q3 v ev⟩
  · have ev : valW L k = none := by
      cases ev : valW L k with
      | none => rfl
      | some v =>
        obtain ⟨c, t, q, rv⟩ := (rows_atV rr k).1 v ev
        rw [q] at hn
        cases hn
    have VH := vheld_put rr rz lo ev few D2
    obtain ⟨_, o2, _, _, g1, _⟩ := id VH
    exact ⟨z, _, d_write I3 (by rw [ha]; exact True.intro) sb ⟨o2, g1⟩ (vdict_ok VH), rz, q4 ev⟩
end
/-! ### its values, walked -/
section
variable {X : Cx} {pins : List (Addr × Obj)} {σ : L2.St} {H : Hp} {s : Shared} {d : Addr} {o : Obj}
theorem frz_valsV {P : Program} {w : World} {kvs : List VRow} (I : Inv X pins σ H s) (h : H d = some (.frz o (VDict P w d kvs))) :
    s.heap.get? d = some o ∧ o.ExactDict ∧ (d == sysModules) = false ∧ ∃ (es : Array DictEntry) (ep : Nat), o.data = .dict es ep ∧ es.size = kvs.length ∧ ∀ (i : Nat) (p : VRow), kvs[i]? = some p → ∃ en : DictEntry, es[i]? = some en ∧ RelV p.2.2 en.val := by
  obtain ⟨hd, hv, _⟩ := I.hok d _ h
  obtain ⟨xs, o', es, ep, ho, hx, hdt, he, _, pr, lo, _⟩ := (show VHeld P w d kvs s.heap from hv)
  rw [hd] at ho
  cases ho
  refine ⟨hd, hx, lo, es, ep, hdt, ?_, fun i p e => ?_⟩
  · have l1 : es.size = xs.length := size_of_entries he
    have l2 : kvs.length = xs.length := Paired.length pr
    omega
  · obtain ⟨b, hb, _, _, e3⟩ := paired_get pr e
    have q := entry_at he i
    rw [hb] at q
    exact ⟨_, q, e3⟩
end
/-- the values, in their order -/
def ItdV (P : Program) (w : World) (d : Addr) (o : Obj) (kvs : List VRow) : It :=
  ⟨fun i H => H d = some (.frz o (VDict P w d kvs)) ∧ i < kvs.length, fun i H x H' => H' = H ∧ ∃ p, kvs[i]? = some p ∧ x = p.2.2, fun i H => H d = some (.frz o (VDict P w d kvs)) ∧ kvs.length = i⟩
theorem turn_valsV {P : Program} {w : World} {K : Frag} {tg : Expr} {d : Addr} {o : Obj} {es : Array DictEntry} {ep : Nat} {kvs : List VRow} (it : Addr) (ni : d ≠ it) (hod : o.data = .dict es ep) (hz : es.size = kvs.length) :
    Turn P w K tg (ItdV P w d o kvs) [it] it (fun i h => h.IsValIter it d i es.size ep) where
  mem := by simp
  obj := fun i h st b hb => by
    have e : b = it := by simpa using hb
    subst e
    obtain ⟨oi, e, _, dd⟩ := st
    exact ⟨oi, e, fun v z => by rw [dd] at z; cases z⟩
  keep := fun i h h' st k => st.at fun oi e => k it (by simp) oi e
  item := by
    intro X hP hw hK hc i pins s σ H E I hf st hg
    subst hP hw hK
    obtain ⟨hd, hi⟩ := hg
    obtain ⟨f0, f1, f2, f3, f4, f5⟩ := hf it (by simp)
    obtain ⟨hgd, hx, lo, es', ep', hdt, hsz, ent⟩ := frz_valsV I hd
    obtain ⟨rfl, rfl⟩ := dict_ep hod hdt
    obtain ⟨p, hkv⟩ : ∃ p, kvs[i]? = some p := ⟨kvs[i], List.getElem?_eq_getElem hi⟩
    obtain ⟨en, hen, rv⟩ := ent i p hkv
    have W := Walks.rawValues (prog := X.prog) (w := X.w) (I.ok.hd hc) it d ni es' ep'
    refine W.item i s _ _ (by omega) ⟨st, o, hgd, hx, hdt⟩ fun u h' tk hu st' kk => ?_
    obtain ⟨lt, rfl⟩ := hu
    have eu : en = es'[i] := by
      rw [Array.getElem?_eq_getElem lt] at hen
      exact (Option.some.inj hen).symm
    subst eu
    have I1 : Inv X pins σ H { s with heap := h', toks := tk } := I.turned (fun b o hb e => kk b o (by simpa using hb) e) f0 f1 f3 f4 f5
    obtain ⟨oi, e, c, dd⟩ := id st'.1
    exact ⟨_, rfl, go_of (s := { s with heap := h', toks := tk }) e c dd (by decide) ⟨p.2.2, H, I1, rv, ⟨rfl, p, hkv, rfl⟩, st'.1, fun b hb => (hf b hb).1⟩⟩
  done := by
    intro X hP hw hK hc i pins s σ H E I hf st hg
    subst hP hw hK
    obtain ⟨hd, hi⟩ := hg
    obtain ⟨f0, f1, f2, f3, f4, f5⟩ := hf it (by simp)
    obtain ⟨hgd, hx, lo, es', ep', hdt, hsz, ent⟩ := frz_valsV I hd
    obtain ⟨rfl, rfl⟩ := dict_ep hod hdt
    have W := Walks.rawValues (prog := X.prog) (w := X.w) (I.ok.hd hc) it d ni es' ep'
    have e : i = es'.size := by omega
    subst e
    exact W.done s _ _ ⟨st, o, hgd, hx, hdt⟩ fun h' tk eb => ⟨rfl, I.turned (fun b o hb q => eb b o (by simpa using hb) q) f0 f1 f3 f4 f5⟩
  self := fun A i s Q E st h => wpAny_pyIter_valiter st h
/-- the dict is locked (tLock, or by the caller) -/
def iValsV (P : Program) (w : World) (td : TE) : TI := fun σ H R => td σ H fun x H1 => ∃ d o kvs, x = .ref d ∧ H1 d = some (.frz o (VDict P w d kvs)) ∧ R (ItdV P w d o kvs) H1
theorem walk_valsV {P : Program} {w : World} {d : Addr} {o : Obj} {kvs : List VRow} : Walk (ItdV P w d o kvs) kvs.length (fun H => H d = some (.frz o (VDict P w d kvs))) (fun i H x H' => H' = H ∧ ∃ p, kvs[i]? = some p ∧ x = p.2.2) :=
  ⟨fun _ _ hi q => ⟨q, hi⟩, fun _ q => ⟨q, rfl⟩, fun _ _ _ _ _ _ y => y⟩
section
variable {X : Cx} {tg e : Expr} {td : TE} {apos cpos : Pos}
theorem pi_valuesV (he : PE X e td) (hbase : attributeBase e "values" X.env (eval e X.env) = eval e X.env := by rfl) (hline : (apos.endLine == cpos.line) = true := by rfl) : PI X tg (.Call (.Attribute e "values" apos) [] [] cpos) (iValsV X.prog X.w td) := by
  refine ⟨fun pins s σ H R I h => ?_⟩
  refine wpAny_Call_method (T := "dict") (id := "dict.values") hbase rfl hline F.plainAttrs_dict F.slot_dict_values F.type_dict_values (thn (he.run pins s σ H _ I h) fun u s1 ⟨x, H1, I1, rx, d, o, kvs, ex, hd, q⟩ => ?_)
  subst ex
  obtain rfl : u = Value.ref d := rx
  obtain ⟨hgd, hx, lo, es, ep, hdt, hsz, ent⟩ := frz_valsV I1 hd
  have raw : s1.heap.DictRaw d es ep := ⟨o, hgd, hx, hdt⟩
  have ty : s1.TypeIs (.ref d) "dict" := ⟨o, hgd, hx.1⟩
  refine ⟨ty, (fun b z => by cases z; exact ⟨o, hgd, hx.2.1⟩), ?_⟩
  have I2 : Inv X pins σ H1 { s1 with heap := s1.heap.push { cls := .type "dict_values", data := .fields #[.ref d] } } := I1.kept (t' := s1.toks) fun b ob z => Heap.get?_push_of_some _ z
  have lt : d < s1.heap.objs.size := Heap.lt_size hgd
  have fin : wpAny (model X.prog X.w) X.A (pyIter (.ref s1.heap.objs.size)) (PIE X pins σ tg R) X.xe { s1 with heap := s1.heap.push { cls := .type "dict_values", data := .fields #[.ref d] } } := by
    refine wpAny_pyIter_values_raw (d := d) ⟨_, Heap.get?_push_size _ rfl, rfl, rfl⟩ (raw.push _) (pi_one (tk := s1.toks) I2 _ (turn_valsV _ (Nat.ne_of_lt (by show d < (s1.heap.push _).objs.size; rw [Heap.size_push]; exact Nat.lt_succ_of_lt lt)) hdt hsz) ⟨_, Heap.get?_push_size _ rfl, rfl, rfl⟩ q)
  show wpAny _ _ (callWith cpos (.builtin "dict.values") [.ref d] [] []) _ X.xe s1
  exact method_meetsIn F.slot_dict_values F.entry_dict_values rfl (PySem.evalArgs_none ⟨rfl, ty, F.args_dict_values_1 _, _, meets_dict_values_raw d lo, ⟨es, ep, raw⟩, fin⟩)
end
end Kd

-- ===== KN2 =====
set_option Elab.async false
set_option linter.all false
set_option maxRecDepth 100000
set_option maxHeartbeats 4000000
namespace Kd
open PySem L2 PyProof.Rows PySem.Spec PySem.W
section
variable {X : Cx} {CX : CXT} {k : Nat} {f : Addr} {fd : FuncData} {ps ks : List Str} {sp : Sp} {x : Str} {p pos : Pos} {tk : TA} {E : XK} {kws : List Keyword} {g : List Value → List Value → List Value} {gV : List V → List V → List V}
/-- f(k = v, ..), nothing by position -/
theorem pe_callK0 (F : FnOk X.prog X.w X.K X.mg X.base CX k f fd ps sp) (hr : Room k X.A) (hg : Gl X x) (hm : X.mg x = some (.ref f)) (hk : PySem.W.keepIn X.K (.ref f) = true) (hb : KBinds X.K fd ps ks g gV) (hx : Passes CX X E)
    (hkw : PK X kws tk) (hall : (backToKw pos (keywordEach kws X.env)).all (·.1.isSome) = true := by rfl) (hks : (backToKw pos (keywordEach kws X.env)).filterMap (·.1) = ks := by rfl)
    (hdb : (x == ("__debug__" : Str)) = false := by decide)
    (hpl : ((backTo pos (starEach [] X.env)).any (·.1) || (backToKw pos (keywordEach kws X.env)).any (·.1.isNone)) = false := by rfl) :
    PE X (.Call (.Name x p) [] kws pos) (tCallK sp gV E tNil tk) := by
  refine ⟨fun pins s σ H Q I h => ?_⟩
  refine wpAny_Call_Name_kw (ld_glob I hg hm ?_ hdb)
  refine PySem.W.callWith_KW0 (h₀ := X.base) I.ok.mod.kin hk hall (thn (hkw.run pos pins s σ H _ I h) fun ws s2 ⟨zs, H2, I2, rz, q2⟩ => ⟨I2.kIn, ?_⟩) hpl
  rw [hks]
  exact run_fnk F hr hb hx I2 (us := []) (vs := []) .nil rz q2
end
section
variable {X : Cx}
/-- x in t, t a tuple of data -/
def rInDT (K : PySem.W.Frag) : R2 := fun x y H Q => ∃ d ds, Dp K H x d ∧ Dp K H y (.tuple ds) ∧ SeqAt.shaped d = true ∧ SeqAt.shaped (.tuple ds) = true ∧ Q (.bl (ds.any fun z => PyData.eqv z d)) H
theorem op_inDT (hu : X.A.units + 65 < cLine) : OpR X (compareOp .In) (rInDT X.K) := by
  intro pins s σ H x y v u Q I rx ry h
  obtain ⟨d, ds, hd, he, sd, se, q⟩ := h
  obtain ⟨as, r1⟩ := Dp.reads I d x v hd rx
  obtain ⟨bs, r2⟩ := Dp.reads I (.tuple ds) y u he ry
  exact SeqAt.in_tuple_reads r2 r1 (SeqAt.canLay_of_shaped se) (SeqAt.canLay_of_shaped sd) (room_in_shaped sd hu) ⟨.bl _, H, I, rfl, q⟩
/-- a list times an int; the new list is none of the model's own -/
def rRepL : R2 := fun x y H Q => ∃ l k xs, x = .ref l ∧ y = .int k ∧ H l = some (.lst xs) ∧ -(2 ^ 63) ≤ k ∧ k < 2 ^ 63 ∧ xs.length * k.toNat ≤ sizeLine ∧
  ∀ p, H p = none → sysModules < p → Q (.ref p) (upd H p (.lst (List.replicate k.toNat xs).flatten))
theorem op_repL : OpR X (binaryOp .Mult) rRepL := by
  intro pins s σ H x y v u Q I rx ry h
  obtain ⟨l, k, xs, rfl, rfl, hH, h1, h2, hz, q⟩ := h
  cases rx
  obtain ⟨t, rfl⟩ := ry
  obtain ⟨z, its, n, r, hl, e⟩ := I.lstM hH
  have hlen : its.toArray.size * k.toNat ≤ sizeLine := by rw [List.size_toArray, ← hl]; exact hz
  have hcap : ¬ its.toArray.size * k.toNat > (2 ^ 63 - 1) / 8 := by
    have : (sizeLine : Nat) ≤ (2 ^ 63 - 1) / 8 := by decide
    omega
  have hfit : ¬ (!Builtin.List.listFitsIndex k) = true := by
    rw [fitsIndex_both h1 h2]
    exact Bool.false_ne_true
  have hlong : ¬ Builtin.List.listTooLong (its.toArray.size * k.toNat) = true := by
    rw [notLongL hlen]
    exact Bool.false_ne_true
  have hnew : List.foldl (fun x1 x2 => x1 ++ x2) #[] (List.replicate (if its.toArray.isEmpty = true then 0 else k.toNat) its.toArray) = (List.replicate k.toNat its).flatten.toArray := by
    have f0 : ∀ m : Nat, List.foldl (fun x1 x2 => x1 ++ x2) #[] (List.replicate m its.toArray) = (List.replicate m its).flatten.toArray := fun m => by
      have := foldl_rep its m []
      rw [List.nil_append] at this
      exact this
    rw [f0]
    cases its with
    | nil => simp
    | cons a r' => rw [if_neg (by simp)]
  refine wpAny_binaryOp_repeat_ref (T := "list") (U := "int") (by decide) ⟨_, e, rfl⟩ (fun s' => typeIs_int s' k t) noFill_list_mul F.fills_int_mul F.slot_int_rmul repeat_list F.slot_int_index.lookup
    (call_meets F.slot_int_rmul (typeIs_int s k t) F.entry_int_rmul (F.args_int_rmul_2 _ _) (int___rmul___int_list k t l its.toArray n)
      ⟨e, rfl, ⟨_, e, rfl⟩, call_meets F.slot_list_mul ⟨_, e, rfl⟩ F.entry_list_mul (F.args_list_mul_2 _ _) (AutoListH.list___mul___list_int_3 l its.toArray n k t hfit hcap hlong) ⟨e, ?_⟩⟩)
  rw [hnew]
  exact ⟨.ref _, _, I.lnew (t' := s.toks) (r.rep k.toNat) (by rw [PyProof.Rows.lm_len_rep_flat, Nat.mul_comm]; exact hz), rfl, q _ I.fresh I.big⟩
end
/-- what is read off stands -/
theorem reads_in {h : Heap} {v : Value} {d : PyData} {as : List Addr} (r : Reads h v d as) : ∀ a ∈ as, ∃ o, h.get? a = some o :=
  Reads.rec (motive_1 := fun _ _ as _ => ∀ a ∈ as, ∃ o, h.get? a = some o) (motive_2 := fun _ _ as _ => ∀ a ∈ as, ∃ o, h.get? a = some o)
    (fun a m => nomatch m) (fun _ a m => nomatch m) (fun _ _ a m => nomatch m) (fun _ _ a m => nomatch m)
    (fun ho _ _ _ ih a m => by
      rcases List.mem_cons.mp m with e | m
      · exact ⟨_, by rw [e]; exact ho⟩
      · exact ih a m)
    (fun _ _ _ _ ih a m => ih a m)
    (fun ho _ _ _ _ ih1 ih2 a m => by
      rcases List.mem_append.mp m with m | m
      · rcases List.mem_cons.mp m with e | m
        · exact ⟨_, by rw [e]; exact ho⟩
        · exact ih1 a m
      · exact ih2 a m)
    (fun a m => nomatch m)
    (fun _ _ ih1 ih2 a m => by
      rcases List.mem_append.mp m with m | m
      · exact ih1 a m
      · exact ih2 a m) r
/-! ### sorted(xs), xs a list or a tuple of data -/
/-- items told with the data that they are -/
def DpRows {β : Type} (enc : β → PyData) (K : PySem.W.Frag) (H : Hp) (L : List (Addr × β)) : Prop := ∀ q ∈ L, Dp K H (.ref q.1) (enc q.2)
def rSortX {β : Type} (enc : β → PyData) (K : PySem.W.Frag) : List V → Hp → VK → Prop := fun vs H Q => ∃ (a : Addr) (L : List (Addr × β)), vs = [V.ref a] ∧ (SqL K H a (L.map fun q => V.ref q.1) ∨ SqT K H a (L.map fun q => V.ref q.1)) ∧ DpRows enc K H L ∧ AllAlike (L.map fun q => enc q.2) ∧ Sortable (L.map fun q => enc q.2) ∧ (∀ q ∈ L, (enc q.2).depth ≤ 60) ∧ L.length ≤ 100000 ∧
  ∀ p, H p = none → Q (.ref p) (upd H p (.lst ((L.mergeSort (dataLe false fun q => enc q.2)).map fun q => V.ref q.1)))
section
variable {X : Cx} {β : Type} {enc : β → PyData}
theorem refs_of : ∀ {L : List (Addr × β)} {us : List Value}, Vals (L.map fun q => V.ref q.1) us → us = L.map fun q => Value.ref q.1
  | [], _, .nil => rfl
  | q :: ks, _, .cons r t => by
    cases r
    rw [refs_of t]
    rfl
theorem refs_are : ∀ (L : List (Addr × β)), Vals (L.map fun q => V.ref q.1) (L.map fun q => Value.ref q.1)
  | [] => .nil
  | q :: ks => .cons rfl (refs_are ks)
theorem cr_sortX (hu : X.A.units + 80 < cLine) : CallR X (.builtin "sorted") (rSortX enc X.K) := by
  intro pins s σ H vs us Q I r h
  obtain ⟨a, L, rfl, hl, hk, al, so, dp, sz, q⟩ := h
  rw [Vals.ref1 r]
  have big := sizeLine_eq
  have each : ∀ (R : Value → Addr × β → Prop) (M : List (Addr × β)), (∀ q ∈ M, R (.ref q.1) q) → EachIs R (M.map fun q => Value.ref q.1) M := by
    intro R M
    induction M with
    | nil => exact fun _ => .nil
    | cons x M ih => exact fun g => .cons (g x List.mem_cons_self) (ih fun y m => g y (List.mem_cons_of_mem _ m))
  have eout : ∀ {o : List Value} {M : List (Addr × β)}, EachIs (fun v q => v = Value.ref q.1) o M → o = M.map fun q => Value.ref q.1 := by
    intro o M z
    induction z with
    | nil => rfl
    | cons e _ ih => rw [e, ih]; rfl
  have rd : ∀ q ∈ L, ∃ as, Reads s.heap (.ref q.1) (enc q.2) as := fun q m => Dp.reads I (enc q.2) (.ref q.1) (.ref q.1) (hk q m) rfl
  have lz : ((L.mergeSort (dataLe false fun q => enc q.2)).map fun q => V.ref q.1).length ≤ sizeLine := by
    rw [List.length_map, List.length_mergeSort]
    omega
  rcases hl with hl | hl
  · obtain ⟨its, rv, il, _⟩ := I.list hl
    have ei := refs_of rv
    subst ei
    refine sorted_data (R := fun v q => v = Value.ref q.1) (enc := fun q : Addr × β => enc q.2) (bs := L) il.isList (each _ L fun q _ => rfl) (each _ L rd) al so (by omega) (fun b m => by have z := dp b m; omega) fun out lo eo => ?_
    have eo' := eout eo
    subst eo'
    obtain ⟨ep, he⟩ := PyProof.Rows.sortedAll_at s.heap (L.map fun q => Value.ref q.1) (((L.mergeSort (dataLe false fun q => enc q.2)).map fun q => Value.ref q.1).toArray)
    exact ⟨.ref _, upd H (s.heap.objs.size + 1) (.lst ((L.mergeSort (dataLe false fun q => enc q.2)).map fun q => V.ref q.1)), I.laid (t' := s.toks) (fun _ _ => PyProof.Rows.sortedAll_old) (Nat.le_succ _) ⟨lz, _, ep, refs_are _, he⟩, rfl, q _ (I.hok.fresh (Nat.le_succ _))⟩
  · obtain ⟨its, rv, ⟨o, ho, hc, n, hd⟩, _⟩ := I.tuple hl
    have ei := refs_of rv
    subst ei
    refine Calls.call_function_entry kind_sorted plain_sorted entry_sorted (args_sorted1 _) ?_
    unfold Builtin.«sorted»
    refine wpAny_bind (m := checkCount "sorted" 1 1 _) (wpAny_pure ?_)
    refine wpAny_bind (wpAny_collect_seq (A := X.A.in1) a (.inr rfl) ho hc hd (hsz := by rw [List.size_toArray, List.length_map]; omega) fun h' hk' => ?_)
    have I1 : Inv X pins σ H { s with heap := h' } := I.kept (t' := s.toks) hk'
    rw [show (L.map fun q => Value.ref q.1).toArray.toList = L.map fun q => Value.ref q.1 by simp]
    refine wpAny_bind (wpAny_newList ?_ (by rw [List.length_map]; omega))
    have oL : (h'.push (seqObj "list" (L.map fun q => Value.ref q.1).toArray 0)).get? h'.objs.size = some (seqObj "list" (L.map fun q => Value.ref q.1).toArray 0) := Heap.get?_push_size _ rfl
    have al' : ∀ q ∈ L, ∃ as, Reads (h'.push (seqObj "list" (L.map fun q => Value.ref q.1).toArray 0)) (.ref q.1) (enc q.2) as ∧ h'.objs.size ∉ as := fun q m => by
      obtain ⟨as, r1⟩ := Dp.reads I1 (enc q.2) (.ref q.1) (.ref q.1) (hk q m) rfl
      refine ⟨as, PyProof.Rows.Reads.keeps (fun b u e => Heap.get?_push_of_some _ e) r1, fun z => ?_⟩
      obtain ⟨o2, e2⟩ := reads_in r1 _ z
      exact absurd (Heap.lt_size e2) (Nat.lt_irrefl _)
    refine wpAny_bind (wpAny_holding (list_sort_data (s := { s with heap := h'.push (seqObj "list" (L.map fun q => Value.ref q.1).toArray 0) }) (R := fun v q => v = Value.ref q.1) (enc := fun q : Addr × β => enc q.2) (bs := L) oL (each _ L fun q _ => rfl)
      (each _ L al') al so (by omega) (fun b m => by have z := dp b m; have y : X.A.in1.units ≤ X.A.units + 1 := (by simp only [Around.in1]; omega); omega) fun out lo eo => ?_))
    have eo' := eout eo
    subst eo'
    obtain ⟨c, hc2⟩ := sortedHeap_at (vs := L.map fun q => Value.ref q.1) (out := (List.toArray ((L.mergeSort (dataLe false fun q => enc q.2)).map fun q => Value.ref q.1))) oL
    have kp2 : ∀ b u, h'.get? b = some u → (sortedHeap (h'.push (seqObj "list" (L.map fun q => Value.ref q.1).toArray 0)) h'.objs.size (L.map fun q => Value.ref q.1) (List.toArray ((L.mergeSort (dataLe false fun q => enc q.2)).map fun q => Value.ref q.1))).get? b = some u := fun b u z => by
      have lt := Heap.lt_size z
      rw [sortedHeap_old (Nat.ne_of_lt lt) (by rw [size_push']; exact Nat.lt_succ_of_lt lt)]
      exact Heap.get?_push_of_some _ z
    refine wpAny_pure ⟨_, rfl, ?_⟩
    exact ⟨.ref h'.objs.size, upd H h'.objs.size (.lst ((L.mergeSort (dataLe false fun q => enc q.2)).map fun q => V.ref q.1)), I1.laid (t' := s.toks) kp2 (Nat.le_refl _) ⟨lz, _, c, refs_are _, hc2⟩, rfl, q _ (I1.hok.fresh (Nat.le_refl _))⟩
/-- what is sorted, without the places -/
theorem sort_snd (L : List (Addr × β)) : (L.mergeSort (dataLe false fun q => enc q.2)).map Prod.snd = (L.map Prod.snd).mergeSort (dataLe false enc) := List.map_mergeSort fun _ _ _ _ => rfl
end
/-! ### {k: v for ..}, the keys nested tuples, each new -/
/-- in each block of a comprehension -/
abbrev Blks (X : Cx) (scope : Scope) (p : Cx → Prop) : Prop := ∀ (s : Shared) (H : Hp) (C : Addr) (cl : List (PySem.Str × Addr)) (fp : List Addr), p (X.blk s H scope (compEnvC scope cl C X.env) fp)
section
variable {X : Cx} {pins : List (Addr × Obj)} {σ : L2.St} {H : Hp} {s : Shared}
theorem put_okV {E : Value → Shared → Prop} {D b : Addr} {L : List VRow} {k : NestedKey} {v : V} {r : Value} {Q : Unit → Shared → Prop} (hu : X.A.units + 64 < cLine) (I : Inv X pins σ H s) (hD : H D = some (VDict X.prog X.w D L)) (ks : VKeys H L) (hb : NqV H (.ref b) k) (hd : k.depth ≤ 8) (hn : valW L k = none) (few : L.length < 1000) (rv : RelV v r)
    (h : ∀ s', Inv X pins σ (upd H D (VDict X.prog X.w D (L ++ [(k, b, v)]))) s' → Q () s') : wpAny (model X.prog X.w) X.A (dictSet D (.ref b) r) Q E s := by
  obtain ⟨xs, Dd, rr, lo, _⟩ := vdict_rd I hD ks
  have lx : L.length = xs.length := Paired.length rr
  have big := sizeLine_eq
  refine wpAny_dictSet_heap (knd := nestedKind X.prog X.w) (hsz := by omega) (show X.A.units + 8 < cLine by omega) ⟨nq_is I k hb rfl, hd⟩ Dd fun h' D2 sb => h _ ?_
  have VH := vheld_put rr rv lo hn few D2
  obtain ⟨_, o2, _, _, g1, _⟩ := id VH
  exact d_write I (by rw [hD]; exact True.intro) sb ⟨o2, g1⟩ (vdict_ok VH)
end
section
variable {X : Cx}
/-- {key: val for ta in ia}, the key a nested tuple: D the new dict -/
def tDcV (P : Program) (w : World) (wa : TI) (ga : TG) (tk tv : TE) (vs : List Nat) : TE := fun σ H Q => wa σ H fun J H1 => ∀ D, H1 D = none → ∃ W : Nat → Nat → Hp → Prop, (∃ m, W 0 m (upd H1 D (VDict P w D []))) ∧ ∀ i m H2, W i m H2 →
  (J.stop i H2 ∧ Q (.ref D) H2) ∨ (J.go i H2 ∧ ∃ Nx : Hp → Prop, (∀ H3, Nx H3 → ∃ m', m' < m ∧ W (i + 1) m' H3) ∧ ∀ x H3, J.yld i H2 x H3 → ga x (wipe σ vs) H3 fun σ4 H4 => wipe σ4 vs = wipe σ vs ∧ tk σ4 H4 fun y H5 => tv σ4 H5 fun z H6 =>
    ∃ (L : List VRow) (k : NestedKey) (b : Addr), y = .ref b ∧ NqV H6 (.ref b) k ∧ k.depth ≤ 8 ∧ H6 D = some (VDict P w D L) ∧ VKeys H6 L ∧ valW L k = none ∧ L.length < 1000 ∧ Nx (upd H6 D (VDict P w D (L ++ [(k, b, z)]))))
theorem pe_dcV {kx vx ta ia : Expr} {scope : Scope} {own : List (PySem.Str × Nat)} {pos : Pos} {wa : TI} {ga : TG} {tk tv : TE} (hc : X.calm = true) (hN : X.N.Nodup) (hu : X.A.units + 64 < cLine) (hia : PI X ta ia wa) (ok : BlkOk X.N X.env.scope scope own)
    (hga : Blks X scope fun Y => PG Y ta ga) (hk : Blks X scope fun Y => PE Y kx tk) (hv : Blks X scope fun Y => PE Y vx tv) (pa : ∀ x, foldedSetIterable ia X.env x = pure x := by intro _; rfl) :
    PE X (.DictComp kx vx [⟨ta, ia, [], 0⟩] scope pos) (tDcV X.prog X.w wa ga tk tv (own.map (·.2))) := by
  refine ⟨fun pins s σ H Q I h => ?_⟩
  rw [arm_eval_DictComp]
  have caught : ∀ y ∈ scope.names, y.2 = .free → ∃ c, X.env.cells.lookup y.1 = some c := fun y m e => (ok.free y m e).elim (fun k => I.ok.has _ (.inl k)) (fun k => I.ok.has _ (.inr k))
  refine wpAny_comprehension_free (use := none) rfl pa (closure_ok caught) ok.kind (fun y m e => by rw [ok.uniq y m, e]) (thn (hia.run pins s σ H _ I h) fun xv s1 hx => thn hx fun itv s2 h2 => ?_)
  obtain ⟨it, fp, tn, J, H2, rfl, I2, T, st2, f2, q⟩ := h2
  refine wpAny_newObj_type (newEnv_comp ?_)
  generalize eD : s2.heap.objs.size = D
  have D0 : H2 D = none := I2.hok.fresh (Nat.le_of_eq eD)
  obtain ⟨W, ⟨m0, w0⟩, turn⟩ := q D D0
  generalize e3 : ({ s2 with heap := s2.heap.push { cls := .type "dict", data := .dict #[] } } : Shared) = s3
  have hp3 : s3.heap = s2.heap.push { cls := .type "dict", data := .dict #[] } := by rw [← e3]
  have I3 : Inv X pins σ (upd H2 D (VDict X.prog X.w D [])) s3 := by
    rw [← e3]
    refine I2.laid (t' := s2.toks) (fun b o e => Heap.get?_push_of_some _ e) (Nat.le_of_eq eD) ?_
    rw [← eD]
    exact vdict_ok (vheld_new s2.heap I2.big)
  have low : ∀ b ∈ fp, b < s2.heap.objs.size := fun b m => by
    obtain ⟨o, e, _⟩ := T.obj _ _ st2 b m
    exact Heap.lt_size e
  have f3 : ∀ b ∈ fp, FpOk X pins (upd H2 D (VDict X.prog X.w D [])) b ∧ b < s3.heap.objs.size := fun b m => by
    refine ⟨⟨?_, (f2 b m).2⟩, by rw [hp3, Heap.size_push]; exact Nat.lt_succ_of_lt (low b m)⟩
    rw [upd_ne (by rw [← eD]; exact Nat.ne_of_lt (low b m))]
    exact (f2 b m).1
  have st3 : tn 0 s3.heap := T.keep _ _ _ st2 fun b _ o e => by rw [hp3]; exact Heap.get?_push_of_some _ e
  have I4 := block_start I3 ok hN f3
  have ga4 := hga s3 (upd H2 D (VDict X.prog X.w D [])) s3.heap.objs.size (cellsFrom (s3.heap.objs.size + 1) scope.names (cloFrom X.env.cells scope.names [])) fp
  have k4 := hk s3 (upd H2 D (VDict X.prog X.w D [])) s3.heap.objs.size (cellsFrom (s3.heap.objs.size + 1) scope.names (cloFrom X.env.cells scope.names [])) fp
  have v4 := hv s3 (upd H2 D (VDict X.prog X.w D [])) s3.heap.objs.size (cellsFrom (s3.heap.objs.size + 1) scope.names (cloFrom X.env.cells scope.names [])) fp
  show codeAny _ _ (.compStart (.DictComp kx vx [⟨ta, ia, [], 0⟩] scope pos) 0 (.ref it) (.ref D) (compEnvC scope (cellsFrom (s3.heap.objs.size + 1) scope.names (cloFrom X.env.cells scope.names [])) s3.heap.objs.size X.env)) (compPost (model X.prog X.w) X.A X.xe none _ (.ref D) s3.heap.objs.size) { s3 with heap := pushCells (s3.heap.push { cls := .type "dict", data := .dict #[] }) scope.names }
  have fp0 : ∀ b ∈ fp, (upd H2 D (VDict X.prog X.w D [])) b = none := fun b m => (f3 b m).1.1
  generalize ece : compEnvC scope (cellsFrom (s3.heap.objs.size + 1) scope.names (cloFrom X.env.cells scope.names [])) s3.heap.objs.size X.env = ce at I4 ga4 k4 v4 ⊢
  have loc : ce.locals = s3.heap.objs.size := by subst ece; rfl
  generalize upd H2 D (VDict X.prog X.w D []) = H3 at I3 I4 ga4 k4 v4 w0 fp0 f3
  generalize e4 : ({ s3 with heap := pushCells (s3.heap.push { cls := .type "dict", data := .dict #[] }) scope.names } : Shared) = s4 at I4 ⊢
  have st4 : tn 0 s4.heap := T.keep _ _ _ st3 fun b _ o e => by rw [← e4]; exact pushCells_keeps _ _ _ _ (Heap.get?_push_of_some _ e)
  have still : ∀ {τ : L2.St} {G : Hp} {u : Shared}, Inv (X.blk s3 H3 scope ce fp) [] τ G u → (∀ b ∈ fp, G b = none) → ∀ b ∈ fp, FpOk (X.blk s3 H3 scope ce fp) [] G b := fun {τ G u} Iu no b m =>
    ⟨no b m, (Iu.ok.exf b m).1, Iu.ok.exfs b m, .inl m, fun x c e => (Iu.ok.exf b m).2 x c e, fun p z => absurd (show p ∈ ([] : List (Addr × Obj)) ++ [] from z) (by simp)⟩
  refine codeAny_compStart_dict ?loop (T.self X.A 0 _ _ _ st4 ?loop)
  refine compLoop_anyD (fun n u => ∃ i G, Inv (X.blk s3 H3 scope ce fp) [] (wipe σ (own.map (·.2))) G u ∧ tn i u.heap ∧ (∀ b ∈ fp, G b = none) ∧ W i n G) (fun n s5 hI => ?_) m0 ⟨0, H3, I4, st4, fp0, w0⟩
  obtain ⟨i, H5, I5, st5, no5, w5⟩ := hI
  rcases turn i n H5 w5 with ⟨stop, fin⟩ | ⟨go, Nx, hNx, step⟩
  · refine thnF (T.done (X.blk s3 H3 scope ce fp) rfl rfl rfl hc i [] s5 _ H5 (fun _ _ => False) I5 (still I5 no5) st5 stop) fun r s6 ⟨hr, I6⟩ => ?_
    subst hr
    have I7 : Inv X pins σ H5 s6 := I3.call' (ch := fp) I6.os I6.base I6.hok I6.bare fun b m => ⟨(f3 b m).1.2.2.2.1, (f3 b m).1.2.1, (f3 b m).1.2.2.2.2.1, (f3 b m).1.2.2.2.2.2⟩
    have none5 : H5 s3.heap.objs.size = none := by
      have z : H5 ce.locals = none := I6.free
      rwa [loc] at z
    obtain ⟨m, hn, _⟩ := I6.loc
    have hn : s6.heap.Ns ce.locals m := hn
    rw [loc] at hn
    obtain ⟨g0, g1, g2, g3, g4, g5⟩ := I3.fpOk (Nat.le_refl _) none5
    exact ⟨m, hn, fun h'' sb => ⟨.ref D, H5, I7.turned (t' := s6.toks) (fun b o ne e => (sb.2 b ne).trans e) g0 g1 g3 g4 g5, rfl, fin⟩⟩
  · refine thnF (T.item (X.blk s3 H3 scope ce fp) rfl rfl rfl hc i [] s5 _ H5 (fun _ _ => False) I5 (still I5 no5) st5 go) fun r s6 ⟨u, hr, h6⟩ => ?_
    subst hr
    refine thnF h6 fun _ s7 ⟨x, H7, I7, r7, y7, st7, no7⟩ => ?_
    have I7p := I7.pinned (still I7 no7) (T.obj _ _ st7)
    refine thnF (ga4.run _ s7 _ H7 x u _ I7p r7 (step x H7 y7)) fun _ s8 ⟨σ8, H8, I8, wp8, q8⟩ => ?_
    refine thnF ((pts_nil (X := X.blk s3 H3 scope ce fp)).run _ s8 σ8 H8 (fun b G => b = true ∧ tk σ8 G _) I8 ⟨rfl, q8⟩) fun b s9 ⟨H9, I9, eb, q9⟩ => ?_
    subst eb
    simp only [if_true]
    refine thnF (k4.run _ s9 σ8 H9 _ I9 q9) fun z1 s10 ⟨yk, H10, I10, r10, q10⟩ => ?_
    refine thnF (v4.run _ s10 σ8 H10 _ I10 q10) fun z2 s11 ⟨yv, H11, I11, r11, L, k, b, ek, hb, hdp, hD, hks, hnew, room, nx⟩ => ?_
    subst ek
    cases r10
    refine put_okV (X := X.blk s3 H3 scope ce fp) hu I11 hD hks hb hdp hnew room r11 fun s12 I12 => ?_
    obtain ⟨m', lt, w'⟩ := hNx _ nx
    have pinned : ∀ c ∈ fp, ∀ o, s7.heap.get? c = some o → s12.heap.get? c = some o ∧ (upd H11 D (VDict X.prog X.w D (L ++ [(k, b, yv)]))) c = none := fun c m o e =>
      have z := I12.pin (c, o) (List.mem_append_right _ (List.mem_append_right _ (mem_pinsAt m e)))
      ⟨z.1, z.2.1⟩
    refine ⟨m', lt, i + 1, _, (I12.unpinned (pins := [])).weak (by rw [← wp8, wipe_length]) (fun j v e => by rw [← wp8] at e; exact (wipe_some e).1), T.keep _ _ _ st7 fun b m o e => (pinned b m o e).1, fun b m => ?_, w'⟩
    obtain ⟨o, e, _⟩ := T.obj _ _ st7 b m
    exact (pinned b m o e).2
theorem pe_dcVP {P : Program} {w : World} {kx vx ta ia : Expr} {scope : Scope} {own : List (PySem.Str × Nat)} {pos : Pos} {wa : TI} {ga : TG} {tk tv : TE} (hc : X.calm = true) (hN : X.N.Nodup) (hu : X.A.units + 64 < cLine) (hia : PI X ta ia wa) (ok : BlkOk X.N X.env.scope scope own)
    (hga : Blks X scope fun Y => PG Y ta ga) (hk : Blks X scope fun Y => PE Y kx tk) (hv : Blks X scope fun Y => PE Y vx tv) (hP : X.prog = P := by rfl) (hw : X.w = w := by rfl) (pa : ∀ x, foldedSetIterable ia X.env x = pure x := by intro _; rfl) :
    PE X (.DictComp kx vx [⟨ta, ia, [], 0⟩] scope pos) (tDcV P w wa ga tk tv (own.map (·.2))) := by
  subst hP hw
  exact pe_dcV hc hN hu hia ok hga hk hv pa
end
/-! ### the same, the program and the world by their own letters -/
section
variable {X : Cx} {P : Program} {w : World} {o i e f value tg : Expr} {pos pos' apos cpos : Pos} {td ty tv tx : TE}
theorem pe_dnewVP (hP : X.prog = P := by rfl) (hw : X.w = w := by rfl) : PE X (.Dict [] [] pos) (tDNewV P w) := by
  subst hP hw
  exact pe_dnewV
theorem op_inVP (hu : X.A.units + 64 < cLine) (hP : X.prog = P := by rfl) (hw : X.w = w := by rfl) : OpR X (compareOp .In) (rInV P w) := by
  subst hP hw
  exact op_inV hu
theorem pe_getVP (hu : X.A.units + 64 < cLine) (ho : PE X o td) (hi : PE X i ty) (hs : NoSl i) (hP : X.prog = P := by rfl) (hw : X.w = w := by rfl) : PE X (.Subscript o i pos) (tGetV P w td ty) := by
  subst hP hw
  exact pe_getV hu ho hi hs
theorem ps_putVP (hu : X.A.units + 64 < cLine) (ho : PE X o td) (hi : PE X i ty) (hv : PE X value tv) (hs : swapsWith value (some (.Subscript o i pos')) pos.line X.env = pure false) (hP : X.prog = P := by rfl) (hw : X.w = w := by rfl) :
    PS X (.Assign [.Subscript o i pos'] value pos) (sPutV P w td ty tv) := by
  subst hP hw
  exact ps_putV hu ho hi hv hs
theorem pe_setdVP (hu : X.A.units + 64 < cLine) (ho : PE X o td) (he : PE X e ty) (hf : PE X f tx) (m : M2 X o "setdefault" apos e f cpos) (hP : X.prog = P := by rfl) (hw : X.w = w := by rfl) : PE X (.Call (.Attribute o "setdefault" apos) [e, f] [] cpos) (tSetdV P w td ty tx) := by
  subst hP hw
  exact pe_setdV hu ho he hf m
theorem pi_valuesVP (he : PE X e td) (hP : X.prog = P := by rfl) (hw : X.w = w := by rfl) (hbase : attributeBase e "values" X.env (eval e X.env) = eval e X.env := by rfl) (hline : (apos.endLine == cpos.line) = true := by rfl) : PI X tg (.Call (.Attribute e "values" apos) [] [] cpos) (iValsV P w td) := by
  subst hP hw
  exact pi_valuesV he hbase hline
end
end Kd

-- ===== M59A =====
set_option Elab.async false
set_option linter.all false
set_option maxRecDepth 100000
set_option maxHeartbeats 4000000
namespace My
open PySem L2
def top (i : Nat) : Stmt := PySem.Challenge.pw_mustwait_k59_modes.main.body.getD i (.Pass ⟨0, 0, 0, 0⟩)
abbrev sModes : Stmt := top 1
abbrev sDeck : Stmt := top 3
abbrev sDraw : Stmt := top 4
abbrev sPick : Stmt := top 5
abbrev sMenu : Stmt := top 6
abbrev sDrawn : Stmt := top 7
abbrev sTurned : Stmt := top 8
abbrev sAlike : Stmt := top 9
abbrev sDue : Stmt := top 10
abbrev sLaw : Stmt := top 11

/-- bits of the script's numbers -/
def Bits (ks : List Int) : Prop := ∀ k ∈ ks, Builtin.Int.intBits k ≤ 1048576
/-- the deck's dict -/
abbrev kCells : Key := Sum.inr (Str.ofString "cells")
abbrev kTotal : Key := Sum.inr (Str.ofString "total")
abbrev kDraws : Key := Sum.inr (Str.ofString "draws")
theorem k_ct : ¬ kCells = kTotal := by decide
theorem k_cd : ¬ kCells = kDraws := by decide
theorem k_td : ¬ kTotal = kDraws := by decide
def dkOf (c : Addr) (w n : Int) : List (Key × V) := [(kCells, .ref c), (kTotal, .int w), (kDraws, .int n)]
theorem dk_cells (c : Addr) (w n : Int) : valV (dkOf c w n) kCells = some (.ref c) := by
  unfold dkOf
  rw [valV_pos rfl]
theorem dk_total (c : Addr) (w n : Int) : valV (dkOf c w n) kTotal = some (.int w) := by
  unfold dkOf
  rw [valV_neg k_ct, valV_pos rfl]
theorem dk_draws (c : Addr) (w n : Int) : valV (dkOf c w n) kDraws = some (.int n) := by
  unfold dkOf
  rw [valV_neg k_cd, valV_neg k_td, valV_pos rfl]
theorem dk_put (c : Addr) (w n m : Int) : putK (dkOf c w n) kDraws (.int m) = dkOf c w m := by
  have h1 := k_cd
  have h2 := k_td
  unfold dkOf putK
  simp [h1, h2]
theorem dk_merge (c : Addr) (w n : Int) : mergeK [] (dkOf c w n) = dkOf c w n := by
  have h1 := k_cd
  have h2 := k_td
  have h3 := k_ct
  unfold dkOf mergeK putK
  simp [h1, h2, h3]
theorem dk_len (c : Addr) (w n : Int) : (dkOf c w n).length = 3 := rfl
theorem dk_get {H : Hp} {p c : Addr} {w n : Int} {k : Key} {v : V} (h : H p = some (.dK (dkOf c w n))) (e : valV (dkOf c w n) k = some v) : DGet H p (kV k) (some v) := by
  rw [← e]
  exact DGet.k h
/-- a deck at p: its numbers at c, the mixed number, how many draws there were -/
structure FeedAt (H : Hp) (p c : Addr) (ks : List Int) (w n : Int) : Prop where
  ob : H p = some (.dK (dkOf c w n))
  cs : H c = some (.lst (ks.map V.int))
  bits : Bits ks
  len : ks.length ≤ 63
  w0 : 0 ≤ w
  w1 : w < 2147483648
  n0 : 0 ≤ n
theorem FeedAt.ne {H : Hp} {p c : Addr} {ks : List Int} {w n : Int} (F : FeedAt H p c ks w n) : c ≠ p := by
  intro e
  have h1 := F.ob
  have h2 := F.cs
  rw [e, h1] at h2
  cases h2
/-- all that was tracked is as it was, but for these two -/
def Save (p c : Addr) (H H' : Hp) : Prop := ∀ b o, H b = some o → b ≠ p → b ≠ c → H' b = some o
theorem Save.refl (p c : Addr) (H : Hp) : Save p c H H := fun _ _ h _ _ => h
theorem Save.trans {p c : Addr} {H H1 H2 : Hp} (a : Save p c H H1) (b : Save p c H1 H2) : Save p c H H2 := fun x o h h1 h2 => b x o (a x o h h1 h2) h1 h2
theorem Save.of {p c : Addr} {H H1 : Hp} (a : Same H H1) : Save p c H H1 := fun x o h _ _ => a x o h

/-- _law_deck(script): a new deck -/
def spFeed (K : PySem.W.Frag) : Sp := fun vs H Q _ => ∃ (a : Addr) (ns : List Int), vs = [.ref a] ∧ SqL K H a (ns.map V.int) ∧ ns.length ≤ 63 ∧ Bits ns ∧
  ∀ (p c : Addr) (ks : List Int) (w : Int) (H' : Hp), Same H H' → H p = none → H c = none → FeedAt H' p c ks w 0 → Q (.ref p) H'
/-- _law_draw(deck, many): a number below many -/
def spDigit : Sp := fun vs H Q _ => ∃ (p c : Addr) (ks : List Int) (w n m : Int), vs = [.ref p, .int m] ∧ FeedAt H p c ks w n ∧ n < 1000000 ∧ 0 < m ∧ m < 1000000 ∧
  ∀ (i : Int) (ks' : List Int) (H' : Hp), 0 ≤ i → i < m → FeedAt H' p c ks' w (n + 1) → Save p c H H' → Q (.int i) H'

theorem cut63 (xs : List V) : cutV xs none (some (63 : Int)) = xs.take 63 := by
  unfold cutV HT.sIx
  simp [List.take_eq_take_min]
theorem lay_ints : ∀ ks : List Int, PyData.canLayAll0 (ks.map PyData.int) = true
  | [] => by simp only [List.map_nil, PyData.canLayAll0]
  | k :: r => by simp only [List.map_cons, PyData.canLayAll0, PyData.canLay0, lay_ints r, Bool.and_self]
theorem deep_ints : ∀ ks : List Int, PyData.depthAll (ks.map PyData.int) ≤ 1
  | [] => by simp only [List.map_nil, PyData.depthAll]; omega
  | k :: r => by
    have ih := deep_ints r
    simp only [List.map_cons, PyData.depthAll, PyData.depth]
    omega
theorem shaped_ints (ks : List Int) : SeqAt.shaped (.list (ks.map PyData.int)) = true := by
  have h := deep_ints ks
  unfold SeqAt.shaped
  rw [Bool.and_eq_true]
  refine ⟨by simp only [PyData.canLay0, lay_ints], decide_eq_true ?_⟩
  simp only [PyData.depth]
  omega
theorem dp_ints {K : PySem.W.Frag} {H : Hp} : ∀ ks : List Int, DpAll K H (ks.map V.int) (ks.map PyData.int)
  | [] => .nil
  | k :: r => .cons (.int k) (dp_ints r)
theorem some_ints : ∀ (ks : List Int) (z : Int), PyData.eqv (.list ((ks ++ [z]).map PyData.int)) (.list []) = false
  | [], z => by simp [PyData.eqv, PyData.eqvAll]
  | k :: r, z => by simp [PyData.eqv, PyData.eqvAll]
theorem bits_mono {i j : Int} (h0 : 0 ≤ i) (h : i ≤ j) : Builtin.Int.intBits i ≤ Builtin.Int.intBits j := by
  unfold Builtin.Int.intBits
  by_cases e : i = 0
  · subst e
    simp
  · have ej : ¬ j = 0 := by omega
    have e1 : (i == 0) = false := by simpa using e
    have e2 : (j == 0) = false := by simpa using ej
    rw [e1, e2]
    have h2 : i.natAbs ≤ j.natAbs := by omega
    have h3 : i.natAbs ≠ 0 := by omega
    have h4 : j.natAbs ≠ 0 := by omega
    have := (Nat.le_log2 h4).mpr (Nat.le_trans (Nat.log2_self_le h3) h2)
    simp
    exact this
section
variable {P : Program} {w : World} {K : PySem.W.Frag} {mg : Str → Option Value} {base : Heap}
theorem scF : FnScope ["_law_script", "_law_cells", "_law_total", "_law_chunk"] ["_law_script"] (defScope sDeck) := ⟨rfl, rfl, rfl, by decide +kernel, rfl, by decide +kernel, by decide +kernel⟩
theorem ok_feed {f : Addr} {fd : FuncData} (F : Fun K "_law_deck" "_law_deck" sDeck f fd) (mlist : mg "list" = none) : FnOk P w K mg base CX0 1 f fd ["_law_script"] (spFeed K) := by
  refine F.ok scF (fun vs H Q E h => ?_) (fun cdv A outer s H vs Q E hr h => ?_)
  · obtain ⟨a, ns, rfl, _⟩ := h
    rfl
  · obtain ⟨a, ns, rfl, hS, hlen, hbits, k⟩ := h
    refine ⟨_, pss_cons (ps_par (i := 1) (j := 2) rfl scF.nd rfl rfl (by decide) rfl rfl
        (pa_cons (pe_callTy call_list_of (by rfl) mlist (by decide +kernel) (pa_cons (pe_slice sl_list (pv 0) po_none (po_some pe_int)) pa_nil)) (pa_cons pe_int pa_nil)) (by rfl))
      (pss_cons (ps_for PassesOwn.never rfl (pi_list (pv 1)) (pg_name (i := 3) scF.nd rfl (Or.inl rfl))
        (pss_one (ps_set (i := 2) scF.nd rfl (Or.inl rfl)
          (pe_op op_mod (pe_op op_add (pe_op op_add (pe_op op_mul (pv 2) pe_int) (pe_op op_mod (pv 3) pe_int)) pe_int) pe_int))))
      (pss_one (ps_ret (pe_disp (pps_cons pe_str (pe_revL (pv 1)) (pps_cons pe_str (pv 2) (pps_cons pe_str pe_int pps_nil))) (by rfl) (by rfl) (fun z => by cases z) (by decide))))), ?_⟩
    -- list(script[:63]), 82059
    refine ⟨_, rfl, 63, rfl, a, _, rfl, hS, fun q hq => ⟨q, _, rfl, .inl (SqL.of upd_same), fun l hl => ⟨_, _, rfl, ?_⟩⟩⟩
    have nlq : l ≠ q := fun e => by
      rw [e, upd_same] at hl
      cases hl
    have hl0 : H l = none := by
      rw [upd_ne nlq] at hl
      exact hl
    have s0 : Same H (upd (upd H q (.lst (cutV (ns.map V.int) none (some 63)))) l (.lst (cutV (ns.map V.int) none (some 63)))) := fun b o e => by
      rw [upd_ne (ne_of_none e hl0), upd_ne (ne_of_none e hq)]
      exact e
    have ecut : cutV (ns.map V.int) none (some 63) = (ns.take 63).map V.int := by rw [cut63, List.map_take]
    refine ⟨_, rfl, l, rfl, ⟨_, SqL.of upd_same⟩, for_list (K := K) (a := l) (xs := (ns.take 63).map V.int) (fun i σ H2 => ∃ (y : Int) (v : Option V), σ = [some (.ref a), some (.ref l), some (.int y), v] ∧ 0 ≤ y ∧ y < 2147483587 ∧ Same H H2 ∧ H2 l = some (.lst ((ns.take 63).map V.int)))
      ⟨82059, none, rfl, by decide, by decide, s0, by rw [upd_same, ecut]⟩ (fun i σ H2 _ ⟨_, _, _, _, _, _, e⟩ => SqL.of e) ?_ ?_⟩
    · rintro i x σ H2 hi ⟨y, v, rfl, y0, y1, s2, hc⟩
      obtain ⟨z, rfl⟩ : ∃ z, x = V.int z := by
        rw [List.getElem?_map] at hi
        cases e : (ns.take 63)[i]? with
        | none =>
          rw [e] at hi
          cases hi
        | some z =>
          rw [e] at hi
          exact ⟨z, (Option.some.inj hi).symm⟩
      refine ⟨_, rfl, _, _, rfl, rfl, .inl ⟨by omega, by omega⟩, _, rfl, _, _, rfl, rfl, (by show (0 : Int) < _; decide), _, _, rfl, rfl, _, _, rfl, rfl, _, _, rfl, rfl, (by show (0 : Int) < _; decide), ?_⟩
      exact ⟨_, _, rfl, Int.emod_nonneg _ (by decide), Int.emod_lt_of_pos _ (by decide), s2, hc⟩
    · rintro σ H2 ⟨y, v, rfl, y0, y1, s2, hc⟩
      intro p hp
      have npl : l ≠ p := ne_of_none hc hp
      refine ⟨_, rfl, l, _, rfl, SqL.of (by rw [upd_ne npl]; exact hc), fun c hcn => ⟨_, rfl, ?_⟩⟩
      have npc : p ≠ c := fun e => by
        rw [← e, upd_same] at hcn
        cases hcn
      have hc0 : H2 c = none := by
        rw [upd_ne (Ne.symm npc)] at hcn
        exact hcn
      refine ⟨by rw [upd_ne npc]; exact upd_same, dkOf c y 0, rfl, by rw [dk_len]; decide, ?_⟩
      rw [dk_merge]
      refine k p c (ns.take 63).reverse y _ (fun b o e => ?_) (s2.free hp) (s2.free hc0) ⟨upd_same, ?_, ?_, ?_, y0, by omega, by decide⟩
      · rw [upd_ne (ne_of_none (s2 b o e) hp), upd_ne (ne_of_none (s2 b o e) hc0), upd_ne (ne_of_none (s2 b o e) hp)]
        exact s2 b o e
      · rw [upd_ne (Ne.symm npc), upd_same, List.map_reverse]
      · exact fun z hz => hbits z (List.mem_of_mem_take (List.mem_reverse.mp hz))
      · rw [List.length_reverse, List.length_take]
        omega
theorem scD : FnScope ["_law_deck_here", "_law_many", "_law_turn", "_law_chunk", "_law_mixed"] ["_law_deck_here", "_law_many"] (defScope sDraw) := ⟨rfl, rfl, rfl, by decide +kernel, rfl, by decide +kernel, by decide +kernel⟩
theorem draw_end {z t : Int} (t0 : 0 ≤ t) (t1 : t < 1000001) : -(2 ^ 64 : Int) < z % 2147483629 + 61379 * t * t + 83 ∧ z % 2147483629 + 61379 * t * t + 83 < 2 ^ 64 := by
  have b0 := Int.emod_nonneg z (show (2147483629 : Int) ≠ 0 by decide)
  have b1 := Int.emod_lt_of_pos z (show (0 : Int) < 2147483629 by decide)
  have h1 : 0 ≤ 61379 * t * t := Int.mul_nonneg (by omega) t0
  have h2 : 61379 * t * t ≤ 61379 * 1000001 * 1000001 := Int.mul_le_mul (by omega) (by omega) t0 (by omega)
  constructor <;> omega
theorem ok_digit {f : Addr} {fd : FuncData} (F : Fun K "_law_draw" "_law_draw" sDraw f fd) : FnOk P w K mg base CX0 1 f fd ["_law_deck_here", "_law_many"] spDigit := by
  refine F.ok scD (fun vs H Q E h => ?_) (fun cdv A outer s H vs Q E hr h => ?_)
  · obtain ⟨p, c, ks, y, n, m, rfl, _⟩ := h
    rfl
  · obtain ⟨p, c, ks, y, n, m, rfl, FA, hn, m0, m1, k⟩ := h
    have hu := hu_of hr
    have ncp := FA.ne
    have w0 := FA.w0
    have w1 := FA.w1
    have n0 := FA.n0
    refine ⟨_, pss_cons (ps_par (i := 2) (j := 3) rfl scD.nd rfl rfl (by decide) rfl rfl (pa_cons (pe_op op_add (pe_dget hu (pv 0) pe_str (fun _ _ => rfl)) pe_int) (pa_cons (pe_dget hu (pv 0) pe_str (fun _ _ => rfl)) pa_nil)) (by rfl))
      (pss_cons (ps_dput hu (pv 0) pe_str (pv 2) (by rfl))
      (pss_cons (ps_if (pt_cmpR (op_neD hr.units) (pe_dget hu (pv 0) pe_str (fun _ _ => rfl)) (pe_lst pa_nil) (nomark _))
        (pss_cons (ps_set (i := 3) scD.nd rfl (Or.inl rfl) (pe_bm0 PySem.F.plainAttrs_list PySem.F.slot_list_pop PySem.F.type_list_pop mt_pop (pe_dget hu (pv 0) pe_str (fun _ _ => rfl))))
        (pss_cons (ps_if (pt_cmpR op_ge (pv 3) (pe_op op_pow pe_int pe_int) (nomark _))
          (pss_cons (ps_expr (pe_bm PySem.F.plainAttrs_list PySem.F.slot_list_append PySem.F.type_list_append mt_append (pe_dget hu (pv 0) pe_str (fun _ _ => rfl)) (pa_cons (pe_op op_fdivW (pv 3) (pv 1)) pa_nil)))
          (pss_one (ps_ret (pe_op op_mod (pv 3) (pv 1))))) pss_nil)
        (pss_one (ps_set (i := 3) scD.nd rfl (Or.inl rfl) (pe_op op_add (pv 3) (pe_dget hu (pv 0) pe_str (fun _ _ => rfl))))))) pss_nil)
      (pss_cons (ps_set (i := 4) scD.nd rfl (Or.inl rfl) (pe_op op_mod (pe_op op_mul (pe_op op_add (pe_op op_add (pe_op op_mod (pv 3) pe_int) (pe_op op_mul (pe_op op_mul pe_int (pv 2)) (pv 2))) pe_int) pe_int) pe_int))
      (pss_cons (ps_set (i := 4) scD.nd rfl (Or.inl rfl) (pe_op op_mod (pe_op op_add (pe_op op_add (pe_op op_mul (pv 4) (pv 4)) (pe_op op_mul pe_int (pv 2))) pe_int) pe_int))
      (pss_one (ps_ret (pe_op op_mod (pe_op op_fdiv (pe_op op_mod (pe_op op_mul (pv 4) pe_int) pe_int) pe_int) (pv 1)))))))), ?_⟩
    -- turn, chunk = deck['draws'] + 1, deck['total']
    refine ⟨_, rfl, p, _, rfl, dk_get FA.ob (dk_draws c y n), _, _, rfl, rfl, _, rfl, p, _, rfl, dk_get FA.ob (dk_total c y n), _, _, rfl, ?_⟩
    -- deck['draws'] = turn
    refine ⟨_, rfl, _, rfl, p, _, rfl, DPut.k (k := kDraws) FA.ob (by rw [dk_len, sizeLine_eq]; decide), ?_⟩
    rw [dk_put]
    have hp1 : (upd H p (.dK (dkOf c y (n + 1)))) p = some (.dK (dkOf c y (n + 1))) := upd_same
    have hc1 : (upd H p (.dK (dkOf c y (n + 1)))) c = some (.lst (ks.map V.int)) := by
      rw [upd_ne ncp]
      exact FA.cs
    have sv1 : Save p c H (upd H p (.dK (dkOf c y (n + 1)))) := fun b o e h1 _ => by
      rw [upd_ne h1]
      exact e
    generalize upd H p (.dK (dkOf c y (n + 1))) = H1 at hp1 hc1 sv1 ⊢
    -- if deck['cells'] != []
    refine ⟨_, rfl, p, _, rfl, dk_get hp1 (dk_cells c y _), by show 0 ≤ sizeLine; decide, fun e he => ?_⟩
    refine ⟨.list (ks.map PyData.int), .list [], .lst (SqL.of (by rw [upd_ne (ne_of_none hc1 he)]; exact hc1)) (dp_ints ks), .lst (SqL.of upd_same) .nil, shaped_ints ks, by decide, _, rfl, ?_⟩
    have nce : c ≠ e := ne_of_none hc1 he
    have npe : p ≠ e := ne_of_none hp1 he
    have hp2 : (upd H1 e (.lst [])) p = some (.dK (dkOf c y (n + 1))) := by
      rw [upd_ne npe]
      exact hp1
    have hc2 : (upd H1 e (.lst [])) c = some (.lst (ks.map V.int)) := by
      rw [upd_ne nce]
      exact hc1
    have sv2 : Save p c H (upd H1 e (.lst [])) := fun b o q h1 h2 => by
      have q1 := sv1 b o q h1 h2
      rw [upd_ne (ne_of_none q1 he)]
      exact q1
    generalize upd H1 e (.lst []) = H2 at hp2 hc2 sv2 ⊢
    have hbit := FA.bits
    have hlen := FA.len
    clear FA
    have t0 : 0 ≤ n + 1 := by omega
    have t1 : n + 1 < 1000001 := by omega
    have fin : ∀ (z : Int) (ks' : List Int) (H3 : Hp), H3 p = some (.dK (dkOf c y (n + 1))) → H3 c = some (.lst (ks'.map V.int)) → Save p c H H3 → Bits ks' → ks'.length ≤ 63 →
        (Q (.int ((((z % 2147483629 + 61379 * (n + 1) * (n + 1) + 83) * 40692 % 2147483647) * ((z % 2147483629 + 61379 * (n + 1) * (n + 1) + 83) * 40692 % 2147483647) + 69941 * (n + 1) + 41) % 2147483587 * 39373 % 2147483563 / 64 % m)) H3) := fun z ks' H3 h1 h2 sv hb hl =>
      k _ ks' H3 (Int.emod_nonneg _ (by omega)) (Int.emod_lt_of_pos _ m0) ⟨h1, h2, hb, hl, w0, w1, by omega⟩ sv
    rcases List.eq_nil_or_concat ks with rfl | ⟨r, z, rfl⟩
    · have hb : (!PyData.eqv (.list (([] : List Int).map PyData.int)) (.list [])) = false := by decide
      rw [hb]
      refine iteF ?_
      have be := draw_end (z := y) t0 t1
      refine ⟨_, rfl, _, _, rfl, rfl, (by show (0 : Int) < _; decide), _, rfl, _, _, rfl, rfl, .inl ⟨by decide, by decide⟩, _, rfl, _, _, rfl, rfl, .inl ⟨by omega, by omega⟩, _, _, rfl, rfl, _, _, rfl, rfl, _, _, rfl, rfl, .inl be, _, _, rfl, rfl, (by show (0 : Int) < _; decide), ?_⟩
      have b0 := Int.emod_nonneg ((y % 2147483629 + 61379 * (n + 1) * (n + 1) + 83) * 40692) (show (2147483647 : Int) ≠ 0 by decide)
      have b1 := Int.emod_lt_of_pos ((y % 2147483629 + 61379 * (n + 1) * (n + 1) + 83) * 40692) (show (0 : Int) < 2147483647 by decide)
      have fz := fin y [] H2 hp2 hc2 sv2 hbit hlen
      generalize (y % 2147483629 + 61379 * (n + 1) * (n + 1) + 83) * 40692 % 2147483647 = g at b0 b1 ⊢
      refine ⟨_, rfl, _, rfl, _, _, rfl, rfl, .inl ⟨by omega, by omega⟩, _, rfl, _, _, rfl, rfl, .inl ⟨by decide, by decide⟩, _, _, rfl, rfl, _, _, rfl, rfl, _, _, rfl, rfl, (by show (0 : Int) < _; decide), ?_⟩
      have d0 := Int.emod_nonneg (g * g + 69941 * (n + 1) + 41) (show (2147483587 : Int) ≠ 0 by decide)
      have d1 := Int.emod_lt_of_pos (g * g + 69941 * (n + 1) + 41) (show (0 : Int) < 2147483587 by decide)
      generalize (g * g + 69941 * (n + 1) + 41) % 2147483587 = j at d0 d1 ⊢
      refine ⟨_, rfl, _, _, rfl, rfl, .inl ⟨by omega, by omega⟩, _, _, rfl, rfl, (by show (0 : Int) < _; decide), _, _, rfl, rfl, ⟨by decide, by decide⟩, _, rfl, _, _, rfl, rfl, m0, fz⟩
    · rw [List.concat_eq_append] at hc2 hbit hlen ⊢
      have hb : (!PyData.eqv (.list ((r ++ [z]).map PyData.int)) (.list [])) = true := by rw [some_ints] <;> rfl
      rw [hb]
      refine iteT ?_
      rw [List.map_append] at hc2
      have hc2' : H2 c = some (.lst (r.map V.int ++ [V.int z])) := hc2
      have hbr : Bits r := fun v hv => hbit v (List.mem_append_left _ hv)
      have hbz : Builtin.Int.intBits z ≤ 1048576 := hbit z (List.mem_append_right _ List.mem_cons_self)
      have hlr : r.length + 1 ≤ 63 := by
        rw [List.length_append] at hlen
        exact hlen
      refine ⟨_, rfl, p, _, rfl, dk_get hp2 (dk_cells c y _), .inl ⟨rfl, _, SqL.of hc2'⟩, c, _, .int z, rfl, rfl, hc2', by simp, ?_⟩
      rw [List.dropLast_concat]
      have hp3 : (upd H2 c (.lst (r.map V.int))) p = some (.dK (dkOf c y (n + 1))) := by
        rw [upd_ne (Ne.symm ncp)]
        exact hp2
      have hc3 : (upd H2 c (.lst (r.map V.int))) c = some (.lst (r.map V.int)) := upd_same
      have sv3 : Save p c H (upd H2 c (.lst (r.map V.int))) := fun b o q h1 h2 => by
        rw [upd_ne h2]
        exact sv2 b o q h1 h2
      generalize upd H2 c (.lst (r.map V.int)) = H3 at hp3 hc3 sv3 ⊢
      -- if chunk >= 10 ** 18
      refine ⟨_, rfl, _, _, rfl, rfl, ⟨by decide, by decide, by decide⟩, _, _, rfl, rfl, _, rfl, ?_⟩
      by_cases big : (10 : Int) ^ ((18 : Int).toNat) ≤ z
      · rw [decide_eq_true big]
        refine iteT ?_
        have zb : (0 : Int) ≤ z := Int.le_trans (by decide) big
        refine ⟨_, rfl, p, _, rfl, dk_get hp3 (dk_cells c y _), .inl ⟨rfl, _, SqL.of hc3⟩, _, rfl, _, rfl, _, _, rfl, rfl, wide_div m0 (b := 30) (by omega) (by decide) (by decide), c, _, _, rfl, rfl, hc3, small1000 (by rw [List.length_map]; omega), ?_⟩
        refine ⟨_, rfl, _, rfl, _, _, rfl, rfl, m0, ?_⟩
        refine k _ (r ++ [z / m]) _ (Int.emod_nonneg _ (by omega)) (Int.emod_lt_of_pos _ m0) ⟨by rw [upd_ne (Ne.symm ncp)]; exact hp3, by rw [upd_same, List.map_append] <;> rfl, fun v hv => ?_, by rw [List.length_append]; exact hlr, w0, w1, by omega⟩ fun b o q h1 h2 => ?_
        · rcases List.mem_append.mp hv with hv | hv
          · exact hbr v hv
          · obtain rfl : v = z / m := by simpa using hv
            exact Nat.le_trans (bits_mono (Int.ediv_nonneg zb (by omega)) (Int.ediv_le_self _ zb)) hbz
        · rw [upd_ne h2]
          exact sv3 b o q h1 h2
      · rw [decide_eq_false big]
        refine iteF ?_
        refine ⟨_, rfl, _, rfl, p, _, rfl, dk_get hp3 (dk_total c y _), _, _, rfl, rfl, ?_⟩
        have be := draw_end (z := z + y) t0 t1
        refine ⟨_, rfl, _, _, rfl, rfl, (by show (0 : Int) < _; decide), _, rfl, _, _, rfl, rfl, .inl ⟨by decide, by decide⟩, _, rfl, _, _, rfl, rfl, .inl ⟨by omega, by omega⟩, _, _, rfl, rfl, _, _, rfl, rfl, _, _, rfl, rfl, .inl be, _, _, rfl, rfl, (by show (0 : Int) < _; decide), ?_⟩
        have b0 := Int.emod_nonneg (((z + y) % 2147483629 + 61379 * (n + 1) * (n + 1) + 83) * 40692) (show (2147483647 : Int) ≠ 0 by decide)
        have b1 := Int.emod_lt_of_pos (((z + y) % 2147483629 + 61379 * (n + 1) * (n + 1) + 83) * 40692) (show (0 : Int) < 2147483647 by decide)
        have fz := fin (z + y) r H3 hp3 hc3 sv3 hbr (by omega)
        generalize ((z + y) % 2147483629 + 61379 * (n + 1) * (n + 1) + 83) * 40692 % 2147483647 = g at b0 b1 ⊢
        refine ⟨_, rfl, _, rfl, _, _, rfl, rfl, .inl ⟨by omega, by omega⟩, _, rfl, _, _, rfl, rfl, .inl ⟨by decide, by decide⟩, _, _, rfl, rfl, _, _, rfl, rfl, _, _, rfl, rfl, (by show (0 : Int) < _; decide), ?_⟩
        have d0 := Int.emod_nonneg (g * g + 69941 * (n + 1) + 41) (show (2147483587 : Int) ≠ 0 by decide)
        have d1 := Int.emod_lt_of_pos (g * g + 69941 * (n + 1) + 41) (show (0 : Int) < 2147483587 by decide)
        generalize (g * g + 69941 * (n + 1) + 41) % 2147483587 = j at d0 d1 ⊢
        refine ⟨_, rfl, _, _, rfl, rfl, .inl ⟨by omega, by omega⟩, _, _, rfl, rfl, (by show (0 : Int) < _; decide), _, _, rfl, rfl, ⟨by decide, by decide⟩, _, rfl, _, _, rfl, rfl, m0, fz⟩
end
end My

-- ===== M59D =====
set_option Elab.async false
set_option linter.all false
set_option maxRecDepth 100000
set_option maxHeartbeats 4000000
namespace My
open PySem L2 PyProof.Rows PySem.Spec
/-! ### data, apart from two addresses -/
mutual
/-- v is the data d; F holds of where its objects stand -/
inductive Dq (F : Addr → Prop) (H : Hp) : V → PyData → Prop
  | non : Dq F H .non .none
  | bl (b : Bool) : Dq F H (.bl b) (.bool b)
  | int (i : Int) : Dq F H (.int i) (.int i)
  | str (x : Str) : Dq F H (.str x) (.str x)
  | lst {a : Addr} {xs : List V} {ds : List PyData} : sysModules < a → F a → H a = some (.lst xs) → DqAll F H xs ds → Dq F H (.ref a) (.list ds)
  | tup {a : Addr} {xs : List V} {ds : List PyData} : F a → H a = some (.tup xs) → DqAll F H xs ds → Dq F H (.ref a) (.tuple ds)
  | dct {a : Addr} {k : Str} {v : V} {d : PyData} : F a → H a = some (.dK [(Sum.inr k, v)]) → Dq F H v d → Dq F H (.ref a) (.dict [(.str k, d)])
inductive DqAll (F : Addr → Prop) (H : Hp) : List V → List PyData → Prop
  | nil : DqAll F H [] []
  | cons {v : V} {vs : List V} {d : PyData} {ds : List PyData} : Dq F H v d → DqAll F H vs ds → DqAll F H (v :: vs) (d :: ds)
end
mutual
/-- .. in another heap, where these objects stand, too; of less -/
theorem Dq.to {F F' : Addr → Prop} {H H' : Hp} (s : ∀ a o, F a → H a = some o → H' a = some o) (m : ∀ a, F a → F' a) : ∀ {v : V} {d : PyData}, Dq F H v d → Dq F' H' v d
  | _, _, .non => .non
  | _, _, .bl b => .bl b
  | _, _, .int i => .int i
  | _, _, .str x => .str x
  | _, _, .lst h1 h2 h4 h5 => .lst h1 (m _ h2) (s _ _ h2 h4) (DqAll.to s m h5)
  | _, _, .tup h2 h4 h5 => .tup (m _ h2) (s _ _ h2 h4) (DqAll.to s m h5)
  | _, _, .dct h2 h4 h5 => .dct (m _ h2) (s _ _ h2 h4) (Dq.to s m h5)
theorem DqAll.to {F F' : Addr → Prop} {H H' : Hp} (s : ∀ a o, F a → H a = some o → H' a = some o) (m : ∀ a, F a → F' a) : ∀ {vs : List V} {ds : List PyData}, DqAll F H vs ds → DqAll F' H' vs ds
  | _, _, .nil => .nil
  | _, _, .cons h1 h2 => .cons (Dq.to s m h1) (DqAll.to s m h2)
end
theorem DqAll.snoc {F : Addr → Prop} {H : Hp} {v : V} {d : PyData} (h : Dq F H v d) : ∀ {vs : List V} {ds : List PyData}, DqAll F H vs ds → DqAll F H (vs ++ [v]) (ds ++ [d])
  | _, _, .nil => .cons h .nil
  | _, _, .cons h1 h2 => .cons h1 (DqAll.snoc h h2)
section
variable {X : Cx} {pins : List (Addr × Obj)} {σ : L2.St} {H : Hp} {s : Shared} {F : Addr → Prop}
theorem modules_not {as bs : List Addr} (h1 : sysModules ∉ as) (h2 : sysModules ∉ bs) : sysModules ∉ as ++ bs := fun h => (List.mem_append.mp h).elim h1 h2
mutual
theorem Dq.reads (I : Inv X pins σ H s) : ∀ (d : PyData) (v : V) (u : Value), Dq F H v d → RelV v u → ∃ as, Reads s.heap u d as ∧ sysModules ∉ as
  | .none, _, _, h, r => by
    cases h
    cases r
    exact ⟨_, Reads.none, by simp⟩
  | .bool b, _, _, h, r => by
    cases h
    cases r
    exact ⟨_, Reads.bool b, by simp⟩
  | .int i, _, _, h, r => by
    cases h
    obtain ⟨t, rfl⟩ := r
    exact ⟨_, Reads.int i t, by simp⟩
  | .str x, _, _, h, r => by
    cases h
    obtain ⟨t, rfl⟩ := r
    exact ⟨_, Reads.str x t, by simp⟩
  | .list ds, _, _, h, r => by
    cases h with
    | lst big n1 ha hd =>
      rename_i a xs
      cases r
      obtain ⟨_, its, n, rv, ho⟩ := (show ObjOk X.prog X.w H s.heap a (.lst xs) from I.hok a _ ha)
      obtain ⟨as, hr, hn⟩ := DqAll.reads I ds _ its hd rv
      refine ⟨_, Reads.list ho rfl rfl (by simpa using hr), ?_⟩
      intro hm
      rcases List.mem_cons.mp hm with e | e
      · exact absurd big (by rw [← e]; exact Nat.lt_irrefl _)
      · exact hn e
  | .tuple ds, _, _, h, r => by
    cases h with
    | tup n1 ha hd =>
      rename_i a xs
      cases r
      obtain ⟨_, its, rv, o, ho, hc, n, hdt⟩ := (show ObjOk X.prog X.w H s.heap a (.tup xs) from I.hok a _ ha)
      obtain ⟨as, hr, hn⟩ := DqAll.reads I ds _ its hd rv
      exact ⟨_, Reads.tuple ho hc hdt (by simpa using hr), hn⟩
  | .dict [], _, _, h, _ => by cases h
  | .dict [(k, d)], _, _, h, r => by
    cases h with
    | dct n1 ha hd =>
      rename_i a k v
      cases r
      obtain ⟨_, low, vs, rel, o, es, ep, ho, hx, hdt, _, hp, _⟩ := (show ObjOk X.prog X.w H s.heap a (.dK [(Sum.inr k, v)]) from I.hok a _ ha)
      rcases vs with _ | ⟨⟨kk, u⟩, _ | ⟨_, _⟩⟩
      · cases rel
      · have r1 : (Sum.inr k = kk) ∧ RelV v u := by
          cases rel with
          | cons r1 rn => exact r1
        obtain ⟨e1, rv⟩ := r1
        subst e1
        generalize hl : es.toList = l at hp
        cases hp with
        | cons hk hv hrest =>
          cases hrest
          rename_i en
          obtain ⟨as, hr, hn⟩ := Dq.reads I d v u hd rv
          obtain ⟨t, hk'⟩ : ∃ t, en.key = Value.str k t := by
            have hk2 : keyIs (Sum.inr k) en.key = true := hk
            rcases keyIs_shape hk2 with ⟨i, t, q, _⟩ | ⟨y, t, q, z⟩
            · cases q
            · cases q
              exact ⟨t, z⟩
          refine ⟨_, Reads.dict (es := es) (as := []) (bs := as ++ []) ho hx.1 hdt ?_ ?_, ?_⟩
          · rw [hl]
            show ReadsAll s.heap [en.key] [PyData.str k] []
            rw [hk']
            exact .cons (as := []) (bs := []) (.str k t) .nil
          · rw [hl]
            show ReadsAll s.heap [en.val] [d] (as ++ [])
            rw [show en.val = u from hv]
            exact .cons hr .nil
          · intro hm
            have hm' : sysModules ∈ a :: (as ++ []) := by simpa using hm
            rcases List.mem_cons.mp hm' with e | e
            · rw [← e] at low
              exact absurd low (by simp)
            · exact hn (by simpa using e)
      · cases rel with
        | cons _ rn => cases rn
  | .dict (_ :: _ :: _), _, _, h, _ => by cases h
theorem DqAll.reads (I : Inv X pins σ H s) : ∀ (ds : List PyData) (vs : List V) (us : List Value), DqAll F H vs ds → Vals vs us → ∃ as, ReadsAll s.heap us ds as ∧ sysModules ∉ as
  | [], _, _, h, r => by
    cases h
    cases r
    exact ⟨_, ReadsAll.nil, by simp⟩
  | d :: ds, _, _, h, r => by
    cases h with
    | cons h1 h2 =>
      cases r with
      | cons r1 r2 =>
        obtain ⟨as, q1, n1⟩ := Dq.reads I d _ _ h1 r1
        obtain ⟨bs, q2, n2⟩ := DqAll.reads I ds _ _ h2 r2
        exact ⟨_, ReadsAll.cons q1 q2, modules_not n1 n2⟩
end
/-! ### repr of such data -/
def rReprD (F : Addr → Prop) : List V → Hp → VK → Prop := fun xs H Q => ∃ v d, xs = [v] ∧ Dq F H v d ∧ d.showable = true ∧ d.depth ≤ 60 ∧ d.shown.length ≤ sizeLine ∧ Q (.str d.shown) H
theorem call_reprD (hg : X.A.guards = some []) (hu : X.A.units + 64 < cLine) : CallR X (.builtin "repr") (rReprD F) := by
  intro pins s σ H xs us Q I r h
  obtain ⟨v, d, rfl, hd, hs, hdp, hz, q⟩ := h
  obtain ⟨u, rfl, rx⟩ := vals1 r
  obtain ⟨as, hr, hn⟩ := Dq.reads I d v u hd rx
  cases hd with
  | non =>
    cases (show u = Value.none from rx)
    exact P.repr_of_none ⟨.str _, H, I.tok _, ⟨_, rfl⟩, q⟩
  | bl b =>
    cases (show u = Value.bool b from rx)
    exact P.repr_of_bool ⟨.str _, H, I.tok _, ⟨_, rfl⟩, q⟩
  | int i =>
    obtain ⟨t, rfl⟩ := (show ∃ t, u = Value.int i t from rx)
    exact P.repr_of_int (by simpa [PyData.showable] using hs) ⟨.str _, H, I.tok _, ⟨_, rfl⟩, q⟩
  | str x =>
    obtain ⟨t, rfl⟩ := (show ∃ t, u = Value.str x t from rx)
    exact P.repr_of_str ⟨.str _, H, I.tok _, ⟨_, rfl⟩, q⟩ (by simpa only [PyData.shown] using hz)
  | lst _ _ _ _ =>
    cases rx
    exact repr_of_reads' hr hs (fun _ => hn) hg (by omega) (fun _ _ e => e) (fun h' t tk k => ⟨.str _, H, I.kept k, ⟨t, rfl⟩, q⟩) hz
  | tup _ _ _ =>
    cases rx
    exact repr_of_reads' hr hs (fun _ => hn) hg (by omega) (fun _ _ e => e) (fun h' t tk k => ⟨.str _, H, I.kept k, ⟨t, rfl⟩, q⟩) hz
  | dct _ _ _ =>
    cases rx
    exact repr_of_reads' hr hs (fun _ => hn) hg (by omega) (fun _ _ e => e) (fun h' t tk k => ⟨.str _, H, I.kept k, ⟨t, rfl⟩, q⟩) hz
end
end My

-- ===== M59B =====
set_option Elab.async false
set_option linter.all false
set_option maxRecDepth 100000
set_option maxHeartbeats 4000000
namespace My
open PySem L2 PyProof.Rows PySem.Spec Kd
/-! ### data of tuples, texts and ints -/
mutual
inductive TD (H : Hp) : V → PyData → Prop
  | int (i : Int) : TD H (.int i) (.int i)
  | str (x : Str) : TD H (.str x) (.str x)
  | tup {a : Addr} {xs : List V} {ds : List PyData} : H a = some (.tup xs) → TDs H xs ds → TD H (.ref a) (.tuple ds)
inductive TDs (H : Hp) : List V → List PyData → Prop
  | nil : TDs H [] []
  | cons {v : V} {vs : List V} {d : PyData} {ds : List PyData} : TD H v d → TDs H vs ds → TDs H (v :: vs) (d :: ds)
end
/-- tuples that stood stand -/
def Tup (H H' : Hp) : Prop := ∀ a xs, H a = some (.tup xs) → H' a = some (.tup xs)
theorem Tup.refl (H : Hp) : Tup H H := fun _ _ e => e
theorem Tup.trans {H H1 H2 : Hp} (a : Tup H H1) (b : Tup H1 H2) : Tup H H2 := fun x xs e => b x xs (a x xs e)
theorem Tup.of {H H' : Hp} (s : Same H H') : Tup H H' := fun a xs e => s a _ e
theorem Tup.new {H : Hp} {p : Addr} {o : HO} (n : H p = none) : Tup H (upd H p o) := fun a xs e => by
  rw [upd_ne (ne_of_none e n)]
  exact e
theorem Tup.at_ {H : Hp} {p : Addr} {o o' : HO} (n : H p = some o') (h : ∀ xs, o' ≠ .tup xs) : Tup H (upd H p o) := fun a xs e => by
  rw [upd_ne (fun z => by rw [z, n] at e; exact h xs (Option.some.inj e))]
  exact e
mutual
theorem TD.to {H H' : Hp} (s : Tup H H') : ∀ {v : V} {d : PyData}, TD H v d → TD H' v d
  | _, _, .int i => .int i
  | _, _, .str x => .str x
  | _, _, .tup h1 h2 => .tup (s _ _ h1) (TDs.to s h2)
theorem TDs.to {H H' : Hp} (s : Tup H H') : ∀ {vs : List V} {ds : List PyData}, TDs H vs ds → TDs H' vs ds
  | _, _, .nil => .nil
  | _, _, .cons h1 h2 => .cons (TD.to s h1) (TDs.to s h2)
end
mutual
theorem TD.dp {K : PySem.W.Frag} {H : Hp} : ∀ {v : V} {d : PyData}, TD H v d → Dp K H v d
  | _, _, .int i => .int i
  | _, _, .str x => .str x
  | _, _, .tup h1 h2 => .tup (SqT.of h1) (TDs.dp h2)
theorem TDs.dp {K : PySem.W.Frag} {H : Hp} : ∀ {vs : List V} {ds : List PyData}, TDs H vs ds → DpAll K H vs ds
  | _, _, .nil => .nil
  | _, _, .cons h1 h2 => .cons (TD.dp h1) (TDs.dp h2)
end
mutual
theorem TD.dq {H : Hp} : ∀ {v : V} {d : PyData}, TD H v d → Dq (fun _ => True) H v d
  | _, _, .int i => .int i
  | _, _, .str x => .str x
  | _, _, .tup h1 h2 => .tup trivial h1 (TDs.dq h2)
theorem TDs.dq {H : Hp} : ∀ {vs : List V} {ds : List PyData}, TDs H vs ds → DqAll (fun _ => True) H vs ds
  | _, _, .nil => .nil
  | _, _, .cons h1 h2 => .cons (TD.dq h1) (TDs.dq h2)
end
theorem TDs.len {H : Hp} : ∀ {vs : List V} {ds : List PyData}, TDs H vs ds → vs.length = ds.length
  | _, _, .nil => rfl
  | _, _, .cons _ h2 => by rw [List.length_cons, List.length_cons, h2.len]
theorem TDs.get {H : Hp} : ∀ {vs : List V} {ds : List PyData}, TDs H vs ds → ∀ {i : Nat} {v : V}, vs[i]? = some v → ∃ d, ds[i]? = some d ∧ TD H v d
  | _, _, .nil, i, v, e => by simp at e
  | _, _, .cons h1 h2, 0, v, e => ⟨_, rfl, by have z := Option.some.inj e; rw [← z]; exact h1⟩
  | _, _, .cons h1 h2, i + 1, v, e => h2.get (i := i) e
theorem TDs.snoc {H : Hp} {v : V} {d : PyData} (h : TD H v d) : ∀ {vs : List V} {ds : List PyData}, TDs H vs ds → TDs H (vs ++ [v]) (ds ++ [d])
  | _, _, .nil => .cons h .nil
  | _, _, .cons h1 h2 => .cons h1 (TDs.snoc h h2)

theorem same_at {H H2 : Hp} {D : Addr} {o : HO} (s : Same H H2) (n : H D = none) : Same H (upd H2 D o) := fun b u e => by
  rw [upd_ne (ne_of_none e n)]
  exact s b u e
theorem same_new {H : Hp} {p : Addr} {o : HO} (n : H p = none) : Same H (upd H p o) := same_at (Same.refl H) n
theorem small_len {n m : Nat} (h : n ≤ m) (hm : m ≤ 16777216 := by decide) : n ≤ sizeLine := by rw [sizeLine_eq]; omega
theorem small_lt {n m : Nat} (h : n ≤ m) (hm : m < 16777216 := by decide) : n < sizeLine := by rw [sizeLine_eq]; omega
theorem TD.tup_of {H : Hp} {a : Addr} {ds : List PyData} (h : TD H (.ref a) (.tuple ds)) : ∃ xs, H a = some (.tup xs) ∧ TDs H xs ds := by
  cases h with
  | tup h1 h2 => exact ⟨_, h1, h2⟩
theorem TD.ref_of {H : Hp} {v : V} {ds : List PyData} (h : TD H v (.tuple ds)) : ∃ a xs, v = .ref a ∧ H a = some (.tup xs) ∧ TDs H xs ds := by
  cases h with
  | tup h1 h2 => exact ⟨_, _, rfl, h1, h2⟩
/-! ### a def's promise under a condition on what is around -/
structure FnG (c : Bool) (G : Around → Prop) (P : Program) (w : World) (K : PySem.W.Frag) (mg : Str → Option Value) (base : Heap) (CX : CXT) (k : Nat) (f : Addr) (fd : FuncData) (ps : List Str) (sp : Sp) : Prop where
  len : ∀ vs H Q E, sp vs H Q E → vs.length = ps.length
  run : ∀ (A : Around) (outer : List Env) (s : Shared) (H : Hp) (args : Args) (us : List Value) (vs : List V) (Q : VK) (E : XK), (c = true → A.handled = none) → G A → L2H.RoomH k A →
    Env0 P w K mg base A outer s H → BindsTo s fd args (ps.zip us) → Vals vs us → sp vs H Q E → codeAny (model P w) A (.call (.ref f) args) (CR CX outer P w H s Q E) s
def cxG (c : Bool) (CX : CXT) (P : Program) (w : World) (K : PySem.W.Frag) (mg : Str → Option Value) (base : Heap) (N : List Str) (qual : Str) (scope : Scope) (f : Addr) (cd : Value) (A : Around) (outer : List Env) (s : Shared) (H : Hp) (E : XK) : Cx :=
  { cxOf CX P w K mg base N qual scope f cd A outer s H E with calm := c }
section
variable {c : Bool} {G : Around → Prop} {CX : CXT} {P : Program} {w : World} {K : PySem.W.Frag} {mg : Str → Option Value} {base : Heap} {N ps : List Str} {qual : Str} {scope : Scope} {f : Addr} {cd : Value} {A : Around} {outer : List Env} {s s1 : Shared} {H : Hp} {E : XK}
theorem inv_startG {us : List Value} {vs : List V} (S : FnScope N ps scope) (hd : c = true → A.handled = none) (e0 : Env0 P w K mg base A outer s H) (hl : vs.length = ps.length) (r : Vals vs us)
    (x : InCallC s s.heap.objs.size (bindL (envOfC qual scope s.heap.objs.size f cd).kindOf (ps.zip us) fun _ => none) (cellsFrom (s.heap.objs.size + 1) scope.names []) (bindC (envOfC qual scope s.heap.objs.size f cd).kindOf (ps.zip us) fun _ => none) s1) :
    Inv (cxG c CX P w K mg base N qual scope f cd A outer s H E) [] (start N vs) H s1 := by
  have J : Inv (cxOf CX P w K mg base N qual scope f cd { A with handled := none } outer s H E) [] (start N vs) H s1 := inv_start S rfl ⟨e0.frames, e0.mod, e0.bs, e0.bsz, e0.funs, e0.frf, e0.hok, e0.bare⟩ hl r x
  have o := J.ok
  exact ⟨⟨o.mod, o.kind, o.glob, o.blt, o.above, o.inj, o.has, o.cab, hd, Around.frames_deeper e0.frames, o.stk, o.exf, o.bs, o.bsz, o.noex, o.exfs, o.funs, o.frf⟩, J.os, J.bare, J.base, J.loc, J.cell, J.free, J.freeC, J.pin, J.hok, J.len⟩
theorem fn_ofG {k : Nat} {name : Str} {params : Arguments} {body : List Stmt} {dV kV doc pm cdv ct oc : Value} {an od : Option Addr} {osl : Array (Option Value)} {sp : Sp}
    (lk : K.lookup f = some ⟨oc, od, .func (PySem.W.fnOf name qual params body scope dV kV doc pm an cdv ct), osl⟩) (hcd : PySem.W.codeIn K cdv qual = true) (S : FnScope N ps scope) (len : ∀ vs H Q E, sp vs H Q E → vs.length = ps.length)
    (hbody : ∀ (A : Around) (outer : List Env) (s : Shared) (H : Hp) (vs : List V) (Q : VK) (E : XK), (c = true → A.handled = none) → G A → L2H.RoomH k (A.deeper (envOfC qual scope s.heap.objs.size f cdv)) → sp vs H Q E →
      ∃ t, PSs (cxG c CX P w K mg base N qual scope f cdv A outer s H E) body t ∧ t { nx := fun _ H' => Q .non H', rt := Q } (start N vs) H) :
    FnG c G P w K mg base CX (k + 1) f (PySem.W.fnOf name qual params body scope dV kV doc pm an cdv ct) ps sp := by
  refine ⟨len, fun A outer s H args us vs Q E hh hG hr e0 hb r hsp => ?_⟩
  have hl := len _ _ _ _ hsp
  have KX : K.In s.heap := e0.mod.kin.keeps fun b o e => (e0.bs b o e).1
  have lim : s.heap.NoLimit := e0.mod.nolimit.keeps fun b o e => (e0.bs b o e).1
  refine codeAny_call_function hr.depth (KX _ _ lk) rfl S.co S.gen rfl (PySem.W.codeRec_of KX hcd) (hb _ _ _ _ ?_)
  refine wpAny_newFunctionEnv_cells S.kind (fun ⟨n, v⟩ hy => ?_) fun env he s1 x => ?_
  · rcases S.par n (List.of_mem_zip hy).1 with q | q
    · exact .inl q
    · exact .inr ⟨q, PySem.W.cellsFrom_some _ _ _ (.inl q)⟩
  subst he
  refine ⟨lim.keeps x.toInCall.keep, codeAny_func ?_⟩
  obtain ⟨t, ht, hq⟩ := hbody A outer s H vs Q E hh hG (hr.deeper _) hsp
  refine wpAny_mono (ht.run [] s1 (start N vs) H _ (inv_startG S hh e0 hl r x) hq) (fun fl s' hs => ?_) fun e s' hs => hs
  cases fl with
  | ret u =>
    obtain ⟨v, σ', H', J, rv, q⟩ := hs
    exact ⟨v, H', J.os, J.bare, J.base, J.hok, rv, q⟩
  | next =>
    obtain ⟨σ', H', J, q⟩ := hs
    exact ⟨V.non, H', J.os, J.bare, J.base, J.hok, rfl, q⟩
  | brk =>
    obtain ⟨_, _, _, q⟩ := hs
    exact False.elim q
  | cont =>
    obtain ⟨_, _, _, q⟩ := hs
    exact False.elim q
/-- by its body, nothing is raised -/
theorem okG {x : Str} {st : Stmt} {fd : FuncData} {k : Nat} {sp : Sp} (F : Fun K x qual st f fd) (S : FnScope N ps (defScope st)) (len : ∀ vs H Q E, sp vs H Q E → vs.length = ps.length)
    (hbody : ∀ (cdv : Value) (A : Around) (outer : List Env) (s : Shared) (H : Hp) (vs : List V) (Q : VK) (E : XK), (c = true → A.handled = none) → G A → L2H.RoomH k (A.deeper (envOfC qual (defScope st) s.heap.objs.size f cdv)) → sp vs H Q E →
      ∃ t, PSs (cxG c CX P w K mg base N qual (defScope st) f cdv A outer s H E) (defBody st) t ∧ t { nx := fun _ H' => Q .non H', rt := Q } (start N vs) H) : FnG c G P w K mg base CX (k + 1) f fd ps sp := by
  obtain ⟨oc, od, kV, doc, pm, an, cdv, ct, osl, rfl, lk, hcd⟩ := F.ex
  exact fn_ofG lk hcd S len fun A outer s H vs Q E hh hG hr hsp => hbody cdv A outer s H vs Q E hh hG hr hsp
end
section
variable {c : Bool} {G : Around → Prop} {X : Cx} {CX : CXT} {k : Nat} {f : Addr} {fd : FuncData} {ps : List Str} {sp : Sp} {x : Str} {p pos : Pos} {e : Expr} {es : List Expr} {t : TA} {E : XK}
theorem pe_callG (F : FnG c G X.prog X.w X.K X.mg X.base CX k f fd ps sp) (hh : c = true → X.A.handled = none) (hG : G X.A) (hr : L2H.RoomH k X.A) (hg : Gl X x) (hm : X.mg x = some (.ref f)) (hk : PySem.W.keepIn X.K (.ref f) = true) (hb : Binds X.K fd ps []) (hx : Passes CX X E)
    (ha : PA X (e :: es) t) (hdb : (x == ("__debug__" : Str)) = false := by decide) (he : starEach (e :: es) X.env = (false, eval e X.env) :: starEach es X.env := by rfl) (hpl : (backTo pos (starEach es X.env)).any (·.1) = false := by rfl) :
    PE X (.Call (.Name x p) (e :: es) [] pos) (tCall sp [] E t) := by
  refine ⟨fun pins s σ H Q I h => ?_⟩
  refine wpAny_Call_Name_kw (ld_glob I hg hm ?_ hdb)
  refine PySem.W.callWith_K (h₀ := X.base) I.ok.mod.kin hk (thn (ha.run pos pins s σ H _ I h) fun us s1 ⟨vs, H1, I1, r, q⟩ => ⟨I1.kIn, ?_⟩) he hpl
  have r2 : Vals (vs ++ []) (us ++ []) := by rw [List.append_nil, List.append_nil]; exact r
  have hl : (us ++ []).length = ps.length := by rw [← r2.length]; exact F.len _ _ _ _ q
  refine wpAny_call (codeAny_mono (F.run X.A X.stack s1 H1 ⟨us, []⟩ (us ++ []) (vs ++ []) Q E hh hG hr I1.env0 (hb s1 us I1.kIn hl) r2 q) fun r s' hq => ?_)
  cases r with
  | error e => exact hx pins σ H1 s1 e s' I1 hq
  | ok fl =>
    cases fl with
    | ret u => exact I1.after hq
    | next => exact False.elim hq
    | brk => exact False.elim hq
    | cont => exact False.elim hq
end
theorem law_callG {P : Program} {w : World} {K : PySem.W.Frag} {mg mb : Str → Option Value} {CX : CXT} {k : Nat} {fa a : Addr} {fd : FuncData} {x : Str} {sp : Sp} {s₁ : Shared} {vs : List Value} {ns : List Int}
    (KX : K.In s₁.heap) (hns : s₁.heap.Ns mainGlobals mg) (hb : s₁.heap.Ns builtinsNs mb) (hbb : ∀ x : Str, x ≠ "__name__" → mb x = bootBuiltins x) (hlim : s₁.heap.NoLimit) (hg : s₁.gens = #[])
    (ha : s₁.heap.get? a = some { cls := .type "list", data := .seq vs.toArray }) (hi : IntsAre vs ns) (hl : ns.length ≤ sizeLine) (hr : Room k callerA)
    (F : ∀ base : Heap, K.In base → base.Ns mainGlobals mg → FnG true (fun A => A.guards = some []) P w K mg base CX k fa fd [x] sp) (hbind : ∀ (s : Shared) (u : Value), BindsTo s fd ⟨[u], []⟩ [(x, u)])
    (hsp : ∀ H : Hp, Only H → SqL K H a (ns.map V.int) → sp [.ref a] H (fun v _ => v = .bl true) fun _ _ _ => False)
    (hCX : ∀ H e s', CX [] H s₁ (fun _ _ _ => False) e s' → False) :
    codeAny (model P w) callerA (.call (.ref fa) ⟨[.ref a], []⟩) (fun r s' => r = .ok (.ret (.bool true)) ∧ OldK s₁.heap s'.heap ∧ s'.os = s₁.os ∧ AllBare s'.gens) s₁ := by
  have rv := vals_ints hi
  have lenV := hi.length
  -- from an abstract heap in which nothing but the script may be tracked
  have core : ∀ H : Hp, Only H → SqL K H a (ns.map V.int) → HOk P w H s₁.heap → (∀ b, H b ≠ none → b = a) → (H a ≠ none → K.lookup a = none) →
      codeAny (model P w) callerA (.call (.ref fa) ⟨[.ref a], []⟩) (fun r s' => r = .ok (.ret (.bool true)) ∧ OldK s₁.heap s'.heap ∧ s'.os = s₁.os ∧ AllBare s'.gens) s₁ := by
    intro H hO hS hok hA hK
    have base_of : ∀ {b : Addr} {o : Obj}, s₁.heap.get? b = some o → H b = none → (hidT s₁.heap H).get? b = some o := fun e n => hidT_get e n
    have noA : ∀ {b : Addr} {o : Obj} {es : Array DictEntry} {ep : Nat}, s₁.heap.get? b = some o → o.data = .dict es ep → H b = none := fun {b o es ep} e d => by
      cases q : H b with
      | none => rfl
      | some u =>
        have e' : b = a := hA b (by rw [q]; simp)
        subst e'
        rw [ha] at e; cases e
        have d' : Data.seq vs.toArray _ = Data.dict es ep := d
        cases d'
    have nsK : ∀ {b : Addr} {m : Str → Option Value}, s₁.heap.Ns b m → (hidT s₁.heap H).Ns b m := fun {b m} ⟨o, es, ep, e, d, r⟩ => ⟨o, es, ep, base_of e (noA e d), d, r⟩
    have hKb : K.In (hidT s₁.heap H) := fun b o e => base_of (KX b o e) (by
      cases q : H b with
      | none => rfl
      | some u =>
        have e' : b = a := hA b (by rw [q]; simp)
        subst e'
        rw [hK (by rw [q]; simp)] at e; cases e)
    have hM : Mod K mg (hidT s₁.heap H) := ⟨hKb, nsK hns, ⟨mb, nsK hb, hbb⟩, let ⟨mc, h1, h2⟩ := hlim; ⟨mc, nsK h1, h2⟩⟩
    have e0 : Env0 P w K mg (hidT s₁.heap H) callerA [] s₁ H := ⟨rfl, hM, fun b o e => of_hidT e, Nat.le_of_eq (hidT_size _ _), trivial, fun b hb => absurd (show b ∈ ([] : List Addr) from hb) (by simp), hok, .of_eq hg⟩
    refine codeAny_mono ((F _ hKb (nsK hns)).run callerA [] s₁ H ⟨[.ref a], []⟩ [.ref a] [.ref a] _ _ (fun _ => rfl) rfl (L2H.roomH_of hr) e0 (hbind s₁ (.ref a)) (.cons rfl .nil) (hsp H hO hS)) fun r s' h => ?_
    cases r with
    | error e => exact (hCX H e s' h).elim
    | ok fl =>
      cases fl with
      | next => exact False.elim h
      | brk => exact False.elim h
      | cont => exact False.elim h
      | ret u =>
        obtain ⟨v, H', os, bare, un, hok', r', q⟩ := h
        have q' : v = .bl true := q
        subst q'
        obtain rfl : u = Value.bool true := r'
        refine ⟨rfl, OldK.of_keep fun b o e => ?_, os, bare⟩
        cases q : H b with
        | none => exact un.keep b o e q (by intro z; exact absurd (show b ∈ ([] : List Addr) from z) (by simp)) (by simp)
        | some u =>
          rcases hO b with z | ⟨ob, xs, z⟩
          · rw [q] at z; cases z
          · have z2 := un.frzs b ob _ z
            obtain ⟨e1, _⟩ := hok b _ z
            obtain ⟨e2, _⟩ := hok' b _ z2
            rw [e] at e1; cases e1
            exact e2
  cases hk : K.lookup a with
  | some o =>
    -- the script is one of the module's own objects
    have e := KX a o hk
    rw [ha] at e
    cases e
    refine core (fun _ => none) (fun _ => .inl rfl) (.inr ⟨_, vs.toArray, _, hk, rfl, rfl, rfl, by rw [List.size_toArray, lenV]; exact hl, by simpa using rv⟩) (fun b u z => by have z' : (none : Option HO) = some u := z; cases z') (fun b z => absurd rfl z) fun z => absurd rfl z
  | none =>
    refine core (fun b => if b = a then some (.frz { cls := .type "list", data := .seq vs.toArray } (.lst (ns.map V.int))) else none) (fun b => ?_) (.inl (.inr ⟨{ cls := .type "list", data := .seq vs.toArray }, if_pos rfl⟩)) (fun b u z => ?_) (fun b z => ?_) fun _ => hk
    · by_cases hb : b = a
      · exact .inr ⟨_, _, if_pos hb⟩
      · exact .inl (if_neg hb)
    · by_cases hb : b = a
      · have z' := (if_pos hb).symm.trans z
        cases z'
        subst hb
        exact ⟨ha, by rw [List.length_map]; exact hl, vs, _, rv, ha⟩
      · have z' := (if_neg hb).symm.trans z
        cases z'
    · by_cases hb : b = a
      · exact hb
      · exact absurd (if_neg hb) z

theorem walk_ofG {l : PySem.W.OpenLaw} {n k : Nat} {q : Program} {loose : List Str} {XP : (Str → Option Value) → Heap → Prop} {YP : World → Heap → Prop} {d : DefRec} {K : Params → PySem.W.Frag} {sp : PySem.W.Frag → Sp} {x : Str}
    (hn : l.most = some n) (hn2 : n ≤ sizeLine) (hdf : d.params.defaults = []) (hr : Room k callerA) (hY : ∀ (w : World) (h : Heap), YP w h → (K w.params).In h)
    (F : ∀ (w : World) (mg : Str → Option Value) (fa : Addr) (h : Heap), (K w.params).In h → h.Ns mainGlobals mg → mg d.name = some (.ref fa) →
      ∃ fd : FuncData, (∀ (s : Shared) (u : Value), BindsTo s fd ⟨[u], []⟩ [(x, u)]) ∧ ∀ base : Heap, (K w.params).In base → base.Ns mainGlobals mg → FnG true (fun A => A.guards = some []) l.prog w (K w.params) mg base CX0 k fa fd [x] (sp (K w.params)))
    (hsp : ∀ (K : PySem.W.Frag) (H : Hp) (a : Addr) (ns : List Int), ns.length ≤ n → (∀ z ∈ ns, Builtin.Int.intBits z ≤ 1048576) → Only H → SqL K H a (ns.map V.int) → sp K [.ref a] H (fun v _ => v = .bl true) fun _ _ _ => False) :
    PySem.W.WalkO q loose XP YP l.row.toRowW d [] (fun f vs => PySem.call f vs) := by
  refine Att.attach_callB hn hdf fun w s₀ s₁ mg mb fa o pm cd doc a vs ns G Y ho hd hcd hmg hobj hints hlen hbits hg => ?_
  have KX := hY w _ Y
  obtain ⟨fd, hb, hF⟩ := F w mg fa _ KX G.T.g hmg
  exact law_callG KX G.T.g G.T.b G.T.builtins G.T.nolimit hg hobj hints (Nat.le_trans hlen hn2) hr hF hb (fun H hO hS => hsp _ H a ns hlen hbits hO hS) fun _ _ _ z => z
/-! ### displays, told that the new object is none of the model's own -/
def tLstL (t : TA) : TE := fun σ H Q => t σ H fun xs H1 => xs.length ≤ sizeLine ∧ ∀ q, H1 q = none → sysModules < q → Q (.ref q) (upd H1 q (.lst xs))
theorem pe_lstL {X : Cx} {es : List Expr} {t : TA} {pos : Pos} (h : PA X es t) : PE X (.List es pos) (tLstL t) := by
  refine ⟨fun pins s σ H Q I hq => ?_⟩
  refine wpAny_List_spliced (thn (h.run pos pins s σ H _ I hq) fun us s1 hh => ?_)
  obtain ⟨xs, H1, I1, r, z, q⟩ := hh
  have big := I1.big
  exact ⟨by rw [← r.length]; exact z, .ref s1.heap.objs.size, _, I1.laid (t' := s1.toks) (o := .lst xs) (fun b u e => Heap.get?_push_of_some _ e) (Nat.le_refl _) ⟨z, us, 0, r, Heap.get?_push_size _ rfl⟩, rfl, q _ (I1.hok.fresh (Nat.le_refl _)) big⟩

/-- data that is shown within k signs -/
structure Sh (k : Nat) (d : PyData) : Prop where
  sh : d.showable = true
  sz : d.shown.length ≤ k
theorem sh_all {k : Nat} : ∀ {ds : List PyData}, (∀ d ∈ ds, Sh k d) → PyData.showableAll ds = true ∧ ((PyData.shownAll ds).map (·.length)).sum ≤ ds.length * k ∧ (PyData.shownAll ds).length = ds.length
  | [], _ => ⟨by simp only [PyData.showableAll], by simp [PyData.shownAll], by simp [PyData.shownAll]⟩
  | d :: r, h => by
    have g := h d List.mem_cons_self
    obtain ⟨h1, h3, h4⟩ := sh_all (ds := r) fun x hx => h x (List.mem_cons_of_mem _ hx)
    have := g.sz
    refine ⟨by simp only [PyData.showableAll, g.sh, h1, Bool.and_true], ?_, by simp only [PyData.shownAll, List.length_cons, h4]⟩
    simp only [PyData.shownAll, List.map_cons, List.sum_cons, List.length_cons]
    rw [Nat.succ_mul]
    omega
theorem sh_tuple {k m : Nat} {ds : List PyData} (h : ∀ d ∈ ds, Sh k d) (hl : ds.length ≤ m) : Sh (m * k + 2 * m + 3) (.tuple ds) := by
  obtain ⟨h1, h3, h4⟩ := sh_all h
  refine ⟨by simp only [PyData.showable, h1], ?_⟩
  have h5 := tupleText_len_le (PyData.shownAll ds)
  simp only [PyData.shown]
  rw [h4] at h5
  have h6 : ds.length * k ≤ m * k := Nat.mul_le_mul_right _ hl
  omega
theorem sh_mono {k m : Nat} {d : PyData} (h : Sh k d) (l : k ≤ m) : Sh m d := ⟨h.sh, Nat.le_trans h.sz l⟩
theorem at_nat {α : Type} {xs : List α} {i : Int} (h0 : 0 ≤ i) (h1 : i < xs.length) : ∃ x, x ∈ xs ∧ atI xs i = some x := by
  have lt : i.toNat < xs.length := by omega
  have z := atI_nat (List.getElem?_eq_getElem lt)
  rw [Int.toNat_of_nonneg h0] at z
  exact ⟨xs[i.toNat], List.getElem_mem lt, z⟩
theorem FeedAt.same {H H' : Hp} {p c : Addr} {ks : List Int} {w n : Int} (s : Same H H') (F : FeedAt H p c ks w n) : FeedAt H' p c ks w n := ⟨s _ _ F.ob, s _ _ F.cs, F.bits, F.len, F.w0, F.w1, F.n0⟩
theorem Save.tup {H H' : Hp} {p c : Addr} {ks : List Int} {w n : Int} (F : FeedAt H p c ks w n) (s : Save p c H H') : Tup H H' := fun a xs e =>
  s a _ e (fun z => by rw [z, F.ob] at e; cases e) (fun z => by rw [z, F.cs] at e; cases e)
theorem Save.wr {H H2 : Hp} {p c D : Addr} {o : HO} (s : Save p c H H2) (n : H D = none) : Save p c H (upd H2 D o) := fun b u e h1 h2 => by
  rw [upd_ne (ne_of_none e n)]
  exact s b u e h1 h2
theorem FeedAt.wr {H : Hp} {p c D : Addr} {o : HO} {ks : List Int} {w n : Int} (F : FeedAt H p c ks w n) (h1 : D ≠ p) (h2 : D ≠ c) : FeedAt (upd H D o) p c ks w n :=
  ⟨by rw [upd_ne (Ne.symm h1)]; exact F.ob, by rw [upd_ne (Ne.symm h2)]; exact F.cs, F.bits, F.len, F.w0, F.w1, F.n0⟩
end My

-- ===== M59E =====
set_option Elab.async false
set_option linter.all false
set_option maxRecDepth 100000
set_option maxHeartbeats 4000000
namespace My
open PySem L2 PyProof.Rows PySem.Spec Kd
/-! ### events -/
abbrev Ev := Str × Str
def EVS : List Ev := [("add", "ok"), ("add", "ok1"), ("get", "a"), ("get", "b"), ("put1", "full"), ("put1", "ok"), ("put10", "ok"), ("read", "0")]
def evD (e : Ev) : PyData := .tuple [.str e.1, .str e.2]
def evsD (es : List Ev) : List PyData := es.map evD
theorem evD_inj {a b : Ev} (h : evD a = evD b) : a = b := by
  unfold evD at h
  injection h with h
  injection h with h1 h
  injection h with h2 _
  injection h1 with h1
  injection h2 with h2
  exact Prod.ext h1 h2
theorem ev_of {H : Hp} {v : V} {e : Ev} (h : TD H v (evD e)) : ∃ a, v = .ref a ∧ H a = some (.tup [.str e.1, .str e.2]) := by
  obtain ⟨a, xs, rfl, ha, hx⟩ := TD.ref_of h
  refine ⟨a, rfl, ?_⟩
  cases hx with
  | cons h1 t1 =>
    cases h1
    cases t1 with
    | cons h2 t2 =>
      cases h2
      cases t2
      exact ha
theorem ev_new {H : Hp} {a : Addr} {e : Ev} (h : H a = some (.tup [.str e.1, .str e.2])) : TD H (.ref a) (evD e) := .tup h (.cons (.str _) (.cons (.str _) .nil))
/-- a list of events at M -/
structure EvL (H : Hp) (M : Addr) (es : List Ev) : Prop where
  ex : ∃ vs, H M = some (.lst vs) ∧ TDs H vs (es.map evD)
theorem EvL.at_ {H : Hp} {M : Addr} {es : List Ev} (h : EvL H M es) : ∃ vs, H M = some (.lst vs) ∧ TDs H vs (es.map evD) ∧ vs.length = es.length := by
  obtain ⟨vs, h1, h2⟩ := h.ex
  exact ⟨vs, h1, h2, by have z := h2.len; rwa [List.length_map] at z⟩
theorem EvL.save {H H' : Hp} {M p c : Addr} {es : List Ev} {ks : List Int} {w n : Int} (h : EvL H M es) (F : FeedAt H p c ks w n) (s : Save p c H H') (np : M ≠ p) (nc : M ≠ c) : EvL H' M es := by
  obtain ⟨vs, h1, h2⟩ := h.ex
  exact ⟨vs, s _ _ h1 np nc, h2.to (Save.tup F s)⟩
theorem EvL.same {H H' : Hp} {M : Addr} {es : List Ev} (h : EvL H M es) (s : Same H H') : EvL H' M es := by
  obtain ⟨vs, h1, h2⟩ := h.ex
  exact ⟨vs, s _ _ h1, h2.to (Tup.of s)⟩
theorem ev_get {H : Hp} {vs : List V} {es : List Ev} (h : TDs H vs (es.map evD)) {i : Nat} {v : V} (e : vs[i]? = some v) : ∃ x a, es[i]? = some x ∧ v = .ref a ∧ H a = some (.tup [.str x.1, .str x.2]) := by
  obtain ⟨d, ed, td⟩ := h.get e
  rw [List.getElem?_map] at ed
  obtain ⟨x, ex, rfl⟩ := Option.map_eq_some_iff.mp ed
  obtain ⟨a, rfl, ha⟩ := ev_of td
  exact ⟨x, a, ex, rfl, ha⟩
theorem evs_nodup : EVS.Nodup := by decide +kernel
theorem evs_len : EVS.length = 8 := rfl

def rLenQ (K : PySem.W.Frag) : List V → Hp → VK → Prop := fun xs H Q => ∃ p ys, xs = [.ref p] ∧ (SqL K H p ys ∨ SqT K H p ys) ∧ Q (.int ys.length) H
theorem TDs.step {H : Hp} {vs : List V} {ds : List PyData} {a : Addr} (e : Ev) (n : H a = none) (t : TDs H vs ds) : TDs (upd H a (.tup [.str e.1, .str e.2])) (vs ++ [.ref a]) (ds ++ [evD e]) := TDs.snoc (ev_new upd_same) (t.to (Tup.new n))
theorem TDs.app {H : Hp} : ∀ {vs : List V} {ds : List PyData} {us : List V} {es : List PyData}, TDs H vs ds → TDs H us es → TDs H (vs ++ us) (ds ++ es)
  | _, _, _, _, .nil, t => t
  | _, _, _, _, .cons h r, t => .cons h (TDs.app r t)
/-! ### _law_pick, _law_menu -/
def spPick : Sp := fun vs H Q _ => ∃ (p c a : Addr) (xs : List V) (ks : List Int) (w n : Int), vs = [.ref p, .ref a] ∧ FeedAt H p c ks w n ∧ n < 999999 ∧ H a = some (.lst xs) ∧ a ≠ p ∧ a ≠ c ∧ 1 ≤ xs.length ∧ xs.length ≤ 100 ∧
  ∀ (x : V) (ks' : List Int) (H' : Hp), x ∈ xs → FeedAt H' p c ks' w (n + 1) → Save p c H H' → Q x H'
def spMenu : Sp := fun vs H Q _ => ∃ (p c : Addr) (ks : List Int) (w n : Int), vs = [.ref p] ∧ FeedAt H p c ks w n ∧ n < 900000 ∧
  ∀ (M : Addr) (es : List Ev) (ks' : List Int) (n' : Int) (H' : Hp), H M = none → EvL H' M es → es.Sublist EVS → FeedAt H' p c ks' w n' → n' ≤ n + 8 → Save p c H H' → Q (.ref M) H'
section
variable {P : Program} {w : World} {K : PySem.W.Frag} {mg : Str → Option Value} {base : Heap}
theorem scPi : FnScope ["_law_deck_here", "_law_some"] ["_law_deck_here", "_law_some"] (defScope sPick) := ⟨rfl, rfl, rfl, by decide +kernel, rfl, by decide +kernel, by decide +kernel⟩
theorem ok_pick {f fD : Addr} {fd fdD : FuncData} (F : Fun K "_law_pick" "_law_pick" sPick f fd) (mlen : mg "len" = none)
    (GD : FnOk P w K mg base CX0 1 fD fdD ["_law_deck_here", "_law_many"] spDigit) (mD : mg "_law_draw" = some (.ref fD)) (kD : PySem.W.keepIn K (.ref fD) = true) (bD : Binds K fdD ["_law_deck_here", "_law_many"] []) :
    FnOk P w K mg base CX0 2 f fd ["_law_deck_here", "_law_some"] spPick := by
  refine F.ok scPi (fun vs H Q E h => ?_) (fun cdv A outer s H vs Q E hr h => ?_)
  · obtain ⟨p, c, a, xs, ks, y, n, rfl, _⟩ := h
    rfl
  · obtain ⟨p, c, a, xs, ks, y, n, rfl, FA, hn, ha, np, nc, l0, l1, k⟩ := h
    refine ⟨_, pss_one (ps_ret (pe_ix ix_list (pv 1) (pe_call GD hr (by rfl) mD kD bD .nil pass0 (pa_cons (pv 0) (pa_cons (pe_callB (r := rLenQ K) call_len_seq (by rfl) mlen PySem.boot_len (pa_cons (pv 1) pa_nil)) pa_nil))) (fun _ _ => rfl))), ?_⟩
    refine ⟨_, rfl, _, rfl, _, rfl, a, _, rfl, .inl (SqL.of ha), p, c, ks, y, n, _, rfl, FA, by omega, by omega, by omega, fun i ks' H' i0 i1 FA' sv => ?_⟩
    obtain ⟨x, hx, e⟩ := at_nat (xs := xs) i0 i1
    exact ⟨a, _, i, x, rfl, rfl, SqL.of (sv a _ ha np nc), e, k x ks' H' hx FA' sv⟩
abbrev nMe : List Str := ["_law_deck_here", "_law_some", "_law_one"]
theorem scMe : FnScope nMe ["_law_deck_here"] (defScope sMenu) := ⟨rfl, rfl, rfl, by decide +kernel, rfl, by decide +kernel, by decide +kernel⟩
theorem ok_menu {f fD : Addr} {fd fdD : FuncData} (F : Fun K "_law_menu" "_law_menu" sMenu f fd)
    (GD : FnOk P w K mg base CX0 1 fD fdD ["_law_deck_here", "_law_many"] spDigit) (mD : mg "_law_draw" = some (.ref fD)) (kD : PySem.W.keepIn K (.ref fD) = true) (bD : Binds K fdD ["_law_deck_here", "_law_many"] []) :
    FnOk P w K mg base CX0 2 f fd ["_law_deck_here"] spMenu := by
  refine F.ok scMe (fun vs H Q E h => ?_) (fun cdv A outer s H vs Q E hr h => ?_)
  · obtain ⟨p, c, ks, y, n, rfl, _⟩ := h
    rfl
  · obtain ⟨p, c, ks, y, n, rfl, FA, hn, k⟩ := h
    
    refine ⟨_, pss_cons (ps_set (i := 1) scMe.nd rfl (Or.inl rfl) (pe_lst (pa_cons (pe_tup (pa_cons pe_str (pa_cons pe_str pa_nil))) (pa_cons (pe_tup (pa_cons pe_str (pa_cons pe_str pa_nil))) (pa_cons (pe_tup (pa_cons pe_str (pa_cons pe_str pa_nil))) (pa_cons (pe_tup (pa_cons pe_str (pa_cons pe_str pa_nil))) (pa_cons (pe_tup (pa_cons pe_str (pa_cons pe_str pa_nil))) (pa_cons (pe_tup (pa_cons pe_str (pa_cons pe_str pa_nil))) pa_nil))))))))
      (pss_cons (ps_set (i := 1) scMe.nd rfl (Or.inl rfl) (pe_op op_cat (pv 1) (pe_lst (pa_cons (pe_tup (pa_cons pe_str (pa_cons pe_str pa_nil))) (pa_cons (pe_tup (pa_cons pe_str (pa_cons pe_str pa_nil))) pa_nil)))))
      (pss_one (ps_ret (pe_lc (own := [("_law_one", 2)]) (g := gName 2) rfl scMe.nd (pi_list (pv 1)) (blkOk_by (N := nMe) (sc := defScope sMenu) (by decide +kernel))
        (fun _ _ _ _ _ => pg_name (i := 2) scMe.nd rfl (Or.inl rfl)) (fun _ _ _ _ _ => pts_one (pt_cmpR op_gt (pe_call GD hr (by rfl) mD kD bD .nil pass0 (pa_cons (pv 0) (pa_cons pe_int pa_nil))) pe_int (nomark _))) (fun _ _ _ _ _ => pv 2))))), ?_⟩
    have two : (2 : Nat) ≤ sizeLine := by decide
    refine ⟨two, fun a1 h1 => ⟨two, fun a2 h2 => ⟨two, fun a3 h3 => ⟨two, fun a4 h4 => ⟨two, fun a5 h5 => ⟨two, fun a6 h6 => ⟨by show 6 ≤ sizeLine; decide, fun l hl => ?_⟩⟩⟩⟩⟩⟩⟩
    have t6 := ((((((TDs.nil (H := H)).step ("add", "ok") h1).step ("add", "ok1") h2).step ("get", "a") h3).step ("get", "b") h4).step ("put1", "full") h5).step ("put1", "ok") h6
    have s6 := (((((same_new (o := .tup [V.str "add", .str "ok"]) h1).trans (same_new (o := .tup [V.str "add", .str "ok1"]) h2)).trans (same_new (o := .tup [V.str "get", .str "a"]) h3)).trans (same_new (o := .tup [V.str "get", .str "b"]) h4)).trans (same_new (o := .tup [V.str "put1", .str "full"]) h5)).trans (same_new (o := .tup [V.str "put1", .str "ok"]) h6)
    have t7 := t6.to (Tup.new (o := .lst [V.ref a1, .ref a2, .ref a3, .ref a4, .ref a5, .ref a6]) hl)
    have s7 := s6.trans (same_new (o := .lst [V.ref a1, .ref a2, .ref a3, .ref a4, .ref a5, .ref a6]) hl)
    have l7 : (upd (upd (upd (upd (upd (upd (upd H a1 (.tup [V.str "add", .str "ok"])) a2 (.tup [V.str "add", .str "ok1"])) a3 (.tup [V.str "get", .str "a"])) a4 (.tup [V.str "get", .str "b"])) a5 (.tup [V.str "put1", .str "full"])) a6 (.tup [V.str "put1", .str "ok"])) l (.lst [V.ref a1, .ref a2, .ref a3, .ref a4, .ref a5, .ref a6])) l = some (.lst [V.ref a1, .ref a2, .ref a3, .ref a4, .ref a5, .ref a6]) := upd_same
    revert t7 s7 l7
    generalize upd (upd (upd (upd (upd (upd (upd H a1 (.tup [V.str "add", .str "ok"])) a2 (.tup [V.str "add", .str "ok1"])) a3 (.tup [V.str "get", .str "a"])) a4 (.tup [V.str "get", .str "b"])) a5 (.tup [V.str "put1", .str "full"])) a6 (.tup [V.str "put1", .str "ok"])) l (.lst [V.ref a1, .ref a2, .ref a3, .ref a4, .ref a5, .ref a6]) = H7
    intro t7 s7 l7
    refine ⟨_, rfl, two, fun a7 h7 => ⟨two, fun a8 h8 => ⟨two, fun l2 hl2 => ?_⟩⟩⟩
    have t8 := ((TDs.nil (H := H7)).step ("put10", "ok") h7).step ("read", "0") h8
    have s8 := (same_new (o := .tup [V.str "put10", .str "ok"]) h7).trans (same_new (o := .tup [V.str "read", .str "0"]) h8)
    have t9 := (t8.to (Tup.new (o := .lst [V.ref a7, .ref a8]) hl2))
    have s9 := s8.trans (same_new (o := .lst [V.ref a7, .ref a8]) hl2)
    have tall := TDs.app (t7.to (Tup.of s9)) t9
    have l9 := s9 _ _ l7
    have l10 : (upd (upd (upd H7 a7 (.tup [V.str "put10", .str "ok"])) a8 (.tup [V.str "read", .str "0"])) l2 (.lst [V.ref a7, .ref a8])) l2 = some (.lst [V.ref a7, .ref a8]) := upd_same
    have s10 := s7.trans s9
    revert tall l9 l10 s10
    generalize upd (upd (upd H7 a7 (.tup [V.str "put10", .str "ok"])) a8 (.tup [V.str "read", .str "0"])) l2 (.lst [V.ref a7, .ref a8]) = H9
    intro tall l9 l10 s10
    refine ⟨l, l2, _, _, rfl, rfl, l9, l10, by show 8 ≤ sizeLine; decide, fun m hm => ?_⟩
    have tm : TDs (upd H9 m (.lst [V.ref a1, .ref a2, .ref a3, .ref a4, .ref a5, .ref a6, .ref a7, .ref a8])) [V.ref a1, .ref a2, .ref a3, .ref a4, .ref a5, .ref a6, .ref a7, .ref a8] (EVS.map evD) := tall.to (Tup.new hm)
    have sm := s10.trans (same_new (o := .lst [V.ref a1, .ref a2, .ref a3, .ref a4, .ref a5, .ref a6, .ref a7, .ref a8]) hm)
    have lm : (upd H9 m (.lst [V.ref a1, .ref a2, .ref a3, .ref a4, .ref a5, .ref a6, .ref a7, .ref a8])) m = some (.lst [V.ref a1, .ref a2, .ref a3, .ref a4, .ref a5, .ref a6, .ref a7, .ref a8]) := upd_same
    have FA9 := FA.same s10
    have mp : m ≠ p := Ne.symm (ne_of_none FA9.ob hm)
    have mc : m ≠ c := Ne.symm (ne_of_none FA9.cs hm)
    have FAm := FA.same sm
    refine ⟨_, rfl, m, rfl, ⟨_, SqL.of lm⟩, fun D hD => lc_list (K := K) (a := m) (xs := [V.ref a1, .ref a2, .ref a3, .ref a4, .ref a5, .ref a6, .ref a7, .ref a8]) (fun i H2 => ∃ (ks2 : List Int) (es : List Ev) (vs2 : List V), FeedAt H2 p c ks2 y (n + i) ∧ Save p c (upd H9 m (.lst [V.ref a1, .ref a2, .ref a3, .ref a4, .ref a5, .ref a6, .ref a7, .ref a8])) H2 ∧ H2 D = some (.lst vs2) ∧ TDs H2 vs2 (es.map evD) ∧ es.Sublist (EVS.take i)) ?_ (fun i H2 _ ⟨_, _, _, _, s2, _⟩ => SqL.of (s2 _ _ lm mp mc)) (fun i x H2 ex ⟨ks2, es, vs2, FA2, s2, d2, t2, b2⟩ => ?_) fun H2 ⟨ks2, es, vs2, FA2, s2, d2, t2, b2⟩ => ?_⟩
    · have dp : D ≠ p := Ne.symm (ne_of_none FAm.ob hD)
      have dc : D ≠ c := Ne.symm (ne_of_none FAm.cs hD)
      refine ⟨ks, [], [], ?_, (Save.refl p c _).wr hD, upd_same, .nil, by simp⟩
      have z := FAm.wr (o := .lst []) dp dc
      rwa [show n + ((0 : Nat) : Int) = n by omega]
    · have dp : D ≠ p := Ne.symm (ne_of_none FAm.ob hD)
      have dc : D ≠ c := Ne.symm (ne_of_none FAm.cs hD)
      have lt : i < 8 := (List.getElem?_eq_some_iff.mp ex).1
      obtain ⟨e, b, ee, rfl, hb⟩ := ev_get tm ex
      refine ⟨rfl, _, rfl, p, c, ks2, y, n + i, 4, rfl, FA2, by omega, by omega, by omega, fun d ks3 H3 d0 d1 FA3 sv3 => ⟨d, 0, rfl, rfl, _, rfl, ?_⟩⟩
      have tk : EVS.take (i + 1) = EVS.take i ++ [e] := by rw [List.take_succ, ee]; rfl
      have hb3 : H3 b = some (.tup [.str e.1, .str e.2]) := Save.tup FAm (s2.trans sv3) _ _ hb
      have d3 := sv3 _ _ d2 dp dc
      have FA3' : FeedAt H3 p c ks3 y (n + ((i + 1 : Nat) : Int)) := by rwa [show n + ((i + 1 : Nat) : Int) = n + i + 1 by omega]
      by_cases pos : 0 < d
      · rw [decide_eq_true pos]
        refine iteT ⟨_, rfl, vs2, d3, ?_, ks3, es ++ [e], vs2 ++ [.ref b], FA3'.wr dp dc, (s2.trans sv3).wr hD, upd_same, ?_, ?_⟩
        · have l1 := t2.len
          have l2 := b2.length_le
          rw [List.length_map] at l1
          rw [List.length_take] at l2
          exact small_lt (m := 8) (by omega)
        · have tp : Tup H3 (upd H3 D (.lst (vs2 ++ [.ref b]))) := Tup.at_ d3 fun xs z => nomatch z
          rw [List.map_append]
          exact TDs.snoc ((ev_new hb3).to tp) ((t2.to (Save.tup FA2 sv3)).to tp)
        · rw [tk]
          exact b2.append (List.Sublist.refl _)
      · rw [decide_eq_false pos]
        refine iteF ⟨ks3, es, vs2, FA3', s2.trans sv3, d3, t2.to (Save.tup FA2 sv3), ?_⟩
        rw [tk]
        exact b2.trans (List.sublist_append_left _ _)
    · have Hn : H D = none := (sm.free hD)
      exact k D es ks2 _ H2 Hn ⟨vs2, d2, t2⟩ (b2.trans (List.take_sublist _ _)) FA2 (by show n + ((8 : Nat) : Int) ≤ n + 8; omega) ((Save.of sm).trans s2)
end
end My

-- ===== M59F =====
set_option Elab.async false
set_option linter.all false
set_option maxRecDepth 100000
set_option maxHeartbeats 4000000
namespace My
open PySem L2 PyProof.Rows PySem.Spec Kd
/-! ### pairs of events -/
abbrev Pr := Ev × Ev
def nkE (e : Ev) : NestedKey := .tup [.text e.1, .text e.2]
def nkP (q : Pr) : NestedKey := .tup [nkE q.1, nkE q.2]
theorem nkE_inj {a b : Ev} (h : nkE a = nkE b) : a = b := by
  unfold nkE at h
  injection h with h
  injection h with h1 h
  injection h with h2 _
  injection h1 with h1
  injection h2 with h2
  exact Prod.ext h1 h2
theorem nkP_inj {a b : Pr} (h : nkP a = nkP b) : a = b := by
  unfold nkP at h
  injection h with h
  injection h with h1 h
  injection h with h2 _
  exact Prod.ext (nkE_inj h1) (nkE_inj h2)
theorem nkE_depth (e : Ev) : (nkE e).depth ≤ 8 := by
  simp only [nkE, NestedKey.depth, NestedKey.depthAll]
  omega
theorem nkP_depth (q : Pr) : (nkP q).depth ≤ 8 := by
  simp only [nkP, nkE, NestedKey.depth, NestedKey.depthAll]
  omega
theorem nqE {H : Hp} {a : Addr} {e : Ev} (h : H a = some (.tup [.str e.1, .str e.2])) : NqV H (.ref a) (nkE e) := .tup h (.cons (.text _) (.cons (.text _) .nil))
theorem nqP {H : Hp} {t a b : Addr} {x y : Ev} (h : H t = some (.tup [.ref a, .ref b])) (ha : H a = some (.tup [.str x.1, .str x.2])) (hb : H b = some (.tup [.str y.1, .str y.2])) : NqV H (.ref t) (nkP (x, y)) := .tup h (.cons (nqE ha) (.cons (nqE hb) .nil))
def pairD (q : Pr) : PyData := .tuple [evD q.1, evD q.2]
def tabD (ps : List Pr) : PyData := .tuple (ps.map pairD)
theorem pair_new {H : Hp} {t a b : Addr} {x y : Ev} (h : H t = some (.tup [.ref a, .ref b])) (ha : H a = some (.tup [.str x.1, .str x.2])) (hb : H b = some (.tup [.str y.1, .str y.2])) : TD H (.ref t) (pairD (x, y)) := .tup h (.cons (ev_new ha) (.cons (ev_new hb) .nil))
def prods (as bs : List Ev) : List Pr := as.flatMap fun a => bs.map fun b => (a, b)
theorem prods_mem {as bs : List Ev} {q : Pr} : q ∈ prods as bs ↔ q.1 ∈ as ∧ q.2 ∈ bs := by
  unfold prods
  rw [List.mem_flatMap]
  constructor
  · rintro ⟨a, ha, h⟩
    obtain ⟨b, hb, rfl⟩ := List.mem_map.mp h
    exact ⟨ha, hb⟩
  · rintro ⟨h1, h2⟩
    exact ⟨q.1, h1, List.mem_map.mpr ⟨q.2, h2, rfl⟩⟩
theorem prods_nodup {as bs : List Ev} (h1 : as.Nodup) (h2 : bs.Nodup) : (prods as bs).Nodup := by
  induction as with
  | nil => exact List.nodup_nil
  | cons a as ih =>
    rw [List.nodup_cons] at h1
    show (bs.map (fun b => (a, b)) ++ prods as bs).Nodup
    refine List.nodup_append.mpr ⟨List.Pairwise.map _ (fun x y ne e => ne (Prod.ext_iff.mp e).2) h2, ih h1.2, fun x hx y hy e => ?_⟩
    obtain ⟨b, _, rfl⟩ := List.mem_map.mp hx
    rw [← e] at hy
    exact h1.1 (prods_mem.mp hy).1
theorem prods_len (as bs : List Ev) : (prods as bs).length = as.length * bs.length := by
  induction as with
  | nil => simp [prods]
  | cons a as ih =>
    have e : prods (a :: as) bs = bs.map (fun b => (a, b)) ++ prods as bs := rfl
    rw [e, List.length_append, ih, List.length_map, List.length_cons, Nat.succ_mul]
    omega
/-- the pairs gone through, in the inner loop -/
def gone (es : List Ev) (i : Nat) (a : Ev) (j : Nat) : List Pr := prods (es.take i) es ++ (es.take j).map fun b => (a, b)
theorem gone_next {es : List Ev} {i j : Nat} {a b : Ev} (h : es[j]? = some b) : gone es i a (j + 1) = gone es i a j ++ [(a, b)] := by
  unfold gone
  rw [List.take_succ, h, List.map_append, ← List.append_assoc]
  rfl
theorem gone_end {es : List Ev} {i : Nat} {a : Ev} (h : es[i]? = some a) : gone es i a es.length = prods (es.take (i + 1)) es := by
  unfold gone prods
  rw [List.take_succ, h, List.take_length, List.flatMap_append]
  simp
theorem gone_start {es : List Ev} {i : Nat} {a : Ev} : gone es i a 0 = prods (es.take i) es := by
  unfold gone
  simp
theorem not_took {α : Type} {es : List α} (nd : es.Nodup) {i : Nat} {a : α} (h : es[i]? = some a) : a ∉ es.take i := by
  intro m
  obtain ⟨lt, rfl⟩ := List.getElem?_eq_some_iff.mp h
  obtain ⟨j, hj, e⟩ := List.mem_take_iff_getElem.mp m
  have := (List.getElem_inj nd).mp e
  omega
theorem gone_new {es : List Ev} (nd : es.Nodup) {i j : Nat} {a b : Ev} (hi : es[i]? = some a) (hj : es[j]? = some b) : (a, b) ∉ gone es i a j := by
  intro m
  rcases List.mem_append.mp m with m | m
  · exact not_took nd hi (prods_mem.mp m).1
  · obtain ⟨c, hc, e⟩ := List.mem_map.mp m
    have : c = b := (Prod.ext_iff.mp e).2
    exact not_took nd hj (this ▸ hc)
theorem gone_sub {es : List Ev} {i j : Nat} {a : Ev} (hi : es[i]? = some a) (q : Pr) (h : q ∈ gone es i a j) : q.1 ∈ es ∧ q.2 ∈ es := by
  rcases List.mem_append.mp h with m | m
  · have z := prods_mem.mp m
    exact ⟨List.mem_of_mem_take z.1, z.2⟩
  · obtain ⟨c, hc, rfl⟩ := List.mem_map.mp m
    exact ⟨List.mem_of_getElem? hi, List.mem_of_mem_take hc⟩
theorem gone_len {es : List Ev} {i j : Nat} {a : Ev} (l : es.length ≤ 8) (hi : i < es.length) (hj : j ≤ es.length) : (gone es i a j).length ≤ 64 := by
  unfold gone
  rw [List.length_append, prods_len, List.length_map, List.length_take, List.length_take]
  have h1 : min i es.length ≤ 7 := by omega
  have h2 : min i es.length * es.length ≤ 7 * 8 := Nat.mul_le_mul h1 l
  omega
/-- what the twins' dict holds -/
structure Twin (H : Hp) (es : List Ev) (L : List VRow) : Prop where
  ks : VKeys H L
  vs : ∀ r ∈ L, ∃ e, e ∈ es ∧ ∃ b, r.2.2 = .ref b ∧ H b = some (.tup [.str e.1, .str e.2])
theorem Twin.to {H H' : Hp} {es : List Ev} {L : List VRow} (t : Tup H H') (h : Twin H es L) : Twin H' es L := ⟨h.ks.to t, fun r m => let ⟨e, he, b, h1, h2⟩ := h.vs r m; ⟨e, he, b, h1, t _ _ h2⟩⟩
/-- a dict of truth values -/
structure Bars (H : Hp) (B : List VRow) : Prop where
  ks : VKeys H B
  vs : ∀ r ∈ B, ∃ b, r.2.2 = .bl b
theorem Bars.to {H H' : Hp} {B : List VRow} (t : Tup H H') (h : Bars H B) : Bars H' B := ⟨h.ks.to t, h.vs⟩
theorem val_at {L : List VRow} {ks : List NestedKey} (e : L.map (·.1) = ks) {k : NestedKey} (m : k ∈ ks) : ∃ b v, valW L k = some v ∧ (k, b, v) ∈ L := by
  cases q : valW L k with
  | none => exact absurd m (by rw [← e]; exact valW_none.mp q)
  | some v =>
    obtain ⟨b, hb⟩ := valW_some q
    exact ⟨b, v, rfl, hb⟩
def spDrawn : Sp := fun vs H Q _ => ∃ (p c M : Addr) (es : List Ev) (ks : List Int) (w n : Int), vs = [.ref p, .ref M] ∧ FeedAt H p c ks w n ∧ n < 900000 ∧ EvL H M es ∧ M ≠ c ∧ es.Nodup ∧ es.length ≤ 8 ∧
  ∀ (T : Addr) (ps : List Pr) (ks' : List Int) (n' : Int) (H' : Hp), TD H' (.ref T) (tabD ps) → ps.Sublist (prods es es) → FeedAt H' p c ks' w n' → n' ≤ n + 200 → Save p c H H' → Q (.ref T) H'
theorem Save.free {H H' : Hp} {p c x : Addr} (s : Save p c H H') (h : H' x = none) (hp : x ≠ p) (hc : x ≠ c) : H x = none := by
  cases e : H x with
  | none => rfl
  | some o => rw [s x o e hp hc] at h; cases h
section
variable {P : Program} {w : World} {K : PySem.W.Frag} {mg : Str → Option Value} {base : Heap}
abbrev nDr : List Str := ["_law_deck_here", "_law_menu_here", "_law_share", "_law_twin", "_law_found", "_law_one", "_law_barred", "_law_first", "_law_second"]
theorem scDr : FnScope nDr ["_law_deck_here", "_law_menu_here"] (defScope sDrawn) := ⟨rfl, rfl, rfl, by decide +kernel, rfl, by decide +kernel, by decide +kernel⟩
theorem ok_drawn {f fP fD : Addr} {fd fdP fdD : FuncData} (F : Fun K "_law_drawn" "_law_drawn" sDrawn f fd) (mtup : mg "tuple" = none)
    (GP : FnOk P w K mg base CX0 2 fP fdP ["_law_deck_here", "_law_some"] spPick) (mP : mg "_law_pick" = some (.ref fP)) (kP : PySem.W.keepIn K (.ref fP) = true) (bP : Binds K fdP ["_law_deck_here", "_law_some"] [])
    (GD : FnOk P w K mg base CX0 1 fD fdD ["_law_deck_here", "_law_many"] spDigit) (mD : mg "_law_draw" = some (.ref fD)) (kD : PySem.W.keepIn K (.ref fD) = true) (bD : Binds K fdD ["_law_deck_here", "_law_many"] []) :
    FnOk P w K mg base CX0 3 f fd ["_law_deck_here", "_law_menu_here"] spDrawn := by
  refine F.ok scDr (fun vs H Q E h => ?_) (fun cdv A outer s H vs Q E hr h => ?_)
  · obtain ⟨p, c, M, es, ks, y, n, rfl, _⟩ := h
    rfl
  · obtain ⟨p, c, M, es, ks, y, n, rfl, FA, hn, EM, Mc, end_, el8, k⟩ := h
    have hu := hr.units
    have hr1 := hr.mono (show 1 ≤ 2 by omega)
    refine ⟨_, pss_cons (ps_par3 (i := 2) (j := 3) (l := 4) rfl scDr.nd rfl rfl rfl (by decide) (by decide) (by decide) rfl rfl rfl (pa_cons (pe_op op_add pe_int (pe_call GD hr1 (by rfl) mD kD bD .nil pass0 (pa_cons (pv 0) (pa_cons pe_int pa_nil)))) (pa_cons (pe_dnewVP (P := P) (w := w)) (pa_cons (pe_lst pa_nil) pa_nil))) (by rfl))
      (pss_cons (ps_for PassesOwn.never rfl (pi_list (pv 1)) (pg_name (i := 5) scDr.nd rfl (Or.inl rfl))
        (pss_one (ps_putVP (P := P) (w := w) hu (pv 3) (pv 5) (pe_call GP hr (by rfl) mP kP bP .nil pass0 (pa_cons (pv 0) (pa_cons (pe_lst (pa_cons (pv 5) (pa_cons (pv 5) (pa_cons (pe_ix (r := rIxL K) ix_list (pv 1) pe_int (fun _ _ => rfl)) pa_nil)))) pa_nil))) (by rfl))))
      (pss_cons (ps_set (i := 6) scDr.nd rfl (Or.inl rfl) (pe_dnewVP (P := P) (w := w)))
      (pss_cons (ps_for PassesOwn.never rfl (pi_list (pv 1)) (pg_name (i := 7) scDr.nd rfl (Or.inl rfl))
        (pss_one (ps_for PassesOwn.never rfl (pi_list (pv 1)) (pg_name (i := 8) scDr.nd rfl (Or.inl rfl))
          (pss_one (ps_putVP (P := P) (w := w) hu (pv 6) (pe_tup (pa_cons (pv 7) (pa_cons (pv 8) pa_nil))) (pe_cmpR op_lt (pe_call GD hr1 (by rfl) mD kD bD .nil pass0 (pa_cons (pv 0) (pa_cons pe_int pa_nil))) (pv 2) (nomark _)) (by rfl))))))
      (pss_cons (ps_for PassesOwn.never rfl (pi_list (pv 1)) (pg_name (i := 7) scDr.nd rfl (Or.inl rfl))
        (pss_one (ps_for PassesOwn.never rfl (pi_list (pv 1)) (pg_name (i := 8) scDr.nd rfl (Or.inl rfl))
          (pss_one (ps_if (pt_val (pe_getVP (P := P) (w := w) hu (pv 6) (pe_tup (pa_cons (pe_getVP (P := P) (w := w) hu (pv 3) (pv 7) (fun _ _ => rfl)) (pa_cons (pe_getVP (P := P) (w := w) hu (pv 3) (pv 8) (fun _ _ => rfl)) pa_nil))) (fun _ _ => rfl)))
            (pss_one (ps_expr (pe_bm PySem.F.plainAttrs_list PySem.F.slot_list_append PySem.F.type_list_append mt_append (pv 4) (pa_cons (pe_tup (pa_cons (pv 7) (pa_cons (pv 8) pa_nil))) pa_nil)))) pss_nil)))))
      (pss_one (ps_ret (pe_callTy call_tuple_of (by rfl) mtup (by decide +kernel) (pa_cons (pv 4) pa_nil)))))))), ?_⟩
    have n0 := FA.n0
    obtain ⟨mv, hM, tM, lM⟩ := EM.at_
    refine ⟨_, rfl, p, c, ks, y, n, 4, rfl, FA, by omega, by omega, by omega, fun sh0 ks1 H1 s0 s4 FA1 sv1 => ⟨1, sh0, rfl, rfl, fun tw htw => ⟨by show 0 ≤ sizeLine; decide, fun fo hfo => ⟨_, _, _, rfl, ?_⟩⟩⟩⟩
    have hfo0 : H1 fo = none := by
      have z : fo ≠ tw := fun z => by rw [z, upd_same] at hfo; cases hfo
      rw [upd_ne z] at hfo
      exact hfo
    have nft : fo ≠ tw := fun z => by rw [z, upd_same] at hfo; cases hfo
    have tp1 : tw ≠ p := Ne.symm (ne_of_none FA1.ob htw)
    have tc1 : tw ≠ c := Ne.symm (ne_of_none FA1.cs htw)
    have fp1 : fo ≠ p := Ne.symm (ne_of_none FA1.ob hfo0)
    have fc1 : fo ≠ c := Ne.symm (ne_of_none FA1.cs hfo0)
    have Mp : M ≠ p := fun z => by rw [z, FA.ob] at hM; cases hM
    have FA3 : FeedAt (upd (upd H1 tw (VDict P w tw [])) fo (.lst [])) p c ks1 y (n + 1) := (FA1.wr tp1 tc1).wr fp1 fc1
    have sv3 : Save p c H (upd (upd H1 tw (VDict P w tw [])) fo (.lst [])) := (sv1.wr (sv1.free htw tp1 tc1)).wr (sv1.free hfo0 fp1 fc1)
    have htw3 : (upd (upd H1 tw (VDict P w tw [])) fo (.lst [])) tw = some (VDict P w tw []) := by rw [upd_ne (Ne.symm nft)]; exact upd_same
    have hfo3 : (upd (upd H1 tw (VDict P w tw [])) fo (.lst [])) fo = some (.lst []) := upd_same
    have ntw := sv1.free htw tp1 tc1
    have nfo := sv1.free hfo0 fp1 fc1
    generalize upd (upd H1 tw (VDict P w tw [])) fo (.lst []) = H3 at FA3 sv3 htw3 hfo3 ⊢
    clear sv1 FA1
    -- twins
    refine ⟨_, rfl, M, rfl, ⟨_, SqL.of (sv3 _ _ hM Mp Mc)⟩, for_list (K := K) (a := M) (xs := mv) (fun i σ H4 => ∃ (o5 : Option V) (ks4 : List Int) (n4 : Int) (L : List VRow), σ = [some (.ref p), some (.ref M), some (.int (1 + sh0)), some (.ref tw), some (.ref fo), o5, none, none, none] ∧ FeedAt H4 p c ks4 y n4 ∧ n4 ≤ n + 1 + (i : Int) ∧ Save p c H H4 ∧ H4 fo = some (.lst []) ∧ H4 tw = some (VDict P w tw L) ∧ L.map (·.1) = (es.take i).map nkE ∧ Twin H4 es L)
      ⟨none, ks1, n + 1, [], rfl, FA3, by omega, sv3, hfo3, htw3, by simp, ⟨(fun _ m => nomatch m), fun _ m => nomatch m⟩⟩ (fun i σ H4 _ ⟨_, _, _, _, _, _, _, s4, _⟩ => SqL.of (s4 _ _ hM Mp Mc)) ?_ ?_⟩
    · rintro i x σ H4 ex ⟨o5, ks4, n4, L, rfl, FA4, le4, s4, f4, t4, eL, TL⟩
      obtain ⟨e, a, ee, rfl, ha⟩ := ev_get tM ex
      have lt : i < es.length := (List.getElem?_eq_some_iff.mp ee).1
      have ha4 := Save.tup FA s4 _ _ ha
      obtain ⟨v0, hv0⟩ : ∃ v0, mv[0]? = some v0 := ⟨mv[0]'(by omega), List.getElem?_eq_getElem (by omega)⟩
      obtain ⟨e0, a0, ee0, rfl, ha0⟩ := ev_get tM hv0
      have ha04 := Save.tup FA s4 _ _ ha0
      refine ⟨_, rfl, _, rfl, _, rfl, _, rfl, M, mv, 0, _, rfl, rfl, SqL.of (s4 _ _ hM Mp Mc), atI_nat hv0, by show 3 ≤ sizeLine; decide, fun l hl => ?_⟩
      have sl := same_new (o := .lst [V.ref a, .ref a, .ref a0]) hl
      refine ⟨p, c, l, _, ks4, y, n4, rfl, FA4.same sl, by omega, upd_same, Ne.symm (ne_of_none FA4.ob hl), Ne.symm (ne_of_none FA4.cs hl), by show 1 ≤ 3; decide, by show 3 ≤ 100; decide, fun x ks5 H5 mx FA5 sv5 => ?_⟩
      have s5 : Save p c H4 H5 := (Save.of sl).trans sv5
      have tu5 := Save.tup FA4 s5
      obtain ⟨e', he', b, rfl, hb⟩ : ∃ e', e' ∈ es ∧ ∃ b, x = .ref b ∧ H5 b = some (.tup [.str e'.1, .str e'.2]) := by
        rcases List.mem_cons.mp mx with rfl | mx
        · exact ⟨e, List.mem_of_getElem? ee, a, rfl, tu5 _ _ ha4⟩
        rcases List.mem_cons.mp mx with rfl | mx
        · exact ⟨e, List.mem_of_getElem? ee, a, rfl, tu5 _ _ ha4⟩
        · rw [List.mem_singleton.mp mx]
          exact ⟨e0, List.mem_of_getElem? ee0, a0, rfl, tu5 _ _ ha04⟩
      have t5 := s5 _ _ t4 tp1 tc1
      have TL5 := TL.to tu5
      have ll : L.length = i := by
        have z := congrArg List.length eL
        rw [List.length_map, List.length_map, List.length_take] at z
        omega
      have nk : valW L (nkE e) = none := valW_none.mpr (by
        rw [eL]
        intro m
        obtain ⟨e2, m2, q⟩ := List.mem_map.mp m
        exact not_took end_ ee (nkE_inj q ▸ m2))
      refine ⟨_, rfl, _, rfl, tw, a, nkE e, L, rfl, rfl, nqE (tu5 _ _ ha4), nkE_depth e, t5, TL5.ks, nk, by omega, ?_⟩
      have tp : Tup H5 (upd H5 tw (VDict P w tw (L ++ [(nkE e, a, .ref b)]))) := Tup.at_ t5 fun xs z => nomatch z
      refine ⟨_, ks5, n4 + 1, _, rfl, FA5.wr tp1 tc1, by omega, (s4.trans s5).wr ntw, ?_, upd_same, ?_, (VKeys.snoc TL5.ks (nqE (tu5 _ _ ha4)) (nkE_depth e)).to tp, fun r m => ?_⟩
      · rw [upd_ne nft]
        exact s5 _ _ f4 fp1 fc1
      · rw [List.map_append, eL, List.take_succ, ee]
        simp
      · rcases List.mem_append.mp m with m | m
        · exact (TL5.to tp).vs r m
        · rw [List.mem_singleton.mp m]
          exact ⟨e', he', b, rfl, tp _ _ hb⟩
    · rintro σ H4 ⟨o5, ks4, n4, L, rfl, FA4, le4, s4, f4, t4, eL, TL⟩
      rw [lM, List.take_length] at eL
      rw [lM] at le4
      refine fun bd hbd => ?_
      have bp : bd ≠ p := Ne.symm (ne_of_none FA4.ob hbd)
      have bc : bd ≠ c := Ne.symm (ne_of_none FA4.cs hbd)
      have nbd := s4.free hbd bp bc
      have nbf : bd ≠ fo := Ne.symm (ne_of_none f4 hbd)
      have nbt : bd ≠ tw := Ne.symm (ne_of_none t4 hbd)
      have FA5 := FA4.wr (o := VDict P w bd []) bp bc
      have s5 := s4.wr (o := VDict P w bd []) nbd
      have f5 : (upd H4 bd (VDict P w bd [])) fo = some (.lst []) := by rw [upd_ne (Ne.symm nbf)]; exact f4
      have t5 : (upd H4 bd (VDict P w bd [])) tw = some (VDict P w tw L) := by rw [upd_ne (Ne.symm nbt)]; exact t4
      have TL5 := TL.to (Tup.new (o := VDict P w bd []) hbd)
      have b5 : (upd H4 bd (VDict P w bd [])) bd = some (VDict P w bd []) := upd_same
      generalize upd H4 bd (VDict P w bd []) = H5 at FA5 s5 f5 t5 TL5 b5 ⊢
      clear FA4 s4 f4 t4 TL
      -- bars
      refine ⟨_, rfl, M, rfl, ⟨_, SqL.of (s5 _ _ hM Mp Mc)⟩, for_list (K := K) (a := M) (xs := mv) (fun i σ H6 => ∃ (o7 o8 : Option V) (ks6 : List Int) (n6 : Int) (B : List VRow), σ = [some (.ref p), some (.ref M), some (.int (1 + sh0)), some (.ref tw), some (.ref fo), o5, some (.ref bd), o7, o8] ∧ FeedAt H6 p c ks6 y n6 ∧ n6 ≤ n + 9 + 8 * (i : Int) ∧ Save p c H H6 ∧ H6 fo = some (.lst []) ∧ H6 tw = some (VDict P w tw L) ∧ Twin H6 es L ∧ H6 bd = some (VDict P w bd B) ∧ Bars H6 B ∧ B.map (·.1) = (prods (es.take i) es).map nkP)
        ⟨none, none, ks4, n4, [], rfl, FA5, by omega, s5, f5, t5, TL5, b5, ⟨(fun _ m => nomatch m), fun _ m => nomatch m⟩, by simp [prods]⟩ (fun i σ H6 _ ⟨_, _, _, _, _, _, _, _, s6, _⟩ => SqL.of (s6 _ _ hM Mp Mc)) ?_ ?_⟩
      · rintro i x σ H6 ex ⟨o7, o8, ks6, n6, B, rfl, FA6, le6, s6, f6, t6, TL6, b6, BB6, eB⟩
        obtain ⟨e1, a1, ee1, rfl, ha1⟩ := ev_get tM ex
        have lt1 : i < es.length := (List.getElem?_eq_some_iff.mp ee1).1
        rw [← gone_start (a := e1)] at eB
        refine ⟨_, rfl, M, rfl, ⟨_, SqL.of (s6 _ _ hM Mp Mc)⟩, for_list (K := K) (a := M) (xs := mv) (fun j σ H7 => ∃ (o8 : Option V) (ks7 : List Int) (n7 : Int) (B : List VRow), σ = [some (.ref p), some (.ref M), some (.int (1 + sh0)), some (.ref tw), some (.ref fo), o5, some (.ref bd), some (.ref a1), o8] ∧ FeedAt H7 p c ks7 y n7 ∧ n7 ≤ n + 9 + 8 * (i : Int) + (j : Int) ∧ Save p c H H7 ∧ H7 fo = some (.lst []) ∧ H7 tw = some (VDict P w tw L) ∧ Twin H7 es L ∧ H7 bd = some (VDict P w bd B) ∧ Bars H7 B ∧ B.map (·.1) = (gone es i e1 j).map nkP)
          ⟨o8, ks6, n6, B, rfl, FA6, by omega, s6, f6, t6, TL6, b6, BB6, eB⟩ (fun j σ H7 _ ⟨_, _, _, _, _, _, _, s7, _⟩ => SqL.of (s7 _ _ hM Mp Mc)) ?_ ?_⟩
        · rintro j x σ H7 ex2 ⟨o8, ks7, n7, B7, rfl, FA7, le7, s7, f7, t7, TL7, b7, BB7, eB7⟩
          obtain ⟨e2, a2, ee2, rfl, ha2⟩ := ev_get tM ex2
          have lt2 : j < es.length := (List.getElem?_eq_some_iff.mp ee2).1
          refine ⟨_, rfl, p, c, ks7, y, n7, 5, rfl, FA7, by omega, by omega, by omega, fun d ks8 H8 d0 d5 FA8 sv8 => ⟨_, rfl, d, 1 + sh0, rfl, rfl, _, rfl, _, rfl, _, rfl, by show 2 ≤ sizeLine; decide, fun t ht => ?_⟩⟩
          have tu8 := Save.tup FA7 sv8
          have s9 : Save p c H7 (upd H8 t (.tup [V.ref a1, .ref a2])) := sv8.trans (Save.of (same_new ht))
          have FA9 := FA8.same (same_new (o := .tup [V.ref a1, .ref a2]) ht)
          have tu9 := Save.tup FA7 s9
          have at9 : (upd H8 t (.tup [V.ref a1, .ref a2])) t = some (.tup [V.ref a1, .ref a2]) := upd_same
          generalize upd H8 t (.tup [V.ref a1, .ref a2]) = H9 at s9 FA9 tu9 at9 ⊢
          have b9 := s9 _ _ b7 bp bc
          have f9 := s9 _ _ f7 fp1 fc1
          have t9 := s9 _ _ t7 tp1 tc1
          have BB9 := BB7.to tu9
          have TL9 := TL7.to tu9
          have q9 := nqP at9 (tu9 _ _ (Save.tup FA s7 _ _ ha1)) (tu9 _ _ (Save.tup FA s7 _ _ ha2))
          have lB : B7.length ≤ 64 := by
            have z := congrArg List.length eB7
            rw [List.length_map, List.length_map] at z
            rw [z]
            exact gone_len el8 lt1 (by omega)
          have nk : valW B7 (nkP (e1, e2)) = none := valW_none.mpr (by
            rw [eB7]
            intro m
            obtain ⟨q, mq, eq⟩ := List.mem_map.mp m
            exact gone_new end_ ee1 ee2 (nkP_inj eq ▸ mq))
          refine ⟨bd, t, nkP (e1, e2), B7, rfl, rfl, q9, nkP_depth _, b9, BB9.ks, nk, by omega, ?_⟩
          have tp : Tup H9 (upd H9 bd (VDict P w bd (B7 ++ [(nkP (e1, e2), t, .bl (decide (d < 1 + sh0)))]))) := Tup.at_ b9 fun xs z => nomatch z
          refine ⟨_, ks8, n7 + 1, _, rfl, FA9.wr bp bc, by omega, (s7.trans s9).wr nbd, ?_, ?_, TL9.to tp, upd_same, ⟨(VKeys.snoc BB9.ks q9 (nkP_depth _)).to tp, fun r m => ?_⟩, ?_⟩
          · rw [upd_ne (Ne.symm nbf)]
            exact f9
          · rw [upd_ne (Ne.symm nbt)]
            exact t9
          · rcases List.mem_append.mp m with m | m
            · exact BB9.vs r m
            · rw [List.mem_singleton.mp m]
              exact ⟨_, rfl⟩
          · rw [List.map_append, eB7, gone_next ee2, List.map_append]
            rfl
        · rintro σ H7 ⟨o8, ks7, n7, B7, rfl, FA7, le7, s7, f7, t7, TL7, b7, BB7, eB7⟩
          rw [lM] at le7 eB7
          refine ⟨_, o8, ks7, n7, B7, rfl, FA7, by omega, s7, f7, t7, TL7, b7, BB7, ?_⟩
          rw [eB7, gone_end ee1]
      · rintro σ H6 ⟨o7, o8, ks6, n6, B, rfl, FA6, le6, s6, f6, t6, TL6, b6, BB6, eB⟩
        rw [lM] at le6 eB
        rw [List.take_length] at eB
        -- the pairs
        refine ⟨_, rfl, M, rfl, ⟨_, SqL.of (s6 _ _ hM Mp Mc)⟩, for_list (K := K) (a := M) (xs := mv) (fun i σ H7 => ∃ (o7 o8 : Option V) (vs : List V) (ps : List Pr), σ = [some (.ref p), some (.ref M), some (.int (1 + sh0)), some (.ref tw), some (.ref fo), o5, some (.ref bd), o7, o8] ∧ FeedAt H7 p c ks6 y n6 ∧ Save p c H H7 ∧ H7 fo = some (.lst vs) ∧ TDs H7 vs (ps.map pairD) ∧ ps.Sublist (prods (es.take i) es) ∧ H7 tw = some (VDict P w tw L) ∧ Twin H7 es L ∧ H7 bd = some (VDict P w bd B) ∧ Bars H7 B)
          ⟨o7, o8, [], [], rfl, FA6, s6, f6, .nil, by simp, t6, TL6, b6, BB6⟩ (fun i σ H7 _ ⟨_, _, _, _, _, _, s7, _⟩ => SqL.of (s7 _ _ hM Mp Mc)) ?_ ?_⟩
        · rintro i x σ H7 ex ⟨o7, o8, vs7, ps7, rfl, FA7, s7, f7, td7, sb7, t7, TL7, b7, BB7⟩
          obtain ⟨e1, a1, ee1, rfl, ha1⟩ := ev_get tM ex
          have lt1 : i < es.length := (List.getElem?_eq_some_iff.mp ee1).1
          rw [← gone_start (a := e1)] at sb7
          refine ⟨_, rfl, M, rfl, ⟨_, SqL.of (s7 _ _ hM Mp Mc)⟩, for_list (K := K) (a := M) (xs := mv) (fun j σ H8 => ∃ (o8 : Option V) (vs : List V) (ps : List Pr), σ = [some (.ref p), some (.ref M), some (.int (1 + sh0)), some (.ref tw), some (.ref fo), o5, some (.ref bd), some (.ref a1), o8] ∧ FeedAt H8 p c ks6 y n6 ∧ Save p c H H8 ∧ H8 fo = some (.lst vs) ∧ TDs H8 vs (ps.map pairD) ∧ ps.Sublist (gone es i e1 j) ∧ H8 tw = some (VDict P w tw L) ∧ Twin H8 es L ∧ H8 bd = some (VDict P w bd B) ∧ Bars H8 B)
            ⟨o8, vs7, ps7, rfl, FA7, s7, f7, td7, sb7, t7, TL7, b7, BB7⟩ (fun j σ H8 _ ⟨_, _, _, _, _, s8, _⟩ => SqL.of (s8 _ _ hM Mp Mc)) ?_ ?_⟩
          · rintro j x σ H8 ex2 ⟨o8, vs8, ps8, rfl, FA8, s8, f8, td8, sb8, t8, TL8, b8, BB8⟩
            obtain ⟨e2, a2, ee2, rfl, ha2⟩ := ev_get tM ex2
            have lt2 : j < es.length := (List.getElem?_eq_some_iff.mp ee2).1
            have ha18 := Save.tup FA s8 _ _ ha1
            have ha28 := Save.tup FA s8 _ _ ha2
            obtain ⟨_, v1, hv1, mv1⟩ := val_at eL (List.mem_map.mpr ⟨e1, List.mem_of_getElem? ee1, rfl⟩)
            obtain ⟨_, v2, hv2, mv2⟩ := val_at eL (List.mem_map.mpr ⟨e2, List.mem_of_getElem? ee2, rfl⟩)
            obtain ⟨w1, mw1, c1, q1, hc1⟩ := TL8.vs _ mv1
            obtain ⟨w2, mw2, c2, q2, hc2⟩ := TL8.vs _ mv2
            have q1 : v1 = .ref c1 := q1
            have q2 : v2 = .ref c2 := q2
            subst q1 q2
            obtain ⟨_, v3, hv3, mv3⟩ := val_at eB (List.mem_map.mpr ⟨(w1, w2), prods_mem.mpr ⟨mw1, mw2⟩, rfl⟩)
            obtain ⟨b3, q3⟩ := BB8.vs _ mv3
            have q3 : v3 = .bl b3 := q3
            subst q3
            refine ⟨_, rfl, _, rfl, _, rfl, tw, a1, nkE e1, L, _, rfl, rfl, nqE ha18, nkE_depth _, t8, TL8.ks, hv1, _, rfl, _, rfl, tw, a2, nkE e2, L, _, rfl, rfl, nqE ha28, nkE_depth _, t8, TL8.ks, hv2, by show 2 ≤ sizeLine; decide, fun t ht => ?_⟩
            have s9 := same_new (o := .tup [V.ref c1, .ref c2]) ht
            have at9 : (upd H8 t (.tup [V.ref c1, .ref c2])) t = some (.tup [V.ref c1, .ref c2]) := upd_same
            generalize upd H8 t (.tup [V.ref c1, .ref c2]) = H9 at s9 at9 ⊢
            have tu9 := Tup.of s9
            have FA9 := FA8.same s9
            refine ⟨bd, t, nkP (w1, w2), B, _, rfl, rfl, nqP at9 (tu9 _ _ hc1) (tu9 _ _ hc2), nkP_depth _, s9 _ _ b8, (BB8.to tu9).ks, hv3, b3, rfl, ?_⟩
            cases b3 with
            | false =>
              refine iteF ⟨_, vs8, ps8, rfl, FA9, s8.trans (Save.of s9), s9 _ _ f8, td8.to tu9, ?_, s9 _ _ t8, TL8.to tu9, s9 _ _ b8, BB8.to tu9⟩
              rw [gone_next ee2]
              exact sb8.trans (List.sublist_append_left _ _)
            | true =>
              refine iteT ?_
              have f9 := s9 _ _ f8
              refine ⟨_, rfl, .inl ⟨rfl, _, SqL.of f9⟩, _, rfl, _, rfl, by show 2 ≤ sizeLine; decide, fun u hu9 => ?_⟩
              have s10 := same_new (o := .tup [V.ref a1, .ref a2]) hu9
              have at10 : (upd H9 u (.tup [V.ref a1, .ref a2])) u = some (.tup [V.ref a1, .ref a2]) := upd_same
              generalize upd H9 u (.tup [V.ref a1, .ref a2]) = H10 at s10 at10 ⊢
              have tu10 := tu9.trans (Tup.of s10)
              have f10 := s10 _ _ f9
              have lps : ps8.length ≤ 64 := Nat.le_trans sb8.length_le (gone_len el8 lt1 (by omega))
              have lvs := td8.len
              rw [List.length_map] at lvs
              refine ⟨fo, vs8, _, rfl, rfl, f10, small_lt (m := 64) (by omega), ?_⟩
              have tp : Tup H10 (upd H10 fo (.lst (vs8 ++ [.ref u]))) := Tup.at_ f10 fun xs z => nomatch z
              have sall := (s8.trans (Save.of s9)).trans (Save.of s10)
              refine ⟨_, vs8 ++ [.ref u], ps8 ++ [(e1, e2)], rfl, (FA9.same s10).wr fp1 fc1, sall.wr nfo, upd_same, ?_, ?_, ?_, TL8.to (tu10.trans tp), ?_, BB8.to (tu10.trans tp)⟩
              · rw [List.map_append]
                exact TDs.snoc (pair_new (tp _ _ at10) (tp _ _ (tu10 _ _ ha18)) (tp _ _ (tu10 _ _ ha28))) ((td8.to tu10).to tp)
              · rw [gone_next ee2]
                exact sb8.append (List.Sublist.refl _)
              · rw [upd_ne (Ne.symm nft)]
                exact s10 _ _ (s9 _ _ t8)
              · rw [upd_ne nbf]
                exact s10 _ _ (s9 _ _ b8)
          · rintro σ H8 ⟨o8, vs8, ps8, rfl, FA8, s8, f8, td8, sb8, t8, TL8, b8, BB8⟩
            rw [lM, gone_end ee1] at sb8
            exact ⟨_, o8, vs8, ps8, rfl, FA8, s8, f8, td8, sb8, t8, TL8, b8, BB8⟩
        · rintro σ H7 ⟨o7, o8, vs7, ps7, rfl, FA7, s7, f7, td7, sb7, t7, TL7, b7, BB7⟩
          rw [lM, List.take_length] at sb7
          refine ⟨_, rfl, fo, vs7, rfl, .inl ⟨SqL.of f7, fun q hq => ?_⟩⟩
          exact k q ps7 ks6 n6 _ (.tup upd_same (td7.to (Tup.new hq))) sb7 (FA7.same (same_new hq)) (by omega) (s7.trans (Save.of (same_new hq)))
end
end My

-- ===== M59G =====
set_option Elab.async false
set_option linter.all false
set_option maxRecDepth 100000
set_option maxHeartbeats 4000000
namespace My
open PySem L2 PyProof.Rows PySem.Spec Kd
theorem TDs.erase {H : Hp} : ∀ {vs : List V} {ds : List PyData} (k : Nat), TDs H vs ds → TDs H (vs.eraseIdx k) (ds.eraseIdx k)
  | _, _, _, .nil => by simpa using TDs.nil
  | _, _, 0, .cons h t => by simpa using t
  | _, _, k + 1, .cons h t => by
    simp only [List.eraseIdx_cons_succ]
    exact .cons h (TDs.erase k t)
theorem erase_map {α β : Type} (f : α → β) : ∀ (l : List α) (k : Nat), (l.map f).eraseIdx k = (l.eraseIdx k).map f
  | [], _ => by simp
  | _ :: _, 0 => by simp
  | x :: l, k + 1 => by simp [erase_map f l k]
theorem erase_perm {α : Type} : ∀ (l : List α) (j : Nat) (h : j < l.length), (l[j] :: l.eraseIdx j).Perm l
  | [], _, h => absurd h (Nat.not_lt_zero _)
  | x :: l, 0, _ => by simp
  | x :: l, j + 1, h => by
    simp only [List.getElem_cons_succ, List.eraseIdx_cons_succ]
    exact (List.Perm.swap _ _ _).trans ((erase_perm l j (by simpa using h)).cons x)
def spTurned : Sp := fun vs H Q _ => ∃ (p c M : Addr) (es : List Ev) (ks : List Int) (w n m : Int), vs = [.ref p, .ref M, .int m] ∧ FeedAt H p c ks w n ∧ n < 900000 ∧ EvL H M es ∧ M ≠ c ∧ es.length ≤ 8 ∧ 0 ≤ m ∧
  ∀ (R : Addr) (fs : List Ev) (ks' : List Int) (n' : Int) (H' : Hp), H R = none → EvL H' R fs → (∃ ls, (fs ++ ls).Perm es) → FeedAt H' p c ks' w n' → n' ≤ n + 8 → Save p c H H' → Q (.ref R) H'
section
variable {P : Program} {w : World} {K : PySem.W.Frag} {mg : Str → Option Value} {base : Heap}
abbrev nTu : List Str := ["_law_deck_here", "_law_some", "_law_many", "_law_left", "_law_found", "_law_k"]
theorem scTu : FnScope nTu ["_law_deck_here", "_law_some", "_law_many"] (defScope sTurned) := ⟨rfl, rfl, rfl, by decide +kernel, rfl, by decide +kernel, by decide +kernel⟩
theorem ok_turned {f fD : Addr} {fd fdD : FuncData} (F : Fun K "_law_turned" "_law_turned" sTurned f fd) (mlist : mg "list" = none) (mrange : mg "range" = none) (mmin : mg "min" = none) (mlen : mg "len" = none)
    (GD : FnOk P w K mg base CX0 1 fD fdD ["_law_deck_here", "_law_many"] spDigit) (mD : mg "_law_draw" = some (.ref fD)) (kD : PySem.W.keepIn K (.ref fD) = true) (bD : Binds K fdD ["_law_deck_here", "_law_many"] []) :
    FnOk P w K mg base CX0 2 f fd ["_law_deck_here", "_law_some", "_law_many"] spTurned := by
  refine F.ok scTu (fun vs H Q E h => ?_) (fun cdv A outer s H vs Q E hr h => ?_)
  · obtain ⟨p, c, M, es, ks, y, n, m, rfl, _⟩ := h
    rfl
  · obtain ⟨p, c, M, es, ks, y, n, m, rfl, FA, hn, EM, Mc, el8, m0, k⟩ := h
    refine ⟨_, pss_cons (ps_par (i := 3) (j := 4) rfl scTu.nd rfl rfl (by decide) rfl rfl (pa_cons (pe_callTy call_list_of (by rfl) mlist (by decide +kernel) (pa_cons (pv 1) pa_nil)) (pa_cons (pe_lst pa_nil) pa_nil)) (by rfl))
      (pss_cons (ps_for PassesOwn.never rfl (pi_range1 (by rfl) mrange (pa_cons (pe_callB (call_min2 rfl) (by rfl) mmin PyProof.Rows.boot_min (pa_cons (pv 2) (pa_cons (pe_callB (r := rLenQ K) call_len_seq (by rfl) mlen PySem.boot_len (pa_cons (pv 3) pa_nil)) pa_nil))) pa_nil)) (pg_name (i := 5) scTu.nd rfl (Or.inl rfl))
        (pss_one (ps_expr (pe_bm PySem.F.plainAttrs_list PySem.F.slot_list_append PySem.F.type_list_append mt_append (pv 4) (pa_cons (pe_bm PySem.F.plainAttrs_list PySem.F.slot_list_pop PySem.F.type_list_pop mt_popAt (pv 3)
          (pa_cons (pe_call GD hr (by rfl) mD kD bD .nil pass0 (pa_cons (pv 0) (pa_cons (pe_callB (r := rLenQ K) call_len_seq (by rfl) mlen PySem.boot_len (pa_cons (pv 3) pa_nil)) pa_nil))) pa_nil)) pa_nil)))))
      (pss_one (ps_ret (pv 4)))), ?_⟩
    obtain ⟨mv, hM, tM, lM⟩ := EM.at_
    have Mp : M ≠ p := fun z => by rw [z, FA.ob] at hM; cases hM
    have n0 := FA.n0
    refine ⟨_, rfl, M, mv, rfl, .inl (SqL.of hM), fun l hl => ⟨by show 0 ≤ sizeLine; decide, fun fo hfo => ⟨_, _, rfl, ?_⟩⟩⟩
    have nfl : fo ≠ l := fun z => by rw [z, upd_same] at hfo; cases hfo
    have hfo0 : H fo = none := by
      rw [upd_ne nfl] at hfo
      exact hfo
    have lp : l ≠ p := Ne.symm (ne_of_none FA.ob hl)
    have lc : l ≠ c := Ne.symm (ne_of_none FA.cs hl)
    have fp : fo ≠ p := Ne.symm (ne_of_none FA.ob hfo0)
    have fc : fo ≠ c := Ne.symm (ne_of_none FA.cs hfo0)
    have FA1 : FeedAt (upd (upd H l (.lst mv)) fo (.lst [])) p c ks y n := (FA.wr lp lc).wr fp fc
    have sv1 : Save p c H (upd (upd H l (.lst mv)) fo (.lst [])) := ((Save.refl p c H).wr hl).wr hfo0
    have l1 : (upd (upd H l (.lst mv)) fo (.lst [])) l = some (.lst mv) := by rw [upd_ne (Ne.symm nfl)]; exact upd_same
    have f1 : (upd (upd H l (.lst mv)) fo (.lst [])) fo = some (.lst []) := upd_same
    generalize upd (upd H l (.lst mv)) fo (.lst []) = H1 at FA1 sv1 l1 f1 ⊢
    refine ⟨_, rfl, _, rfl, l, mv, rfl, .inl (SqL.of l1), m, _, rfl, ?_⟩
    have cb : 0 ≤ (if (mv.length : Int) < m then (mv.length : Int) else m) ∧ (if (mv.length : Int) < m then (mv.length : Int) else m) ≤ es.length := by split <;> omega
    generalize (if (mv.length : Int) < m then (mv.length : Int) else m) = cnt at cb ⊢
    refine ⟨cnt, rfl, by omega, by omega, for_range (lo := 0) (n := cnt.toNat) (fun i σ H2 => ∃ (o5 : Option V) (ks2 : List Int) (lv fv : List V) (ls fs : List Ev), σ = [some (.ref p), some (.ref M), some (.int m), some (.ref l), some (.ref fo), o5] ∧ FeedAt H2 p c ks2 y (n + (i : Int)) ∧ Save p c H H2 ∧ H2 l = some (.lst lv) ∧ TDs H2 lv (ls.map evD) ∧ H2 fo = some (.lst fv) ∧ TDs H2 fv (fs.map evD) ∧ (fs ++ ls).Perm es ∧ fs.length = i)
      ⟨none, ks, mv, [], es, [], rfl, by rwa [show n + ((0 : Nat) : Int) = n by omega], sv1, l1, tM.to (Save.tup FA sv1), f1, .nil, List.Perm.refl _, rfl⟩ ?_ ?_⟩
    · rintro i σ H2 hi ⟨o5, ks2, lv, fv, ls, fs, rfl, FA2, sv2, l2, tl2, f2, tf2, pm, fl⟩
      have plen := pm.length_eq
      rw [List.length_append] at plen
      have lls := tl2.len
      rw [List.length_map] at lls
      have lfs := tf2.len
      rw [List.length_map] at lfs
      refine ⟨_, rfl, .inl ⟨rfl, _, SqL.of f2⟩, _, rfl, .inl ⟨rfl, _, SqL.of l2⟩, _, rfl, _, rfl, l, lv, rfl, .inl (SqL.of l2), p, c, ks2, y, _, _, rfl, FA2, by omega, by omega, by omega, fun d ks3 H3 d0 d1 FA3 sv3 => ?_⟩
      have l3 := sv3 _ _ l2 lp lc
      have f3 := sv3 _ _ f2 fp fc
      have tu3 := Save.tup FA2 sv3
      obtain ⟨j, rfl⟩ := Int.eq_ofNat_of_zero_le d0
      have jl : j < lv.length := by omega
      have jl2 : j < ls.length := by omega
      refine ⟨l, lv, (j : Int), j, lv[j], rfl, rfl, l3, by omega, by omega, ?_, List.getElem?_eq_getElem jl, ?_⟩
      · unfold seqIndex?
        simp only [show ¬ ((j : Int) < 0) by omega, if_false]
        rw [if_pos (by rw [Bool.and_eq_true, decide_eq_true_eq, decide_eq_true_eq]; omega)]
        rfl
      · obtain ⟨e, a, ee, ea, ha⟩ := ev_get tl2 (List.getElem?_eq_getElem jl)
        have ee2 : ls[j] = e := by
          rw [List.getElem?_eq_getElem jl2] at ee
          exact Option.some.inj ee
        rw [ea]
        have tpA : Tup H3 (upd H3 l (.lst (lv.eraseIdx j))) := Tup.at_ l3 fun xs z => nomatch z
        have f4 : (upd H3 l (.lst (lv.eraseIdx j))) fo = some (.lst fv) := by rw [upd_ne nfl]; exact f3
        have l4 : (upd H3 l (.lst (lv.eraseIdx j))) l = some (.lst (lv.eraseIdx j)) := upd_same
        have FA4 := FA3.wr (o := .lst (lv.eraseIdx j)) lp lc
        have sv4 := (sv2.trans sv3).wr (o := .lst (lv.eraseIdx j)) hl
        generalize upd H3 l (.lst (lv.eraseIdx j)) = H4 at tpA f4 l4 FA4 sv4 ⊢
        have tu4 := tu3.trans tpA
        refine ⟨fo, fv, _, rfl, rfl, f4, small_lt (m := 8) (by omega), ?_⟩
        have tpB : Tup H4 (upd H4 fo (.lst (fv ++ [.ref a]))) := Tup.at_ f4 fun xs z => nomatch z
        have tu5 := tu4.trans tpB
        refine ⟨_, ks3, lv.eraseIdx j, fv ++ [.ref a], ls.eraseIdx j, fs ++ [e], rfl, ?_, sv4.wr hfo0, ?_, ?_, upd_same, ?_, ?_, by rw [List.length_append, fl]; rfl⟩
        · have z := FA4.wr (o := .lst (fv ++ [.ref a])) fp fc
          rwa [show n + ((i + 1 : Nat) : Int) = n + i + 1 by omega]
        · rw [upd_ne (Ne.symm nfl)]
          exact l4
        · rw [← erase_map]
          exact (tl2.erase j).to tu5
        · rw [List.map_append]
          exact TDs.snoc (ev_new (tu5 _ _ ha)) (tf2.to tu5)
        · refine List.Perm.trans ?_ pm
          rw [List.append_assoc]
          refine List.Perm.append_left _ ?_
          rw [← ee2]
          exact erase_perm ls j jl2
    · rintro σ H2 ⟨o5, ks2, lv, fv, ls, fs, rfl, FA2, sv2, l2, tl2, f2, tf2, pm, fl⟩
      exact ⟨_, rfl, k fo fs ks2 _ H2 hfo0 ⟨fv, f2, tf2⟩ ⟨ls, pm⟩ FA2 (by omega) sv2⟩
/-! ### _law_are_alike -/
end
def inB (ps : List Pr) (q : Pr) : Bool := decide (q ∈ ps)
def alikeB (ps : List Pr) (fs : List Ev) (a b : Ev) : Bool := fs.all fun x => (inB ps (a, x) == inB ps (b, x)) && (inB ps (x, a) == inB ps (x, b))
theorem eqv_strs (x y : Str) : PyData.eqv (.str x) (.str y) = decide (x = y) := by
  by_cases e : x = y
  · subst e
    simp [PyData.eqv]
  · rw [decide_eq_false e]
    simp [PyData.eqv, e]
theorem eqv_ev (x y : Ev) : PyData.eqv (evD x) (evD y) = decide (x = y) := by
  unfold evD
  simp only [PyData.eqv, PyData.eqvAll, Bool.and_true]
  have h1 := eqv_strs x.1 y.1
  have h2 := eqv_strs x.2 y.2
  simp only [PyData.eqv] at h1 h2
  rw [h1, h2]
  by_cases e : x = y
  · subst e
    simp
  · rw [decide_eq_false e]
    by_cases e1 : x.1 = y.1
    · have e2 : ¬ x.2 = y.2 := fun z => e (Prod.ext e1 z)
      simp [e2]
    · simp [e1]
theorem eqv_pair (x y : Pr) : PyData.eqv (pairD x) (pairD y) = decide (x = y) := by
  unfold pairD
  have h1 := eqv_ev x.1 y.1
  have h2 := eqv_ev x.2 y.2
  simp only [PyData.eqv, PyData.eqvAll, Bool.and_true]
  rw [h1, h2]
  by_cases e : x = y
  · subst e
    simp
  · rw [decide_eq_false e]
    by_cases e1 : x.1 = y.1
    · have e2 : ¬ x.2 = y.2 := fun z => e (Prod.ext e1 z)
      simp [e2]
    · simp [e1]
theorem any_pair (ps : List Pr) (q : Pr) : ((ps.map pairD).any fun z => PyData.eqv z (pairD q)) = inB ps q := by
  unfold inB
  rw [List.any_map]
  by_cases h : q ∈ ps
  · rw [decide_eq_true h]
    exact List.any_eq_true.mpr ⟨q, h, by show PyData.eqv (pairD q) (pairD q) = true; rw [eqv_pair]; exact decide_eq_true rfl⟩
  · rw [decide_eq_false h]
    refine List.any_eq_false.mpr fun r hr => ?_
    show ¬ PyData.eqv (pairD r) (pairD q) = true
    rw [eqv_pair, decide_eq_true_eq]
    exact fun e => h (e ▸ hr)
theorem lay_ev : ∀ e ∈ EVS, (evD e).canLay0 = true := by decide +kernel
theorem lay_evs : ∀ es : List Ev, (∀ e ∈ es, e ∈ EVS) → PyData.canLayAll0 (es.map evD) = true
  | [], _ => by simp only [List.map_nil, PyData.canLayAll0]
  | e :: es, h => by simp only [List.map_cons, PyData.canLayAll0, lay_ev e (h e List.mem_cons_self), lay_evs es fun x m => h x (List.mem_cons_of_mem _ m), Bool.and_self]
theorem deep_ev (e : Ev) : (evD e).depth = 1 := by simp [evD, PyData.depth, PyData.depthAll]
theorem deep_evs : ∀ es : List Ev, PyData.depthAll (es.map evD) ≤ 1
  | [] => by simp [PyData.depthAll]
  | e :: es => by
    have := deep_evs es
    have := deep_ev e
    simp only [List.map_cons, PyData.depthAll]
    omega
theorem lay_pair (q : Pr) (h : q.1 ∈ EVS ∧ q.2 ∈ EVS) : (pairD q).canLay0 = true := by
  unfold pairD
  simp only [PyData.canLay0, PyData.canLayAll0, lay_ev _ h.1, lay_ev _ h.2, Bool.and_self]
theorem lay_pairs : ∀ ps : List Pr, (∀ q ∈ ps, q.1 ∈ EVS ∧ q.2 ∈ EVS) → PyData.canLayAll0 (ps.map pairD) = true
  | [], _ => by simp only [List.map_nil, PyData.canLayAll0]
  | e :: es, h => by simp only [List.map_cons, PyData.canLayAll0, lay_pair e (h e List.mem_cons_self), lay_pairs es fun x m => h x (List.mem_cons_of_mem _ m), Bool.and_self]
theorem deep_pair (q : Pr) : (pairD q).depth = 2 := by
  unfold pairD
  simp [PyData.depth, PyData.depthAll, deep_ev]
theorem deep_pairs : ∀ ps : List Pr, PyData.depthAll (ps.map pairD) ≤ 2
  | [] => by simp [PyData.depthAll]
  | e :: es => by
    have := deep_pairs es
    have := deep_pair e
    simp only [List.map_cons, PyData.depthAll]
    omega
theorem shaped_of {d : PyData} (h : d.canLay0 = true) (h2 : d.depth ≤ 64) : SeqAt.shaped d = true := by
  unfold SeqAt.shaped
  rw [Bool.and_eq_true]
  exact ⟨h, decide_eq_true h2⟩
theorem shaped_evl {es : List Ev} (h : ∀ e ∈ es, e ∈ EVS) : SeqAt.shaped (.list (es.map evD)) = true := shaped_of (by simp only [PyData.canLay0]; exact lay_evs es h) (by have := deep_evs es; simp only [PyData.depth]; omega)
theorem shaped_pair {q : Pr} (h : q.1 ∈ EVS ∧ q.2 ∈ EVS) : SeqAt.shaped (pairD q) = true := shaped_of (lay_pair q h) (by rw [deep_pair]; decide)
theorem shaped_tab {ps : List Pr} (h : ∀ q ∈ ps, q.1 ∈ EVS ∧ q.2 ∈ EVS) : SeqAt.shaped (tabD ps) = true := shaped_of (by unfold tabD; simp only [PyData.canLay0]; exact lay_pairs ps h) (by have := deep_pairs ps; unfold tabD; simp only [PyData.depth]; omega)
theorem eqv_nil (es : List Ev) : PyData.eqv (.list (es.map evD)) (.list []) = es.isEmpty := by
  cases es <;> simp [PyData.eqv, PyData.eqvAll]
def spAlike : Sp := fun vs H Q _ => ∃ (T S a b : Addr) (ps : List Pr) (fs : List Ev) (x y : Ev), vs = [.ref T, .ref S, .ref a, .ref b] ∧ TD H (.ref T) (tabD ps) ∧ (∀ q ∈ ps, q.1 ∈ EVS ∧ q.2 ∈ EVS) ∧ EvL H S fs ∧ (∀ e ∈ fs, e ∈ EVS) ∧ fs.length ≤ 8 ∧ TD H (.ref a) (evD x) ∧ x ∈ EVS ∧ TD H (.ref b) (evD y) ∧ y ∈ EVS ∧
  ∀ H', Same H H' → Q (.bl (alikeB ps fs x y)) H'
section
variable {P : Program} {w : World} {K : PySem.W.Frag} {mg : Str → Option Value} {base : Heap}
abbrev nAl : List Str := ["_law_drawn_here", "_law_some", "_law_one", "_law_other", "_law_rows", "_law_x"]
theorem scAl : FnScope nAl ["_law_drawn_here", "_law_some", "_law_one", "_law_other"] (defScope sAlike) := ⟨rfl, rfl, rfl, by decide +kernel, rfl, by decide +kernel, by decide +kernel⟩
theorem ok_alike {f : Addr} {fd : FuncData} (F : Fun K "_law_are_alike" "_law_are_alike" sAlike f fd) : FnOk P w K mg base CX0 1 f fd ["_law_drawn_here", "_law_some", "_law_one", "_law_other"] spAlike := by
  refine F.ok scAl (fun vs H Q E h => ?_) (fun cdv A outer s H vs Q E hr h => ?_)
  · obtain ⟨T, S, a, b, ps, fs, x, y, rfl, _⟩ := h
    rfl
  · obtain ⟨T, S, a, b, ps, fs, x, y, rfl, tT, okp, ES, okf, f8, ta, okx, tb, oky, k⟩ := h
    have hu := hr.units
    have hu65 : (A.deeper (envOfC "_law_are_alike" (defScope sAlike) s.heap.objs.size f cdv)).units + 65 < cLine := by have := hr.un; omega
    refine ⟨_, pss_cons (ps_setLc (i := 4) (own := [("_law_x", 5)]) (g := gName 5) rfl scAl.nd rfl rfl (sw_true rfl rfl rfl (by decide +kernel)) (pi_list (pv 1)) (blkOk_by (N := nAl) (sc := defScope sAlike) (by decide +kernel))
        (fun _ _ _ _ _ => pg_name (i := 5) scAl.nd rfl (Or.inl rfl))
        (fun _ _ _ _ _ => pts_one (pt_cmpR op_ne (pe_cmpR (r := rInDT K) (op_inDT hu65) (pe_tup (pa_cons (pv 2) (pa_cons (pv 5) pa_nil))) (pv 0) (by rfl)) (pe_cmpR (r := rInDT K) (op_inDT hu65) (pe_tup (pa_cons (pv 3) (pa_cons (pv 5) pa_nil))) (pv 0) (by rfl)) (nomark _)))
        (fun _ _ _ _ _ => pv 5))
      (pss_one (ps_ret (pe_cmpR (op_eqD hu) (pe_op op_cat (pv 4) (pe_lc (own := [("_law_x", 5)]) (g := gName 5) rfl scAl.nd (pi_list (pv 1)) (blkOk_by (N := nAl) (sc := defScope sAlike) (by decide +kernel))
        (fun _ _ _ _ _ => pg_name (i := 5) scAl.nd rfl (Or.inl rfl))
        (fun _ _ _ _ _ => pts_one (pt_cmpR op_ne (pe_cmpR (r := rInDT K) (op_inDT hu65) (pe_tup (pa_cons (pv 5) (pa_cons (pv 2) pa_nil))) (pv 0) (by rfl)) (pe_cmpR (r := rInDT K) (op_inDT hu65) (pe_tup (pa_cons (pv 5) (pa_cons (pv 3) pa_nil))) (pv 0) (by rfl)) (nomark _)))
        (fun _ _ _ _ _ => pv 5))) (pe_lst pa_nil) (nomark _)))), ?_⟩
    obtain ⟨sv, hS, tS, lS⟩ := ES.at_
    obtain ⟨_, ea, ha⟩ := ev_of ta
    cases ea
    obtain ⟨_, eb, hb⟩ := ev_of tb
    cases eb
    have two : (2 : Nat) ≤ sizeLine := by decide
    refine ⟨_, rfl, S, rfl, ⟨_, SqL.of hS⟩, fun D hD => lc_list (K := K) (a := S) (xs := sv) (fun i H2 => Same H H2 ∧ ∃ vs, H2 D = some (.lst vs) ∧ TDs H2 vs (((fs.take i).filter fun z => !(inB ps (x, z) == inB ps (y, z))).map evD)) ⟨same_new hD, [], upd_same, by simpa using TDs.nil⟩ (fun i H2 _ ⟨s2, _⟩ => SqL.of (s2 _ _ hS)) (fun i v H2 ex ⟨s2, vs, d2, t2⟩ => ?_) fun H2 ⟨s2, vs, d2, t2⟩ => ?_⟩
    · obtain ⟨z, az, ez, rfl, haz⟩ := ev_get tS ex
      have okz : z ∈ EVS := okf z (List.mem_of_getElem? ez)
      have lt : i < fs.length := (List.getElem?_eq_some_iff.mp ez).1
      refine ⟨rfl, _, rfl, _, rfl, two, fun t1 ht1 => ?_⟩
      have s3 := same_new (o := .tup [V.ref a, .ref az]) ht1
      have at3 : (upd H2 t1 (.tup [V.ref a, .ref az])) t1 = some (.tup [V.ref a, .ref az]) := upd_same
      generalize upd H2 t1 (.tup [V.ref a, .ref az]) = H3 at s3 at3 ⊢
      have s03 := s2.trans s3
      refine ⟨_, rfl, pairD (x, z), ps.map pairD, (pair_new at3 (s03 _ _ ha) (s03 _ _ haz)).dp, (tT.to (Tup.of s03)).dp, shaped_pair ⟨okx, okz⟩, shaped_tab okp, ?_⟩
      rw [any_pair]
      refine ⟨_, rfl, _, rfl, two, fun t2' ht2 => ?_⟩
      have s4 := same_new (o := .tup [V.ref b, .ref az]) ht2
      have at4 : (upd H3 t2' (.tup [V.ref b, .ref az])) t2' = some (.tup [V.ref b, .ref az]) := upd_same
      generalize upd H3 t2' (.tup [V.ref b, .ref az]) = H4 at s4 at4 ⊢
      have s04 := s03.trans s4
      refine ⟨_, rfl, pairD (y, z), ps.map pairD, (pair_new at4 (s04 _ _ hb) (s04 _ _ haz)).dp, (tT.to (Tup.of s04)).dp, shaped_pair ⟨oky, okz⟩, shaped_tab okp, ?_⟩
      rw [any_pair]
      have s24 := s3.trans s4
      have d4 := s24 _ _ d2
      have t4 := t2.to (Tup.of s24)
      have tk : fs.take (i + 1) = fs.take i ++ [z] := by rw [List.take_succ, ez]; rfl
      refine ⟨rfl, _, rfl, ?_⟩
      by_cases e : inB ps (x, z) = inB ps (y, z)
      · rw [e, decide_eq_true rfl]
        refine iteF ⟨s04, vs, d4, ?_⟩
        rw [tk, List.filter_append]
        simpa [e] using t4
      · rw [decide_eq_false (fun q => e (V.bl.inj q))]
        refine iteT ⟨_, rfl, vs, d4, ?_, ?_, _, upd_same, ?_⟩
        · have l1 := t4.len
          have l2 := List.length_filter_le (fun z => !(inB ps (x, z) == inB ps (y, z))) (fs.take i)
          rw [List.length_map] at l1
          rw [List.length_take] at l2
          exact small_lt (m := 8) (by omega)
        · exact same_at s04 hD
        · have tp : Tup H4 (upd H4 D (.lst (vs ++ [.ref az]))) := Tup.at_ d4 fun xs z => nomatch z
          have e2 : (fs.take (i + 1)).filter (fun z => !(inB ps (x, z) == inB ps (y, z))) = (fs.take i).filter (fun z => !(inB ps (x, z) == inB ps (y, z))) ++ [z] := by
            rw [tk, List.filter_append]
            simp [e]
          rw [e2, List.map_append]
          exact TDs.snoc (ev_new (tp _ _ (s04 _ _ haz))) (t4.to tp)
    · rw [lS, List.take_length] at t2
      refine ⟨_, rfl, _, rfl, S, rfl, ⟨_, SqL.of (s2 _ _ hS)⟩, fun D2 hD2 => lc_list (K := K) (a := S) (xs := sv) (fun i H3 => Same H2 H3 ∧ ∃ vs, H3 D2 = some (.lst vs) ∧ TDs H3 vs (((fs.take i).filter fun z => !(inB ps (z, x) == inB ps (z, y))).map evD)) ⟨same_new hD2, [], upd_same, by simpa using TDs.nil⟩ (fun i H3 _ ⟨s3, _⟩ => SqL.of (s3 _ _ (s2 _ _ hS))) (fun i v H3 ex ⟨s3, vs3, d3, t3⟩ => ?_) fun H3 ⟨s3, vs3, d3, t3⟩ => ?_⟩
      · obtain ⟨z, az, ez, rfl, haz⟩ := ev_get tS ex
        have okz : z ∈ EVS := okf z (List.mem_of_getElem? ez)
        have lt : i < fs.length := (List.getElem?_eq_some_iff.mp ez).1
        refine ⟨rfl, _, rfl, _, rfl, two, fun t1 ht1 => ?_⟩
        have s4 := same_new (o := .tup [V.ref az, .ref a]) ht1
        have at4 : (upd H3 t1 (.tup [V.ref az, .ref a])) t1 = some (.tup [V.ref az, .ref a]) := upd_same
        generalize upd H3 t1 (.tup [V.ref az, .ref a]) = H4 at s4 at4 ⊢
        have s04 := (s2.trans s3).trans s4
        refine ⟨_, rfl, pairD (z, x), ps.map pairD, (pair_new at4 (s04 _ _ haz) (s04 _ _ ha)).dp, (tT.to (Tup.of s04)).dp, shaped_pair ⟨okz, okx⟩, shaped_tab okp, ?_⟩
        rw [any_pair]
        refine ⟨_, rfl, _, rfl, two, fun t2' ht2 => ?_⟩
        have s5 := same_new (o := .tup [V.ref az, .ref b]) ht2
        have at5 : (upd H4 t2' (.tup [V.ref az, .ref b])) t2' = some (.tup [V.ref az, .ref b]) := upd_same
        generalize upd H4 t2' (.tup [V.ref az, .ref b]) = H5 at s5 at5 ⊢
        have s05 := s04.trans s5
        refine ⟨_, rfl, pairD (z, y), ps.map pairD, (pair_new at5 (s05 _ _ haz) (s05 _ _ hb)).dp, (tT.to (Tup.of s05)).dp, shaped_pair ⟨okz, oky⟩, shaped_tab okp, ?_⟩
        rw [any_pair]
        have s35 := s4.trans s5
        have d5 := s35 _ _ d3
        have t5 := t3.to (Tup.of s35)
        have tk : fs.take (i + 1) = fs.take i ++ [z] := by rw [List.take_succ, ez]; rfl
        refine ⟨rfl, _, rfl, ?_⟩
        by_cases e : inB ps (z, x) = inB ps (z, y)
        · rw [e, decide_eq_true rfl]
          refine iteF ⟨s3.trans s35, vs3, d5, ?_⟩
          rw [tk, List.filter_append]
          simpa [e] using t5
        · rw [decide_eq_false (fun q => e (V.bl.inj q))]
          refine iteT ⟨_, rfl, vs3, d5, ?_, ?_, _, upd_same, ?_⟩
          · have l1 := t5.len
            have l2 := List.length_filter_le (fun z => !(inB ps (z, x) == inB ps (z, y))) (fs.take i)
            rw [List.length_map] at l1
            rw [List.length_take] at l2
            exact small_lt (m := 8) (by omega)
          · exact same_at (s3.trans s35) hD2
          · have tp : Tup H5 (upd H5 D2 (.lst (vs3 ++ [.ref az]))) := Tup.at_ d5 fun xs z => nomatch z
            have e2 : (fs.take (i + 1)).filter (fun z => !(inB ps (z, x) == inB ps (z, y))) = (fs.take i).filter (fun z => !(inB ps (z, x) == inB ps (z, y))) ++ [z] := by
              rw [tk, List.filter_append]
              simp [e]
            rw [e2, List.map_append]
            exact TDs.snoc (ev_new (tp _ _ (s05 _ _ haz))) (t5.to tp)
      · rw [lS, List.take_length] at t3
        have lv1 := t2.len
        have lv2 := t3.len
        have lf1 := List.length_filter_le (fun z => !(inB ps (x, z) == inB ps (y, z))) fs
        have lf2 := List.length_filter_le (fun z => !(inB ps (z, x) == inB ps (z, y))) fs
        rw [List.length_map] at lv1 lv2
        refine ⟨D, D2, vs, vs3, rfl, rfl, s3 _ _ d2, d3, small_len (m := 16) (by omega), fun q hq => ⟨by show 0 ≤ sizeLine; decide, fun r hr' => ?_⟩⟩
        have sq := same_new (o := .lst (vs ++ vs3)) hq
        have sr := same_new (o := .lst []) hr'
        have tall := ((TDs.app (t2.to (Tup.of s3)) t3).to (Tup.of (sq.trans sr)))
        rw [← List.map_append] at tall
        have atq := sr _ _ (show (upd H3 q (.lst (vs ++ vs3))) q = some (.lst (vs ++ vs3)) from upd_same)
        refine ⟨.list ((fs.filter (fun z => !(inB ps (x, z) == inB ps (y, z))) ++ fs.filter (fun z => !(inB ps (z, x) == inB ps (z, y)))).map evD), .list [], .lst (SqL.of atq) tall.dp, .lst (SqL.of upd_same) .nil, shaped_evl fun e m => ?_, by decide, ?_⟩
        · rcases List.mem_append.mp m with m | m
          · exact okf e (List.mem_filter.mp m).1
          · exact okf e (List.mem_filter.mp m).1
        · rw [eqv_nil]
          have fin : (fs.filter (fun z => !(inB ps (x, z) == inB ps (y, z))) ++ fs.filter (fun z => !(inB ps (z, x) == inB ps (z, y)))).isEmpty = alikeB ps fs x y := by
            unfold alikeB
            rw [Bool.eq_iff_iff, List.isEmpty_iff, List.append_eq_nil_iff, List.filter_eq_nil_iff, List.filter_eq_nil_iff, List.all_eq_true]
            constructor
            · rintro ⟨h1, h2⟩ z m
              have g1 := h1 z m
              have g2 := h2 z m
              simp at g1 g2
              simp [g1, g2]
            · intro h
              refine ⟨fun z m => ?_, fun z m => ?_⟩ <;>
              · have g := h z m
                rw [Bool.and_eq_true] at g
                simp [g.1, g.2]
          rw [fin]
          exact k _ (((s2.trans s3).trans sq).trans sr)
end
end My

-- ===== M59H =====
set_option Elab.async false
set_option linter.all false
set_option maxRecDepth 100000
set_option maxHeartbeats 4000000
namespace My
open PySem L2 PyProof.Rows PySem.Spec Kd PySem.W
/-! ### the order of events -/
def evLt (x y : Ev) : Prop := x.1.cps.toList < y.1.cps.toList ∨ (x.1 = y.1 ∧ x.2.cps.toList < y.2.cps.toList)
theorem cps_inj {x y : Str} (h : x.cps.toList = y.cps.toList) : x = y := by
  cases x
  cases y
  simp only [Str.mk.injEq]
  exact Array.toList_inj.mp h
theorem evLt_tri (x y : Ev) (h1 : ¬ evLt x y) (h2 : ¬ evLt y x) : x = y := by
  unfold evLt at h1 h2
  have a : x.1 = y.1 := cps_inj (List.le_antisymm (List.not_lt.mp fun z => h2 (.inl z)) (List.not_lt.mp fun z => h1 (.inl z)))
  have b : x.2 = y.2 := cps_inj (List.le_antisymm (List.not_lt.mp fun z => h2 (.inr ⟨a.symm, z⟩)) (List.not_lt.mp fun z => h1 (.inr ⟨a, z⟩)))
  exact Prod.ext a b
theorem lt_ev (x y : Ev) : dataLt (evD x) (evD y) = true ↔ evLt x y := by
  unfold evD evLt
  rw [dataLt_pair rfl rfl, eqv_strs, eqv_strs]
  by_cases e : x.1 = y.1
  · have e0 : ¬ x.1.cps.toList < y.1.cps.toList := by rw [e]; exact List.lt_irrefl _
    rw [decide_eq_true e, if_pos rfl]
    by_cases e2 : x.2 = y.2
    · have e3 : ¬ x.2.cps.toList < y.2.cps.toList := by rw [e2]; exact List.lt_irrefl _
      rw [decide_eq_true e2, if_pos rfl]
      simp [e0, e3]
    · rw [decide_eq_false e2, if_neg (by decide), dataLt_str, decide_eq_true_eq]
      exact ⟨fun h => .inr ⟨e, h⟩, fun h => h.elim (fun z => absurd z e0) fun z => z.2⟩
  · rw [decide_eq_false e, if_neg (by decide), dataLt_str, decide_eq_true_eq]
    simp [e]
abbrev leE : Ev → Ev → Bool := dataLe false evD
theorem leE_is (x y : Ev) : leE x y = true ↔ ¬ evLt y x := by
  show dataLe false evD x y = true ↔ _
  rw [dataLe_eq]
  show (!dataLt (evD y) (evD x)) = true ↔ _
  rw [Bool.not_eq_true', ← Bool.not_eq_true, lt_ev]
theorem leE_anti {x y : Ev} (h1 : leE x y = true) (h2 : leE y x = true) : x = y := evLt_tri x y ((leE_is y x).mp h2) ((leE_is x y).mp h1)
def srt (fs : List Ev) : List Ev := fs.mergeSort leE
theorem srt_perm (fs : List Ev) : (srt fs).Perm fs := List.mergeSort_perm _ _
theorem srt_sorted (fs : List Ev) : (srt fs).Pairwise fun x y => leE x y = true := by
  have tot := sortLe_total (listOrd itemOrd) false fun q : Ev => keyToks (evD q)
  exact List.pairwise_mergeSort tot.trans (fun a b => by rw [Bool.or_eq_true]; exact tot.total a b) fs
theorem srt_uniq : ∀ l m : List Ev, l.Perm m → (l.Pairwise fun x y => leE x y = true) → (m.Pairwise fun x y => leE x y = true) → l = m
  | [], m, p, _, _ => (List.Perm.nil_eq p)
  | a :: l, [], p, _, _ => by simpa using p.length_eq
  | a :: l, b :: m, p, h1, h2 => by
    rw [List.pairwise_cons] at h1 h2
    have e : a = b := by
      have ma : a ∈ b :: m := p.mem_iff.mp List.mem_cons_self
      have mb : b ∈ a :: l := p.mem_iff.mpr List.mem_cons_self
      rcases List.mem_cons.mp ma with e | ma
      · exact e
      rcases List.mem_cons.mp mb with e | mb
      · exact e.symm
      exact leE_anti (h1.1 b mb) (h2.1 a ma)
    subst e
    rw [srt_uniq l m (List.Perm.cons_inv p) h1.2 h2.2]
theorem srt_rev (fs gs : List Ev) (p : fs.Perm gs) : srt fs = srt gs := srt_uniq _ _ ((srt_perm fs).trans (p.trans (srt_perm gs).symm)) (srt_sorted fs) (srt_sorted gs)
/-! ### classes -/
def grpD (g : List Ev) : PyData := .tuple (g.map evD)
def clsN (al : Ev → Ev → Bool) : Nat → List Ev → List (List Ev)
  | 0, _ => []
  | _ + 1, [] => []
  | n + 1, h :: t => (h :: t.filter (al h)) :: clsN al n (t.filter fun x => !al h x)
def clsOf (al : Ev → Ev → Bool) (l : List Ev) : List (List Ev) := clsN al l.length l
theorem cls_more (al : Ev → Ev → Bool) : ∀ (n m : Nat) (l : List Ev), l.length ≤ n → l.length ≤ m → clsN al n l = clsN al m l
  | 0, m, [], _, _ => by cases m <;> rfl
  | n + 1, 0, [], _, _ => rfl
  | n + 1, m + 1, [], _, _ => rfl
  | 0, _, h :: t, z, _ => absurd z (Nat.not_succ_le_zero _)
  | _, 0, h :: t, _, z => absurd z (Nat.not_succ_le_zero _)
  | n + 1, m + 1, h :: t, z1, z2 => by
    have l1 := List.length_filter_le (fun x => !al h x) t
    rw [List.length_cons] at z1 z2
    show _ :: _ = _ :: _
    rw [cls_more al n m _ (by omega) (by omega)]
theorem cls_nil (al : Ev → Ev → Bool) : clsOf al [] = [] := rfl
theorem cls_cons (al : Ev → Ev → Bool) (h : Ev) (t : List Ev) : clsOf al (h :: t) = (h :: t.filter (al h)) :: clsOf al (t.filter fun x => !al h x) := by
  have l1 := List.length_filter_le (fun x => !al h x) t
  show _ :: clsN al t.length _ = _ :: clsN al _ _
  rw [cls_more al t.length _ _ l1 (Nat.le_refl _)]
theorem alike_self (ps : List Pr) (fs : List Ev) (a : Ev) : alikeB ps fs a a = true := by simp [alikeB]
theorem alike_rev (ps : List Pr) (fs gs : List Ev) (h : ∀ x, x ∈ fs ↔ x ∈ gs) : alikeB ps fs = alikeB ps gs := by
  funext a b
  unfold alikeB
  rw [Bool.eq_iff_iff, List.all_eq_true, List.all_eq_true]
  exact ⟨fun z x m => z x ((h x).mpr m), fun z x m => z x ((h x).mp m)⟩
theorem cls_len (al : Ev → Ev → Bool) : ∀ (n : Nat) (l : List Ev), l.length ≤ n → (clsOf al l).length ≤ l.length
  | _, [], _ => by rw [cls_nil]; exact Nat.le_refl _
  | 0, h :: t, z => absurd z (Nat.not_succ_le_zero _)
  | n + 1, h :: t, z => by
    have l1 := List.length_filter_le (fun x => !al h x) t
    rw [List.length_cons] at z
    have ih := cls_len al n (t.filter fun x => !al h x) (by omega)
    rw [cls_cons, List.length_cons, List.length_cons]
    omega
theorem cls_mem (al : Ev → Ev → Bool) : ∀ (n : Nat) (l : List Ev), l.length ≤ n → ∀ g ∈ clsOf al l, g.Sublist l ∧ g ≠ []
  | _, [], _, g, m => by rw [cls_nil] at m; cases m
  | 0, h :: t, z, _, _ => absurd z (Nat.not_succ_le_zero _)
  | n + 1, h :: t, z, g, m => by
    have l1 := List.length_filter_le (fun x => !al h x) t
    rw [List.length_cons] at z
    rw [cls_cons] at m
    rcases List.mem_cons.mp m with rfl | m
    · exact ⟨List.Sublist.cons₂ _ List.filter_sublist, fun e => by cases e⟩
    · have ih := cls_mem al n (t.filter fun x => !al h x) (by omega) g m
      exact ⟨(ih.1.trans List.filter_sublist).trans (List.sublist_cons_self _ _), ih.2⟩
/-- groups stand in the order of their heads -/
theorem cls_heads (al : Ev → Ev → Bool) : ∀ (n : Nat) (l : List Ev), l.length ≤ n → (l.Pairwise fun x y => leE x y = true) → l.Nodup → (clsOf al l).Pairwise fun g k => ∃ a r b s, g = a :: r ∧ k = b :: s ∧ leE a b = true ∧ a ≠ b
  | _, [], _, _, _ => by rw [cls_nil]; exact List.Pairwise.nil
  | 0, h :: t, z, _, _ => absurd z (Nat.not_succ_le_zero _)
  | n + 1, h :: t, z, p, d => by
    have l1 := List.length_filter_le (fun x => !al h x) t
    rw [List.length_cons] at z
    rw [List.pairwise_cons] at p
    rw [List.nodup_cons] at d
    rw [cls_cons, List.pairwise_cons]
    refine ⟨fun k mk => ?_, cls_heads al n _ (by omega) (p.2.sublist List.filter_sublist) (d.2.sublist List.filter_sublist)⟩
    obtain ⟨sb, ne⟩ := cls_mem al n _ (by omega) k mk
    cases k with
    | nil => exact absurd rfl ne
    | cons b s =>
      have mb : b ∈ t := (sb.trans List.filter_sublist).subset List.mem_cons_self
      exact ⟨h, _, b, s, rfl, rfl, p.1 b mb, fun e => d.1 (e ▸ mb)⟩
theorem alike_ev (x y : Ev) : PySem.W.alike (evD x) (evD y) = true := by simp [evD, PySem.W.alike, alikeAll]
theorem alike_grp : ∀ g k : List Ev, alikeAll (g.map evD) (k.map evD) = true
  | [], _ => by simp [alikeAll]
  | _ :: _, [] => by simp [alikeAll]
  | x :: g, y :: k => by simp only [List.map_cons, alikeAll, alike_ev, alike_grp g k, Bool.and_self]
theorem le_grp {g k : List Ev} (h : ∃ a r b s, g = a :: r ∧ k = b :: s ∧ leE a b = true ∧ a ≠ b) : dataLe false grpD g k = true := by
  obtain ⟨a, r, b, s, rfl, rfl, le, ne⟩ := h
  rw [dataLe_eq]
  show (!dataLt (grpD (b :: s)) (grpD (a :: r))) = true
  unfold grpD
  rw [dataLt_tuple, List.map_cons, List.map_cons, dataLt_all_no (alike_ev b a) (by rw [eqv_ev]; exact decide_eq_false (Ne.symm ne)), Bool.not_eq_true', ← Bool.not_eq_true, lt_ev]
  exact (leE_is a b).mp le
theorem grp_sorted (al : Ev → Ev → Bool) (fs : List Ev) (nd : fs.Nodup) : (clsOf al (srt fs)).mergeSort (dataLe false grpD) = clsOf al (srt fs) :=
  List.mergeSort_of_pairwise ((cls_heads al _ _ (Nat.le_refl _) (srt_sorted fs) ((srt_perm fs).nodup_iff.mpr nd)).imp fun h => le_grp h)
/-- rows of a list of events -/
theorem ev_rows {H : Hp} : ∀ {vs : List V} {es : List Ev}, TDs H vs (es.map evD) → ∃ L : List (Addr × Ev), vs = L.map (fun q => V.ref q.1) ∧ es = L.map Prod.snd ∧ ∀ q ∈ L, TD H (.ref q.1) (evD q.2)
  | [], [], _ => ⟨[], rfl, rfl, fun _ m => nomatch m⟩
  | [], e :: es, h => by cases h
  | v :: vs, [], h => by cases h
  | v :: vs, e :: es, h => by
    rw [List.map_cons] at h
    cases h with
    | cons h1 h2 =>
      obtain ⟨a, rfl, ha⟩ := ev_of h1
      obtain ⟨L, e1, e2, e3⟩ := ev_rows h2
      exact ⟨(a, e) :: L, by rw [e1]; rfl, by rw [e2]; rfl, fun q m => by
        rcases List.mem_cons.mp m with rfl | m
        · exact h1
        · exact e3 q m⟩
theorem rows_td {H : Hp} : ∀ {L : List (Addr × Ev)}, (∀ q ∈ L, TD H (.ref q.1) (evD q.2)) → TDs H (L.map fun q => V.ref q.1) ((L.map Prod.snd).map evD)
  | [], _ => .nil
  | q :: L, h => .cons (h q List.mem_cons_self) (rows_td fun r m => h r (List.mem_cons_of_mem _ m))
theorem depth_ev (e : Ev) : (evD e).depth ≤ 60 := by rw [deep_ev]; decide
end My

-- ===== M59I =====
set_option Elab.async false
set_option linter.all false
set_option maxRecDepth 100000
set_option maxHeartbeats 4000000
namespace My
open PySem L2 PyProof.Rows PySem.Spec Kd PySem.W
theorem any_ev (es : List Ev) (x : Ev) : ((es.map evD).any fun z => PyData.eqv z (evD x)) = decide (x ∈ es) := by
  rw [List.any_map]
  by_cases h : x ∈ es
  · rw [decide_eq_true h]
    exact List.any_eq_true.mpr ⟨x, h, by show PyData.eqv (evD x) (evD x) = true; rw [eqv_ev]; exact decide_eq_true rfl⟩
  · rw [decide_eq_false h]
    refine List.any_eq_false.mpr fun r hr => ?_
    show ¬ PyData.eqv (evD r) (evD x) = true
    rw [eqv_ev, decide_eq_true_eq]
    exact fun e => h (e ▸ hr)
theorem shaped_ev {e : Ev} (h : e ∈ EVS) : SeqAt.shaped (evD e) = true := shaped_of (lay_ev e h) (by rw [deep_ev]; decide)
def spDue : Sp := fun vs H Q _ => ∃ (T S : Addr) (ps : List Pr) (fs : List Ev), vs = [.ref T, .ref S] ∧ TD H (.ref T) (tabD ps) ∧ (∀ q ∈ ps, q.1 ∈ EVS ∧ q.2 ∈ EVS) ∧ EvL H S fs ∧ (∀ e ∈ fs, e ∈ EVS) ∧ fs.length ≤ 8 ∧
  ∀ R H', Same H H' → TD H' (.ref R) (.tuple ((clsOf (alikeB ps fs) (srt fs)).map grpD)) → Q (.ref R) H'
section
variable {P : Program} {w : World} {K : PySem.W.Frag} {mg : Str → Option Value} {base : Heap}
abbrev nDu : List Str := ["_law_drawn_here", "_law_some", "_law_found", "_law_left", "_law_mine", "_law_one"]
theorem scDu : FnScope nDu ["_law_drawn_here", "_law_some"] (defScope sDue) := ⟨rfl, rfl, rfl, by decide +kernel, rfl, by decide +kernel, by decide +kernel⟩
theorem ok_due {f fA : Addr} {fd fdA : FuncData} (F : Fun K "_law_due" "_law_due" sDue f fd) (mtup : mg "tuple" = none) (msorted : mg "sorted" = none)
    (GA : FnOk P w K mg base CX0 1 fA fdA ["_law_drawn_here", "_law_some", "_law_one", "_law_other"] spAlike) (mA : mg "_law_are_alike" = some (.ref fA)) (kA : PySem.W.keepIn K (.ref fA) = true) (bA : Binds K fdA ["_law_drawn_here", "_law_some", "_law_one", "_law_other"] []) :
    FnOk P w K mg base CX0 2 f fd ["_law_drawn_here", "_law_some"] spDue := by
  refine F.ok scDu (fun vs H Q E h => ?_) (fun cdv A outer s H vs Q E hr h => ?_)
  · obtain ⟨T, S, ps, fs, rfl, _⟩ := h
    rfl
  · obtain ⟨T, S, ps, fs, rfl, tT, okp, ES, okf, f8, k⟩ := h
    have hu := hr.units
    have hu65 : (A.deeper (envOfC "_law_due" (defScope sDue) s.heap.objs.size f cdv)).units + 65 < cLine := by have := hr.un; omega
    have hu80 : (A.deeper (envOfC "_law_due" (defScope sDue) s.heap.objs.size f cdv)).units + 80 < cLine := by have := hr.un; omega
    refine ⟨_, pss_cons (ps_asg (pe_tup (pa_cons (pe_lst pa_nil) (pa_cons (pe_callB (r := rSortX evD K) (cr_sortX (enc := evD) hu80) (by rfl) msorted PyProof.Rows.boot_sorted (pa_cons (pv 1) pa_nil)) pa_nil)))
        (pg_tup (by rfl) (pgs_cons (pg_name (i := 2) scDu.nd rfl (Or.inl rfl)) (pgs_cons (pg_name (i := 3) scDu.nd rfl (Or.inr rfl)) pgs_nil))))
      (pss_cons (ps_while PassesOwn.never (pt_cmpR (op_neD hu) (pv 3) (pe_lst pa_nil) (nomark _))
        (pss_cons (ps_set (i := 4) scDu.nd rfl (Or.inr rfl) (pe_lc (own := [("_law_one", 5)]) (g := gName 5) rfl scDu.nd (pi_list (pv 3)) (blkOk_by (N := nDu) (sc := defScope sDue) (by decide +kernel))
          (fun _ _ _ _ _ => pg_name (i := 5) scDu.nd rfl (Or.inl rfl))
          (fun _ _ _ _ _ => pts_one (pt_val (pe_call GA hr (by rfl) mA kA bA .nil pass0 (pa_cons (pv 0) (pa_cons (pv 1) (pa_cons (pe_ix (r := rIxL K) ix_list (pv 3) pe_int (fun _ _ => rfl)) (pa_cons (pv 5) pa_nil)))))))
          (fun _ _ _ _ _ => pv 5)))
        (pss_cons (ps_expr (pe_bm PySem.F.plainAttrs_list PySem.F.slot_list_append PySem.F.type_list_append mt_append (pv 2) (pa_cons (pe_callTy call_tuple_of (by rfl) mtup (by decide +kernel) (pa_cons (pv 4) pa_nil)) pa_nil)))
        (pss_one (ps_set (i := 3) scDu.nd rfl (Or.inr rfl) (pe_lc (own := [("_law_one", 5)]) (g := gName 5) rfl scDu.nd (pi_list (pv 3)) (blkOk_by (N := nDu) (sc := defScope sDue) (by decide +kernel))
          (fun _ _ _ _ _ => pg_name (i := 5) scDu.nd rfl (Or.inl rfl))
          (fun _ _ _ _ _ => pts_one (pt_cmpR (r := rNotInD K) (op_notInD hu65) (pv 5) (pv 4) (by rfl)))
          (fun _ _ _ _ _ => pv 5)))))))
      (pss_one (ps_ret (pe_callTy call_tuple_of (by rfl) mtup (by decide +kernel) (pa_cons (pv 2) pa_nil))))), ?_⟩
    obtain ⟨sv, hS, tS, lS⟩ := ES.at_
    obtain ⟨L, eL1, eL2, tL⟩ := ev_rows tS
    have lL : L.length = fs.length := by rw [eL2, List.length_map]
    refine ⟨by show 0 ≤ sizeLine; decide, fun fo hfo => ⟨_, rfl, S, L, rfl, .inl (SqL.of (by rw [← eL1]; exact same_new hfo _ _ hS)), fun q m => ((tL q m).to (Tup.new hfo)).dp, ?_, ?_, fun q _ => depth_ev _, by omega, fun lf hlf => ⟨by show 2 ≤ sizeLine; decide, fun t ht => ?_⟩⟩⟩
    · intro d hd d' hd'
      obtain ⟨q, _, rfl⟩ := List.mem_map.mp hd
      obtain ⟨q', _, rfl⟩ := List.mem_map.mp hd'
      exact alike_ev _ _
    · refine .inl fun d hd => ?_
      obtain ⟨q, _, rfl⟩ := List.mem_map.mp hd
      exact ⟨_, _, rfl⟩
    refine ⟨t, _, rfl, SqT.of upd_same, rfl, _, _, rfl, _, _, rfl, rfl, ?_⟩
    have sM : (L.mergeSort (dataLe false fun q => evD q.2)).map Prod.snd = srt fs := by rw [sort_snd, ← eL2]; rfl
    have pM : (L.mergeSort (dataLe false fun q => evD q.2)).Perm L := List.mergeSort_perm _ _
    generalize L.mergeSort (dataLe false fun q => evD q.2) = M at sM pM ht ⊢
    have s1 : Same H (upd (upd (upd H fo (.lst [])) lf (.lst (M.map fun q => V.ref q.1))) t (.tup [.ref fo, .ref lf])) := (same_new hfo).trans ((same_new hlf).trans (same_new ht))
    have nlf : lf ≠ fo := fun z => by rw [z, upd_same] at hlf; cases hlf
    have ntf : t ≠ fo := fun z => by rw [z, upd_ne (Ne.symm nlf), upd_same] at ht; cases ht
    have ntl : t ≠ lf := fun z => by rw [z, upd_same] at ht; cases ht
    have f1 : (upd (upd (upd H fo (.lst [])) lf (.lst (M.map fun q => V.ref q.1))) t (.tup [.ref fo, .ref lf])) fo = some (.lst []) := by rw [upd_ne (Ne.symm ntf), upd_ne (Ne.symm nlf)]; exact upd_same
    have l1 : (upd (upd (upd H fo (.lst [])) lf (.lst (M.map fun q => V.ref q.1))) t (.tup [.ref fo, .ref lf])) lf = some (.lst (M.map fun q => V.ref q.1)) := by rw [upd_ne (Ne.symm ntl)]; exact upd_same
    have t1 : TDs (upd (upd (upd H fo (.lst [])) lf (.lst (M.map fun q => V.ref q.1))) t (.tup [.ref fo, .ref lf])) (M.map fun q => V.ref q.1) ((srt fs).map evD) := by
      rw [← sM]
      exact rows_td fun q m => (tL q (pM.mem_iff.mp m)).to (Tup.of s1)
    generalize upd (upd (upd H fo (.lst [])) lf (.lst (M.map fun q => V.ref q.1))) t (.tup [.ref fo, .ref lf]) = H1 at s1 f1 l1 t1 ⊢
    have okS : ∀ e ∈ srt fs, e ∈ EVS := fun e m => okf e ((srt_perm fs).mem_iff.mp m)
    have lSr : (srt fs).length = fs.length := (srt_perm fs).length_eq
    refine ⟨fun m σ H2 => ∃ (lf : Addr) (o4 o5 : Option V) (fv lv : List V) (gs : List (List Ev)) (ls : List Ev), σ = [some (.ref T), some (.ref S), some (.ref fo), some (.ref lf), o4, none] ∧ m = ls.length ∧ Same H H2 ∧ H2 fo = some (.lst fv) ∧ TDs H2 fv (gs.map grpD) ∧ lf ≠ fo ∧ H2 lf = some (.lst lv) ∧ TDs H2 lv (ls.map evD) ∧ gs ++ clsOf (alikeB ps fs) ls = clsOf (alikeB ps fs) (srt fs) ∧ (∀ e ∈ ls, e ∈ EVS) ∧ gs.length + ls.length ≤ 8,
      ⟨_, lf, none, none, [], _, [], srt fs, rfl, rfl, s1, f1, .nil, nlf, l1, t1, rfl, okS, by rw [List.length_nil]; omega⟩, ?_⟩
    rintro m σ H2 ⟨lf, o4, o5, fv, lv, gs, ls, rfl, rfl, s2, f2, tf2, nlf, l2, tl2, eC, okl, len8⟩
    refine ⟨_, rfl, by show 0 ≤ sizeLine; decide, fun e he => ?_⟩
    have s3 := same_new (o := .lst []) he
    have l3 := s3 _ _ l2
    refine ⟨.list (ls.map evD), .list [], .lst (SqL.of l3) (tl2.to (Tup.of s3)).dp, .lst (SqL.of upd_same) .nil, shaped_evl okl, by decide, _, rfl, ?_⟩
    rw [eqv_nil]
    have f3 := s3 _ _ f2
    have tf3 := tf2.to (Tup.of s3)
    have tl3 := tl2.to (Tup.of s3)
    have s03 := s2.trans s3
    generalize upd H2 e (.lst []) = H3 at s3 l3 f3 tf3 tl3 s03 ⊢
    cases ls with
    | nil =>
      refine iteF ?_
      rw [cls_nil, List.append_nil] at eC
      refine ⟨_, rfl, fo, fv, rfl, .inl ⟨SqL.of f3, fun q hq => k q _ (s03.trans (same_new hq)) ?_⟩⟩
      rw [← eC]
      exact .tup upd_same (tf3.to (Tup.new hq))
    | cons h0 tl =>
      refine iteT ⟨fun σ' H' => ∃ m', m' < (h0 :: tl).length ∧ _, fun σ' H' z => z, ?_⟩
      have lv0 := tl3.len
      rw [List.length_map] at lv0
      obtain ⟨v0, hv0⟩ : ∃ v0, lv[0]? = some v0 := ⟨lv[0]'(by rw [lv0]; exact Nat.succ_pos _), List.getElem?_eq_getElem _⟩
      obtain ⟨h0', a0, eh0, rfl, ha0⟩ := ev_get tl3 hv0
      obtain rfl : h0 = h0' := Option.some.inj eh0
      have okh : h0 ∈ EVS := okl h0 List.mem_cons_self
      have ll8 : (h0 :: tl).length ≤ 8 := by omega
      generalize hls : h0 :: tl = ls at *
      refine ⟨_, rfl, lf, rfl, ⟨_, SqL.of l3⟩, fun D hD => lc_list (K := K) (a := lf) (xs := lv) (fun i H4 => Same H3 H4 ∧ ∃ vs, H4 D = some (.lst vs) ∧ TDs H4 vs (((ls.take i).filter (alikeB ps fs h0)).map evD)) ⟨same_new hD, [], upd_same, by simpa using TDs.nil⟩ (fun i H4 _ ⟨s4, _⟩ => SqL.of (s4 _ _ l3)) (fun i v H4 ex ⟨s4, vs, d4, t4⟩ => ?_) fun H4 ⟨s4, vs, d4, t4⟩ => ?_⟩
      · obtain ⟨z, az, ez, rfl, haz⟩ := ev_get tl3 ex
        have okz : z ∈ EVS := okl z (List.mem_of_getElem? ez)
        have lt : i < ls.length := (List.getElem?_eq_some_iff.mp ez).1
        have s04 := s03.trans s4
        refine ⟨rfl, _, rfl, _, rfl, _, rfl, lf, lv, 0, _, rfl, rfl, SqL.of (s4 _ _ l3), atI_nat hv0, _, rfl, T, S, a0, az, ps, fs, h0, z, rfl, tT.to (Tup.of s04), okp, ES.same s04, okf, f8, ev_new (s4 _ _ ha0), okh, ev_new (s4 _ _ haz), okz, fun H5 s5 => ⟨_, rfl, ?_⟩⟩
        have d5 := s5 _ _ d4
        have t5 := t4.to (Tup.of s5)
        have tk : ls.take (i + 1) = ls.take i ++ [z] := by rw [List.take_succ, ez]; rfl
        cases e : alikeB ps fs h0 z with
        | false =>
          refine iteF ⟨s4.trans s5, vs, d5, ?_⟩
          rw [tk, List.filter_append]
          simpa [e] using t5
        | true =>
          refine iteT ⟨_, rfl, vs, d5, ?_, ?_, _, upd_same, ?_⟩
          · have q1 := t5.len
            have q2 := List.length_filter_le (alikeB ps fs h0) (ls.take i)
            rw [List.length_map] at q1
            rw [List.length_take] at q2
            exact small_lt (m := 8) (by omega)
          · exact same_at (s4.trans s5) hD
          · have tp : Tup H5 (upd H5 D (.lst (vs ++ [.ref az]))) := Tup.at_ d5 fun xs z => nomatch z
            have e2 : (ls.take (i + 1)).filter (alikeB ps fs h0) = (ls.take i).filter (alikeB ps fs h0) ++ [z] := by
              rw [tk, List.filter_append]
              simp [e]
            rw [e2, List.map_append]
            exact TDs.snoc (ev_new (tp _ _ (s5 _ _ (s4 _ _ haz)))) (t5.to tp)
      · have q0 := tl3.len
        rw [List.length_map] at q0
        rw [q0, List.take_length] at t4
        have q1 := t4.len
        have q2 := List.length_filter_le (alikeB ps fs h0) ls
        rw [List.length_map] at q1
        -- found.append(tuple(mine))
        have f4 := s4 _ _ f3
        refine ⟨_, rfl, .inl ⟨rfl, _, SqL.of f4⟩, _, rfl, D, vs, rfl, .inl ⟨SqL.of d4, fun q hq => ?_⟩⟩
        have s5 := same_new (o := .tup vs) hq
        have at5 : (upd H4 q (.tup vs)) q = some (.tup vs) := upd_same
        have t5 := t4.to (Tup.of s5)
        have f5 := s5 _ _ f4
        have d5 := s5 _ _ d4
        have tf5 := (tf3.to (Tup.of s4)).to (Tup.of s5)
        have s05 := (s03.trans s4).trans s5
        have s35 := s4.trans s5
        generalize upd H4 q (.tup vs) = H5 at s5 at5 t5 f5 d5 tf5 s05 s35 ⊢
        have g1 := tf5.len
        rw [List.length_map] at g1
        refine ⟨fo, fv, _, rfl, rfl, f5, small_lt (m := 8) (by omega), ?_⟩
        have nfo : H fo = none := hfo
        have s06 : Same H (upd H5 fo (.lst (fv ++ [.ref q]))) := same_at s05 nfo
        have tp6 : Tup H5 (upd H5 fo (.lst (fv ++ [.ref q]))) := Tup.at_ f5 fun xs z => nomatch z
        have f6 : (upd H5 fo (.lst (fv ++ [.ref q]))) fo = some (.lst (fv ++ [.ref q])) := upd_same
        have l6 : (upd H5 fo (.lst (fv ++ [.ref q]))) lf = some (.lst lv) := by rw [upd_ne nlf]; exact s35 _ _ l3
        have nDf : D ≠ fo := fun z => by rw [z, f3] at hD; cases hD
        have d6 : (upd H5 fo (.lst (fv ++ [.ref q]))) D = some (.lst vs) := by rw [upd_ne nDf]; exact d5
        have t6 := t5.to tp6
        have tl6 := (tl3.to (Tup.of s35)).to tp6
        have tf6 : TDs (upd H5 fo (.lst (fv ++ [.ref q]))) (fv ++ [.ref q]) ((gs ++ [ls.filter (alikeB ps fs h0)]).map grpD) := by
          rw [List.map_append]
          exact TDs.snoc (.tup (tp6 _ _ at5) t6) (tf5.to tp6)
        generalize upd H5 fo (.lst (fv ++ [.ref q])) = H6 at s06 tp6 f6 l6 d6 t6 tl6 tf6 ⊢
        refine ⟨_, rfl, lf, rfl, ⟨_, SqL.of l6⟩, fun D2 hD2 => lc_list (K := K) (a := lf) (xs := lv) (fun i H7 => Same H6 H7 ∧ ∃ vs2, H7 D2 = some (.lst vs2) ∧ TDs H7 vs2 (((ls.take i).filter fun z => !decide (z ∈ ls.filter (alikeB ps fs h0))).map evD)) ⟨same_new hD2, [], upd_same, by simpa using TDs.nil⟩ (fun i H7 _ ⟨s7, _⟩ => SqL.of (s7 _ _ l6)) (fun i v H7 ex ⟨s7, vs2, d7, t7⟩ => ?_) fun H7 ⟨s7, vs2, d7, t7⟩ => ?_⟩
        · obtain ⟨z, az, ez, rfl, haz⟩ := ev_get tl6 ex
          have okz : z ∈ EVS := okl z (List.mem_of_getElem? ez)
          have lt : i < ls.length := (List.getElem?_eq_some_iff.mp ez).1
          refine ⟨rfl, _, rfl, _, rfl, evD z, (ls.filter (alikeB ps fs h0)).map evD, (ev_new (s7 _ _ haz)).dp, .lst (SqL.of (s7 _ _ d6)) (t6.to (Tup.of s7)).dp, shaped_ev okz, shaped_evl fun e m => okl e (List.mem_filter.mp m).1, _, rfl, ?_⟩
          rw [any_ev]
          have tk : ls.take (i + 1) = ls.take i ++ [z] := by rw [List.take_succ, ez]; rfl
          by_cases e : z ∈ ls.filter (alikeB ps fs h0)
          · rw [decide_eq_true e]
            refine iteF ⟨s7, vs2, d7, ?_⟩
            have e2 : (ls.take (i + 1)).filter (fun z => !decide (z ∈ ls.filter (alikeB ps fs h0))) = (ls.take i).filter (fun z => !decide (z ∈ ls.filter (alikeB ps fs h0))) := by
              rw [tk, List.filter_append, List.filter_cons, decide_eq_true e]
              exact List.append_nil _
            rw [e2]
            exact t7
          · rw [decide_eq_false e]
            refine iteT ⟨_, rfl, vs2, d7, ?_, ?_, _, upd_same, ?_⟩
            · have q1 := t7.len
              have q2 := List.length_filter_le (fun z => !decide (z ∈ ls.filter (alikeB ps fs h0))) (ls.take i)
              rw [List.length_map] at q1
              rw [List.length_take] at q2
              exact small_lt (m := 8) (by omega)
            · exact same_at s7 hD2
            · have tp : Tup H7 (upd H7 D2 (.lst (vs2 ++ [.ref az]))) := Tup.at_ d7 fun xs z => nomatch z
              have e2 : (ls.take (i + 1)).filter (fun z => !decide (z ∈ ls.filter (alikeB ps fs h0))) = (ls.take i).filter (fun z => !decide (z ∈ ls.filter (alikeB ps fs h0))) ++ [z] := by
                rw [tk, List.filter_append]
                congr 1
                rw [List.filter_cons, decide_eq_false e]
                rfl
              rw [e2, List.map_append]
              exact TDs.snoc (ev_new (tp _ _ (s7 _ _ haz))) (t7.to tp)
        · rw [q0, List.take_length] at t7
          have eL : ls.filter (fun z => !decide (z ∈ ls.filter (alikeB ps fs h0))) = tl.filter fun z => !alikeB ps fs h0 z := by
            have c1 : ls.filter (fun z => !decide (z ∈ ls.filter (alikeB ps fs h0))) = ls.filter fun z => !alikeB ps fs h0 z := by
              refine List.filter_congr fun z m => ?_
              congr 1
              rw [Bool.eq_iff_iff, decide_eq_true_eq, List.mem_filter]
              exact ⟨fun h => h.2, fun h => ⟨m, h⟩⟩
            rw [c1, ← hls, List.filter_cons, alike_self]
            rfl
          have eM : ls.filter (alikeB ps fs h0) = h0 :: tl.filter (alikeB ps fs h0) := by
            rw [← hls, List.filter_cons, alike_self]
            rfl
          rw [eL] at t7
          have lfl := List.length_filter_le (fun z => !alikeB ps fs h0 z) tl
          have lls : ls.length = tl.length + 1 := by rw [← hls]; rfl
          have nD2 : D2 ≠ fo := fun z => by rw [z, f6] at hD2; cases hD2
          refine ⟨_, by omega, D2, _, none, _, vs2, gs ++ [ls.filter (alikeB ps fs h0)], tl.filter (fun z => !alikeB ps fs h0 z), rfl, rfl, s06.trans s7, s7 _ _ f6, tf6.to (Tup.of s7), nD2, d7, t7, ?_, fun e m => okl e (by rw [← hls]; exact List.mem_cons_of_mem _ (List.mem_filter.mp m).1), by rw [List.length_append, List.length_singleton]; omega⟩
          rw [← eC, ← hls, cls_cons, List.append_assoc]
          congr 1
          rw [hls, eM]
          rfl
end
end My

-- ===== M59J =====
set_option Elab.async false
set_option linter.all false
set_option maxRecDepth 100000
set_option maxHeartbeats 4000000
namespace My
open PySem L2 PyProof.Rows PySem.Spec Kd PySem.W
/-! ### groups by keys -/
def keyAt (ps : List Pr) (e o : Ev) : NestedKey := .tup [.num (if inB ps (e, o) = true then 1 else 0), .num (if inB ps (o, e) = true then 1 else 0)]
def keyOf (ps : List Pr) (fs : List Ev) (e : Ev) : NestedKey := .tup (fs.map (keyAt ps e))
theorem bit_inj {a b : Bool} (h : (if a = true then (1 : Int) else 0) = if b = true then 1 else 0) : a = b := by
  cases a <;> cases b <;> simp at h <;> rfl
theorem keyAt_iff {ps : List Pr} {e f o : Ev} : keyAt ps e o = keyAt ps f o ↔ inB ps (e, o) = inB ps (f, o) ∧ inB ps (o, e) = inB ps (o, f) := by
  unfold keyAt
  constructor
  · intro h
    injection h with h
    injection h with h1 h
    injection h with h2 _
    injection h1 with h1
    injection h2 with h2
    exact ⟨bit_inj h1, bit_inj h2⟩
  · rintro ⟨h1, h2⟩
    rw [h1, h2]
theorem key_alike (ps : List Pr) (fs : List Ev) (e f : Ev) : alikeB ps fs e f = decide (keyOf ps fs e = keyOf ps fs f) := by
  rw [Bool.eq_iff_iff, decide_eq_true_eq]
  unfold alikeB keyOf
  rw [List.all_eq_true]
  constructor
  · intro h
    congr 1
    refine List.map_congr_left fun o m => keyAt_iff.mpr ?_
    have z := h o m
    rw [Bool.and_eq_true, beq_iff_eq, beq_iff_eq] at z
    exact z
  · intro h o m
    injection h with h
    have z := keyAt_iff.mp (List.map_inj_left.mp h o m)
    rw [Bool.and_eq_true, beq_iff_eq, beq_iff_eq]
    exact z
theorem keyOf_depth (ps : List Pr) (fs : List Ev) (e : Ev) : (keyOf ps fs e).depth ≤ 8 := by
  have all : ∀ fs : List Ev, NestedKey.depthAll (fs.map (keyAt ps e)) ≤ 1 := by
    intro fs
    induction fs with
    | nil => simp [NestedKey.depthAll]
    | cons o fs ih =>
      simp only [List.map_cons, NestedKey.depthAll, keyAt, NestedKey.depth]
      omega
  have := all fs
  unfold keyOf
  rw [NestedKey.depth]
  omega
abbrev GrpL := List (NestedKey × List Ev)
def addG (kf : Ev → NestedKey) (G : GrpL) (e : Ev) : GrpL := if kf e ∈ G.map Prod.fst then G.map (fun p => if p.1 = kf e then (p.1, p.2 ++ [e]) else p) else G ++ [(kf e, [e])]
def runG (kf : Ev → NestedKey) (G : GrpL) (l : List Ev) : GrpL := l.foldl (addG kf) G
theorem add_keys (kf : Ev → NestedKey) (G : GrpL) (e : Ev) (h : kf e ∈ G.map Prod.fst) : (addG kf G e).map Prod.fst = G.map Prod.fst := by
  unfold addG
  rw [if_pos h, List.map_map]
  refine List.map_congr_left fun p _ => ?_
  show (if p.1 = kf e then (p.1, p.2 ++ [e]) else p).1 = p.1
  split <;> rfl
theorem run_split (kf : Ev → NestedKey) : ∀ (n : Nat) (l : List Ev) (G : GrpL), l.length ≤ n → runG kf G l = G.map (fun p => (p.1, p.2 ++ l.filter fun e => decide (kf e = p.1))) ++ runG kf [] (l.filter fun e => !decide (kf e ∈ G.map Prod.fst))
  | _, [], G, _ => by
    show G = _
    simp [runG]
  | 0, e :: l, G, z => absurd z (Nat.not_succ_le_zero _)
  | n + 1, e :: l, G, z => by
    rw [List.length_cons] at z
    have zl : l.length ≤ n := by omega
    by_cases h : kf e ∈ G.map Prod.fst
    · have step : runG kf G (e :: l) = runG kf (addG kf G e) l := rfl
      rw [step, run_split kf n l _ zl, add_keys kf G e h]
      congr 1
      · unfold addG
        rw [if_pos h, List.map_map]
        refine List.map_congr_left fun p _ => ?_
        show (fun p : NestedKey × List Ev => (p.1, p.2 ++ l.filter fun e => decide (kf e = p.1))) (if p.1 = kf e then (p.1, p.2 ++ [e]) else p) = _
        by_cases q : p.1 = kf e
        · rw [if_pos q]
          simp [q]
        · rw [if_neg q]
          have q' : ¬ kf e = p.1 := fun z => q z.symm
          simp [q']
      · congr 1
        rw [List.filter_cons, decide_eq_true h]
        rfl
    · have step : runG kf G (e :: l) = runG kf (G ++ [(kf e, [e])]) l := by
        show runG kf (addG kf G e) l = _
        unfold addG
        rw [if_neg h]
      have lf := List.length_filter_le (fun e => !decide (kf e ∈ G.map Prod.fst)) l
      have e2 : (e :: l).filter (fun e => !decide (kf e ∈ G.map Prod.fst)) = e :: l.filter (fun e => !decide (kf e ∈ G.map Prod.fst)) := by
        rw [List.filter_cons, decide_eq_false h]
        rfl
      have step2 : runG kf [] (e :: l.filter (fun e => !decide (kf e ∈ G.map Prod.fst))) = runG kf [(kf e, [e])] (l.filter (fun e => !decide (kf e ∈ G.map Prod.fst))) := rfl
      rw [step, run_split kf n l _ zl, e2, step2, run_split kf n _ [(kf e, [e])] (by omega), List.map_append, List.append_assoc]
      congr 1
      · refine List.map_congr_left fun p mp => ?_
        have q' : ¬ kf e = p.1 := fun z => h (by rw [z]; exact List.mem_map.mpr ⟨p, mp, rfl⟩)
        simp [q']
      · have f1 : (l.filter fun x => !decide (kf x ∈ G.map Prod.fst)).filter (fun x => decide (kf x = kf e)) = l.filter fun x => decide (kf x = kf e) := by
          rw [List.filter_filter]
          refine List.filter_congr fun x _ => ?_
          by_cases q : kf x = kf e
          · rw [decide_eq_true q, q, decide_eq_false h]
            rfl
          · rw [decide_eq_false q]
            rfl
        have f2 : (l.filter fun x => !decide (kf x ∈ G.map Prod.fst)).filter (fun x => !decide (kf x ∈ ([(kf e, [e])] : GrpL).map Prod.fst)) = l.filter fun x => !decide (kf x ∈ (G ++ [(kf e, [e])]).map Prod.fst) := by
          rw [List.filter_filter]
          refine List.filter_congr fun x _ => ?_
          simp only [List.map_append, List.map_cons, List.map_nil, List.mem_append, List.mem_singleton]
          by_cases q : kf x = kf e
          · simp [q]
          · simp [q]
        rw [f2]
        simp only [List.map_cons, List.map_nil]
        rw [f1]
theorem run_cls (kf : Ev → NestedKey) : ∀ (n : Nat) (l : List Ev), l.length ≤ n → (runG kf [] l).map Prod.snd = clsOf (fun a b => decide (kf a = kf b)) l
  | _, [], _ => rfl
  | 0, e :: l, z => absurd z (Nat.not_succ_le_zero _)
  | n + 1, e :: l, z => by
    rw [List.length_cons] at z
    have step : runG kf [] (e :: l) = runG kf [(kf e, [e])] l := rfl
    have lf := List.length_filter_le (fun x => !decide (kf x ∈ ([(kf e, [e])] : GrpL).map Prod.fst)) l
    rw [step, run_split kf n l _ (by omega), List.map_append, run_cls kf n _ (by omega), cls_cons]
    have f1 : (l.filter fun x => decide (kf x = kf e)) = l.filter fun x => decide (kf e = kf x) := List.filter_congr fun x _ => by
      by_cases q : kf x = kf e
      · rw [decide_eq_true q, decide_eq_true q.symm]
      · rw [decide_eq_false q, decide_eq_false fun z => q z.symm]
    have f2 : (l.filter fun x => !decide (kf x ∈ ([(kf e, [e])] : GrpL).map Prod.fst)) = l.filter fun x => !decide (kf e = kf x) := List.filter_congr fun x _ => by
      by_cases q : kf x = kf e
      · simp [q]
      · have q' : ¬ kf e = kf x := fun z => q z.symm
        simp [q, q']
    rw [f2]
    simp only [List.map_cons, List.map_nil, List.singleton_append]
    rw [f1]
theorem run_is (ps : List Pr) (fs l : List Ev) : (runG (keyOf ps fs) [] l).map Prod.snd = clsOf (alikeB ps fs) l := by
  have e : alikeB ps fs = fun a b => decide (keyOf ps fs a = keyOf ps fs b) := by
    funext a b
    exact key_alike ps fs a b
  rw [e]
  exact run_cls _ _ l (Nat.le_refl _)
theorem run_snoc (kf : Ev → NestedKey) (G : GrpL) (l : List Ev) (e : Ev) : runG kf G (l ++ [e]) = addG kf (runG kf G l) e := by
  unfold runG
  rw [List.foldl_append]
  rfl
end My

-- ===== M59K =====
set_option Elab.async false
set_option linter.all false
set_option maxRecDepth 100000
set_option maxHeartbeats 4000000
namespace My
open PySem L2 PyProof.Rows PySem.Spec Kd PySem.W
theorem NqVs.snoc {H : Hp} {v : V} {k : NestedKey} (h : NqV H v k) : ∀ {vs : List V} {ks : List NestedKey}, NqVs H vs ks → NqVs H (vs ++ [v]) (ks ++ [k])
  | _, _, .nil => .cons h .nil
  | _, _, .cons h1 h2 => .cons h1 (NqVs.snoc h h2)
theorem NqVs.len {H : Hp} : ∀ {vs : List V} {ks : List NestedKey}, NqVs H vs ks → vs.length = ks.length
  | _, _, .nil => rfl
  | _, _, .cons _ h2 => by rw [List.length_cons, List.length_cons, NqVs.len h2]
/-- what the groups' dict holds, H0 being the heap at the entry -/
structure Grp (H0 H : Hp) (L : List VRow) (G : GrpL) : Prop where
  ks : VKeys H L
  nd : (L.map (·.1)).Nodup
  ke : L.map (·.1) = G.map Prod.fst
  vs : ∀ (i : Nat) (r : VRow) (g : NestedKey × List Ev), L[i]? = some r → G[i]? = some g → ∃ gl gv, r.2.2 = .ref gl ∧ H0 gl = none ∧ H gl = some (.lst gv) ∧ TDs H gv (g.2.map evD)
  ap : ∀ (i j : Nat) (r s : VRow), L[i]? = some r → L[j]? = some s → r.2.2 = s.2.2 → i = j
theorem Grp.len {H0 H : Hp} {L : List VRow} {G : GrpL} (h : Grp H0 H L G) : L.length = G.length := by
  have z := congrArg List.length h.ke
  rwa [List.length_map, List.length_map] at z
/-- new objects beside -/
theorem Grp.same {H0 H H' : Hp} {L : List VRow} {G : GrpL} (h : Grp H0 H L G) (s : Same H H') : Grp H0 H' L G :=
  ⟨h.ks.to (Tup.of s), h.nd, h.ke, fun i r g e1 e2 => let ⟨gl, gv, a, b, c, d⟩ := h.vs i r g e1 e2; ⟨gl, gv, a, b, s _ _ c, d.to (Tup.of s)⟩, h.ap⟩
/-- something else written -/
theorem Grp.wr {H0 H : Hp} {L : List VRow} {G : GrpL} {D : Addr} {o o' : HO} (h : Grp H0 H L G) (hD : H D = some o) (nt : ∀ xs, o ≠ .tup xs) (nl : ∀ xs, o ≠ .lst xs) : Grp H0 (upd H D o') L G := by
  have tp : Tup H (upd H D o') := Tup.at_ hD nt
  refine ⟨h.ks.to tp, h.nd, h.ke, fun i r g e1 e2 => ?_, h.ap⟩
  obtain ⟨gl, gv, a, b, c, d⟩ := h.vs i r g e1 e2
  refine ⟨gl, gv, a, b, ?_, d.to tp⟩
  rw [upd_ne (fun z => by rw [z, hD] at c; exact nl _ (Option.some.inj c))]
  exact c
/-- one more in a group that is there -/
theorem Grp.old {H0 H : Hp} {L : List VRow} {G : GrpL} {kf : Ev → NestedKey} {e : Ev} {gl ae : Addr} (h : Grp H0 H L G) (hv : valW L (kf e) = some (.ref gl)) (ha : H ae = some (.tup [.str e.1, .str e.2])) :
    ∃ gv, H gl = some (.lst gv) ∧ H0 gl = none ∧ (∃ g ∈ G, gv.length = g.2.length) ∧ Grp H0 (upd H gl (.lst (gv ++ [.ref ae]))) L (addG kf G e) := by
  obtain ⟨b, mb⟩ := valW_some hv
  obtain ⟨i, ei⟩ := List.mem_iff_getElem?.mp mb
  have li : i < L.length := (List.getElem?_eq_some_iff.mp ei).1
  obtain ⟨g, eg⟩ : ∃ g, G[i]? = some g := ⟨G[i]'(by rw [← h.len]; exact li), List.getElem?_eq_getElem _⟩
  obtain ⟨gl', gv, q, fr, hg, tg⟩ := h.vs i _ g ei eg
  obtain rfl : gl = gl' := V.ref.inj q
  have tp : Tup H (upd H gl (.lst (gv ++ [.ref ae]))) := Tup.at_ hg fun xs z => nomatch z
  have kin : kf e ∈ G.map Prod.fst := by rw [← h.ke]; exact List.mem_map.mpr ⟨_, mb, rfl⟩
  refine ⟨gv, hg, fr, ⟨g, List.mem_of_getElem? eg, by have z := tg.len; rwa [List.length_map] at z⟩, h.ks.to tp, h.nd, by rw [add_keys kf G e kin]; exact h.ke, fun j r g2 ej eg2 => ?_, h.ap⟩
  unfold addG at eg2
  rw [if_pos kin, List.getElem?_map] at eg2
  obtain ⟨g3, eg3, rfl⟩ := Option.map_eq_some_iff.mp eg2
  obtain ⟨gl2, gv2, q2, fr2, hg2, tg2⟩ := h.vs j r g3 ej eg3
  have rk : r.1 = g3.1 := by
    have z := congrArg (fun l => l[j]?) h.ke
    simp only [List.getElem?_map, ej, eg3, Option.map_some] at z
    exact Option.some.inj z
  by_cases c : g3.1 = kf e
  · have ij : i = j := by
      have nd := h.nd
      have z1 : (L.map (·.1))[i]? = some (kf e) := by rw [List.getElem?_map, ei]; rfl
      have z2 : (L.map (·.1))[j]? = some (kf e) := by rw [List.getElem?_map, ej, ← c, ← rk]; rfl
      obtain ⟨l1, w1⟩ := List.getElem?_eq_some_iff.mp z1
      obtain ⟨l2, w2⟩ := List.getElem?_eq_some_iff.mp z2
      exact (List.getElem_inj nd).mp (w1.trans w2.symm)
    subst ij
    rw [ei] at ej
    cases ej
    rw [eg] at eg3
    cases eg3
    obtain rfl : gl = gl2 := V.ref.inj q2
    rw [hg] at hg2
    cases hg2
    rw [if_pos c]
    refine ⟨gl, gv ++ [.ref ae], q, fr, upd_same, ?_⟩
    rw [List.map_append]
    exact TDs.snoc (ev_new (tp _ _ ha)) (tg.to tp)
  · rw [if_neg c]
    have ne : gl2 ≠ gl := fun z => by
      have ij := h.ap j i r _ ej ei (by rw [q2, z])
      subst ij
      rw [ei] at ej
      cases ej
      exact c rk.symm
    exact ⟨gl2, gv2, q2, fr2, by rw [upd_ne ne]; exact hg2, tg2.to tp⟩
/-- a new group -/
theorem Grp.new {H0 H : Hp} {L : List VRow} {G : GrpL} {kf : Ev → NestedKey} {e : Ev} {gl ae b : Addr} (h : Grp H0 H L G) (hv : valW L (kf e) = none) (ha : H ae = some (.tup [.str e.1, .str e.2])) (hg : H gl = some (.lst [])) (fr : H0 gl = none)
    (ne : ∀ r ∈ L, r.2.2 ≠ .ref gl) (hk : NqV H (.ref b) (kf e)) (hd : (kf e).depth ≤ 8) : Grp H0 (upd H gl (.lst [.ref ae])) (L ++ [(kf e, b, .ref gl)]) (addG kf G e) := by
  have tp : Tup H (upd H gl (.lst [.ref ae])) := Tup.at_ hg fun xs z => nomatch z
  have nin : kf e ∉ G.map Prod.fst := by rw [← h.ke]; exact valW_none.mp hv
  have len := h.len
  unfold addG
  rw [if_neg nin]
  refine ⟨(VKeys.snoc h.ks hk hd).to tp, ?_, by rw [List.map_append, List.map_append, h.ke]; rfl, fun j r g2 ej eg2 => ?_, fun i j r s ei ej q => ?_⟩
  · rw [List.map_append]
    exact List.nodup_append.mpr ⟨h.nd, by simp, fun x hx y hy z => by
      rw [show y = kf e from List.mem_singleton.mp hy] at z
      exact valW_none.mp hv (z ▸ hx)⟩
  · rcases Nat.lt_or_ge j L.length with lt | ge
    · rw [List.getElem?_append_left lt] at ej
      rw [List.getElem?_append_left (by omega)] at eg2
      obtain ⟨gl2, gv2, q2, fr2, hg2, tg2⟩ := h.vs j r g2 ej eg2
      have n2 : gl2 ≠ gl := fun z => ne r (List.mem_of_getElem? ej) (by rw [q2, z])
      exact ⟨gl2, gv2, q2, fr2, by rw [upd_ne n2]; exact hg2, tg2.to tp⟩
    · rw [List.getElem?_append_right ge] at ej
      rw [List.getElem?_append_right (by omega)] at eg2
      have z : j - L.length = 0 := by
        have z := (List.getElem?_eq_some_iff.mp ej).1
        simp at z
        omega
      rw [z] at ej
      rw [show j - G.length = 0 by omega] at eg2
      cases Option.some.inj ej
      cases Option.some.inj eg2
      exact ⟨gl, [.ref ae], rfl, fr, upd_same, .cons (ev_new (tp _ _ ha)) .nil⟩
  · have last : ∀ {i : Nat} {r : VRow}, (L ++ [(kf e, b, V.ref gl)])[i]? = some r → (i < L.length ∧ L[i]? = some r) ∨ (i = L.length ∧ r.2.2 = .ref gl) := fun {i r} ei => by
      rcases Nat.lt_or_ge i L.length with lt | ge
      · rw [List.getElem?_append_left lt] at ei
        exact .inl ⟨lt, ei⟩
      · rw [List.getElem?_append_right ge] at ei
        have z : i - L.length = 0 := by
          have z := (List.getElem?_eq_some_iff.mp ei).1
          simp at z
          omega
        rw [z] at ei
        cases Option.some.inj ei
        exact .inr ⟨by omega, rfl⟩
    rcases last ei with ⟨_, ei⟩ | ⟨ei, ri⟩
    · rcases last ej with ⟨_, ej⟩ | ⟨ej, rj⟩
      · exact h.ap i j r s ei ej q
      · exact absurd (q.trans rj) (ne r (List.mem_of_getElem? ei))
    · rcases last ej with ⟨_, ej⟩ | ⟨ej, rj⟩
      · exact absurd (q.symm.trans ri) (ne s (List.mem_of_getElem? ej))
      · omega
/-- what Grp says of rows whose group is tracked -/
theorem Grp.free {H0 H : Hp} {L : List VRow} {G : GrpL} {gl : Addr} (h : Grp H0 H L G) (n : H gl = none) : ∀ r ∈ L, r.2.2 ≠ .ref gl := fun r m e => by
  obtain ⟨i, ei⟩ := List.mem_iff_getElem?.mp m
  have li : i < L.length := (List.getElem?_eq_some_iff.mp ei).1
  obtain ⟨g, eg⟩ : ∃ g, G[i]? = some g := ⟨G[i]'(by rw [← h.len]; exact li), List.getElem?_eq_getElem _⟩
  obtain ⟨gl', gv, q, _, hg, _⟩ := h.vs i r g ei eg
  rw [e] at q
  cases q
  rw [n] at hg
  cases hg
end My

-- ===== M59L =====
set_option Elab.async false
set_option linter.all false
set_option maxRecDepth 100000
set_option maxHeartbeats 4000000
namespace My
open PySem L2 PyProof.Rows PySem.Spec Kd PySem.W
def spModes : Sp := fun vs H Q _ => ∃ (T S : Addr) (ps : List Pr) (fs : List Ev), vs = [.ref T, .ref S] ∧ TD H (.ref T) (tabD ps) ∧ ps.Nodup ∧ ps.length ≤ 64 ∧ TD H (.ref S) (.tuple (fs.map evD)) ∧ fs.Nodup ∧ fs.length ≤ 8 ∧
  ∀ R H', Same H H' → TD H' (.ref R) (.tuple ((clsOf (alikeB ps fs) (srt fs)).map grpD)) → Q (.ref R) H'
def rTupOf (K : PySem.W.Frag) : List V → Hp → VK → Prop := fun xs H Q => ∃ p ys, xs = [V.ref p] ∧ ((SqL K H p ys ∧ ∀ l : Addr, H l = none → Q (V.ref l) (upd H l (HO.tup ys))) ∨ SqT K H p ys ∧ Q (V.ref p) H)
/-- all that was tracked is as it was, but for one thing -/
def But (d : Addr) (H H' : Hp) : Prop := ∀ b u, H b = some u → b ≠ d → H' b = some u
theorem But.refl (d : Addr) (H : Hp) : But d H H := fun _ _ h _ => h
theorem But.trans {d : Addr} {H H1 H2 : Hp} (a : But d H H1) (b : But d H1 H2) : But d H H2 := fun x o h n => b x o (a x o h n) n
theorem But.of {d : Addr} {H H1 : Hp} (a : Same H H1) : But d H H1 := fun x o h _ => a x o h
theorem But.wr {d x : Addr} {o : HO} {H H1 : Hp} (a : But d H H1) (n : H x = none) : But d H (upd H1 x o) := fun y u h z => by
  rw [upd_ne (ne_of_none h n)]
  exact a y u h z
theorem But.at_ {d : Addr} {o : HO} {H H1 : Hp} (a : But d H H1) : But d H (upd H1 d o) := fun y u h z => by
  rw [upd_ne z]
  exact a y u h z
theorem But.free {d x : Addr} {H H1 : Hp} (a : But d H H1) (n : H1 x = none) (z : x ≠ d) : H x = none := by
  cases e : H x with
  | none => rfl
  | some o => rw [a x o e z] at n; cases n
theorem But.same {d : Addr} {H0 H H1 : Hp} (s : Same H0 H) (a : But d H H1) (n : H0 d = none) : Same H0 H1 := fun b o e => a b o (s b o e) (ne_of_none e n)
theorem pair_of {H : Hp} {v : V} {q : Pr} (h : TD H v (pairD q)) : ∃ t a b, v = .ref t ∧ H t = some (.tup [.ref a, .ref b]) ∧ H a = some (.tup [.str q.1.1, .str q.1.2]) ∧ H b = some (.tup [.str q.2.1, .str q.2.2]) := by
  obtain ⟨t, xs, rfl, ht, hx⟩ := TD.ref_of h
  cases hx with
  | cons h1 t1 =>
    obtain ⟨a, rfl, ha⟩ := ev_of h1
    cases t1 with
    | cons h2 t2 =>
      obtain ⟨b, rfl, hb⟩ := ev_of h2
      cases t2
      exact ⟨t, a, b, rfl, ht, ha, hb⟩
/-- rows of a list of groups -/
theorem grp_rows {H : Hp} : ∀ {vs : List V} {gs : List (List Ev)}, TDs H vs (gs.map grpD) → ∃ L : List (Addr × List Ev), vs = L.map (fun q => V.ref q.1) ∧ gs = L.map Prod.snd ∧ ∀ q ∈ L, TD H (.ref q.1) (grpD q.2)
  | [], [], _ => ⟨[], rfl, rfl, fun _ m => nomatch m⟩
  | [], e :: es, h => by cases h
  | v :: vs, [], h => by cases h
  | v :: vs, e :: es, h => by
    rw [List.map_cons] at h
    cases h with
    | cons h1 h2 =>
      obtain ⟨a, xs, rfl, _⟩ := TD.ref_of (show TD H v (.tuple (e.map evD)) from h1)
      obtain ⟨L, e1, e2, e3⟩ := grp_rows h2
      exact ⟨(a, e) :: L, by rw [e1]; rfl, by rw [e2]; rfl, fun q m => by
        rcases List.mem_cons.mp m with rfl | m
        · exact h1
        · exact e3 q m⟩
theorem grows_td {H : Hp} : ∀ {L : List (Addr × List Ev)}, (∀ q ∈ L, TD H (.ref q.1) (grpD q.2)) → TDs H (L.map fun q => V.ref q.1) ((L.map Prod.snd).map grpD)
  | [], _ => .nil
  | q :: L, h => .cons (h q List.mem_cons_self) (grows_td fun r m => h r (List.mem_cons_of_mem _ m))
theorem depth_grp (g : List Ev) : (grpD g).depth ≤ 60 := by
  have := deep_evs g
  unfold grpD
  simp only [PyData.depth]
  omega
theorem alike_grps (g k : List Ev) : PySem.W.alike (grpD g) (grpD k) = true := by
  unfold grpD
  simp only [PySem.W.alike]
  exact alike_grp g k
section
variable {P : Program} {w : World} {K : PySem.W.Frag} {mg : Str → Option Value} {base : Heap}
abbrev nMo : List Str := ["table", "events", "barred", "groups", "event", "key", "pair", "other", "group"]
theorem scMo : FnScope nMo ["table", "events"] (defScope sModes) := ⟨rfl, rfl, rfl, by decide +kernel, rfl, by decide +kernel, by decide +kernel⟩
theorem ok_modes {f : Addr} {fd : FuncData} (F : Fun K "modes" "modes" sModes f fd) (mtup : mg "tuple" = none) (msorted : mg "sorted" = none) : FnOk P w K mg base CX0 1 f fd ["table", "events"] spModes := by
  refine F.ok scMo (fun vs H Q E h => ?_) (fun cdv A outer s H vs Q E hr h => ?_)
  · obtain ⟨T, S, ps, fs, rfl, _⟩ := h
    rfl
  · obtain ⟨T, S, ps, fs, rfl, tT, pnd, p64, tS, fnd, f8, k⟩ := h
    have hu := hr.units
    have hu80 : (A.deeper (envOfC "modes" (defScope sModes) s.heap.objs.size f cdv)).units + 80 < cLine := by have := hr.un; omega
    refine ⟨_, pss_cons (ps_set (i := 2) scMo.nd rfl (Or.inr rfl) (pe_dcVP (P := P) (w := w) (own := [("pair", 6)]) (ga := gName 6) rfl scMo.nd hu (pi_tup (pv 0)) (blkOk_by (N := nMo) (sc := defScope sModes) (by decide +kernel))
        (fun _ _ _ _ _ => pg_name (i := 6) scMo.nd rfl (Or.inl rfl)) (fun _ _ _ _ _ => pv 6) (fun _ _ _ _ _ => pe_bl)))
      (pss_cons (ps_set (i := 3) scMo.nd rfl (Or.inl rfl) (pe_dnewVP (P := P) (w := w)))
      (pss_cons (ps_for PassesOwn.never rfl (pi_list (pe_callB (r := rSortX evD K) (cr_sortX (enc := evD) hu80) (by rfl) msorted PyProof.Rows.boot_sorted (pa_cons (pv 1) pa_nil))) (pg_name (i := 4) scMo.nd rfl (Or.inr rfl))
        (pss_cons (ps_set (i := 5) scMo.nd rfl (Or.inl rfl) (pe_callTy call_tuple_of (by rfl) mtup (by decide +kernel) (pa_cons (pe_lc (own := [("other", 7)]) (g := gName 7) (tt := tYes) rfl scMo.nd (pi_tup (pv 1)) (blkOk_by (N := nMo) (sc := defScope sModes) (by decide +kernel))
            (fun _ _ _ _ _ => pg_name (i := 7) scMo.nd rfl (Or.inl rfl)) (fun _ _ _ _ _ => pts_nil)
            (fun _ _ _ _ _ => pe_tup (pa_cons (pe_cmpR (r := rInV P w) (op_inVP (P := P) (w := w) hu) (pe_tup (pa_cons (pv 4) (pa_cons (pv 7) pa_nil))) (pv 2) (by rfl)) (pa_cons (pe_cmpR (r := rInV P w) (op_inVP (P := P) (w := w) hu) (pe_tup (pa_cons (pv 7) (pa_cons (pv 4) pa_nil))) (pv 2) (by rfl)) pa_nil)))) pa_nil)))
        (pss_one (ps_expr (pe_bm PySem.F.plainAttrs_list PySem.F.slot_list_append PySem.F.type_list_append mt_append (pe_setdVP (P := P) (w := w) hu (pv 3) (pv 5) (pe_lst pa_nil) ⟨rfl, rfl, rfl, rfl⟩) (pa_cons (pv 4) pa_nil))))))
      (pss_one (ps_ret (pe_callTy call_tuple_of (by rfl) mtup (by decide +kernel) (pa_cons (pe_callB (r := rSortX grpD K) (cr_sortX (enc := grpD) hu80) (by rfl) msorted PyProof.Rows.boot_sorted
        (pa_cons (pe_lock (pe_lc (own := [("group", 8)]) (g := gName 8) (tt := tYes) rfl scMo.nd (pi_valuesVP (P := P) (w := w) (pv 3)) (blkOk_by (N := nMo) (sc := defScope sModes) (by decide +kernel))
          (fun _ _ _ _ _ => pg_name (i := 8) scMo.nd rfl (Or.inl rfl)) (fun _ _ _ _ _ => pts_nil) (fun _ _ _ _ _ => pe_callTy (T := "tuple") (r := rTupOf K) call_tuple_of (by rfl) mtup (by decide +kernel) (pa_cons (pv 8) pa_nil)))) pa_nil)) pa_nil)))))), ?_⟩
    have two : (2 : Nat) ≤ sizeLine := by decide
    obtain ⟨tv, hT, tTs⟩ := tT.tup_of
    have ltv : tv.length = ps.length := by have z := tTs.len; rwa [List.length_map] at z
    obtain ⟨sv, hS, tSs⟩ := tS.tup_of
    have lsv : sv.length = fs.length := by have z := tSs.len; rwa [List.length_map] at z
    -- barred
    refine ⟨_, rfl, T, rfl, ⟨_, SqT.of hT⟩, fun bd hbd => ⟨fun i m H2 => m = ps.length - i ∧ i ≤ ps.length ∧ Same H H2 ∧ ∃ B, H2 bd = some (VDict P w bd B) ∧ VKeys H2 B ∧ B.map (·.1) = (ps.take i).map nkP, ⟨_, rfl, Nat.zero_le _, same_new hbd, [], upd_same, (fun _ m => nomatch m), by simp⟩, fun i m H2 ⟨em, le, s2, B, b2, kB, eB⟩ => ?_⟩⟩
    subst em
    have hT2 := s2 _ _ hT
    rcases Nat.lt_or_ge i ps.length with lt | ge
    · obtain ⟨y, ey⟩ : ∃ y, tv[i]? = some y := ⟨tv[i]'(by omega), List.getElem?_eq_getElem _⟩
      obtain ⟨dd, ed, td⟩ := tTs.get ey
      rw [List.getElem?_map] at ed
      obtain ⟨q, eq, rfl⟩ := Option.map_eq_some_iff.mp ed
      obtain ⟨c, a1, a2, rfl, hc, h1, h2⟩ := pair_of td
      refine .inr ⟨⟨tv, _, SqT.of hT2, ey⟩, fun H3 => Same H H3 ∧ ∃ B, H3 bd = some (VDict P w bd B) ∧ VKeys H3 B ∧ B.map (·.1) = (ps.take (i + 1)).map nkP, fun H3 ⟨s3, B3, b3, kB3, eB3⟩ => ⟨_, by omega, rfl, lt, s3, B3, b3, kB3, eB3⟩, fun v H3 yl => ?_⟩
      obtain ⟨eH, yv⟩ := yl
      have e0 : tv[i]? = some v := yv _ (SqT.of hT2)
      rw [ey] at e0
      cases e0
      have eH := eH.symm
      subst eH
      have nq := nqP (s2 _ _ hc) (s2 _ _ h1) (s2 _ _ h2)
      have tk : ps.take (i + 1) = ps.take i ++ [q] := by rw [List.take_succ, eq]; rfl
      have nk : valW B (nkP q) = none := valW_none.mpr (by
        rw [eB]
        intro m
        obtain ⟨r, mr, er⟩ := List.mem_map.mp m
        exact not_took pnd eq (nkP_inj er ▸ mr))
      have lB : B.length ≤ 64 := by
        have z := congrArg List.length eB
        rw [List.length_map, List.length_map, List.length_take] at z
        omega
      refine ⟨rfl, _, rfl, B, nkP q, c, rfl, nq, nkP_depth q, b2, kB, nk, by omega, same_at s2 hbd, _, upd_same, ?_, ?_⟩
      · have tp : Tup H2 (upd H2 bd (VDict P w bd (B ++ [(nkP q, c, .bl true)]))) := Tup.at_ b2 fun xs z => nomatch z
        exact (VKeys.snoc kB nq (nkP_depth q)).to tp
      · rw [List.map_append, eB, tk, List.map_append]
        rfl
    have ei : i = ps.length := by omega
    subst ei
    rw [List.take_length] at eB
    refine .inl ⟨⟨tv, SqT.of hT2, by omega⟩, ?_⟩
    have inB_is : ∀ q : Pr, (valW B (nkP q)).isSome = inB ps q := fun q => by
      rw [valW_is, eB]
      unfold inB
      rw [Bool.eq_iff_iff, decide_eq_true_eq, decide_eq_true_eq]
      exact ⟨fun m => let ⟨r, mr, er⟩ := List.mem_map.mp m; nkP_inj er ▸ mr, fun m => List.mem_map.mpr ⟨q, m, rfl⟩⟩
    -- groups
    refine fun d hd => ?_
    have s3 : Same H (upd H2 d (VDict P w d [])) := s2.trans (same_new hd)
    have nd0 : H d = none := s2.free hd
    have db : d ≠ bd := Ne.symm (ne_of_none b2 hd)
    have b3 : (upd H2 d (VDict P w d [])) bd = some (VDict P w bd B) := by rw [upd_ne (Ne.symm db)]; exact b2
    have kB3 : VKeys (upd H2 d (VDict P w d [])) B := kB.to (Tup.new hd)
    have d3 : (upd H2 d (VDict P w d [])) d = some (VDict P w d []) := upd_same
    generalize upd H2 d (VDict P w d []) = H3 at s3 b3 kB3 d3 ⊢
    obtain ⟨L0, eL1, eL2, tL⟩ := ev_rows tSs
    have lL : L0.length = fs.length := by rw [eL2, List.length_map]
    refine ⟨_, rfl, S, L0, rfl, .inr (SqT.of (by rw [← eL1]; exact s3 _ _ hS)), fun q m => ((tL q m).to (Tup.of s3)).dp, ?_, ?_, fun q _ => depth_ev _, by omega, fun lf hlf => ?_⟩
    · intro x hx x' hx'
      obtain ⟨q, _, rfl⟩ := List.mem_map.mp hx
      obtain ⟨q', _, rfl⟩ := List.mem_map.mp hx'
      exact alike_ev _ _
    · refine .inl fun x hx => ?_
      obtain ⟨q, _, rfl⟩ := List.mem_map.mp hx
      exact ⟨_, _, rfl⟩
    have sM : (L0.mergeSort (dataLe false fun q => evD q.2)).map Prod.snd = srt fs := by rw [sort_snd, ← eL2]; rfl
    have pM : (L0.mergeSort (dataLe false fun q => evD q.2)).Perm L0 := List.mergeSort_perm _ _
    generalize L0.mergeSort (dataLe false fun q => evD q.2) = M at sM pM ⊢
    have lM : M.length = fs.length := by rw [pM.length_eq, lL]
    have s4 : Same H (upd H3 lf (.lst (M.map fun q => V.ref q.1))) := s3.trans (same_new hlf)
    have nlf0 : H lf = none := s3.free hlf
    have dl : lf ≠ d := Ne.symm (ne_of_none d3 hlf)
    have bl : lf ≠ bd := Ne.symm (ne_of_none b3 hlf)
    have b4 : (upd H3 lf (.lst (M.map fun q => V.ref q.1))) bd = some (VDict P w bd B) := by rw [upd_ne (Ne.symm bl)]; exact b3
    have d4 : (upd H3 lf (.lst (M.map fun q => V.ref q.1))) d = some (VDict P w d []) := by rw [upd_ne (Ne.symm dl)]; exact d3
    have kB4 : VKeys (upd H3 lf (.lst (M.map fun q => V.ref q.1))) B := kB3.to (Tup.new hlf)
    have l4 : (upd H3 lf (.lst (M.map fun q => V.ref q.1))) lf = some (.lst (M.map fun q => V.ref q.1)) := upd_same
    generalize upd H3 lf (.lst (M.map fun q => V.ref q.1)) = H4 at s4 b4 d4 kB4 l4 ⊢
    have tM : ∀ q ∈ M, H q.1 = some (.tup [.str q.2.1, .str q.2.2]) := fun q m => by
      obtain ⟨a, ea, ha⟩ := ev_of (tL q (pM.mem_iff.mp m))
      cases ea
      exact ha
    refine ⟨lf, rfl, ⟨_, SqL.of l4⟩, for_list (K := K) (a := lf) (xs := M.map fun q => V.ref q.1) (fun i σ H5 => ∃ (o4 o5 : Option V) (L : List VRow), σ = [some (.ref T), some (.ref S), some (.ref bd), some (.ref d), o4, o5, none, none, none] ∧ But d H4 H5 ∧ VKeys H5 B ∧ H5 d = some (VDict P w d L) ∧ Grp H4 H5 L (runG (keyOf ps fs) [] ((srt fs).take i)) ∧ L.length ≤ i)
      ⟨none, none, [], rfl, But.refl d H4, kB4, d4, ⟨(fun _ m => nomatch m), List.nodup_nil, rfl, (fun i r g e => by simp at e), fun i j r s e => by simp at e⟩, Nat.le_refl _⟩ (fun i σ H5 _ ⟨_, _, _, _, u5, _⟩ => SqL.of (u5 _ _ l4 dl)) ?_ ?_⟩
    · rintro i x σ H5 ex ⟨o4, o5, L, rfl, u5, kB5, d5, GG, lenL⟩
      have s5 : Same H H5 := But.same s4 u5 nd0
      have b5 := u5 _ _ b4 (Ne.symm db)
      rw [List.getElem?_map] at ex
      obtain ⟨q, eq, rfl⟩ := Option.map_eq_some_iff.mp ex
      obtain ⟨ae, e⟩ := q
      have hae : H ae = some (.tup [.str e.1, .str e.2]) := tM _ (List.mem_of_getElem? eq)
      have lt : i < fs.length := by have := (List.getElem?_eq_some_iff.mp eq).1; omega
      have es : (srt fs)[i]? = some e := by rw [← sM, List.getElem?_map, eq]; rfl
      have tk : (srt fs).take (i + 1) = (srt fs).take i ++ [e] := by rw [List.take_succ, es]; rfl
      have hS5 := s5 _ _ hS
      -- key
      refine ⟨_, rfl, S, rfl, ⟨_, SqT.of hS5⟩, fun D hD => lc_tup (K := K) (a := S) (xs := sv) (fun j H6 => Same H5 H6 ∧ ∃ acc, H6 D = some (.lst acc) ∧ NqVs H6 acc ((fs.take j).map (keyAt ps e))) ⟨same_new hD, [], upd_same, by simpa using NqVs.nil⟩ (fun j H6 _ ⟨s6, _⟩ => SqT.of (s6 _ _ hS5)) (fun j v H6 ex2 ⟨s6, acc, d6, n6⟩ => ?_) fun H6 ⟨s6, acc, d6, n6⟩ => ?_⟩
      · obtain ⟨o, ao, eo, rfl, hao⟩ := ev_get tSs ex2
        have lt2 : j < fs.length := (List.getElem?_eq_some_iff.mp eo).1
        have s06 := s5.trans s6
        refine ⟨rfl, _, rfl, _, rfl, two, fun t1 ht1 => ?_⟩
        have s7 := same_new (o := .tup [V.ref ae, .ref ao]) ht1
        have at7 : (upd H6 t1 (.tup [V.ref ae, .ref ao])) t1 = some (.tup [V.ref ae, .ref ao]) := upd_same
        generalize upd H6 t1 (.tup [V.ref ae, .ref ao]) = H7 at s7 at7 ⊢
        have s07 := s06.trans s7
        have s57 := s6.trans s7
        refine ⟨_, rfl, t1, bd, nkP (e, o), B, rfl, rfl, nqP at7 (s07 _ _ hae) (s07 _ _ hao), nkP_depth _, s57 _ _ b5, kB5.to (Tup.of s57), ?_⟩
        rw [inB_is]
        refine ⟨_, rfl, _, rfl, two, fun t2 ht2 => ?_⟩
        have s8 := same_new (o := .tup [V.ref ao, .ref ae]) ht2
        have at8 : (upd H7 t2 (.tup [V.ref ao, .ref ae])) t2 = some (.tup [V.ref ao, .ref ae]) := upd_same
        generalize upd H7 t2 (.tup [V.ref ao, .ref ae]) = H8 at s8 at8 ⊢
        have s08 := s07.trans s8
        have s58 := s57.trans s8
        refine ⟨_, rfl, t2, bd, nkP (o, e), B, rfl, rfl, nqP at8 (s08 _ _ hao) (s08 _ _ hae), nkP_depth _, s58 _ _ b5, kB5.to (Tup.of s58), ?_⟩
        rw [inB_is]
        refine ⟨two, fun q hq => ?_⟩
        have s9 := same_new (o := .tup [V.bl (inB ps (e, o)), .bl (inB ps (o, e))]) hq
        have at9 : (upd H8 q (.tup [V.bl (inB ps (e, o)), .bl (inB ps (o, e))])) q = some (.tup [V.bl (inB ps (e, o)), .bl (inB ps (o, e))]) := upd_same
        generalize upd H8 q (.tup [V.bl (inB ps (e, o)), .bl (inB ps (o, e))]) = H9 at s9 at9 ⊢
        have s69 := (s7.trans s8).trans s9
        have d9 := s69 _ _ d6
        have la := NqVs.len n6
        rw [List.length_map, List.length_take] at la
        have tp : Tup H9 (upd H9 D (.lst (acc ++ [.ref q]))) := Tup.at_ d9 fun xs z => nomatch z
        refine ⟨acc, d9, small_lt (m := 8) (by omega), same_at (s6.trans s69) hD, _, upd_same, ?_⟩
        rw [List.take_succ, eo, Option.toList_some, List.map_append]
        exact NqVs.snoc (.tup (tp _ _ at9) (.cons (.bool _) (.cons (.bool _) .nil))) ((n6.to (Tup.of s69)).to tp)
      · rw [lsv, List.take_length] at n6
        refine ⟨D, acc, rfl, .inl ⟨SqL.of d6, fun kt hkt => ?_⟩⟩
        have s7 := same_new (o := .tup acc) hkt
        have at7 : (upd H6 kt (.tup acc)) kt = some (.tup acc) := upd_same
        have n7 := n6.to (Tup.of s7)
        have s57 := s6.trans s7
        generalize upd H6 kt (.tup acc) = H7 at s7 at7 n7 s57 ⊢
        have nk7 : NqV H7 (.ref kt) (keyOf ps fs e) := .tup at7 n7
        have G7 := GG.same s57
        refine ⟨_, rfl, d, L, rfl, s57 _ _ d5, _, rfl, by show 0 ≤ sizeLine; decide, fun gl hgl => ?_⟩
        have s8 := same_new (o := .lst []) hgl
        have g8 : (upd H7 gl (.lst [])) gl = some (.lst []) := upd_same
        have s58 := s57.trans s8
        have free7 := G7.free hgl
        generalize upd H7 gl (.lst []) = H8 at s8 g8 s58 ⊢
        have s08 := s5.trans s58
        have d8 := s58 _ _ d5
        have b8 := s58 _ _ b5
        have G8 := G7.same s8
        have kB8 := kB5.to (Tup.of s58)
        have nk8 := nk7.to (Tup.of s8)
        have gld : gl ≠ d := fun z => by rw [z, s57 _ _ d5] at hgl; cases hgl
        have ngl0 : H4 gl = none := But.free (u5.trans (But.of s57)) hgl gld
        have u8 : But d H4 H8 := u5.trans (But.of s58)
        refine ⟨kt, keyOf ps fs e, L, rfl, nk8, keyOf_depth _ _ _, d8, G8.ks, by omega, fun v hv => ?_, fun hv => ?_⟩
        · obtain ⟨b1, mb⟩ := valW_some hv
          obtain ⟨i1, ei1⟩ := List.mem_iff_getElem?.mp mb
          have li1 : i1 < L.length := (List.getElem?_eq_some_iff.mp ei1).1
          obtain ⟨g1, eg1⟩ : ∃ g, (runG (keyOf ps fs) [] ((srt fs).take i))[i1]? = some g := ⟨_, List.getElem?_eq_getElem (by rw [← G8.len]; exact li1)⟩
          obtain ⟨gl1, _, q1, _⟩ := G8.vs i1 _ g1 ei1 eg1
          have q1 : v = .ref gl1 := q1
          subst q1
          obtain ⟨gv, hgv, frv, ⟨g2, mg2, lg2⟩, G9⟩ := G8.old hv (s08 _ _ hae)
          have lgv : gv.length ≤ 8 := by
            have m2 : g2.2 ∈ clsOf (alikeB ps fs) ((srt fs).take i) := by
              rw [← run_is]
              exact List.mem_map.mpr ⟨g2, mg2, rfl⟩
            have z := (cls_mem _ _ _ (Nat.le_refl _) _ m2).1.length_le
            have z2 := List.length_take_le i (srt fs)
            omega
          refine ⟨.inl ⟨rfl, _, SqL.of hgv⟩, _, rfl, gl1, gv, _, rfl, rfl, hgv, small_lt (m := 8) lgv, ?_⟩
          have tp : Tup H8 (upd H8 gl1 (.lst (gv ++ [.ref ae]))) := Tup.at_ hgv fun xs z => nomatch z
          refine ⟨_, _, L, rfl, u8.wr frv, kB8.to tp, ?_, ?_, by omega⟩
          · rw [upd_ne (fun z => by rw [← z, d8] at hgv; cases hgv)]
            exact d8
          · rw [tk, run_snoc]
            exact G9
        · have tpd : Tup H8 (upd H8 d (VDict P w d (L ++ [(keyOf ps fs e, kt, .ref gl)]))) := Tup.at_ d8 fun xs z => nomatch z
          have G9 := G8.wr (o' := VDict P w d (L ++ [(keyOf ps fs e, kt, .ref gl)])) d8 (fun xs z => nomatch z) (fun xs z => nomatch z)
          have g9 : (upd H8 d (VDict P w d (L ++ [(keyOf ps fs e, kt, .ref gl)]))) gl = some (.lst []) := by rw [upd_ne gld]; exact g8
          have d9 : (upd H8 d (VDict P w d (L ++ [(keyOf ps fs e, kt, .ref gl)]))) d = some (VDict P w d (L ++ [(keyOf ps fs e, kt, .ref gl)])) := upd_same
          have u9 : But d H4 (upd H8 d (VDict P w d (L ++ [(keyOf ps fs e, kt, .ref gl)]))) := u8.at_
          have ha9 := tpd _ _ (s08 _ _ hae)
          have nk9 := nk8.to tpd
          have kB9 := kB8.to tpd
          generalize upd H8 d (VDict P w d (L ++ [(keyOf ps fs e, kt, .ref gl)])) = H9 at G9 g9 d9 u9 ha9 nk9 kB9 ⊢
          refine ⟨.inl ⟨rfl, _, SqL.of g9⟩, _, rfl, gl, [], _, rfl, rfl, g9, by show 0 < sizeLine; decide, ?_⟩
          have tp : Tup H9 (upd H9 gl (.lst ([] ++ [.ref ae]))) := Tup.at_ g9 fun xs z => nomatch z
          refine ⟨_, _, L ++ [(keyOf ps fs e, kt, .ref gl)], rfl, u9.wr ngl0, kB9.to tp, ?_, ?_, by rw [List.length_append, List.length_singleton]; omega⟩
          · rw [upd_ne (Ne.symm gld)]
            exact d9
          · rw [tk, run_snoc]
            exact G9.new hv ha9 g9 ngl0 free7 nk9 (keyOf_depth _ _ _)
    · rintro σ H5 ⟨o4, o5, L, rfl, u5, kB5, d5, GG, lenL⟩
      have s5 : Same H H5 := But.same s4 u5 nd0
      rw [List.length_map, lM, show (srt fs).take fs.length = srt fs by rw [← (srt_perm fs).length_eq, List.take_length]] at GG
      rw [List.length_map, lM] at lenL
      have eG : (runG (keyOf ps fs) [] (srt fs)).map Prod.snd = clsOf (alikeB ps fs) (srt fs) := run_is _ _ _
      have lG := GG.len
      generalize runG (keyOf ps fs) [] (srt fs) = G at GG eG lG
      refine ⟨d, _, d5, trivial, fun od => ?_⟩
      have sl : ∀ b o, b ≠ d → H5 b = some o → (upd H5 d (.frz od (VDict P w d L))) b = some o := fun b o n e => by
        rw [upd_ne n]
        exact e
      have fz : (upd H5 d (.frz od (VDict P w d L))) d = some (.frz od (VDict P w d L)) := upd_same
      have gs : ∀ (i : Nat) (r : VRow) (g : NestedKey × List Ev), L[i]? = some r → G[i]? = some g → ∃ gl gv, r.2.2 = .ref gl ∧ (upd H5 d (.frz od (VDict P w d L))) gl = some (.lst gv) ∧ TDs (upd H5 d (.frz od (VDict P w d L))) gv (g.2.map evD) := fun i r g e1 e2 => by
        obtain ⟨gl, gv, q, _, hg, tg⟩ := GG.vs i r g e1 e2
        have n : gl ≠ d := fun z => by rw [z, d5] at hg; cases hg
        exact ⟨gl, gv, q, sl _ _ n hg, tg.to (Tup.at_ d5 fun xs z => nomatch z)⟩
      have sH6 : Same H (upd H5 d (.frz od (VDict P w d L))) := same_at s5 nd0
      have lb : ∀ (i : Nat) (g : NestedKey × List Ev), G[i]? = some g → g.2.length ≤ 8 := fun i g e => by
        have m : g.2 ∈ clsOf (alikeB ps fs) (srt fs) := by
          rw [← eG]
          exact List.mem_map.mpr ⟨g, List.mem_of_getElem? e, rfl⟩
        have z := (cls_mem _ _ _ (Nat.le_refl _) _ m).1.length_le
        rw [(srt_perm fs).length_eq] at z
        omega
      generalize upd H5 d (.frz od (VDict P w d L)) = H6 at fz gs sH6 ⊢
      refine ⟨_, rfl, d, od, L, rfl, fz, fun D hD => ?_⟩
      refine lc_it (walk_valsV (P := P) (w := w) (d := d) (o := od) (kvs := L)) (fun i H7 => Same H6 H7 ∧ ∃ vs, H7 D = some (.lst vs) ∧ TDs H7 vs (((G.take i).map Prod.snd).map grpD)) ⟨same_new hD, [], upd_same, by simpa using TDs.nil⟩ (fun i H7 _ ⟨s7, _⟩ => s7 _ _ fz) (fun i x H7 H8 lt ⟨s7, vs, d7, t7⟩ yl => ?_) fun H7 ⟨s7, vs, d7, t7⟩ => ?_
      · obtain ⟨eH, r, er, rfl⟩ := yl
        have eH := eH.symm
        subst eH
        obtain ⟨g, eg⟩ : ∃ g, G[i]? = some g := ⟨G[i]'(by omega), List.getElem?_eq_getElem _⟩
        obtain ⟨gl, gv, q, hg, tg⟩ := gs i r g er eg
        have lgv := tg.len
        rw [List.length_map] at lgv
        refine ⟨rfl, _, rfl, gl, gv, by rw [q], .inl ⟨SqL.of (s7 _ _ hg), fun t ht => ?_⟩⟩
        have s8 := same_new (o := .tup gv) ht
        have at8 : (upd H7 t (.tup gv)) t = some (.tup gv) := upd_same
        generalize upd H7 t (.tup gv) = H8 at s8 at8 ⊢
        have d8 := s8 _ _ d7
        have tp : Tup H8 (upd H8 D (.lst (vs ++ [.ref t]))) := Tup.at_ d8 fun xs z => nomatch z
        have lvs := t7.len
        rw [List.length_map, List.length_map, List.length_take] at lvs
        refine ⟨vs, d8, small_lt (m := 8) (by omega), same_at (s7.trans s8) hD, _, upd_same, ?_⟩
        rw [List.take_succ, eg, Option.toList_some, List.map_append, List.map_append]
        exact TDs.snoc (.tup (tp _ _ at8) ((tg.to (Tup.of (s7.trans s8))).to tp)) ((t7.to (Tup.of s8)).to tp)
      · rw [lG, List.take_length, eG] at t7
        refine ⟨s7 _ _ fz, ?_⟩
        have tp7 : Tup H7 (upd H7 d (VDict P w d L)) := Tup.at_ (s7 _ _ fz) fun xs z => nomatch z
        have sH7 : Same H (upd H7 d (VDict P w d L)) := same_at (sH6.trans s7) nd0
        have nDd : D ≠ d := fun z => by rw [z, fz] at hD; cases hD
        have d8 : (upd H7 d (VDict P w d L)) D = some (.lst vs) := by rw [upd_ne nDd]; exact d7
        have t8 := t7.to tp7
        generalize upd H7 d (VDict P w d L) = H8 at sH7 d8 t8 ⊢
        obtain ⟨Lg, e1, e2, tg⟩ := grp_rows t8
        have lcl := cls_len (alikeB ps fs) _ (srt fs) (Nat.le_refl _)
        rw [(srt_perm fs).length_eq] at lcl
        have lLg : Lg.length ≤ 8 := by
          have z := congrArg List.length e2
          rw [List.length_map] at z
          omega
        refine ⟨D, Lg, rfl, .inl (SqL.of (by rw [← e1]; exact d8)), fun q m => (tg q m).dp, ?_, ?_, fun q m => depth_grp _, by omega, fun lz hlz => ?_⟩
        · intro x hx x' hx'
          obtain ⟨q, _, rfl⟩ := List.mem_map.mp hx
          obtain ⟨q', _, rfl⟩ := List.mem_map.mp hx'
          exact alike_grps _ _
        · refine .inl fun x hx => ?_
          obtain ⟨q, mq, rfl⟩ := List.mem_map.mp hx
          have m2 : q.2 ∈ clsOf (alikeB ps fs) (srt fs) := by
            rw [e2]
            exact List.mem_map.mpr ⟨q, mq, rfl⟩
          have ne := (cls_mem _ _ _ (Nat.le_refl _) _ m2).2
          cases eq2 : q.2 with
          | nil => exact absurd eq2 ne
          | cons a r => exact ⟨evD a, r.map evD, rfl⟩
        · have sM2 : (Lg.mergeSort (dataLe false fun q => grpD q.2)).map Prod.snd = clsOf (alikeB ps fs) (srt fs) := by
            rw [sort_snd, ← e2]
            exact grp_sorted _ fs fnd
          have pM2 : (Lg.mergeSort (dataLe false fun q => grpD q.2)).Perm Lg := List.mergeSort_perm _ _
          generalize Lg.mergeSort (dataLe false fun q => grpD q.2) = Mg at sM2 pM2 ⊢
          refine ⟨lz, _, rfl, .inl ⟨SqL.of upd_same, fun R hR => ?_⟩⟩
          have sz : Same H8 (upd (upd H8 lz (.lst (Mg.map fun q => V.ref q.1))) R (.tup (Mg.map fun q => V.ref q.1))) := (same_new hlz).trans (same_new hR)
          refine k R _ (sH7.trans sz) ?_
          rw [← sM2]
          exact .tup upd_same (grows_td fun q m => (tg q (pM2.mem_iff.mp m)).to (Tup.of sz))
end
end My

-- ===== M59M =====
set_option Elab.async false
set_option linter.all false
set_option maxRecDepth 100000
set_option maxHeartbeats 4000000
namespace My
open PySem L2 PyProof.Rows PySem.Spec Kd PySem.W
def kgm {α : Type} : List α → List α → List α
  | [], [a, b] => [b, a]
  | _, _ => []
def resD (gs : List (List Ev)) : PyData := .tuple (gs.map grpD)
def threeD (d : PyData) : PyData := .list [d, d, d]
theorem sh_evs : ∀ e ∈ EVS, (evD e).showable = true ∧ (evD e).shown.length ≤ 20 := by decide +kernel
theorem sh_grp {g : List Ev} (h : ∀ e ∈ g, e ∈ EVS) (l : g.length ≤ 8) : Sh 179 (grpD g) :=
  sh_tuple (k := 20) (m := 8) (fun d hd => by
    obtain ⟨e, m, rfl⟩ := List.mem_map.mp hd
    exact ⟨(sh_evs e (h e m)).1, (sh_evs e (h e m)).2⟩) (by rw [List.length_map]; exact l)
theorem sh_res {gs : List (List Ev)} (h : ∀ g ∈ gs, (∀ e ∈ g, e ∈ EVS) ∧ g.length ≤ 8) (l : gs.length ≤ 8) : Sh 1451 (resD gs) :=
  sh_tuple (k := 179) (m := 8) (fun d hd => by
    obtain ⟨g, m, rfl⟩ := List.mem_map.mp hd
    exact sh_grp (h g m).1 (h g m).2) (by rw [List.length_map]; exact l)
theorem deep_res (gs : List (List Ev)) : (resD gs).depth ≤ 3 := by
  have all : ∀ gs : List (List Ev), PyData.depthAll (gs.map grpD) ≤ 2 := by
    intro gs
    induction gs with
    | nil => simp [PyData.depthAll]
    | cons g gs ih =>
      have := deep_evs g
      simp only [List.map_cons, PyData.depthAll, grpD, PyData.depth]
      omega
  have := all gs
  unfold resD
  simp only [PyData.depth]
  omega
theorem three_show {d : PyData} (h : Sh 1451 d) (hd : d.depth ≤ 3) : (threeD d).showable = true ∧ (threeD d).depth ≤ 60 ∧ (threeD d).shown.length ≤ sizeLine := by
  have h2 := listText_len_le [d.shown, d.shown, d.shown]
  simp only [List.map_cons, List.map_nil, List.sum_cons, List.sum_nil, List.length_cons, List.length_nil] at h2
  have big := sizeLine_eq
  have sz := h.sz
  unfold threeD
  refine ⟨by simp only [PyData.showable, PyData.showableAll, h.sh, Bool.and_self], by simp only [PyData.depth, PyData.depthAll]; omega, ?_⟩
  simp only [PyData.shown, PyData.shownAll]
  omega
/-- a table that the law asks of -/
def TabOk (H : Hp) (T : Addr) : Prop := ∃ ps : List Pr, TD H (.ref T) (tabD ps) ∧ ps.Nodup ∧ ps.length ≤ 64 ∧ ∀ q ∈ ps, q.1 ∈ EVS ∧ q.2 ∈ EVS
theorem TabOk.to {H H' : Hp} {T : Addr} (t : Tup H H') (h : TabOk H T) : TabOk H' T := let ⟨ps, a, b⟩ := h; ⟨ps, a.to t, b⟩
def spLaw (K : PySem.W.Frag) : Sp := fun vs H Q _ => ∃ (a : Addr) (ns : List Int), vs = [.ref a] ∧ SqL K H a (ns.map V.int) ∧ ns.length ≤ 63 ∧ Bits ns ∧ ∀ H', Q (.bl true) H'
section
variable {P : Program} {w : World} {K : PySem.W.Frag} {mg : Str → Option Value} {base : Heap}
abbrev nLw : List Str := ["_law_script", "_law_deck_here", "_law_turn", "_law_menu_here", "_law_tables", "_law_every", "_law_one", "_law_drawn_here", "_law_some", "_law_due_here", "_law_told", "_law_other"]
theorem scLw : FnScope nLw ["_law_script"] (defScope sLaw) := ⟨rfl, rfl, rfl, by decide +kernel, rfl, by decide +kernel, by decide +kernel⟩
theorem ok_law {f fF fD fM fR fT fU fO : Addr} {fd fdF fdD fdM fdR fdT fdU fdO : FuncData} (F : Fun K "law" "law" sLaw f fd) (mrange : mg "range" = none) (mtup : mg "tuple" = none) (mrepr : mg "repr" = none)
    (GF : FnOk P w K mg base CX0 1 fF fdF ["_law_script"] (spFeed K)) (mF : mg "_law_deck" = some (.ref fF)) (kF : PySem.W.keepIn K (.ref fF) = true) (bF : Binds K fdF ["_law_script"] [])
    (GD : FnOk P w K mg base CX0 1 fD fdD ["_law_deck_here", "_law_many"] spDigit) (mD : mg "_law_draw" = some (.ref fD)) (kD : PySem.W.keepIn K (.ref fD) = true) (bD : Binds K fdD ["_law_deck_here", "_law_many"] [])
    (GM : FnOk P w K mg base CX0 2 fM fdM ["_law_deck_here"] spMenu) (mM : mg "_law_menu" = some (.ref fM)) (kM : PySem.W.keepIn K (.ref fM) = true) (bM : Binds K fdM ["_law_deck_here"] [])
    (GR : FnOk P w K mg base CX0 3 fR fdR ["_law_deck_here", "_law_menu_here"] spDrawn) (mR : mg "_law_drawn" = some (.ref fR)) (kR : PySem.W.keepIn K (.ref fR) = true) (bR : Binds K fdR ["_law_deck_here", "_law_menu_here"] [])
    (GT : FnOk P w K mg base CX0 2 fT fdT ["_law_deck_here", "_law_some", "_law_many"] spTurned) (mT : mg "_law_turned" = some (.ref fT)) (kT : PySem.W.keepIn K (.ref fT) = true) (bT : Binds K fdT ["_law_deck_here", "_law_some", "_law_many"] [])
    (GU : FnOk P w K mg base CX0 2 fU fdU ["_law_drawn_here", "_law_some"] spDue) (mU : mg "_law_due" = some (.ref fU)) (kU : PySem.W.keepIn K (.ref fU) = true) (bU : Binds K fdU ["_law_drawn_here", "_law_some"] [])
    (GO : FnOk P w K mg base CX0 1 fO fdO ["table", "events"] spModes) (mO : mg "modes" = some (.ref fO)) (kO : PySem.W.keepIn K (.ref fO) = true) (bO : Binds K fdO ["table", "events"] []) (kbO : KBinds K fdO ["table", "events"] ["events", "table"] kgm kgm) :
    FnG true (fun A => A.guards = some []) P w K mg base CX0 4 f fd ["_law_script"] (spLaw K) := by
  refine okG F scLw (fun vs H Q E h => ?_) (fun cdv A outer s H vs Q E hh hgA hr h => ?_)
  · obtain ⟨a, ns, rfl, _⟩ := h
    rfl
  · obtain ⟨a, ns, rfl, hS, hlen, hbits, k⟩ := h
    have hR : Room 3 (A.deeper (envOfC "law" (defScope sLaw) s.heap.objs.size f cdv)) := ⟨hh rfl, hr.dp, hr.un⟩
    have hG : (A.deeper (envOfC "law" (defScope sLaw) s.heap.objs.size f cdv)).guards = some [] := hgA
    have hu := hR.units
    have hR1 := hR.mono (show 1 ≤ 3 by omega)
    have hR2 := hR.mono (show 2 ≤ 3 by omega)
    refine ⟨_, PSs.nox (pss_cons (ps_set (i := 1) scLw.nd rfl (Or.inl rfl) (pe_call GF hR1 (by rfl) mF kF bF .nil pass0 (pa_cons (pv 0) pa_nil)))
      (pss_cons (ps_for PassesOwn.never rfl (pi_range1 (by rfl) mrange (pa_cons pe_int pa_nil)) (pg_name (i := 2) scLw.nd rfl (Or.inl rfl))
        (pss_cons (ps_set (i := 3) scLw.nd rfl (Or.inl rfl) (pe_call GM hR2 (by rfl) mM kM bM .nil pass0 (pa_cons (pv 1) pa_nil)))
        (pss_cons (ps_set (i := 4) scLw.nd rfl (Or.inl rfl) (pe_lst (pa_cons (pe_call GR hR (by rfl) mR kR bR .nil pass0 (pa_cons (pv 1) (pa_cons (pv 3) pa_nil))) (pa_cons (pe_tup pa_nil) pa_nil))))
        (pss_cons (ps_set (i := 5) scLw.nd rfl (Or.inl rfl) (pe_lst pa_nil))
        (pss_cons (ps_for PassesOwn.never rfl (pi_list (pv 3)) (pg_name (i := 6) scLw.nd rfl (Or.inr rfl))
          (pss_one (ps_set (i := 5) scLw.nd rfl (Or.inl rfl) (pe_op op_cat (pv 5) (pe_lc (own := [("_law_other", 11)]) (g := gName 11) (tt := tYes) rfl scLw.nd (pi_list (pv 3)) (blkOk_by (N := nLw) (sc := defScope sLaw) (by decide +kernel))
            (fun _ _ _ _ _ => pg_name (i := 11) scLw.nd rfl (Or.inl rfl)) (fun _ _ _ _ _ => pts_nil) (fun _ _ _ _ _ => pe_tup (pa_cons (pv 6) (pa_cons (pv 11) pa_nil))))))))
        (pss_one (ps_for PassesOwn.never rfl (pi_list (pe_op op_cat (pv 4) (pe_lst (pa_cons (pe_callTy call_tuple_of (by rfl) mtup (by decide +kernel) (pa_cons (pv 5) pa_nil)) pa_nil)))) (pg_name (i := 7) scLw.nd rfl (Or.inl rfl))
          (pss_cons (ps_set (i := 8) scLw.nd rfl (Or.inl rfl) (pe_call GT hR2 (by rfl) mT kT bT .nil pass0 (pa_cons (pv 1) (pa_cons (pv 3) (pa_cons (pe_call GD hR1 (by rfl) mD kD bD .nil pass0 (pa_cons (pv 1) (pa_cons pe_int pa_nil))) pa_nil)))))
          (pss_cons (ps_set (i := 9) scLw.nd rfl (Or.inl rfl) (pe_call GU hR2 (by rfl) mU kU bU .nil pass0 (pa_cons (pv 7) (pa_cons (pv 8) pa_nil))))
          (pss_cons (ps_set (i := 10) scLw.nd rfl (Or.inl rfl) (pe_lstL (pa_cons (pe_call GO hR1 (by rfl) mO kO bO .nil pass0 (pa_cons (pv 7) (pa_cons (pe_callTy call_tuple_of (by rfl) mtup (by decide +kernel) (pa_cons (pv 8) pa_nil)) pa_nil)))
              (pa_cons (pe_callK0 GO hR1 (by rfl) mO kO kbO pass0 (pk_cons (pe_callTy call_tuple_of (by rfl) mtup (by decide +kernel) (pa_cons (pe_revL (pv 8)) pa_nil)) (pk_cons (pv 7) pk_nil)))
              (pa_cons (pe_call GO hR1 (by rfl) mO kO bO .nil pass0 (pa_cons (pv 7) (pa_cons (pe_callTy call_tuple_of (by rfl) mtup (by decide +kernel) (pa_cons (pv 8) pa_nil)) pa_nil))) pa_nil)))))
          (pss_one (ps_if (pt_cmpR op_ne (pe_callB (call_reprD (F := fun _ => True) hG hu) (by rfl) mrepr boot_repr (pa_cons (pv 10) pa_nil)) (pe_callB (call_reprD (F := fun _ => True) hG hu) (by rfl) mrepr boot_repr (pa_cons (pe_op op_repL (pe_lst (pa_cons (pv 9) pa_nil)) pe_int) pa_nil)) (nomark _)) (pss_one (ps_ret pe_bl)) pss_nil))))))))))))
      (pss_one (ps_ret pe_bl)))), ?_⟩
    have two : (2 : Nat) ≤ sizeLine := by decide
    refine ⟨_, rfl, a, ns, rfl, hS, hlen, hbits, fun p c ks y H1 _ _ _ FA => ?_⟩
    refine ⟨8, rfl, by decide, by decide, for_range (lo := 0) (n := 8) (fun m σ H2 => ∃ (o2 o3 o4 o5 o6 o7 o8 o9 o10 : Option V) (ks' : List Int) (n' : Int), σ = [some (.ref a), some (.ref p), o2, o3, o4, o5, o6, o7, o8, o9, o10, none] ∧ FeedAt H2 p c ks' y n' ∧ n' ≤ 600 * (m : Int)) ⟨none, none, none, none, none, none, none, none, none, ks, 0, rfl, FA, by omega⟩ ?_ ?_⟩
    · rintro m σ H2 hm ⟨o2, o3, o4, o5, o6, o7, o8, o9, o10, ks2, n2, rfl, FA2, le2⟩
      -- menu
      refine ⟨_, rfl, p, c, ks2, y, n2, rfl, FA2, by omega, fun M es ks3 n3 H3 hM EM sb FA3 le3 sv3 => ?_⟩
      have Mp : M ≠ p := fun z => by rw [z, FA2.ob] at hM; cases hM
      have Mc : M ≠ c := fun z => by rw [z, FA2.cs] at hM; cases hM
      have esn : es.Nodup := evs_nodup.sublist sb
      have es8 : es.length ≤ 8 := sb.length_le
      have eok : ∀ e ∈ es, e ∈ EVS := fun e m => sb.subset m
      -- tables
      refine ⟨_, rfl, _, rfl, p, c, M, es, ks3, y, n3, rfl, FA3, by omega, EM, Mc, esn, es8, fun T1 ps1 ks4 n4 H4 tT1 sb1 FA4 le4 sv4 => ⟨by show 0 ≤ sizeLine; decide, fun t0 ht0 => ⟨two, fun tb htb => ?_⟩⟩⟩
      have sA := (same_new (o := .tup []) ht0).trans (same_new (o := .lst [V.ref T1, .ref t0]) htb)
      have at0 : (upd (upd H4 t0 (.tup [])) tb (.lst [V.ref T1, .ref t0])) t0 = some (.tup []) := same_new htb _ _ upd_same
      have atb : (upd (upd H4 t0 (.tup [])) tb (.lst [V.ref T1, .ref t0])) tb = some (.lst [V.ref T1, .ref t0]) := upd_same
      generalize upd (upd H4 t0 (.tup [])) tb (.lst [V.ref T1, .ref t0]) = H5 at sA at0 atb ⊢
      have FA5 := FA4.same sA
      have EM4 : EvL H4 M es := EM.save FA3 sv4 Mp Mc
      have EM5 := EM4.same sA
      have ok1 : TabOk H5 T1 := ⟨ps1, tT1.to (Tup.of sA), (prods_nodup esn esn).sublist sb1, by
        have z := sb1.length_le
        rw [prods_len] at z
        have z2 : es.length * es.length ≤ 8 * 8 := Nat.mul_le_mul es8 es8
        omega, fun q mq => by
        have z := prods_mem.mp (sb1.subset mq)
        exact ⟨eok _ z.1, eok _ z.2⟩⟩
      have ok0 : TabOk H5 t0 := ⟨[], .tup at0 .nil, List.nodup_nil, Nat.zero_le _, fun q mq => nomatch mq⟩
      -- every
      refine ⟨by show 0 ≤ sizeLine; decide, fun ev hev => ?_⟩
      have sB := same_new (o := .lst []) hev
      have ate : (upd H5 ev (.lst [])) ev = some (.lst []) := upd_same
      generalize upd H5 ev (.lst []) = H6 at sB ate ⊢
      obtain ⟨mv, hM6, tM6, lM6⟩ := (EM5.same sB).at_
      refine ⟨_, rfl, M, rfl, ⟨_, SqL.of hM6⟩, for_list (K := K) (a := M) (xs := mv) (fun i σ H7 => ∃ (o6 : Option V) (el : Addr) (vs : List V), σ = [some (.ref a), some (.ref p), some (.int (0 + (m : Int))), some (.ref M), some (.ref tb), some (.ref el), o6, o7, o8, o9, o10, none] ∧ Same H6 H7 ∧ H7 el = some (.lst vs) ∧ TDs H7 vs ((prods (es.take i) es).map pairD)) ⟨o6, ev, [], rfl, Same.refl H6, ate, by simpa [prods] using TDs.nil⟩ (fun i σ H7 _ ⟨_, _, _, _, s7, _⟩ => SqL.of (s7 _ _ hM6)) ?_ ?_⟩
      · rintro i x σ H7 ex ⟨o6, el, vs, rfl, s7, e7, t7⟩
        obtain ⟨e1, a1, ee1, rfl, ha1⟩ := ev_get tM6 ex
        have lt1 : i < es.length := (List.getElem?_eq_some_iff.mp ee1).1
        have hM7 := s7 _ _ hM6
        refine ⟨_, rfl, _, rfl, M, rfl, ⟨_, SqL.of hM7⟩, fun D hD => lc_list (K := K) (a := M) (xs := mv) (fun j H8 => Same H7 H8 ∧ ∃ us, H8 D = some (.lst us) ∧ TDs H8 us (((es.take j).map fun b => (e1, b)).map pairD)) ⟨same_new hD, [], upd_same, by simpa using TDs.nil⟩ (fun j H8 _ ⟨s8, _⟩ => SqL.of (s8 _ _ hM7)) (fun j v H8 ex2 ⟨s8, us, d8, t8⟩ => ?_) fun H8 ⟨s8, us, d8, t8⟩ => ?_⟩
        · obtain ⟨e2, a2, ee2, rfl, ha2⟩ := ev_get tM6 ex2
          have lt2 : j < es.length := (List.getElem?_eq_some_iff.mp ee2).1
          refine ⟨rfl, _, rfl, _, rfl, two, fun t ht => ?_⟩
          have s9 := same_new (o := .tup [V.ref a1, .ref a2]) ht
          have at9 : (upd H8 t (.tup [V.ref a1, .ref a2])) t = some (.tup [V.ref a1, .ref a2]) := upd_same
          generalize upd H8 t (.tup [V.ref a1, .ref a2]) = H9 at s9 at9 ⊢
          have d9 := s9 _ _ d8
          have s69 := (s7.trans s8).trans s9
          have lus := t8.len
          rw [List.length_map, List.length_map, List.length_take] at lus
          have tp : Tup H9 (upd H9 D (.lst (us ++ [.ref t]))) := Tup.at_ d9 fun xs z => nomatch z
          refine ⟨us, d9, small_lt (m := 8) (by omega), same_at (s8.trans s9) hD, _, upd_same, ?_⟩
          rw [List.take_succ, ee2, Option.toList_some, List.map_append, List.map_append]
          exact TDs.snoc (pair_new (tp _ _ at9) (tp _ _ (s69 _ _ ha1)) (tp _ _ (s69 _ _ ha2))) ((t8.to (Tup.of s9)).to tp)
        · rw [lM6, List.take_length] at t8
          have l1 := t7.len
          have l2 := t8.len
          rw [List.length_map, prods_len, List.length_take] at l1
          rw [List.length_map, List.length_map] at l2
          have l3 : min i es.length * es.length ≤ 8 * 8 := Nat.mul_le_mul (by omega) es8
          refine ⟨el, D, vs, us, rfl, rfl, s8 _ _ e7, d8, small_len (m := 72) (by omega), fun q hq => ?_⟩
          have s9 := same_new (o := .lst (vs ++ us)) hq
          refine ⟨_, q, vs ++ us, rfl, (s7.trans s8).trans s9, upd_same, ?_⟩
          have e : prods (es.take (i + 1)) es = prods (es.take i) es ++ es.map fun b => (e1, b) := by
            have z := gone_end (a := e1) ee1
            rw [← z]
            unfold gone
            rw [List.take_length]
          rw [e, List.map_append]
          exact TDs.app (t7.to (Tup.of (s8.trans s9))) (t8.to (Tup.of s9))
      · rintro σ H7 ⟨o6, el, vs, rfl, s7, e7, t7⟩
        rw [lM6, List.take_length] at t7
        -- tables + [tuple(every)]
        refine ⟨_, rfl, _, rfl, el, vs, rfl, .inl ⟨SqL.of e7, fun T3 hT3 => ⟨by show 1 ≤ sizeLine; decide, fun l1 hl1 => ?_⟩⟩⟩
        have s8 := (same_new (o := .tup vs) hT3).trans (same_new (o := .lst [V.ref T3]) hl1)
        have at3 : (upd (upd H7 T3 (.tup vs)) l1 (.lst [V.ref T3])) T3 = some (.tup vs) := same_new hl1 _ _ upd_same
        have atl : (upd (upd H7 T3 (.tup vs)) l1 (.lst [V.ref T3])) l1 = some (.lst [V.ref T3]) := upd_same
        generalize upd (upd H7 T3 (.tup vs)) l1 (.lst [V.ref T3]) = H8 at s8 at3 atl ⊢
        have s58 := (sB.trans s7).trans s8
        have ok3 : TabOk H8 T3 := ⟨prods es es, .tup at3 (t7.to (Tup.of s8)), prods_nodup esn esn, by
          have z2 : es.length * es.length ≤ 8 * 8 := Nat.mul_le_mul es8 es8
          rw [prods_len]
          omega, fun q mq => by
          have z := prods_mem.mp mq
          exact ⟨eok _ z.1, eok _ z.2⟩⟩
        refine ⟨tb, l1, _, _, rfl, rfl, s58 _ _ atb, atl, by show 3 ≤ sizeLine; decide, fun lt hlt => ?_⟩
        have s9 := same_new (o := .lst ([V.ref T1, .ref t0] ++ [V.ref T3])) hlt
        have at9 : (upd H8 lt (.lst ([V.ref T1, .ref t0] ++ [V.ref T3]))) lt = some (.lst [V.ref T1, .ref t0, .ref T3]) := upd_same
        generalize upd H8 lt (.lst ([V.ref T1, .ref t0] ++ [V.ref T3])) = H9 at s9 at9 ⊢
        have FA9 := FA5.same (s58.trans s9)
        have EM9 := EM5.same (s58.trans s9)
        have okT : ∀ T, T = T1 ∨ T = t0 ∨ T = T3 → TabOk H9 T := fun T h => by
          rcases h with rfl | rfl | rfl
          · exact ok1.to (Tup.of (s58.trans s9))
          · exact ok0.to (Tup.of (s58.trans s9))
          · exact ok3.to (Tup.of s9)
        have ltp : lt ≠ p := Ne.symm (ne_of_none (FA5.same s58).ob hlt)
        have ltc : lt ≠ c := Ne.symm (ne_of_none (FA5.same s58).cs hlt)
        refine ⟨lt, rfl, ⟨_, SqL.of at9⟩, for_list (K := K) (a := lt) (xs := [V.ref T1, .ref t0, .ref T3]) (fun i σ Ha => ∃ (o7 o8 o9 o10 : Option V) (ks' : List Int) (n' : Int), σ = [some (.ref a), some (.ref p), some (.int (0 + (m : Int))), some (.ref M), some (.ref tb), some (.ref el), o6, o7, o8, o9, o10, none] ∧ FeedAt Ha p c ks' y n' ∧ n' ≤ n4 + 9 * (i : Int) ∧ Save p c H9 Ha) ⟨o7, o8, o9, o10, ks4, n4, rfl, FA9, by omega, Save.refl p c H9⟩ (fun i σ Ha _ ⟨_, _, _, _, _, _, _, _, _, sa⟩ => SqL.of (sa _ _ at9 ltp ltc)) ?_ ?_⟩
        · rintro i x σ Ha ex ⟨o7, o8, o9, o10, ks5, n5, rfl, FA10, le5, sa⟩
          have lt3 : i < 3 := (List.getElem?_eq_some_iff.mp ex).1
          obtain ⟨T, rfl, hTT⟩ : ∃ T, x = .ref T ∧ (T = T1 ∨ T = t0 ∨ T = T3) := by
            have mx := List.mem_of_getElem? ex
            rcases List.mem_cons.mp mx with rfl | mx
            · exact ⟨T1, rfl, .inl rfl⟩
            rcases List.mem_cons.mp mx with rfl | mx
            · exact ⟨t0, rfl, .inr (.inl rfl)⟩
            · rw [List.mem_singleton.mp mx]
              exact ⟨T3, rfl, .inr (.inr rfl)⟩
          obtain ⟨ps, tT, pnd, p64, pok⟩ := (okT T hTT).to (Save.tup FA9 sa)
          have EMa := EM9.save FA9 sa Mp Mc
          -- some
          refine ⟨_, rfl, _, rfl, _, rfl, p, c, ks5, y, n5, 9, rfl, FA10, by omega, by omega, by omega, fun d ks6 Hb d0 d9 FA11 svb => ?_⟩
          refine ⟨p, c, M, es, ks6, y, n5 + 1, d, rfl, FA11, by omega, EMa.save FA10 svb Mp Mc, Mc, es8, d0, fun S fs ks7 n7 Hc hS0 ES pmx FA12 le7 svc => ?_⟩
          obtain ⟨ls, pm⟩ := pmx
          have fsn : fs.Nodup := (List.nodup_append.mp (pm.nodup_iff.mpr esn)).1
          have fs8 : fs.length ≤ 8 := by
            have z := pm.length_eq
            rw [List.length_append] at z
            omega
          have fok : ∀ e ∈ fs, e ∈ EVS := fun e me => eok e (pm.mem_iff.mp (List.mem_append_left _ me))
          have tTc := (tT.to (Save.tup FA10 svb)).to (Save.tup FA11 svc)
          have sac := (sa.trans svb).trans svc
          -- due
          refine ⟨_, rfl, _, rfl, T, S, ps, fs, rfl, tTc, pok, ES, fok, fs8, fun Du Hd sd tDu => ?_⟩
          obtain ⟨sv, hS, tS, lS⟩ := ES.at_
          have hSd := sd _ _ hS
          -- modes, three times
          refine ⟨_, rfl, _, rfl, S, sv, rfl, .inl ⟨SqL.of hSd, fun q1 hq1 => ?_⟩⟩
          have se := same_new (o := .tup sv) hq1
          refine ⟨T, q1, ps, fs, rfl, tTc.to (Tup.of (sd.trans se)), pnd, p64, .tup upd_same (tS.to (Tup.of (sd.trans se))), fsn, fs8, fun R1 Hf sf tR1 => ?_⟩
          have scf := (sd.trans se).trans sf
          refine ⟨_, rfl, S, sv, rfl, SqL.of (scf _ _ hS), fun qr hqr => ?_⟩
          have sg := same_new (o := .lst sv.reverse) hqr
          refine ⟨qr, _, rfl, .inl ⟨SqL.of upd_same, fun q2 hq2 => ⟨_, rfl, ?_⟩⟩⟩
          have sh := same_new (o := .tup sv.reverse) hq2
          have scg := scf.trans (sg.trans sh)
          have tRv : ∀ Hx, Same Hc Hx → TDs Hx sv.reverse (fs.reverse.map evD) := fun Hx sx => by
            obtain ⟨L, e1, e2, e3⟩ := ev_rows tS
            rw [e1, e2, ← List.map_reverse, ← List.map_reverse]
            exact rows_td fun q mq => (e3 q (List.mem_reverse.mp mq)).to (Tup.of sx)
          have tRev := tRv _ scg
          refine ⟨T, q2, ps, fs.reverse, rfl, tTc.to (Tup.of scg), pnd, p64, .tup upd_same tRev, (List.reverse_perm fs).nodup_iff.mpr fsn, by rw [List.length_reverse]; exact fs8, fun R2 Hg sg2 tR2 => ?_⟩
          rw [alike_rev ps fs.reverse fs (fun x => List.mem_reverse), srt_rev fs.reverse fs (List.reverse_perm fs)] at tR2
          have sch := scg.trans sg2
          refine ⟨_, rfl, _, rfl, S, sv, rfl, .inl ⟨SqL.of (sch _ _ hS), fun q3 hq3 => ?_⟩⟩
          have si := same_new (o := .tup sv) hq3
          have sci := sch.trans si
          refine ⟨T, q3, ps, fs, rfl, tTc.to (Tup.of sci), pnd, p64, .tup upd_same (tS.to (Tup.of sci)), fsn, fs8, fun R3 Hh sh3 tR3 => ?_⟩
          refine ⟨by show 3 ≤ sizeLine; decide, fun tl htl big => ?_⟩
          have sfin := (((sg.trans sh).trans sg2).trans si).trans sh3
          have sj := same_new (o := .lst [V.ref R1, .ref R2, .ref R3]) htl
          have atl2 : (upd Hh tl (.lst [V.ref R1, .ref R2, .ref R3])) tl = some (.lst [V.ref R1, .ref R2, .ref R3]) := upd_same
          have t1 := tR1.to (Tup.of (sfin.trans sj))
          have t2 := tR2.to (Tup.of ((si.trans sh3).trans sj))
          have t3 := tR3.to (Tup.of sj)
          have tD := tDu.to (Tup.of ((((se.trans sf).trans sfin)).trans sj))
          have sck := (sci.trans sh3).trans sj
          generalize upd Hh tl (.lst [V.ref R1, .ref R2, .ref R3]) = Hi at sj atl2 t1 t2 t3 tD sck ⊢
          -- the comparison
          have okG : ∀ g ∈ clsOf (alikeB ps fs) (srt fs), (∀ e ∈ g, e ∈ EVS) ∧ g.length ≤ 8 := fun g mg => by
            have z := (cls_mem _ _ _ (Nat.le_refl _) g mg).1
            have z2 := z.length_le
            rw [(srt_perm fs).length_eq] at z2
            exact ⟨fun e me => fok e ((srt_perm fs).mem_iff.mp (z.subset me)), by omega⟩
          have lcl := cls_len (alikeB ps fs) _ (srt fs) (Nat.le_refl _)
          rw [(srt_perm fs).length_eq] at lcl
          have shR := sh_res okG (by omega)
          have th := three_show shR (deep_res _)
          refine ⟨_, rfl, .ref tl, threeD (resD (clsOf (alikeB ps fs) (srt fs))), rfl, .lst big trivial atl2 (.cons t1.dq (.cons t2.dq (.cons t3.dq .nil))), th.1, th.2.1, th.2.2, ?_⟩
          refine ⟨_, rfl, by show 1 ≤ sizeLine; decide, fun dl hdl => ⟨dl, 3, _, rfl, rfl, upd_same, by decide, by decide, by show 3 ≤ sizeLine; decide, fun dq hdq big2 => ?_⟩⟩
          have sl := (same_new (o := .lst [V.ref Du]) hdl).trans (same_new (o := .lst (List.replicate (3 : Int).toNat [V.ref Du]).flatten) hdq)
          have tDl := tD.to (Tup.of sl)
          refine ⟨.ref dq, threeD (resD (clsOf (alikeB ps fs) (srt fs))), rfl, .lst big2 trivial upd_same (.cons tDl.dq (.cons tDl.dq (.cons tDl.dq .nil))), th.1, th.2.1, th.2.2, rfl, _, rfl, ?_⟩
          rw [decide_eq_true rfl]
          refine iteF ⟨_, _, _, _, ks7, n7, rfl, (FA12.same sck).same sl, by omega, (sac.trans (Save.of sck)).trans (Save.of sl)⟩
        · rintro σ Ha ⟨o7, o8, o9, o10, ks5, n5, rfl, FA10, le5, sa⟩
          have le6 : n5 ≤ n4 + 27 := le5
          exact ⟨_, _, _, _, _, _, _, _, _, ks5, n5, rfl, FA10, by omega⟩
    · rintro σ H2 ⟨o2, o3, o4, o5, o6, o7, o8, o9, o10, ks2, n2, rfl, FA2, le2⟩
      exact k _
end
end My

-- ===== M59U =====
set_option Elab.async false
set_option linter.all false
set_option maxRecDepth 100000
set_option maxHeartbeats 4000000
namespace My
open PySem L2 PyProof.Rows PySem.Spec Kd
theorem kgm_rel {vs zs : List V} {us ws : List Value} (r : Vals vs us) (z : Vals zs ws) : Vals (kgm vs zs) (kgm us ws) := by
  cases r with
  | nil =>
    cases z with
    | nil => exact .nil
    | cons a z =>
      cases z with
      | nil => exact .nil
      | cons b z =>
        cases z with
        | nil => exact .cons b (.cons a .nil)
        | cons _ _ => exact .nil
  | cons _ _ => exact .nil
set_option linter.unusedVariables false in
theorem all_mk {P : Program} {w : World} {K : PySem.W.Frag} {h : Heap} {mg : Str → Option Value} {fa fO fF fD fP fM fR fT fA fU fL : Addr} (X : K.In h) (G : h.Ns mainGlobals mg) (hfa : mg "law" = some (.ref fa))
    {oc_O kV_O doc_O pm_O cd_O ct_O : Value} {od_O an_O : Option Addr} {sl_O : Array (Option Value)} {oc_F kV_F doc_F pm_F cd_F ct_F : Value} {od_F an_F : Option Addr} {sl_F : Array (Option Value)} {oc_D kV_D doc_D pm_D cd_D ct_D : Value} {od_D an_D : Option Addr} {sl_D : Array (Option Value)} {oc_P kV_P doc_P pm_P cd_P ct_P : Value} {od_P an_P : Option Addr} {sl_P : Array (Option Value)} {oc_M kV_M doc_M pm_M cd_M ct_M : Value} {od_M an_M : Option Addr} {sl_M : Array (Option Value)} {oc_R kV_R doc_R pm_R cd_R ct_R : Value} {od_R an_R : Option Addr} {sl_R : Array (Option Value)} {oc_T kV_T doc_T pm_T cd_T ct_T : Value} {od_T an_T : Option Addr} {sl_T : Array (Option Value)} {oc_A kV_A doc_A pm_A cd_A ct_A : Value} {od_A an_A : Option Addr} {sl_A : Array (Option Value)} {oc_U kV_U doc_U pm_U cd_U ct_U : Value} {od_U an_U : Option Addr} {sl_U : Array (Option Value)} {oc_L kV_L doc_L pm_L cd_L ct_L : Value} {od_L an_L : Option Addr} {sl_L : Array (Option Value)}
    (a_O : PySem.W.nsIn K mainGlobals "modes" = some (some (.ref fO)))
    (l_O : K.lookup fO = some ⟨oc_O, od_O, .func (PySem.W.fnOf "modes" "modes" (defArgs sModes) (defBody sModes) (defScope sModes) .none kV_O doc_O pm_O an_O cd_O ct_O), sl_O⟩)
    (e_O : PySem.W.codeIn K cd_O "modes" = true)
    (k_O : PySem.W.keepIn K (.ref fO) = true)
    (a_F : PySem.W.nsIn K mainGlobals "_law_deck" = some (some (.ref fF)))
    (l_F : K.lookup fF = some ⟨oc_F, od_F, .func (PySem.W.fnOf "_law_deck" "_law_deck" (defArgs sDeck) (defBody sDeck) (defScope sDeck) .none kV_F doc_F pm_F an_F cd_F ct_F), sl_F⟩)
    (e_F : PySem.W.codeIn K cd_F "_law_deck" = true)
    (k_F : PySem.W.keepIn K (.ref fF) = true)
    (a_D : PySem.W.nsIn K mainGlobals "_law_draw" = some (some (.ref fD)))
    (l_D : K.lookup fD = some ⟨oc_D, od_D, .func (PySem.W.fnOf "_law_draw" "_law_draw" (defArgs sDraw) (defBody sDraw) (defScope sDraw) .none kV_D doc_D pm_D an_D cd_D ct_D), sl_D⟩)
    (e_D : PySem.W.codeIn K cd_D "_law_draw" = true)
    (k_D : PySem.W.keepIn K (.ref fD) = true)
    (a_P : PySem.W.nsIn K mainGlobals "_law_pick" = some (some (.ref fP)))
    (l_P : K.lookup fP = some ⟨oc_P, od_P, .func (PySem.W.fnOf "_law_pick" "_law_pick" (defArgs sPick) (defBody sPick) (defScope sPick) .none kV_P doc_P pm_P an_P cd_P ct_P), sl_P⟩)
    (e_P : PySem.W.codeIn K cd_P "_law_pick" = true)
    (k_P : PySem.W.keepIn K (.ref fP) = true)
    (a_M : PySem.W.nsIn K mainGlobals "_law_menu" = some (some (.ref fM)))
    (l_M : K.lookup fM = some ⟨oc_M, od_M, .func (PySem.W.fnOf "_law_menu" "_law_menu" (defArgs sMenu) (defBody sMenu) (defScope sMenu) .none kV_M doc_M pm_M an_M cd_M ct_M), sl_M⟩)
    (e_M : PySem.W.codeIn K cd_M "_law_menu" = true)
    (k_M : PySem.W.keepIn K (.ref fM) = true)
    (a_R : PySem.W.nsIn K mainGlobals "_law_drawn" = some (some (.ref fR)))
    (l_R : K.lookup fR = some ⟨oc_R, od_R, .func (PySem.W.fnOf "_law_drawn" "_law_drawn" (defArgs sDrawn) (defBody sDrawn) (defScope sDrawn) .none kV_R doc_R pm_R an_R cd_R ct_R), sl_R⟩)
    (e_R : PySem.W.codeIn K cd_R "_law_drawn" = true)
    (k_R : PySem.W.keepIn K (.ref fR) = true)
    (a_T : PySem.W.nsIn K mainGlobals "_law_turned" = some (some (.ref fT)))
    (l_T : K.lookup fT = some ⟨oc_T, od_T, .func (PySem.W.fnOf "_law_turned" "_law_turned" (defArgs sTurned) (defBody sTurned) (defScope sTurned) .none kV_T doc_T pm_T an_T cd_T ct_T), sl_T⟩)
    (e_T : PySem.W.codeIn K cd_T "_law_turned" = true)
    (k_T : PySem.W.keepIn K (.ref fT) = true)
    (a_A : PySem.W.nsIn K mainGlobals "_law_are_alike" = some (some (.ref fA)))
    (l_A : K.lookup fA = some ⟨oc_A, od_A, .func (PySem.W.fnOf "_law_are_alike" "_law_are_alike" (defArgs sAlike) (defBody sAlike) (defScope sAlike) .none kV_A doc_A pm_A an_A cd_A ct_A), sl_A⟩)
    (e_A : PySem.W.codeIn K cd_A "_law_are_alike" = true)
    (k_A : PySem.W.keepIn K (.ref fA) = true)
    (a_U : PySem.W.nsIn K mainGlobals "_law_due" = some (some (.ref fU)))
    (l_U : K.lookup fU = some ⟨oc_U, od_U, .func (PySem.W.fnOf "_law_due" "_law_due" (defArgs sDue) (defBody sDue) (defScope sDue) .none kV_U doc_U pm_U an_U cd_U ct_U), sl_U⟩)
    (e_U : PySem.W.codeIn K cd_U "_law_due" = true)
    (k_U : PySem.W.keepIn K (.ref fU) = true)
    (a_L : PySem.W.nsIn K mainGlobals "law" = some (some (.ref fL)))
    (l_L : K.lookup fL = some ⟨oc_L, od_L, .func (PySem.W.fnOf "law" "law" (defArgs sLaw) (defBody sLaw) (defScope sLaw) .none kV_L doc_L pm_L an_L cd_L ct_L), sl_L⟩)
    (e_L : PySem.W.codeIn K cd_L "law" = true)
    (k_L : PySem.W.keepIn K (.ref fL) = true)
    (z_range : PySem.W.nsIn K mainGlobals "range" = some none)
    (z_tuple : PySem.W.nsIn K mainGlobals "tuple" = some none)
    (z_sorted : PySem.W.nsIn K mainGlobals "sorted" = some none)
    (z_repr : PySem.W.nsIn K mainGlobals "repr" = some none)
    (z_list : PySem.W.nsIn K mainGlobals "list" = some none)
    (z_min : PySem.W.nsIn K mainGlobals "min" = some none)
    (z_len : PySem.W.nsIn K mainGlobals "len" = some none) :
    ∃ fd : FuncData, (∀ (s : Shared) (v : Value), BindsTo s fd ⟨[v], []⟩ [("_law_script", v)]) ∧ ∀ base : Heap, K.In base → base.Ns mainGlobals mg → FnG true (fun A => A.guards = some []) P w K mg base CX0 4 fa fd ["_law_script"] (spLaw K) := by
  have e := hfa.symm.trans (PySem.W.mg_of X G a_L)
  cases e
  have nn : ∀ {n : Str}, PySem.W.nsIn K mainGlobals n = some none → mg n = none := fun {n} e => PySem.W.mg_none_of X G e
  have m_range := nn z_range
  have m_tuple := nn z_tuple
  have m_sorted := nn z_sorted
  have m_repr := nn z_repr
  have m_list := nn z_list
  have m_min := nn z_min
  have m_len := nn z_len
  have FO := fun_mk (st := sModes) l_O e_O k_O
  have bO := FO.binds (ps := ["table", "events"]) fun _ _ _ _ _ _ us hl => match us, hl with | [_, _], _ => rfl
  have mO := PySem.W.mg_of X G a_O
  have FF := fun_mk (st := sDeck) l_F e_F k_F
  have bF := FF.binds (ps := ["_law_script"]) fun _ _ _ _ _ _ us hl => match us, hl with | [_], _ => rfl
  have mF := PySem.W.mg_of X G a_F
  have FD := fun_mk (st := sDraw) l_D e_D k_D
  have bD := FD.binds (ps := ["_law_deck_here", "_law_many"]) fun _ _ _ _ _ _ us hl => match us, hl with | [_, _], _ => rfl
  have mD := PySem.W.mg_of X G a_D
  have FP := fun_mk (st := sPick) l_P e_P k_P
  have bP := FP.binds (ps := ["_law_deck_here", "_law_some"]) fun _ _ _ _ _ _ us hl => match us, hl with | [_, _], _ => rfl
  have mP := PySem.W.mg_of X G a_P
  have FM := fun_mk (st := sMenu) l_M e_M k_M
  have bM := FM.binds (ps := ["_law_deck_here"]) fun _ _ _ _ _ _ us hl => match us, hl with | [_], _ => rfl
  have mM := PySem.W.mg_of X G a_M
  have FR := fun_mk (st := sDrawn) l_R e_R k_R
  have bR := FR.binds (ps := ["_law_deck_here", "_law_menu_here"]) fun _ _ _ _ _ _ us hl => match us, hl with | [_, _], _ => rfl
  have mR := PySem.W.mg_of X G a_R
  have FT := fun_mk (st := sTurned) l_T e_T k_T
  have bT := FT.binds (ps := ["_law_deck_here", "_law_some", "_law_many"]) fun _ _ _ _ _ _ us hl => match us, hl with | [_, _, _], _ => rfl
  have mT := PySem.W.mg_of X G a_T
  have FA := fun_mk (st := sAlike) l_A e_A k_A
  have bA := FA.binds (ps := ["_law_drawn_here", "_law_some", "_law_one", "_law_other"]) fun _ _ _ _ _ _ us hl => match us, hl with | [_, _, _, _], _ => rfl
  have mA := PySem.W.mg_of X G a_A
  have FU := fun_mk (st := sDue) l_U e_U k_U
  have bU := FU.binds (ps := ["_law_drawn_here", "_law_some"]) fun _ _ _ _ _ _ us hl => match us, hl with | [_, _], _ => rfl
  have mU := PySem.W.mg_of X G a_U
  have FL := fun_mk (st := sLaw) l_L e_L k_L
  have kb : KBinds K (PySem.W.fnOf "modes" "modes" (defArgs sModes) (defBody sModes) (defScope sModes) .none kV_O doc_O pm_O an_O cd_O ct_O) ["table", "events"] ["events", "table"] kgm kgm := by
    refine ⟨fun s us ws _ hl => ?_, fun r z => kgm_rel r z⟩
    match us, ws, hl with
    | [], [a, b], _ => exact .of_eq rfl
  refine ⟨PySem.W.fnOf "law" "law" (defArgs sLaw) (defBody sLaw) (defScope sLaw) .none kV_L doc_L pm_L an_L cd_L ct_L, fun s v => .of_eq rfl, fun base _ _ => ?_⟩
  have oF := ok_feed (P := P) (w := w) (mg := mg) (base := base) FF m_list
  have oD := ok_digit (P := P) (w := w) (mg := mg) (base := base) FD
  have oP := ok_pick (P := P) (w := w) (mg := mg) (base := base) FP m_len oD mD k_D bD
  have oM := ok_menu (P := P) (w := w) (mg := mg) (base := base) FM oD mD k_D bD
  have oR := ok_drawn (P := P) (w := w) (mg := mg) (base := base) FR m_tuple oP mP k_P bP oD mD k_D bD
  have oT := ok_turned (P := P) (w := w) (mg := mg) (base := base) FT m_list m_range m_min m_len oD mD k_D bD
  have oA := ok_alike (P := P) (w := w) (mg := mg) (base := base) FA
  have oU := ok_due (P := P) (w := w) (mg := mg) (base := base) FU m_tuple m_sorted oA mA k_A bA
  have oO := ok_modes (P := P) (w := w) (mg := mg) (base := base) FO m_tuple m_sorted
  exact ok_law FL m_range m_tuple m_repr oF mF k_F bF oD mD k_D bD oM mM k_M bM oR mR k_R bR oT mT k_T bT oU mU k_U bU oO mO k_O bO kb
end My
-- ===== end =====
open PySem PySem.W PyProof.Rows
set_option maxRecDepth 100000
set_option maxHeartbeats 0
open_top head59 for PySem.Challenge.rw_mustwait_k59_modes
set_option maxRecDepth 100000 in
set_option maxHeartbeats 0 in
theorem PySem.Challenge.cw_mustwait_k59_modes_holds : PySem.Challenge.rw_mustwait_k59_modes.Holds :=
  head59 (by
  k_fill
  refine My.walk_ofG (l := PySem.Challenge.rw_mustwait_k59_modes) (n := 63) (k := 4) (x := "_law_script") (sp := My.spLaw) rfl (by decide) rfl ⟨rfl, by decide, by decide⟩ (fun w h Y => PySem.W.kIn_of Y) ?F (fun K H a ns hl hb _ hS => ⟨a, ns, rfl, hS, hl, hb, fun _ => rfl⟩)
  case F =>
    intro w mg fa h KX G hmg
    refine' My.all_mk KX G hmg ?a_O ?l_O ?e_O ?k_O ?a_F ?l_F ?e_F ?k_F ?a_D ?l_D ?e_D ?k_D ?a_P ?l_P ?e_P ?k_P ?a_M ?l_M ?e_M ?k_M ?a_R ?l_R ?e_R ?k_R ?a_T ?l_T ?e_T ?k_T ?a_A ?l_A ?e_A ?k_A ?a_U ?l_U ?e_U ?k_U ?a_L ?l_L ?e_L ?k_L ?z_range ?z_tuple ?z_sorted ?z_repr ?z_list ?z_min ?z_len
    (case a_O => k_is)
    (case l_O => k_is)
    (case e_O => k_is)
    (case k_O => k_is)
    (case a_F => k_is)
    (case l_F => k_is)
    (case e_F => k_is)
    (case k_F => k_is)
    (case a_D => k_is)
    (case l_D => k_is)
    (case e_D => k_is)
    (case k_D => k_is)
    (case a_P => k_is)
    (case l_P => k_is)
    (case e_P => k_is)
    (case k_P => k_is)
    (case a_M => k_is)
    (case l_M => k_is)
    (case e_M => k_is)
    (case k_M => k_is)
    (case a_R => k_is)
    (case l_R => k_is)
    (case e_R => k_is)
    (case k_R => k_is)
    (case a_T => k_is)
    (case l_T => k_is)
    (case e_T => k_is)
    (case k_T => k_is)
    (case a_A => k_is)
    (case l_A => k_is)
    (case e_A => k_is)
    (case k_A => k_is)
    (case a_U => k_is)
    (case l_U => k_is)
    (case e_U => k_is)
    (case k_U => k_is)
    (case a_L => k_is)
    (case l_L => k_is)
    (case e_L => k_is)
    (case k_L => k_is)
    (case z_range => k_is)
    (case z_tuple => k_is)
    (case z_sorted => k_is)
    (case z_repr => k_is)
    (case z_list => k_is)
    (case z_min => k_is)
    (case z_len => k_is))
