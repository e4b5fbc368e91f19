import PyProof.Rows.All
import Wide.All
import OpenK.AllK
import Wide.FinOn
import HandS.ForExc
import HandS.ForMost
import HandS.Wide
import HandS.IsInst
import HandS.Flow
import HandS.Style
import HandS.RaiseMore
import HandS.TupAny
import HandS.TupMul
import HandS.Conv
import HandS.SortRule
import HandS.SortInts
import PyProof.ReprRoads
import PyProof.Rows.SeqMore
import HandS.Codes
import KE.GoesEnum
import KE.DataMinMax
import KE.SortData
import HandS.WideBits
import PyProof.ReprBulk
import PyProof.Rows.ReprShort
import KE.KDictSum
import KE.KDictCopyH
import KE.KDictWalk
import KE.KIntText
import HandS.Deep
import KE.KDictKeyed
import KE.KDictItemsList
import KE.KDictDisplayH
import HandS.ListItems
import HandS.SetFor
import HandS.Strs
import HandS.Iter
import HandS.DictComp
import KE.DataAny
import PyProof.ListMulAny
import PyProof.Rows.ListMulArg
import KE.SortCalls
import KE.LtData
import HandS.Dict
import PySem.Challenge.RW_listpicks_k34_totals
set_option Elab.async false
set_option linter.all false
set_option maxRecDepth 100000
/-! LD1: slots that hold data (trees of None, bools, ints, texts, lists, tuples), told from the heap once and for all. -/
namespace LD
open PySem PySem.Spec L2
abbrev D := PyData

theorem sqT_mono {K : PySem.W.Frag} {H H' : Hp} {a : Addr} {xs : List V} (e : Same H H') (h : SqT K H a xs) : SqT K H' a xs := by
  cases h with
  | inl h =>
    cases h with
    | inl h => exact .inl (.inl (e _ _ h))
    | inr h =>
      obtain ⟨o, h⟩ := h
      exact .inl (.inr ⟨o, e _ _ h⟩)
  | inr h => exact .inr h
mutual
theorem dp_mono {K : PySem.W.Frag} {H H' : Hp} (e : Same H H') : ∀ (d : D) (v : V), Dp K H v d → Dp K H' v d
  | .none, _, h => by cases h; exact .non
  | .bool b, _, h => by cases h; exact .bl b
  | .int i, _, h => by cases h; exact .int i
  | .str x, _, h => by cases h; exact .str x
  | .list es, _, h => by
    cases h with
    | lst s q => exact .lst (e.seq s) (dpAll_mono e es _ q)
  | .tuple es, _, h => by
    cases h with
    | tup s q => exact .tup (sqT_mono e s) (dpAll_mono e es _ q)
  | .dict _, _, h => by cases h
theorem dpAll_mono {K : PySem.W.Frag} {H H' : Hp} (e : Same H H') : ∀ (ds : List D) (vs : List V), DpAll K H vs ds → DpAll K H' vs ds
  | [], _, h => by cases h; exact .nil
  | d :: ds, _, h => by
    cases h with
    | cons a b => exact .cons (dp_mono e d _ a) (dpAll_mono e ds _ b)
end
theorem dpAll_len {K : PySem.W.Frag} {H : Hp} : ∀ {ds : List D} {vs : List V}, DpAll K H vs ds → vs.length = ds.length
  | [], _, h => by cases h; rfl
  | d :: ds, _, h => by
    cases h with
    | cons a b => exact congrArg Nat.succ (dpAll_len b)
theorem dpAll_at {K : PySem.W.Frag} {H : Hp} : ∀ {ds : List D} {vs : List V} {i : Nat} {d : D}, DpAll K H vs ds → ds[i]? = some d → ∃ v, vs[i]? = some v ∧ Dp K H v d
  | [], _, _, _, h, e => by cases e
  | d :: ds, _, 0, _, h, e => by
    cases h with
    | cons a b =>
      cases e
      exact ⟨_, rfl, a⟩
  | d :: ds, _, i + 1, _, h, e => by
    cases h with
    | cons a b =>
      obtain ⟨v, e', q⟩ := dpAll_at (i := i) b e
      exact ⟨v, e', q⟩
theorem dpAll_app {K : PySem.W.Frag} {H : Hp} : ∀ {ds es : List D} {vs ws : List V}, DpAll K H vs ds → DpAll K H ws es → DpAll K H (vs ++ ws) (ds ++ es)
  | [], _, _, _, h, k => by cases h; exact k
  | d :: ds, _, _, _, h, k => by
    cases h with
    | cons a b => exact .cons a (dpAll_app b k)
theorem dpAll_split {K : PySem.W.Frag} {H : Hp} : ∀ {vs ws : List V} {ds es : List D}, vs.length = ds.length → DpAll K H (vs ++ ws) (ds ++ es) → DpAll K H vs ds ∧ DpAll K H ws es
  | [], _, [], _, _, h => ⟨.nil, h⟩
  | [], _, _ :: _, _, e, _ => by cases e
  | _ :: _, _, [], _, e, _ => by cases e
  | v :: vs, _, d :: ds, _, e, h => by
    cases h with
    | cons a b =>
      obtain ⟨h1, h2⟩ := dpAll_split (Nat.succ.inj e) b
      exact ⟨.cons a h1, h2⟩
theorem dpAll_ints {K : PySem.W.Frag} {H : Hp} : ∀ (ns : List Int), DpAll K H (ns.map V.int) (ns.map PyData.int)
  | [] => .nil
  | n :: ns => .cons (.int n) (dpAll_ints ns)
theorem ints_of {K : PySem.W.Frag} {H : Hp} : ∀ (ns : List Int) (vs : List V), DpAll K H vs (ns.map PyData.int) → vs = ns.map V.int
  | [], _, h => by cases h; rfl
  | n :: ns, _, h => by
    cases h with
    | cons a b =>
      cases a
      rw [ints_of ns _ b]
      rfl

/-! ### what a slot holds: nothing told; data that never changes; a list that only this slot knows; the source of draws -/
/-- a dict's entry: the key, where its tuple lies, the value as it stands, as it is told, as data -/
structure Ent where
  k : List Int
  b : Addr
  u : Value
  v : V
  d : D
def Ent.x (z : Ent) : List Int × Addr × Value := (z.k, z.b, z.u)
def Ent.kv (z : Ent) : List Int × D := (z.k, z.d)
inductive DV where
  | no
  | sh (d : D)
  | ls (ds : List D)
  | dl (a l : Addr)
  | dt (a : Addr) (zs : List Ent)
  | dz (a : Addr) (zs : List Ent) (o : Obj)
  /-- any objects that this slot alone knows -/
  | ob (a : Addr) (as : List Addr) (φ : PySem.W.Frag → Hp → Hp → Prop)
abbrev Rho := List DV

/-- Hb: what never changes at the entry; H0: all that is tracked there; P: what the def may change of it; Z: what is being made -/
structure Fx where
  Hb : Hp
  H0 : Hp
  P : List Addr
  Z : List (Addr × HO)

/-- the source of draws: great numbers, none below 0, and a number that is mixed -/
structure DealOk (ns : List Int) (b : Int) : Prop where
  pos : ∀ n ∈ ns, 0 ≤ n
  few : ns.length ≤ 48
  lo : 0 ≤ b
  hi : b < 2147483647
def DealAt (H : Hp) (a l : Addr) : Prop := ∃ ns b, DealOk ns b ∧ H a = some (.lst [.ref l, .int b]) ∧ H l = some (.lst (ns.map V.int))
/-- a dict's object: keys are tuples of ints, xs tells each key, where its tuple lies, the value -/
def keyX (x : List Int × Addr × Value) : List L2.Key × Addr × Value := (x.1.map Sum.inl, x.2)
structure RawT (a : Addr) (xs : List (List Int × Addr × Value)) (h : Heap) : Prop where
  raw : ∃ o es ep, h.get? a = some o ∧ o.ExactDict ∧ o.data = .dict es ep ∧ ∀ (P : Program) (w : World), es.toList = xs.map fun x => entryOfKey (tupleKind (mixKind P w)) (keyX x)
  one : (xs.map (·.1)).Nodup
  few : xs.length ≤ sizeLine
  own : (a == sysModules) = false
def SlotOk (K : PySem.W.Frag) (Hi H : Hp) (s : Option V) (os : List Addr) : DV → Prop
  | .no => True
  | .sh d => ∃ v, s = some v ∧ Dp K Hi v d
  | .ls ds => ∃ a xs, s = some (.ref a) ∧ os = [a] ∧ H a = some (.lst xs) ∧ DpAll K Hi xs ds
  | .dl a l => s = some (.ref a) ∧ os = [a, l] ∧ a ≠ l ∧ DealAt H a l
  | .dt a zs => s = some (.ref a) ∧ os = [a] ∧ H a = some (.ext (RawT a (zs.map Ent.x))) ∧ ∀ z ∈ zs, Dp K Hi (.ref z.b) (.tuple (z.k.map PyData.int)) ∧ RelV z.v z.u ∧ Dp K Hi z.v z.d
  -- a dict that is locked: it is read, the object stays
  | .dz a zs o => s = some (.ref a) ∧ os = [a] ∧ H a = some (.frz o (.ext (RawT a (zs.map Ent.x)))) ∧ ∀ z ∈ zs, Dp K Hi (.ref z.b) (.tuple (z.k.map PyData.int)) ∧ RelV z.v z.u ∧ Dp K Hi z.v z.d
  | .ob a as φ => s = some (.ref a) ∧ os = as ∧ ∀ Hi' H', Same Hi Hi' → (∀ b ∈ as, ∀ o, H b = some o → H' b = some o) → φ K Hi' H'
structure RelI (K : PySem.W.Frag) (F : Fx) (σ : St) (H : Hp) (ρ : Rho) (vs : List V) (ds : List D) (Hi : Hp) (own : Nat → List Addr) : Prop where
  base : Same F.Hb Hi
  sub : Same Hi H
  new : ∀ b, Hi b ≠ none → F.Hb b ≠ none ∨ F.H0 b = none
  keep : ∀ b o, F.H0 b = some o → b ∉ F.P → H b = some o
  dom : ∀ b, F.H0 b ≠ none → H b ≠ none
  len : σ.length = ρ.length
  slot : ∀ i x, ρ[i]? = some x → SlotOk K Hi H (σ[i]?.join) (own i) x
  free : ∀ i, ∀ a ∈ own i, Hi a = none
  held : ∀ i, ∀ a ∈ own i, H a ≠ none
  nown : ∀ i, ∀ a ∈ own i, F.H0 a = none ∨ a ∈ F.P
  sep : ∀ i j, i ≠ j → ∀ a ∈ own i, a ∉ own j
  nls : ∀ i es, ρ[i]? = some (.ls es) → ∀ a ∈ own i, F.H0 a = none
  pin : ∀ z ∈ F.Z, H z.1 = some z.2 ∧ Hi z.1 = none ∧ ∀ i, z.1 ∉ own i
  tmp : DpAll K Hi vs ds
def Rel (K : PySem.W.Frag) (F : Fx) (σ : St) (H : Hp) (ρ : Rho) (vs : List V) (ds : List D) : Prop := ∃ Hi own, RelI K F σ H ρ vs ds Hi own

section
variable {K : PySem.W.Frag} {F : Fx} {σ : St} {H : Hp} {ρ : Rho} {vs ws xs : List V} {ds es : List D} {Hi : Hp} {own : Nat → List Addr}

theorem RelI.tmpTo (R : RelI K F σ H ρ vs ds Hi own) (h : DpAll K Hi ws es) : RelI K F σ H ρ ws es Hi own :=
  ⟨R.base, R.sub, R.new, R.keep, R.dom, R.len, R.slot, R.free, R.held, R.nown, R.sep, R.nls, R.pin, h⟩
theorem Rel.swap (R : Rel K F σ H ρ vs ds) (h : ∀ Hi, DpAll K Hi vs ds → DpAll K Hi ws es) : Rel K F σ H ρ ws es := by
  obtain ⟨Hi, own, R⟩ := R
  exact ⟨Hi, own, R.tmpTo (h Hi R.tmp)⟩
theorem Rel.drop {v : V} {d : D} (R : Rel K F σ H ρ (v :: vs) (d :: ds)) : Rel K F σ H ρ vs ds := R.swap fun _ h => by cases h with | cons _ b => exact b
theorem Rel.drop2 {v w : V} {d e : D} (R : Rel K F σ H ρ (v :: w :: vs) (d :: e :: ds)) : Rel K F σ H ρ (v :: vs) (d :: ds) := R.swap fun _ h => by
  cases h with | cons a b => cases b with | cons _ c => exact .cons a c
theorem Rel.dropN (R : Rel K F σ H ρ (ws ++ vs) (es ++ ds)) (e : ws.length = es.length) : Rel K F σ H ρ vs ds := R.swap fun _ h => (dpAll_split e h).2
/-- a scalar's value -/
def vD : V → D
  | .non => .none
  | .bl b => .bool b
  | .int i => .int i
  | .str x => .str x
  | _ => .none
def isSc : V → Bool
  | .non => true | .bl _ => true | .int _ => true | .str _ => true | _ => false
theorem dp_sc {H : Hp} {v : V} (h : isSc v = true) : Dp K H v (vD v) := by
  cases v <;> first | (cases h; done) | constructor
theorem Rel.push {v : V} (R : Rel K F σ H ρ vs ds) (h : isSc v = true) : Rel K F σ H ρ (v :: vs) (vD v :: ds) := R.swap fun _ q => .cons (dp_sc h) q
theorem RelI.noSub (R : RelI K F σ H ρ vs ds Hi own) {p : Addr} (h : H p = none) : Hi p = none := by
  cases q : Hi p with
  | none => rfl
  | some o => rw [R.sub _ _ q] at h; cases h
theorem RelI.no0 (R : RelI K F σ H ρ vs ds Hi own) {p : Addr} (h : H p = none) : F.H0 p = none := by
  cases q : F.H0 p with
  | none => rfl
  | some o => exact absurd h (R.dom p (by rw [q]; simp))
theorem same_upd {p : Addr} {o : HO} (h : H p = none) : Same H (upd H p o) := fun b x e => by
  rw [upd_ne (ne_of_none e h)]
  exact e
theorem same_upd2 {p : Addr} {o : HO} (e : Same Hi H) : Hi p = none → Same (upd Hi p o) (upd H p o) := fun hn b x q => by
  by_cases hb : b = p
  · rw [hb, upd_same] at q ⊢
    exact q
  · rw [upd_ne hb] at q ⊢
    exact e _ _ q
/-- the slots' part when more never changes and the owned objects stay -/
theorem SlotOk.grow {Hi' H' : Hp} {s : Option V} {os : List Addr} {x : DV} (h : SlotOk K Hi H s os x) (e : Same Hi Hi') (k : ∀ a ∈ os, ∀ o, H a = some o → H' a = some o) : SlotOk K Hi' H' s os x := by
  cases x with
  | no => trivial
  | sh d =>
    obtain ⟨v, e1, q⟩ := h
    exact ⟨v, e1, dp_mono e _ _ q⟩
  | ls ds =>
    obtain ⟨a, xs, e1, e2, h1, q⟩ := h
    exact ⟨a, xs, e1, e2, k a (by rw [e2]; simp) _ h1, dpAll_mono e _ _ q⟩
  | dl a l =>
    obtain ⟨e1, e2, n, ns, b, ok, h1, h2⟩ := h
    exact ⟨e1, e2, n, ns, b, ok, k a (by rw [e2]; simp) _ h1, k l (by rw [e2]; simp) _ h2⟩
  | dt a zs =>
    obtain ⟨e1, e2, h1, h2⟩ := h
    exact ⟨e1, e2, k a (by rw [e2]; simp) _ h1, fun z hz => ⟨dp_mono e _ _ (h2 z hz).1, (h2 z hz).2.1, dp_mono e _ _ (h2 z hz).2.2⟩⟩
  | dz a zs o =>
    obtain ⟨e1, e2, h1, h2⟩ := h
    exact ⟨e1, e2, k a (by rw [e2]; simp) _ h1, fun z hz => ⟨dp_mono e _ _ (h2 z hz).1, (h2 z hz).2.1, dp_mono e _ _ (h2 z hz).2.2⟩⟩
  | ob a as φ =>
    obtain ⟨e1, e2, h1⟩ := h
    exact ⟨e1, e2, fun Hj Hk f g => h1 Hj Hk (e.trans f) fun b hb o q => g b hb o (k b (by rw [e2]; exact hb) o q)⟩
/-- something new that never changes is laid at p -/
theorem RelI.lay {p : Addr} {o : HO} (R : RelI K F σ H ρ vs ds Hi own) (hp : H p = none) (h : DpAll K (upd Hi p o) ws es) : RelI K F σ (upd H p o) ρ ws es (upd Hi p o) own := by
  have np := R.noSub hp
  have s1 : Same Hi (upd Hi p o) := same_upd np
  have ne : ∀ i, ∀ a ∈ own i, a ≠ p := fun i a ha z => R.held i a ha (by rw [z]; exact hp)
  refine ⟨R.base.trans s1, same_upd2 R.sub np, fun b hb => ?_, fun b q h hn => ?_, fun b h => ?_, R.len, fun i x h => ?_, fun i a ha => ?_, fun i a ha => ?_, R.nown, R.sep, R.nls, fun z hz => ?_, h⟩
  · by_cases hbp : b = p
    · rw [hbp]; exact .inr (R.no0 hp)
    · rw [upd_ne hbp] at hb; exact R.new b hb
  · rw [upd_ne (ne_of_none (R.keep b q h hn) hp)]; exact R.keep b q h hn
  · by_cases hbp : b = p
    · rw [hbp, upd_same]; simp
    · rw [upd_ne hbp]; exact R.dom b h
  · exact (R.slot i x h).grow s1 fun a ha o q => by rw [upd_ne (ne i a ha)]; exact q
  · rw [upd_ne (ne i a ha)]; exact R.free i a ha
  · rw [upd_ne (ne i a ha)]; exact R.held i a ha
  · obtain ⟨z1, z2, z3⟩ := R.pin z hz
    have nz : z.1 ≠ p := ne_of_none z1 hp
    exact ⟨by rw [upd_ne nz]; exact z1, by rw [upd_ne nz]; exact z2, z3⟩
/-- a tuple of what was reckoned -/
theorem Rel.tup {p : Addr} (R : Rel K F σ H ρ (xs ++ vs) (es ++ ds)) (e : xs.length = es.length) (hp : H p = none) : Rel K F σ (upd H p (.tup xs)) ρ (.ref p :: vs) (.tuple es :: ds) := by
  obtain ⟨Hi, own, R⟩ := R
  obtain ⟨h1, h2⟩ := dpAll_split e R.tmp
  have s1 : Same Hi (upd Hi p (.tup xs)) := same_upd (R.noSub hp)
  exact ⟨_, own, R.lay hp (.cons (.tup (.inl (.inl upd_same)) (dpAll_mono s1 _ _ h1)) (dpAll_mono s1 _ _ h2))⟩
/-- a list of what was reckoned, shared from the first -/
theorem Rel.lst {p : Addr} (R : Rel K F σ H ρ (xs ++ vs) (es ++ ds)) (e : xs.length = es.length) (hp : H p = none) : Rel K F σ (upd H p (.lst xs)) ρ (.ref p :: vs) (.list es :: ds) := by
  obtain ⟨Hi, own, R⟩ := R
  obtain ⟨h1, h2⟩ := dpAll_split e R.tmp
  have s1 : Same Hi (upd Hi p (.lst xs)) := same_upd (R.noSub hp)
  exact ⟨_, own, R.lay hp (.cons (.lst (.inl (.inl upd_same)) (dpAll_mono s1 _ _ h1)) (dpAll_mono s1 _ _ h2))⟩
/-- a list of what was reckoned, kept in slot i alone -/
theorem Rel.keepOwn {p : Addr} {i : Nat} (R : Rel K F σ H ρ (xs ++ vs) (es ++ ds)) (e : xs.length = es.length) (hp : H p = none) (hi : i < ρ.length) : Rel K F (σ.set i (some (.ref p))) (upd H p (.lst xs)) (ρ.set i (.ls es)) vs ds := by
  obtain ⟨Hi, own, R⟩ := R
  obtain ⟨h1, h2⟩ := dpAll_split e R.tmp
  have ne : ∀ i, ∀ a ∈ own i, a ≠ p := fun i a ha z => R.held i a ha (by rw [z]; exact hp)
  have s1 : Same Hi (upd H p (.lst xs)) := R.sub.trans (same_upd hp)
  refine ⟨Hi, fun j => if j = i then [p] else own j, ⟨R.base, s1, R.new, fun b q h hn => ?_, fun b h => ?_, ?_, fun j x h => ?_, fun j a ha => ?_, fun j a ha => ?_, fun j a ha => ?_, fun j k hjk a ha hk => ?_, fun j es' h a ha => ?_, fun z hz => ?_, h2⟩⟩
  · rw [upd_ne (ne_of_none (R.keep b q h hn) hp)]; exact R.keep b q h hn
  · by_cases hbp : b = p
    · rw [hbp, upd_same]; simp
    · rw [upd_ne hbp]; exact R.dom b h
  · rw [List.length_set, List.length_set]; exact R.len
  · by_cases hj : j = i
    · subst hj
      rw [List.getElem?_set_self hi] at h
      cases h
      have e1 : (σ.set j (some (V.ref p)))[j]? = some (some (.ref p)) := List.getElem?_set_self (by rw [R.len]; exact hi)
      rw [e1]
      exact ⟨p, xs, rfl, by rw [if_pos rfl], upd_same, h1⟩
    · rw [List.getElem?_set_ne (Ne.symm hj)] at h ⊢
      rw [if_neg hj]
      exact (R.slot j x h).grow (Same.refl _) fun a ha o q => by rw [upd_ne (ne j a ha)]; exact q
  · by_cases hj : j = i
    · rw [if_pos hj] at ha
      obtain rfl : a = p := by simpa using ha
      exact R.noSub hp
    · rw [if_neg hj] at ha; exact R.free j a ha
  · by_cases hj : j = i
    · rw [if_pos hj] at ha
      obtain rfl : a = p := by simpa using ha
      rw [upd_same]; simp
    · rw [if_neg hj] at ha; rw [upd_ne (ne j a ha)]; exact R.held j a ha
  · by_cases hj : j = i
    · rw [if_pos hj] at ha
      obtain rfl : a = p := by simpa using ha
      exact .inl (R.no0 hp)
    · rw [if_neg hj] at ha; exact R.nown j a ha
  · by_cases hj : j = i
    · rw [if_pos hj] at ha
      obtain rfl : a = p := by simpa using ha
      rw [if_neg (fun z => hjk (hj.trans z.symm))] at hk
      exact ne k a hk rfl
    · rw [if_neg hj] at ha
      by_cases hki : k = i
      · rw [if_pos hki] at hk
        obtain rfl : a = p := by simpa using hk
        exact ne j a ha rfl
      · rw [if_neg hki] at hk; exact R.sep j k hjk a ha hk
  · by_cases hj : j = i
    · rw [if_pos hj] at ha
      obtain rfl : a = p := by simpa using ha
      exact R.no0 hp
    · rw [if_neg hj] at ha
      rw [List.getElem?_set_ne (Ne.symm hj)] at h
      exact R.nls j es' h a ha
  · obtain ⟨z1, z2, z3⟩ := R.pin z hz
    have nz : z.1 ≠ p := ne_of_none z1 hp
    refine ⟨by rw [upd_ne nz]; exact z1, z2, fun j hj => ?_⟩
    by_cases hji : j = i
    · rw [if_pos hji] at hj
      exact nz (by simpa using hj)
    · rw [if_neg hji] at hj; exact z3 j hj
/-- slot i is given another word (nothing, or data); what it owned before is forgotten -/
theorem RelI.put {i : Nat} {v : Option V} {x : DV} (R : RelI K F σ H ρ vs ds Hi own) (hi : i < ρ.length) (hx : SlotOk K Hi H v [] x) (h : DpAll K Hi ws es) : RelI K F (σ.set i v) H (ρ.set i x) ws es Hi (fun j => if j = i then [] else own j) := by
  refine ⟨R.base, R.sub, R.new, R.keep, R.dom, ?_, fun j y h => ?_, fun j a ha => ?_, fun j a ha => ?_, fun j a ha => ?_, fun j k hjk a ha hk => ?_, fun j es' h a ha => ?_, fun z hz => ?_, h⟩
  · rw [List.length_set, List.length_set]; exact R.len
  · by_cases hj : j = i
    · subst hj
      rw [List.getElem?_set_self hi] at h
      cases h
      have e1 : (σ.set j v)[j]? = some v := List.getElem?_set_self (by rw [R.len]; exact hi)
      rw [e1, if_pos rfl]
      exact hx
    · rw [List.getElem?_set_ne (Ne.symm hj)] at h ⊢
      rw [if_neg hj]
      exact R.slot j y h
  · by_cases hj : j = i
    · rw [if_pos hj] at ha; cases ha
    · rw [if_neg hj] at ha; exact R.free j a ha
  · by_cases hj : j = i
    · rw [if_pos hj] at ha; cases ha
    · rw [if_neg hj] at ha; exact R.held j a ha
  · by_cases hj : j = i
    · rw [if_pos hj] at ha; cases ha
    · rw [if_neg hj] at ha; exact R.nown j a ha
  · by_cases hj : j = i
    · rw [if_pos hj] at ha; cases ha
    · rw [if_neg hj] at ha
      by_cases hki : k = i
      · rw [if_pos hki] at hk; cases hk
      · rw [if_neg hki] at hk; exact R.sep j k hjk a ha hk
  · by_cases hj : j = i
    · rw [if_pos hj] at ha; cases ha
    · rw [if_neg hj] at ha
      rw [List.getElem?_set_ne (Ne.symm hj)] at h
      exact R.nls j es' h a ha
  · obtain ⟨z1, z2, z3⟩ := R.pin z hz
    refine ⟨z1, z2, fun j hj => ?_⟩
    by_cases hji : j = i
    · rw [if_pos hji] at hj; cases hj
    · rw [if_neg hji] at hj; exact z3 j hj
theorem Rel.store {i : Nat} {v : V} {d : D} (R : Rel K F σ H ρ (v :: vs) (d :: ds)) (hi : i < ρ.length) : Rel K F (σ.set i (some v)) H (ρ.set i (.sh d)) vs ds := by
  obtain ⟨Hi, own, R⟩ := R
  have q := R.tmp
  cases q with
  | cons a b => exact ⟨Hi, _, R.put hi ⟨v, rfl, a⟩ b⟩
theorem Rel.wipe1 {i : Nat} (R : Rel K F σ H ρ vs ds) (hi : i < ρ.length) : Rel K F (σ.set i none) H (ρ.set i .no) vs ds := by
  obtain ⟨Hi, own, R⟩ := R
  exact ⟨Hi, _, R.put hi trivial R.tmp⟩
/-- a slot's data -/
theorem Rel.get {i : Nat} {d : D} (R : Rel K F σ H ρ vs ds) (h : ρ[i]? = some (.sh d)) : ∃ v, σ[i]? = some (some v) ∧ Rel K F σ H ρ (v :: vs) (d :: ds) := by
  obtain ⟨Hi, own, R⟩ := R
  obtain ⟨v, e, q⟩ := R.slot i _ h
  have e' : σ[i]? = some (some v) := by
    cases z : σ[i]? with
    | none => rw [z] at e; cases e
    | some y => rw [z] at e; exact congrArg some e
  exact ⟨v, e', Hi, own, R.tmpTo (.cons q R.tmp)⟩
/-- a list that only slot i knows will never change again -/
theorem Rel.freeze {i : Nat} {es : List D} (R : Rel K F σ H ρ vs ds) (h : ρ[i]? = some (.ls es)) : Rel K F σ H (ρ.set i (.sh (.list es))) vs ds := by
  obtain ⟨Hi, own, R⟩ := R
  obtain ⟨p, xs, e, eo, hp, q⟩ := R.slot i _ h
  have hi : i < ρ.length := (List.getElem?_eq_some_iff.mp h).1
  have np : Hi p = none := R.free i p (by rw [eo]; simp)
  have s1 : Same Hi (upd Hi p (.lst xs)) := same_upd np
  have no : ∀ j, j ≠ i → ∀ a ∈ own j, a ≠ p := fun j hj a ha z => R.sep j i hj a ha (by rw [eo, z]; simp)
  refine ⟨upd Hi p (.lst xs), fun j => if j = i then [] else own j, ⟨R.base.trans s1, fun b o z => ?_, fun b hb => ?_, R.keep, R.dom, ?_, fun j y h => ?_, fun j a ha => ?_, fun j a ha => ?_, fun j a ha => ?_, fun j k hjk a ha hk => ?_, fun j es' h a ha => ?_, fun z hz => ?_, dpAll_mono s1 _ _ R.tmp⟩⟩
  · by_cases hb : b = p
    · rw [hb, upd_same] at z; rw [hb, hp]; exact z
    · rw [upd_ne hb] at z; exact R.sub b o z
  · by_cases hbp : b = p
    · rw [hbp]; exact .inr (R.nls i _ h p (by rw [eo]; simp))
    · rw [upd_ne hbp] at hb; exact R.new b hb
  · rw [List.length_set]; exact R.len
  · by_cases hj : j = i
    · subst hj
      rw [List.getElem?_set_self hi] at h
      cases h
      exact ⟨.ref p, e, .lst (.inl (.inl upd_same)) (dpAll_mono s1 _ _ q)⟩
    · rw [List.getElem?_set_ne (Ne.symm hj)] at h
      rw [if_neg hj]
      exact (R.slot j y h).grow s1 fun _ _ _ z => z
  · by_cases hj : j = i
    · rw [if_pos hj] at ha; cases ha
    · rw [if_neg hj] at ha; rw [upd_ne (no j hj a ha)]; exact R.free j a ha
  · by_cases hj : j = i
    · rw [if_pos hj] at ha; cases ha
    · rw [if_neg hj] at ha; exact R.held j a ha
  · by_cases hj : j = i
    · rw [if_pos hj] at ha; cases ha
    · rw [if_neg hj] at ha; exact R.nown j a ha
  · by_cases hj : j = i
    · rw [if_pos hj] at ha; cases ha
    · rw [if_neg hj] at ha
      by_cases hki : k = i
      · rw [if_pos hki] at hk; cases hk
      · rw [if_neg hki] at hk; exact R.sep j k hjk a ha hk
  · by_cases hj : j = i
    · rw [if_pos hj] at ha; cases ha
    · rw [if_neg hj] at ha
      rw [List.getElem?_set_ne (Ne.symm hj)] at h
      exact R.nls j es' h a ha
  · obtain ⟨z1, z2, z3⟩ := R.pin z hz
    have nz : z.1 ≠ p := fun e => z3 i (by rw [eo, e]; simp)
    refine ⟨z1, by rw [upd_ne nz]; exact z2, fun j hj => ?_⟩
    by_cases hji : j = i
    · rw [if_pos hji] at hj; cases hj
    · rw [if_neg hji] at hj; exact z3 j hj
end
end LD

/-! LD2: readings over data: expressions. -/
namespace LD
open PySem PySem.Spec L2

abbrev KD := Rho → D → Prop
abbrev KL := Rho → List D → Prop
abbrev TD := Rho → KD → Prop
abbrev TDA := Rho → KL → Prop
abbrev TDT := Rho → (Rho → Bool → Prop) → Prop
abbrev TDO := Rho → (Rho → Option Int → Prop) → Prop
abbrev OD := D → D → (D → Prop) → Prop
abbrev UD := D → (D → Prop) → Prop
abbrev CD := List D → (D → Prop) → Prop
abbrev CF := List D → (List D → Prop) → Prop

/-- the reading te, told over data by t -/
structure SE (K : PySem.W.Frag) (te : TE) (t : TD) : Prop where
  mono : ∀ ρ P P', (∀ r d, P r d → P' r d) → t ρ P → t ρ P'
  run : ∀ F σ H ρ vs ds Q, Rel K F σ H ρ vs ds → t ρ (fun r d => ∀ v H', Rel K F σ H' r (v :: vs) (d :: ds) → Q v H') → te σ H Q
/-- .. of a list that is made new -/
structure SF (K : PySem.W.Frag) (te : TE) (t : TDA) : Prop where
  mono : ∀ ρ P P', (∀ r d, P r d → P' r d) → t ρ P → t ρ P'
  run : ∀ F σ H ρ vs ds Q, Rel K F σ H ρ vs ds → t ρ (fun r es => ∀ xs H' p, xs.length = es.length → Rel K F σ H' r (xs ++ vs) (es ++ ds) → H' p = none → Q (.ref p) (upd H' p (.lst xs))) → te σ H Q
structure SA (K : PySem.W.Frag) (te : TA) (t : TDA) : Prop where
  mono : ∀ ρ P P', (∀ r d, P r d → P' r d) → t ρ P → t ρ P'
  run : ∀ F σ H ρ vs ds Q, Rel K F σ H ρ vs ds → t ρ (fun r es => ∀ xs H', xs.length = es.length → Rel K F σ H' r (xs ++ vs) (es ++ ds) → Q xs H') → te σ H Q
structure ST (K : PySem.W.Frag) (te : TT) (t : TDT) : Prop where
  mono : ∀ ρ P P', (∀ r d, P r d → P' r d) → t ρ P → t ρ P'
  run : ∀ F σ H ρ vs ds Q, Rel K F σ H ρ vs ds → t ρ (fun r b => ∀ H', Rel K F σ H' r vs ds → Q b H') → te σ H Q
structure SOp (K : PySem.W.Frag) (te : TO) (t : TDO) : Prop where
  mono : ∀ ρ P P', (∀ r d, P r d → P' r d) → t ρ P → t ρ P'
  run : ∀ F σ H ρ vs ds Q, Rel K F σ H ρ vs ds → t ρ (fun r o => ∀ H', Rel K F σ H' r vs ds → Q o H') → te σ H Q
structure SO (K : PySem.W.Frag) (r : R2) (o : OD) : Prop where
  mono : ∀ a b P P', (∀ d, P d → P' d) → o a b P → o a b P'
  run : ∀ F σ H ρ vs ds x y a b Q, Rel K F σ H ρ (y :: x :: vs) (b :: a :: ds) → o a b (fun d => ∀ v H', Rel K F σ H' ρ (v :: vs) (d :: ds) → Q v H') → r x y H Q
structure SU (K : PySem.W.Frag) (r : V → Hp → VK → Prop) (o : UD) : Prop where
  mono : ∀ a P P', (∀ d, P d → P' d) → o a P → o a P'
  run : ∀ F σ H ρ vs ds x a Q, Rel K F σ H ρ (x :: vs) (a :: ds) → o a (fun d => ∀ v H', Rel K F σ H' ρ (v :: vs) (d :: ds) → Q v H') → r x H Q
structure SC (K : PySem.W.Frag) (r : List V → Hp → VK → Prop) (o : CD) : Prop where
  mono : ∀ a P P', (∀ d, P d → P' d) → o a P → o a P'
  run : ∀ F σ H ρ vs ds xs es Q, xs.length = es.length → Rel K F σ H ρ (xs ++ vs) (es ++ ds) → o es (fun d => ∀ v H', Rel K F σ H' ρ (v :: vs) (d :: ds) → Q v H') → r xs H Q
/-- a built-in call that hands back a new list -/
structure SCF (K : PySem.W.Frag) (r : List V → Hp → VK → Prop) (o : CF) : Prop where
  mono : ∀ a P P', (∀ d, P d → P' d) → o a P → o a P'
  run : ∀ F σ H ρ vs ds xs es Q, xs.length = es.length → Rel K F σ H ρ (xs ++ vs) (es ++ ds) → o es (fun fs => ∀ ys H' p, ys.length = fs.length → Rel K F σ H' ρ (ys ++ vs) (fs ++ ds) → H' p = none → Q (.ref p) (upd H' p (.lst ys))) → r xs H Q

/-! ### inversions -/
section
variable {K : PySem.W.Frag} {F : Fx} {σ : L2.St} {H : Hp} {ρ : Rho} {vs xs : List V} {ds es : List D} {v : V}
theorem Rel.int {i : Int} (R : Rel K F σ H ρ (v :: vs) (.int i :: ds)) : v = .int i := by
  obtain ⟨_, _, R⟩ := R
  have q := R.tmp
  cases q with | cons a _ => cases a; rfl
theorem Rel.bl {i : Bool} (R : Rel K F σ H ρ (v :: vs) (.bool i :: ds)) : v = .bl i := by
  obtain ⟨_, _, R⟩ := R
  have q := R.tmp
  cases q with | cons a _ => cases a; rfl
theorem Rel.str {i : Str} (R : Rel K F σ H ρ (v :: vs) (.str i :: ds)) : v = .str i := by
  obtain ⟨_, _, R⟩ := R
  have q := R.tmp
  cases q with | cons a _ => cases a; rfl
theorem Rel.non (R : Rel K F σ H ρ (v :: vs) (PyData.none :: ds)) : v = .non := by
  obtain ⟨_, _, R⟩ := R
  have q := R.tmp
  cases q with | cons a _ => cases a; rfl
/-- a shared list: its items -/
theorem Rel.asList (R : Rel K F σ H ρ (v :: vs) (.list es :: ds)) : ∃ p xs, v = .ref p ∧ xs.length = es.length ∧ SqL K H p xs ∧ Rel K F σ H ρ (xs ++ v :: vs) (es ++ .list es :: ds) := by
  obtain ⟨Hi, own, R⟩ := R
  have q := R.tmp
  cases q with
  | cons a b =>
    cases a with
    | lst s q => exact ⟨_, _, rfl, dpAll_len q, R.sub.seq s, Hi, own, R.tmpTo (dpAll_app q (.cons (.lst s q) b))⟩
theorem Rel.asTup (R : Rel K F σ H ρ (v :: vs) (.tuple es :: ds)) : ∃ p xs, v = .ref p ∧ xs.length = es.length ∧ SqT K H p xs ∧ Rel K F σ H ρ (xs ++ v :: vs) (es ++ .tuple es :: ds) := by
  obtain ⟨Hi, own, R⟩ := R
  have q := R.tmp
  cases q with
  | cons a b =>
    cases a with
    | tup s q => exact ⟨_, _, rfl, dpAll_len q, sqT_mono R.sub s, Hi, own, R.tmpTo (dpAll_app q (.cons (.tup s q) b))⟩
theorem Rel.dp {d : D} (R : Rel K F σ H ρ (v :: vs) (d :: ds)) : Dp K H v d := by
  obtain ⟨Hi, own, R⟩ := R
  have q := R.tmp
  cases q with | cons a _ => exact dp_mono R.sub _ _ a
theorem Rel.dpAll (R : Rel K F σ H ρ vs ds) : DpAll K H vs ds := by
  obtain ⟨Hi, own, R⟩ := R
  exact dpAll_mono R.sub _ _ R.tmp
/-- one of the temporaries in front -/
theorem Rel.pick {i : Nat} {d : D} (R : Rel K F σ H ρ (xs ++ vs) (es ++ ds)) (e : xs.length = es.length) (h : es[i]? = some d) : ∃ v, xs[i]? = some v ∧ Rel K F σ H ρ (v :: vs) (d :: ds) := by
  obtain ⟨Hi, own, R⟩ := R
  obtain ⟨h1, h2⟩ := dpAll_split e R.tmp
  obtain ⟨v, e1, q⟩ := dpAll_at h1 h
  exact ⟨v, e1, Hi, own, R.tmpTo (.cons q h2)⟩
theorem len_nil {xs : List V} (e : xs.length = ([] : List D).length) : xs = [] := List.length_eq_zero_iff.mp e
theorem len_cons {xs : List V} {d : D} {ds : List D} (e : xs.length = (d :: ds).length) : ∃ x r, xs = x :: r ∧ r.length = ds.length := by
  cases xs with
  | nil => cases e
  | cons x r => exact ⟨x, r, rfl, Nat.succ.inj e⟩
end

/-! ### expressions -/
section
variable {K : PySem.W.Frag} {ta tb tc te : TE} {a b c t : TD}
def dVar (i : Nat) : TD := fun ρ P => ∃ d, ρ[i]? = some (.sh d) ∧ P ρ d
theorem se_var (i : Nat) : SE K (tVar i) (dVar i) := ⟨fun ρ P P' h ⟨d, e, q⟩ => ⟨d, e, h _ d q⟩, fun F σ H ρ vs ds Q R ⟨d, e, q⟩ => by
  obtain ⟨v, e1, R1⟩ := R.get e
  exact ⟨v, e1, q v H R1⟩⟩
def dC (d : D) : TD := fun ρ P => P ρ d
theorem se_c {v : V} (h : isSc v = true := by rfl) : SE K (tC v) (dC (vD v)) := ⟨fun ρ P P' h q => h _ _ q, fun F σ H ρ vs ds Q R q => q v H (R.push h)⟩
def dOp (o : OD) (a b : TD) : TD := fun ρ P => a ρ fun ρ1 x => b ρ1 fun ρ2 y => o x y (P ρ2)
theorem se_op {r : R2} {o : OD} (so : SO K r o) (sa : SE K ta a) (sb : SE K tb b) : SE K (tOp r ta tb) (dOp o a b) := by
  refine ⟨fun ρ P P' h q => sa.mono _ _ _ (fun _ x q => sb.mono _ _ _ (fun _ y q => so.mono _ _ _ _ (h _) q) q) q, fun F σ H ρ vs ds Q R q => ?_⟩
  refine sa.run F σ H ρ vs ds _ R (sa.mono _ _ _ (fun ρ1 x q v1 H1 R1 => ?_) q)
  refine sb.run F σ H1 ρ1 (v1 :: vs) (x :: ds) _ R1 (sb.mono _ _ _ (fun ρ2 y q v2 H2 R2 => ?_) q)
  exact so.run F σ H2 ρ2 vs ds v1 v2 x y Q R2 q
def dUn (o : UD) (a : TD) : TD := fun ρ P => a ρ fun ρ1 x => o x (P ρ1)
theorem se_un {r : V → Hp → VK → Prop} {o : UD} (so : SU K r o) (sa : SE K ta a) : SE K (tUn r ta) (dUn o a) := by
  refine ⟨fun ρ P P' h q => sa.mono _ _ _ (fun _ x q => so.mono _ _ _ (h _) q) q, fun F σ H ρ vs ds Q R q => ?_⟩
  exact sa.run F σ H ρ vs ds _ R (sa.mono _ _ _ (fun ρ1 x q v1 H1 R1 => so.run F σ H1 ρ1 vs ds v1 x Q R1 q) q)
/-- a list that is made and shared -/
def dSh (t : TDA) : TD := fun ρ P => t ρ fun r es => P r (.list es)
theorem se_sh {t : TDA} (s : SF K te t) : SE K te (dSh t) := ⟨fun ρ P P' h q => s.mono _ _ _ (fun _ es q => h _ _ q) q, fun F σ H ρ vs ds Q R q =>
  s.run F σ H ρ vs ds Q R (s.mono _ _ _ (fun _ es q xs H' p e R1 hp => q _ _ (R1.lst e hp)) q)⟩
/-! arguments, displays -/
def dNil : TDA := fun ρ P => P ρ []
def dCons (a : TD) (r : TDA) : TDA := fun ρ P => a ρ fun ρ1 x => r ρ1 fun ρ2 xs => P ρ2 (x :: xs)
theorem sa_nil : SA K tNil dNil := ⟨fun ρ P P' h q => h _ _ q, fun F σ H ρ vs ds Q R q => q [] H rfl R⟩
theorem sa_cons {tr : TA} {r : TDA} (sa : SE K ta a) (sr : SA K tr r) : SA K (tCons ta tr) (dCons a r) := by
  refine ⟨fun ρ P P' h q => sa.mono _ _ _ (fun _ x q => sr.mono _ _ _ (fun _ xs q => h _ _ q) q) q, fun F σ H ρ vs ds Q R q => ?_⟩
  refine sa.run F σ H ρ vs ds _ R (sa.mono _ _ _ (fun ρ1 x q v1 H1 R1 => ?_) q)
  refine sr.run F σ H1 ρ1 (v1 :: vs) (x :: ds) _ R1 (sr.mono _ _ _ (fun ρ2 es q xs H2 e R2 => ?_) q)
  refine q (v1 :: xs) H2 (congrArg Nat.succ e) (R2.swap fun Hi h => ?_)
  obtain ⟨h1, h2⟩ := dpAll_split e h
  cases h2 with
  | cons p q => exact .cons p (dpAll_app h1 q)
def dTup (t : TDA) : TD := fun ρ P => t ρ fun r es => es.length ≤ sizeLine ∧ P r (.tuple es)
theorem se_tup {ta : TA} {t : TDA} (s : SA K ta t) : SE K (tTup ta) (dTup t) := ⟨fun ρ P P' h q => s.mono _ _ _ (fun _ es q => ⟨q.1, h _ _ q.2⟩) q, fun F σ H ρ vs ds Q R q =>
  s.run F σ H ρ vs ds _ R (s.mono _ _ _ (fun _ es q xs H1 e R1 => ⟨by rw [e]; exact q.1, fun p hp => q.2 _ _ (R1.tup e hp)⟩) q)⟩
def dLst (t : TDA) : TDA := fun ρ P => t ρ fun r es => es.length ≤ sizeLine ∧ P r es
theorem sf_lst {ta : TA} {t : TDA} (s : SA K ta t) : SF K (tLst ta) (dLst t) := ⟨fun ρ P P' h q => s.mono _ _ _ (fun _ es q => ⟨q.1, h _ _ q.2⟩) q, fun F σ H ρ vs ds Q R q =>
  s.run F σ H ρ vs ds _ R (s.mono _ _ _ (fun _ es q xs H1 e R1 => ⟨by rw [e]; exact q.1, fun p hp => q.2 _ _ _ e R1 hp⟩) q)⟩
/-! built-in calls -/
def dCall (o : CD) (t : TDA) : TD := fun ρ P => t ρ fun r es => o es (P r)
theorem se_cb {r : List V → Hp → VK → Prop} {o : CD} {ta : TA} {t : TDA} (so : SC K r o) (s : SA K ta t) : SE K (tCB r ta) (dCall o t) := ⟨fun ρ P P' h q => s.mono _ _ _ (fun _ es q => so.mono _ _ _ (h _) q) q, fun F σ H ρ vs ds Q R q =>
  s.run F σ H ρ vs ds _ R (s.mono _ _ _ (fun ρ1 es q xs H1 e R1 => so.run F σ H1 ρ1 vs ds xs es Q e R1 q) q)⟩
def dCallF (o : CF) (t : TDA) : TDA := fun ρ P => t ρ fun r es => o es (P r)
theorem sf_cb {r : List V → Hp → VK → Prop} {o : CF} {ta : TA} {t : TDA} (so : SCF K r o) (s : SA K ta t) : SF K (tCB r ta) (dCallF o t) := ⟨fun ρ P P' h q => s.mono _ _ _ (fun _ es q => so.mono _ _ _ (h _) q) q, fun F σ H ρ vs ds Q R q =>
  s.run F σ H ρ vs ds _ R (s.mono _ _ _ (fun ρ1 es q xs H1 e R1 => so.run F σ H1 ρ1 vs ds xs es Q e R1 q) q)⟩
/-! conditional expressions, and, or, not -/
def dIf (t : TDT) (a b : TD) : TD := fun ρ P => t ρ fun r k => if k = true then a r P else b r P
theorem se_if {tt : TT} {t : TDT} (st : ST K tt t) (sa : SE K ta a) (sb : SE K tb b) : SE K (tIf tt ta tb) (dIf t a b) := by
  refine ⟨fun ρ P P' h q => st.mono _ _ _ (fun _ k q => ?_) q, fun F σ H ρ vs ds Q R q => ?_⟩
  · cases k with
    | true => exact sa.mono _ _ _ h q
    | false => exact sb.mono _ _ _ h q
  · refine st.run F σ H ρ vs ds _ R (st.mono _ _ _ (fun ρ1 k q H1 R1 => ?_) q)
    cases k with
    | true => exact sa.run F σ H1 ρ1 vs ds Q R1 q
    | false => exact sb.run F σ H1 ρ1 vs ds Q R1 q
def dAndV (a b : TD) : TD := fun ρ P => a ρ fun r x => ∃ k, x = .bool k ∧ if k = true then b r P else P r (.bool false)
theorem se_andV (sa : SE K ta a) (sb : SE K tb b) : SE K (tAndV ta tb) (dAndV a b) := by
  refine ⟨fun ρ P P' h q => sa.mono _ _ _ (fun _ x q => ?_) q, fun F σ H ρ vs ds Q R q => ?_⟩
  · obtain ⟨k, e, q⟩ := q
    refine ⟨k, e, ?_⟩
    cases k with
    | true => exact sb.mono _ _ _ h q
    | false => exact h _ _ q
  · refine sa.run F σ H ρ vs ds _ R (sa.mono _ _ _ (fun ρ1 x q v H1 R1 => ?_) q)
    obtain ⟨k, rfl, q⟩ := q
    refine ⟨k, R1.bl, ?_⟩
    cases k with
    | true => exact sb.run F σ H1 ρ1 vs ds Q R1.drop q
    | false => exact q _ _ (R1.drop.push (v := .bl false) rfl)
def dOrV (a b : TD) : TD := fun ρ P => a ρ fun r x => ∃ k, x = .bool k ∧ if k = true then P r (.bool true) else b r P
theorem se_orV (sa : SE K ta a) (sb : SE K tb b) : SE K (tOrV ta tb) (dOrV a b) := by
  refine ⟨fun ρ P P' h q => sa.mono _ _ _ (fun _ x q => ?_) q, fun F σ H ρ vs ds Q R q => ?_⟩
  · obtain ⟨k, e, q⟩ := q
    refine ⟨k, e, ?_⟩
    cases k with
    | false => exact sb.mono _ _ _ h q
    | true => exact h _ _ q
  · refine sa.run F σ H ρ vs ds _ R (sa.mono _ _ _ (fun ρ1 x q v H1 R1 => ?_) q)
    obtain ⟨k, rfl, q⟩ := q
    refine ⟨k, R1.bl, ?_⟩
    cases k with
    | false => exact sb.run F σ H1 ρ1 vs ds Q R1.drop q
    | true => exact q _ _ (R1.drop.push (v := .bl true) rfl)
def dNotV (a : TD) : TD := fun ρ P => a ρ fun r x => ∃ k, x = .bool k ∧ P r (.bool (!k))
theorem se_notV (sa : SE K ta a) : SE K (tNotV ta) (dNotV a) := by
  refine ⟨fun ρ P P' h q => sa.mono _ _ _ (fun _ x ⟨k, e, q⟩ => ⟨k, e, h _ _ q⟩) q, fun F σ H ρ vs ds Q R q => ?_⟩
  refine sa.run F σ H ρ vs ds _ R (sa.mono _ _ _ (fun ρ1 x q v H1 R1 => ?_) q)
  obtain ⟨k, rfl, q⟩ := q
  exact ⟨k, R1.bl, q _ _ (R1.drop.push (v := .bl (!k)) rfl)⟩
/-! tests -/
def dTB (a : TD) : TDT := fun ρ P => a ρ fun r d => ∃ b, d = .bool b ∧ P r b
theorem st_b (sa : SE K ta a) : ST K (tB ta) (dTB a) := ⟨fun ρ P P' h q => sa.mono _ _ _ (fun _ d ⟨b, e, q⟩ => ⟨b, e, h _ b q⟩) q, fun F σ H ρ vs ds Q R q =>
  sa.run F σ H ρ vs ds _ R (sa.mono _ _ _ (fun _ d q v H1 R1 => by
    obtain ⟨b, rfl, q⟩ := q
    exact ⟨b, R1.bl, q H1 R1.drop⟩) q)⟩
theorem st_test (sa : SE K ta a) : ST K (tTest ta) (dTB a) := ⟨(st_b sa).mono, (st_b sa).run⟩
def dTNot (t : TDT) : TDT := fun ρ P => t ρ fun r b => P r (!b)
def dTAnd (t u : TDT) : TDT := fun ρ P => t ρ fun r b => if b = true then u r P else P r false
def dTOr (t u : TDT) : TDT := fun ρ P => t ρ fun r b => if b = true then P r true else u r P
theorem st_not {tt : TT} {t : TDT} (st : ST K tt t) : ST K (tNot tt) (dTNot t) := ⟨fun ρ P P' h q => st.mono _ _ _ (fun _ b q => h _ _ q) q, fun F σ H ρ vs ds Q R q =>
  st.run F σ H ρ vs ds _ R (st.mono _ _ _ (fun _ b q H1 R1 => q H1 R1) q)⟩
theorem st_and {tt uu : TT} {t u : TDT} (st : ST K tt t) (su : ST K uu u) : ST K (tAnd tt uu) (dTAnd t u) := by
  refine ⟨fun ρ P P' h q => st.mono _ _ _ (fun _ b q => ?_) q, fun F σ H ρ vs ds Q R q => st.run F σ H ρ vs ds _ R (st.mono _ _ _ (fun r b q H1 R1 => ?_) q)⟩
  · cases b with
    | true => exact su.mono _ _ _ h q
    | false => exact h _ _ q
  · cases b with
    | true => exact su.run F σ H1 r vs ds Q R1 q
    | false => exact q H1 R1
theorem st_or {tt uu : TT} {t u : TDT} (st : ST K tt t) (su : ST K uu u) : ST K (tOr tt uu) (dTOr t u) := by
  refine ⟨fun ρ P P' h q => st.mono _ _ _ (fun _ b q => ?_) q, fun F σ H ρ vs ds Q R q => st.run F σ H ρ vs ds _ R (st.mono _ _ _ (fun r b q H1 R1 => ?_) q)⟩
  · cases b with
    | false => exact su.mono _ _ _ h q
    | true => exact h _ _ q
  · cases b with
    | false => exact su.run F σ H1 r vs ds Q R1 q
    | true => exact q H1 R1
end
end LD

/-! LD3: readings over data: operators, subscripts, slices, built-in functions. -/
namespace LD
open PySem PySem.Spec L2
section
variable {K : PySem.W.Frag}
def oI (C : Int → Int → Prop) (g : Int → Int → V) : OD := fun a b P => ∃ i j, a = .int i ∧ b = .int j ∧ C i j ∧ P (vD (g i j))
theorem so_rI {C : Int → Int → Prop} {g : Int → Int → V} (hs : ∀ i j, isSc (g i j) = true := by intros; rfl) : SO K (rI C g) (oI C g) :=
  ⟨fun a b P P' h ⟨i, j, e1, e2, c, q⟩ => ⟨i, j, e1, e2, c, h _ q⟩, fun F σ H ρ vs ds x y a b Q R ⟨i, j, e1, e2, c, q⟩ => by
    subst e1 e2
    exact ⟨i, j, R.drop.int, R.int, c, q _ _ (R.drop.drop.push (hs i j))⟩⟩
def oI0 (g : Int → Int → V) : OD := fun a b P => ∃ i j, a = .int i ∧ b = .int j ∧ P (vD (g i j))
theorem so_rI0 {g : Int → Int → V} (hs : ∀ i j, isSc (g i j) = true := by intros; rfl) : SO K (rI0 g) (oI0 g) :=
  ⟨fun a b P P' h ⟨i, j, e1, e2, q⟩ => ⟨i, j, e1, e2, h _ q⟩, fun F σ H ρ vs ds x y a b Q R ⟨i, j, e1, e2, q⟩ => by
    subst e1 e2
    exact ⟨i, j, R.drop.int, R.int, q _ _ (R.drop.drop.push (hs i j))⟩⟩
def uI (g : Int → Int) : UD := fun a P => ∃ i, a = .int i ∧ P (.int (g i))
theorem su_rU {g : Int → Int} : SU K (rU fun i => .int (g i)) (uI g) :=
  ⟨fun a P P' h ⟨i, e1, q⟩ => ⟨i, e1, h _ q⟩, fun F σ H ρ vs ds x a Q R ⟨i, e1, q⟩ => by
    subst e1
    exact ⟨i, R.int, q _ _ (R.drop.push (v := .int (g i)) rfl)⟩⟩
/-- ==, != of data -/
def oEq : OD := fun a b P => SeqAt.shaped a = true ∧ SeqAt.shaped b = true ∧ P (.bool (PyData.eqv a b))
def oNe : OD := fun a b P => SeqAt.shaped a = true ∧ SeqAt.shaped b = true ∧ P (.bool (!PyData.eqv a b))
theorem so_eqD : SO K (rEqD K) oEq := ⟨fun a b P P' h ⟨e1, e2, q⟩ => ⟨e1, e2, h _ q⟩, fun F σ H ρ vs ds x y a b Q R ⟨e1, e2, q⟩ =>
  ⟨a, b, R.drop.dp, R.dp, e1, e2, q _ _ (R.drop.drop.push (v := .bl (PyData.eqv a b)) rfl)⟩⟩
theorem so_neD : SO K (rNeD K) oNe := ⟨fun a b P P' h ⟨e1, e2, q⟩ => ⟨e1, e2, h _ q⟩, fun F σ H ρ vs ds x y a b Q R ⟨e1, e2, q⟩ =>
  ⟨a, b, R.drop.dp, R.dp, e1, e2, q _ _ (R.drop.drop.push (v := .bl (!PyData.eqv a b)) rfl)⟩⟩
/-- texts that are compared -/
def oNeS : OD := fun a b P => ∃ x y, a = .str x ∧ b = .str y ∧ P (.bool (!decide (x = y)))
theorem so_neS : SO K rNe oNeS := ⟨fun a b P P' h ⟨x, y, e1, e2, q⟩ => ⟨x, y, e1, e2, h _ q⟩, fun F σ H ρ vs ds x y a b Q R ⟨s, t, e1, e2, q⟩ => by
  subst e1 e2
  obtain rfl := R.str
  obtain rfl := R.drop.str
  refine ⟨rfl, ?_⟩
  have e : (!decide (V.str s = V.str t)) = !decide (s = t) := by
    by_cases h : s = t
    · rw [h]; simp
    · simp [h]
  rw [e]
  exact q _ _ (R.drop.drop.push (v := .bl (!decide (s = t))) rfl)⟩
def oEqS : OD := fun a b P => ∃ x y, a = .str x ∧ b = .str y ∧ P (.bool (decide (x = y)))
theorem so_eqS : SO K rEq oEqS := ⟨fun a b P P' h ⟨x, y, e1, e2, q⟩ => ⟨x, y, e1, e2, h _ q⟩, fun F σ H ρ vs ds x y a b Q R ⟨s, t, e1, e2, q⟩ => by
  subst e1 e2
  obtain rfl := R.str
  obtain rfl := R.drop.str
  refine ⟨rfl, ?_⟩
  have e : (decide (V.str s = V.str t)) = decide (s = t) := by
    by_cases h : s = t
    · rw [h]; simp
    · simp [h]
  rw [e]
  exact q _ _ (R.drop.drop.push (v := .bl (decide (s = t))) rfl)⟩
/-- is None -/
def isNoneD : D → Bool
  | .none => true
  | _ => false
theorem dp_none {H : Hp} {v : V} {d : D} (h : Dp K H v d) : decide (v = .non) = isNoneD d := by
  cases h <;> first | rfl | simp [isNoneD]
def oIsN : OD := fun a b P => b = .none ∧ P (.bool (isNoneD a))
def oNotN : OD := fun a b P => b = .none ∧ P (.bool (!isNoneD a))
theorem so_isN : SO K (fun x y H Q => y = .non ∧ Q (.bl (decide (x = .non))) H) oIsN := ⟨fun a b P P' h ⟨e2, q⟩ => ⟨e2, h _ q⟩, fun F σ H ρ vs ds x y a b Q R ⟨e2, q⟩ => by
  subst e2
  refine ⟨R.non, ?_⟩
  rw [dp_none R.drop.dp]
  exact q _ _ (R.drop.drop.push (v := .bl (isNoneD a)) rfl)⟩
theorem so_notN : SO K (fun x y H Q => y = .non ∧ Q (.bl (!decide (x = .non))) H) oNotN := ⟨fun a b P P' h ⟨e2, q⟩ => ⟨e2, h _ q⟩, fun F σ H ρ vs ds x y a b Q R ⟨e2, q⟩ => by
  subst e2
  refine ⟨R.non, ?_⟩
  rw [dp_none R.drop.dp]
  exact q _ _ (R.drop.drop.push (v := .bl (!isNoneD a)) rfl)⟩
/-- is, is not of bools -/
def oIsB (n : Bool) : OD := fun a b P => ∃ x y, a = .bool x ∧ b = .bool y ∧ P (.bool (if n = true then !decide (x = y) else decide (x = y)))
theorem so_isB : SO K rIsB (oIsB false) := ⟨fun a b P P' h ⟨x, y, e1, e2, q⟩ => ⟨x, y, e1, e2, h _ q⟩, fun F σ H ρ vs ds x y a b Q R ⟨s, t, e1, e2, q⟩ => by
  subst e1 e2
  exact ⟨s, t, R.drop.bl, R.bl, q _ _ (R.drop.drop.push (v := .bl (decide (s = t))) rfl)⟩⟩
theorem so_notB : SO K rNotB (oIsB true) := ⟨fun a b P P' h ⟨x, y, e1, e2, q⟩ => ⟨x, y, e1, e2, h _ q⟩, fun F σ H ρ vs ds x y a b Q R ⟨s, t, e1, e2, q⟩ => by
  subst e1 e2
  exact ⟨s, t, R.drop.bl, R.bl, q _ _ (R.drop.drop.push (v := .bl (!decide (s = t))) rfl)⟩⟩
/-! subscripts -/
theorem atI_pick {F : Fx} {σ : L2.St} {H : Hp} {ρ : Rho} {vs xs : List V} {ds es : List D} {i : Int} {d : D} (e : xs.length = es.length) (R : Rel K F σ H ρ (xs ++ vs) (es ++ ds)) (h : atI es i = some d) : ∃ v, atI xs i = some v ∧ Rel K F σ H ρ (v :: vs) (d :: ds) := by
  unfold atI at h ⊢
  rw [e]
  cases hn : ixN es.length i with
  | none => rw [hn] at h; cases h
  | some j =>
    rw [hn] at h
    obtain ⟨v, e1, R1⟩ := R.pick e (i := j) h
    exact ⟨v, e1, R1⟩
def oIxL : OD := fun a b P => ∃ es i d, a = .list es ∧ b = .int i ∧ atI es i = some d ∧ P d
def oIxT : OD := fun a b P => ∃ es i d, a = .tuple es ∧ b = .int i ∧ atI es i = some d ∧ P d
theorem so_ixL : SO K (rIxL K) oIxL := ⟨fun a b P P' h ⟨es, i, d, e1, e2, e3, q⟩ => ⟨es, i, d, e1, e2, e3, h _ q⟩, fun F σ H ρ vs ds x y a b Q R ⟨es, i, d, e1, e2, e3, q⟩ => by
  subst e1 e2
  obtain rfl := R.int
  obtain ⟨p, xs, rfl, e, s, R1⟩ := R.drop.asList
  obtain ⟨v, e4, R2⟩ := atI_pick e R1 e3
  exact ⟨p, xs, i, v, rfl, rfl, s, e4, q _ _ R2.drop2⟩⟩
theorem so_ixT : SO K (rIxT K) oIxT := ⟨fun a b P P' h ⟨es, i, d, e1, e2, e3, q⟩ => ⟨es, i, d, e1, e2, e3, h _ q⟩, fun F σ H ρ vs ds x y a b Q R ⟨es, i, d, e1, e2, e3, q⟩ => by
  subst e1 e2
  obtain rfl := R.int
  obtain ⟨p, xs, rfl, e, s, R1⟩ := R.drop.asTup
  obtain ⟨v, e4, R2⟩ := atI_pick e R1 e3
  exact ⟨p, xs, i, v, rfl, rfl, s, e4, q _ _ R2.drop2⟩⟩
/-! slices -/
def oNo : TDO := fun ρ P => P ρ none
def oPart (a : TD) : TDO := fun ρ P => a ρ fun r d => ∃ i, d = .int i ∧ P r (some i)
theorem sop_none : SOp K tNoPart oNo := ⟨fun ρ P P' h q => h _ _ q, fun F σ H ρ vs ds Q R q => q H R⟩
theorem sop_some {ta : TE} {a : TD} (sa : SE K ta a) : SOp K (tPart ta) (oPart a) := ⟨fun ρ P P' h q => sa.mono _ _ _ (fun _ d ⟨i, e, q⟩ => ⟨i, e, h _ _ q⟩) q, fun F σ H ρ vs ds Q R q =>
  sa.run F σ H ρ vs ds _ R (sa.mono _ _ _ (fun r d q v H1 R1 => by
    obtain ⟨i, rfl, q⟩ := q
    exact ⟨i, R1.int, q H1 R1.drop⟩) q)⟩
def cutD (es : List D) (lo hi : Option Int) : List D := (es.drop (HT.sIx es.length 0 lo)).take (HT.sIx es.length es.length hi - HT.sIx es.length 0 lo)
theorem dpAll_drop {H : Hp} : ∀ (n : Nat) {es : List D} {xs : List V}, DpAll K H xs es → DpAll K H (xs.drop n) (es.drop n)
  | 0, _, _, h => h
  | n + 1, [], _, h => by cases h; exact .nil
  | n + 1, e :: es, _, h => by
    cases h with
    | cons a b => exact dpAll_drop n b
theorem dpAll_take {H : Hp} : ∀ (n : Nat) {es : List D} {xs : List V}, DpAll K H xs es → DpAll K H (xs.take n) (es.take n)
  | 0, _, _, h => .nil
  | n + 1, [], _, h => by cases h; exact .nil
  | n + 1, e :: es, _, h => by
    cases h with
    | cons a b => exact .cons a (dpAll_take n b)
theorem dpAll_rev {H : Hp} {es : List D} {xs : List V} (h : DpAll K H xs es) : DpAll K H xs.reverse es.reverse := by
  have : ∀ (es : List D) (xs : List V) (fs : List D) (ys : List V), DpAll K H xs es → DpAll K H ys fs → DpAll K H (xs.reverseAux ys) (es.reverseAux fs) := by
    intro es
    induction es with
    | nil => intro xs fs ys h k; cases h; exact k
    | cons e es ih =>
      intro xs fs ys h k
      cases h with
      | cons a b =>
        rename_i v ws
        exact ih ws (e :: fs) (v :: ys) b (.cons a k)
  exact this es xs [] [] h .nil
theorem dpAll_cut {H : Hp} {es : List D} {xs : List V} (lo hi : Option Int) (h : DpAll K H xs es) : DpAll K H (cutV xs lo hi) (cutD es lo hi) := by
  unfold cutV cutD
  rw [dpAll_len h]
  exact dpAll_take _ (dpAll_drop _ h)
theorem Rel.cut {F : Fx} {σ : L2.St} {H : Hp} {ρ : Rho} {vs xs : List V} {ds es : List D} (lo hi : Option Int) (e : xs.length = es.length) (R : Rel K F σ H ρ (xs ++ vs) (es ++ ds)) : (cutV xs lo hi).length = (cutD es lo hi).length ∧ Rel K F σ H ρ (cutV xs lo hi ++ vs) (cutD es lo hi ++ ds) := by
  have q := (dpAll_split e R.dpAll).1
  exact ⟨dpAll_len (dpAll_cut lo hi q), R.swap fun _ h => dpAll_app (dpAll_cut lo hi (dpAll_split e h).1) (dpAll_split e h).2⟩
def dSlL (a : TD) (l u : TDO) : TDA := fun ρ P => a ρ fun r1 x => l r1 fun r2 lo => u r2 fun r3 hi => ∃ es, x = .list es ∧ P r3 (cutD es lo hi)
theorem sf_slL {ta : TE} {a : TD} {tl th : TO} {l u : TDO} (sa : SE K ta a) (sl : SOp K tl l) (su : SOp K th u) : SF K (tSl (rSlL K) ta tl th) (dSlL a l u) := by
  refine ⟨fun ρ P P' h q => sa.mono _ _ _ (fun _ x q => sl.mono _ _ _ (fun _ lo q => su.mono _ _ _ (fun _ hi ⟨es, e, q⟩ => ⟨es, e, h _ _ q⟩) q) q) q, fun F σ H ρ vs ds Q R q => ?_⟩
  refine sa.run F σ H ρ vs ds _ R (sa.mono _ _ _ (fun r1 x q1 v H1 R1 => ?_) q)
  refine sl.run F σ H1 r1 _ _ _ R1 (sl.mono _ _ _ (fun r2 lo q2 H2 R2 => ?_) q1)
  refine su.run F σ H2 r2 _ _ _ R2 (su.mono _ _ _ (fun r3 hi q3 H3 R3 => ?_) q2)
  obtain ⟨es, ex, q4⟩ := q3
  subst ex
  obtain ⟨p, xs, rfl, e, s, R4⟩ := R3.asList
  obtain ⟨e5, R5⟩ := R4.cut lo hi e
  exact ⟨p, xs, rfl, s, fun p' hp => q4 _ _ _ e5 (R5.swap fun _ h => by
    obtain ⟨h1, h2⟩ := dpAll_split e5 h
    cases h2 with | cons _ h2 => exact dpAll_app h1 h2) hp⟩
def dSlT (a : TD) (l u : TDO) : TD := fun ρ P => a ρ fun r1 x => l r1 fun r2 lo => u r2 fun r3 hi => ∃ es, x = .tuple es ∧ P r3 (.tuple (cutD es lo hi))
theorem cutD_all {es : List D} {lo hi : Option Int} (h1 : HT.sIx es.length 0 lo = 0) (h2 : HT.sIx es.length es.length hi = es.length) : cutD es lo hi = es := by
  unfold cutD
  rw [h1, h2, Nat.sub_zero]
  exact List.take_length
theorem se_slT {ta : TE} {a : TD} {tl th : TO} {l u : TDO} (sa : SE K ta a) (sl : SOp K tl l) (su : SOp K th u) : SE K (tSl (rSlA K) ta tl th) (dSlT a l u) := by
  refine ⟨fun ρ P P' h q => sa.mono _ _ _ (fun _ x q => sl.mono _ _ _ (fun _ lo q => su.mono _ _ _ (fun _ hi ⟨es, e, q⟩ => ⟨es, e, h _ _ q⟩) q) q) q, fun F σ H ρ vs ds Q R q => ?_⟩
  refine sa.run F σ H ρ vs ds _ R (sa.mono _ _ _ (fun r1 x q1 v H1 R1 => ?_) q)
  refine sl.run F σ H1 r1 _ _ _ R1 (sl.mono _ _ _ (fun r2 lo q2 H2 R2 => ?_) q1)
  refine su.run F σ H2 r2 _ _ _ R2 (su.mono _ _ _ (fun r3 hi q3 H3 R3 => ?_) q2)
  obtain ⟨es, ex, q4⟩ := q3
  subst ex
  obtain ⟨p, xs, rfl, e, s, R4⟩ := R3.asTup
  obtain ⟨e5, R5⟩ := R4.cut lo hi e
  refine ⟨p, xs, rfl, s, fun h => ?_, fun h p' hp => ?_⟩
  · rw [e] at h
    rw [cutD_all h.1 h.2] at q4
    exact q4 _ _ R3
  · exact q4 _ _ ((R5.swap fun _ h => by
      obtain ⟨h1, h2⟩ := dpAll_split e5 h
      cases h2 with | cons _ h2 => exact dpAll_app h1 h2).tup e5 hp)
def dRevL (a : TD) : TDA := fun ρ P => a ρ fun r x => ∃ es, x = .list es ∧ P r es.reverse
theorem sf_revL {ta : TE} {a : TD} (sa : SE K ta a) : SF K (tRevL K ta) (dRevL a) := by
  refine ⟨fun ρ P P' h q => sa.mono _ _ _ (fun _ x ⟨es, e, q⟩ => ⟨es, e, h _ _ q⟩) q, fun F σ H ρ vs ds Q R q => ?_⟩
  refine sa.run F σ H ρ vs ds _ R (sa.mono _ _ _ (fun r1 x q v H1 R1 => ?_) q)
  obtain ⟨es, rfl, q⟩ := q
  obtain ⟨p, xs, rfl, e, s, R4⟩ := R1.asList
  exact ⟨p, xs, rfl, s, fun p' hp => q _ _ _ (by rw [List.length_reverse, List.length_reverse]; exact e) (R4.swap fun _ h => by
    obtain ⟨h1, h2⟩ := dpAll_split e h
    cases h2 with | cons _ h2 => exact dpAll_app (dpAll_rev h1) h2) hp⟩
/-! built-in functions -/
def cLen : CD := fun es P => ∃ fs, (es = [.list fs] ∨ es = [.tuple fs]) ∧ P (.int fs.length)
theorem sc_len : SC K (fun xs H Q => ∃ p ys, xs = [.ref p] ∧ (SqL K H p ys ∨ SqT K H p ys) ∧ Q (.int ys.length) H) cLen := ⟨fun a P P' h ⟨fs, e, q⟩ => ⟨fs, e, h _ q⟩, fun F σ H ρ vs ds xs es Q e R ⟨fs, h, q⟩ => by
  rcases h with rfl | rfl
  · obtain ⟨x, r, rfl, e1⟩ := len_cons e
    obtain rfl := len_nil e1
    obtain ⟨p, ys, rfl, e2, s, R1⟩ := R.asList
    refine ⟨p, ys, rfl, .inl s, ?_⟩
    rw [e2]
    exact q _ _ (Rel.push (v := .int fs.length) R.drop rfl)
  · obtain ⟨x, r, rfl, e1⟩ := len_cons e
    obtain rfl := len_nil e1
    obtain ⟨p, ys, rfl, e2, s, R1⟩ := R.asTup
    refine ⟨p, ys, rfl, .inr s, ?_⟩
    rw [e2]
    exact q _ _ (Rel.push (v := .int fs.length) R.drop rfl)⟩
def cInt : CD := fun es P => ∃ i, es = [.int i] ∧ P (.int i)
theorem sc_int : SC K (fun xs H Q => (∃ i, xs = [.int i] ∧ Q (.int i) H) ∨ ∃ k, xs = [.bl k] ∧ Q (.int (if k then 1 else 0)) H) cInt := ⟨fun a P P' h ⟨fs, e, q⟩ => ⟨fs, e, h _ q⟩, fun F σ H ρ vs ds xs es Q e R ⟨i, h, q⟩ => by
  subst h
  obtain ⟨x, r, rfl, e1⟩ := len_cons e
  obtain rfl := len_nil e1
  obtain rfl := Rel.int R
  exact .inl ⟨i, rfl, q _ _ R⟩⟩
def cAbs : CD := fun es P => ∃ i : Int, es = [.int i] ∧ P (.int (if i < 0 then -i else i))
theorem sc_abs : SC K (fun xs H Q => ∃ i, xs = [.int i] ∧ Q (.int (if i < 0 then -i else i)) H) cAbs := ⟨fun a P P' h ⟨fs, e, q⟩ => ⟨fs, e, h _ q⟩, fun F σ H ρ vs ds xs es Q e R ⟨i, h, q⟩ => by
  subst h
  obtain ⟨x, r, rfl, e1⟩ := len_cons e
  obtain rfl := len_nil e1
  obtain rfl := Rel.int R
  exact ⟨i, rfl, q _ _ (Rel.push (v := .int (if i < 0 then -i else i)) R.drop rfl)⟩⟩
def cMin2 : CD := fun es P => ∃ i j : Int, es = [.int i, .int j] ∧ P (.int (if j < i then j else i))
theorem sc_min2 : SC K (fun xs H Q => ∃ i j, xs = [.int i, .int j] ∧ Q (.int (if j < i then j else i)) H) cMin2 := ⟨fun a P P' h ⟨i, j, e, q⟩ => ⟨i, j, e, h _ q⟩, fun F σ H ρ vs ds xs es Q e R ⟨i, j, h, q⟩ => by
  subst h
  obtain ⟨x, r, rfl, e1⟩ := len_cons e
  obtain ⟨y, r, rfl, e2⟩ := len_cons e1
  obtain rfl := len_nil e2
  have ex := Rel.int R
  have ey := Rel.int R.drop
  subst ex ey
  exact ⟨i, j, rfl, q _ _ (Rel.push (v := .int (if j < i then j else i)) R.drop.drop rfl)⟩⟩
/-- list(x) -/
def cList : CF := fun es P => ∃ fs, (es = [.list fs] ∨ es = [.tuple fs]) ∧ P fs
theorem scf_list : SCF K (fun xs H Q => ∃ p ys, xs = [.ref p] ∧ (SqL K H p ys ∨ SqT K H p ys) ∧ ∀ l, H l = none → Q (.ref l) (upd H l (.lst ys))) cList := ⟨fun a P P' h ⟨fs, e, q⟩ => ⟨fs, e, h _ q⟩, fun F σ H ρ vs ds xs es Q e R ⟨fs, h, q⟩ => by
  rcases h with rfl | rfl
  · obtain ⟨x, r, rfl, e1⟩ := len_cons e
    obtain rfl := len_nil e1
    obtain ⟨p, ys, rfl, e2, s, R1⟩ := R.asList
    exact ⟨p, ys, rfl, .inl s, fun l hl => q _ _ _ e2 (R1.swap fun _ h => by
      obtain ⟨h1, h2⟩ := dpAll_split e2 h
      cases h2 with | cons _ h2 => exact dpAll_app h1 h2) hl⟩
  · obtain ⟨x, r, rfl, e1⟩ := len_cons e
    obtain rfl := len_nil e1
    obtain ⟨p, ys, rfl, e2, s, R1⟩ := R.asTup
    exact ⟨p, ys, rfl, .inr s, fun l hl => q _ _ _ e2 (R1.swap fun _ h => by
      obtain ⟨h1, h2⟩ := dpAll_split e2 h
      cases h2 with | cons _ h2 => exact dpAll_app h1 h2) hl⟩⟩
/-- tuple(x) -/
def cTuple : CD := fun es P => ∃ fs, (es = [.list fs] ∨ es = [.tuple fs]) ∧ P (.tuple fs)
theorem sc_tuple : SC K (fun xs H Q => ∃ p ys, xs = [.ref p] ∧ ((SqL K H p ys ∧ ∀ l, H l = none → Q (.ref l) (upd H l (.tup ys))) ∨ (SqT K H p ys ∧ Q (.ref p) H))) cTuple := ⟨fun a P P' h ⟨fs, e, q⟩ => ⟨fs, e, h _ q⟩, fun F σ H ρ vs ds xs es Q e R ⟨fs, h, q⟩ => by
  rcases h with rfl | rfl
  · obtain ⟨x, r, rfl, e1⟩ := len_cons e
    obtain rfl := len_nil e1
    obtain ⟨p, ys, rfl, e2, s, R1⟩ := R.asList
    exact ⟨p, ys, rfl, .inl ⟨s, fun l hl => q _ _ ((R1.swap fun _ h => by
      obtain ⟨h1, h2⟩ := dpAll_split e2 h
      cases h2 with | cons _ h2 => exact dpAll_app h1 h2).tup e2 hl)⟩⟩
  · obtain ⟨x, r, rfl, e1⟩ := len_cons e
    obtain rfl := len_nil e1
    obtain ⟨p, ys, rfl, e2, s, R1⟩ := R.asTup
    exact ⟨p, ys, rfl, .inr ⟨s, q _ _ R⟩⟩⟩
end
end LD

/-! LD4: slots forgotten; things being made; targets; walks; list comprehensions. -/
namespace LD
open PySem PySem.Spec L2
def wipeR (ρ : Rho) : List Nat → Rho
  | [] => ρ
  | j :: js => (wipeR ρ js).set j .no
theorem wipeR_len (ρ : Rho) : ∀ js, (wipeR ρ js).length = ρ.length
  | [] => rfl
  | j :: js => by unfold wipeR; rw [List.length_set, wipeR_len ρ js]
theorem wipeR_out {ρ : Rho} {j : Nat} : ∀ {js : List Nat}, j ∉ js → (wipeR ρ js)[j]? = ρ[j]?
  | [], _ => rfl
  | k :: js, h => by
    unfold wipeR
    rw [List.getElem?_set_ne (fun e => h (by rw [e]; exact List.mem_cons_self)), wipeR_out fun z => h (List.mem_cons_of_mem _ z)]
theorem wipeR_in {ρ : Rho} {j : Nat} {x : DV} : ∀ {js : List Nat}, j ∈ js → (wipeR ρ js)[j]? = some x → x = .no
  | k :: js, h, e => by
    unfold wipeR at e
    by_cases hk : k = j
    · subst hk
      have hl : k < (wipeR ρ js).length := by
        have := (List.getElem?_eq_some_iff.mp e).1
        rwa [List.length_set] at this
      rw [List.getElem?_set_self hl] at e
      cases e
      rfl
    · rw [List.getElem?_set_ne hk] at e
      rcases List.mem_cons.mp h with z | z
      · exact absurd z.symm hk
      · exact wipeR_in z e
theorem wipe_out {σ : L2.St} {j : Nat} : ∀ {js : List Nat}, j ∉ js → (wipe σ js)[j]? = σ[j]?
  | [], _ => rfl
  | k :: js, h => by
    unfold wipe
    rw [List.getElem?_set_ne (fun e => h (by rw [e]; exact List.mem_cons_self)), wipe_out fun z => h (List.mem_cons_of_mem _ z)]
theorem wipe_in {σ : L2.St} {j : Nat} (hl : j < σ.length) : ∀ {js : List Nat}, j ∈ js → (wipe σ js)[j]? = some none
  | k :: js, h => by
    unfold wipe
    by_cases hk : k = j
    · subst hk
      rw [List.getElem?_set_self (by rw [wipe_length]; exact hl)]
    · rw [List.getElem?_set_ne hk]
      rcases List.mem_cons.mp h with z | z
      · exact absurd z.symm hk
      · exact wipe_in hl z
theorem wipe_eq {σ σ' : L2.St} {js : List Nat} (hl : σ'.length = σ.length) (h : ∀ j, j ∉ js → σ'[j]? = σ[j]?) : wipe σ' js = wipe σ js := by
  refine List.ext_getElem? fun j => ?_
  by_cases hj : j ∈ js
  · by_cases hlt : j < σ.length
    · rw [wipe_in (by rw [hl]; exact hlt) hj, wipe_in hlt hj]
    · rw [List.getElem?_eq_none_iff.mpr (by rw [wipe_length, hl]; omega), List.getElem?_eq_none_iff.mpr (by rw [wipe_length]; omega)]
  · rw [wipe_out hj, wipe_out hj, h j hj]
section
variable {K : PySem.W.Frag} {F : Fx} {σ σ' : L2.St} {H : Hp} {ρ : Rho} {vs ws xs : List V} {ds es : List D}
theorem Rel.len (R : Rel K F σ H ρ vs ds) : σ.length = ρ.length := by
  obtain ⟨_, _, R⟩ := R
  exact R.len
theorem Rel.resig (R : Rel K F σ H ρ vs ds) (hl : σ'.length = σ.length) (h : ∀ (j : Nat) (x : DV), ρ[j]? = some x → x = DV.no ∨ σ'[j]? = σ[j]?) : Rel K F σ' H ρ vs ds := by
  obtain ⟨Hi, own, R⟩ := R
  refine ⟨Hi, own, ⟨R.base, R.sub, R.new, R.keep, R.dom, hl.trans R.len, fun i x e => ?_, R.free, R.held, R.nown, R.sep, R.nls, R.pin, R.tmp⟩⟩
  rcases h i x e with z | z
  · rw [z]; trivial
  · rw [z]; exact R.slot i x e
theorem Rel.wipe {js : List Nat} (R : Rel K F σ H ρ vs ds) : Rel K F (wipe σ js) H (wipeR ρ js) vs ds := by
  obtain ⟨Hi, own, R⟩ := R
  refine ⟨Hi, own, ⟨R.base, R.sub, R.new, R.keep, R.dom, by rw [wipe_length, wipeR_len]; exact R.len, fun i x e => ?_, R.free, R.held, R.nown, R.sep, fun i es e => ?_, R.pin, R.tmp⟩⟩
  · by_cases hi : i ∈ js
    · rw [wipeR_in hi e]; trivial
    · rw [wipe_out hi]
      rw [wipeR_out hi] at e
      exact R.slot i x e
  · by_cases hi : i ∈ js
    · cases wipeR_in hi e
    · rw [wipeR_out hi] at e
      exact R.nls i es e

/-! ### what is being made -/
def Fx.mk1 (F : Fx) (p : Addr) (o : HO) : Fx := { F with Z := (p, o) :: F.Z }
theorem Rel.pinNew {p : Addr} {o : HO} (R : Rel K F σ H ρ vs ds) (hp : H p = none) : Rel K (F.mk1 p o) σ (upd H p o) ρ vs ds := by
  obtain ⟨Hi, own, R⟩ := R
  have ne : ∀ i, ∀ a ∈ own i, a ≠ p := fun i a ha z => R.held i a ha (by rw [z]; exact hp)
  refine ⟨Hi, own, ⟨R.base, R.sub.trans (same_upd hp), R.new, fun b q h hn => ?_, fun b h => ?_, R.len, fun i x h => ?_, R.free, fun i a ha => ?_, R.nown, R.sep, R.nls, fun z hz => ?_, R.tmp⟩⟩
  · rw [upd_ne (ne_of_none (R.keep b q h hn) hp)]; exact R.keep b q h hn
  · by_cases hbp : b = p
    · rw [hbp, upd_same]; simp
    · rw [upd_ne hbp]; exact R.dom b h
  · exact (R.slot i x h).grow (Same.refl _) fun a ha o q => by rw [upd_ne (ne i a ha)]; exact q
  · rw [upd_ne (ne i a ha)]; exact R.held i a ha
  · rcases List.mem_cons.mp hz with e | hz
    · rw [e]
      exact ⟨upd_same, R.noSub hp, fun i hi => ne i p hi rfl⟩
    · obtain ⟨z1, z2, z3⟩ := R.pin z hz
      exact ⟨by rw [upd_ne (ne_of_none z1 hp)]; exact z1, z2, z3⟩
theorem Rel.repin {p : Addr} {o o' : HO} (R : Rel K (F.mk1 p o) σ H ρ vs ds) (h0 : F.H0 p = none) (hz : ∀ z ∈ F.Z, z.1 ≠ p) : Rel K (F.mk1 p o') σ (upd H p o') ρ vs ds := by
  obtain ⟨Hi, own, R⟩ := R
  obtain ⟨p1, p2, p3⟩ := R.pin (p, o) List.mem_cons_self
  have ne : ∀ i, ∀ a ∈ own i, a ≠ p := fun i a ha z => p3 i (by rw [z] at ha; exact ha)
  refine ⟨Hi, own, ⟨R.base, fun b x e => ?_, R.new, fun b q h hn => ?_, fun b h => ?_, R.len, fun i x h => ?_, R.free, fun i a ha => ?_, R.nown, R.sep, R.nls, fun z hz' => ?_, R.tmp⟩⟩
  · have nb : b ≠ p := fun z => by rw [z, p2] at e; cases e
    rw [upd_ne nb]; exact R.sub b x e
  · have nb : b ≠ p := fun z => by rw [z] at h; exact absurd (h.symm.trans h0) (by simp)
    rw [upd_ne nb]; exact R.keep b q h hn
  · by_cases hbp : b = p
    · rw [hbp, upd_same]; simp
    · rw [upd_ne hbp]; exact R.dom b h
  · exact (R.slot i x h).grow (Same.refl _) fun a ha o q => by rw [upd_ne (ne i a ha)]; exact q
  · rw [upd_ne (ne i a ha)]; exact R.held i a ha
  · rcases List.mem_cons.mp hz' with e | hz'
    · rw [e]
      exact ⟨upd_same, p2, p3⟩
    · obtain ⟨z1, z2, z3⟩ := R.pin z (List.mem_cons_of_mem _ hz')
      exact ⟨by rw [upd_ne (hz z hz')]; exact z1, z2, z3⟩
def hide (H : Hp) (p : Addr) : Hp := fun b => if b = p then none else H b
theorem Rel.unpin {p : Addr} {o : HO} (R : Rel K (F.mk1 p o) σ H ρ vs ds) (h0 : F.H0 p = none) (hz : ∀ z ∈ F.Z, z.1 ≠ p) : (hide H p) p = none ∧ H = upd (hide H p) p o ∧ Rel K F σ (hide H p) ρ vs ds := by
  obtain ⟨Hi, own, R⟩ := R
  obtain ⟨p1, p2, p3⟩ := R.pin (p, o) List.mem_cons_self
  have ne : ∀ i, ∀ a ∈ own i, a ≠ p := fun i a ha z => p3 i (by rw [z] at ha; exact ha)
  have out : ∀ b, b ≠ p → hide H p b = H b := fun b h => by unfold hide; rw [if_neg h]
  refine ⟨by unfold hide; rw [if_pos rfl], ?_, Hi, own, ⟨R.base, fun b x e => ?_, R.new, fun b q h hn => ?_, fun b h => ?_, R.len, fun i x h => ?_, R.free, fun i a ha => ?_, R.nown, R.sep, R.nls, fun z hz' => ?_, R.tmp⟩⟩
  · funext b
    by_cases hb : b = p
    · rw [hb, upd_same]; exact p1
    · rw [upd_ne hb, out b hb]
  · have nb : b ≠ p := fun z => by rw [z, p2] at e; cases e
    rw [out b nb]; exact R.sub b x e
  · have nb : b ≠ p := fun z => by rw [z] at h; exact absurd (h.symm.trans h0) (by simp)
    rw [out b nb]; exact R.keep b q h hn
  · have nb : b ≠ p := fun z => by rw [z] at h; exact h h0
    rw [out b nb]; exact R.dom b h
  · exact (R.slot i x h).grow (Same.refl _) fun a ha o q => by rw [out a (ne i a ha)]; exact q
  · rw [out a (ne i a ha)]; exact R.held i a ha
  · obtain ⟨z1, z2, z3⟩ := R.pin z (List.mem_cons_of_mem _ hz')
    exact ⟨by rw [out _ (hz z hz')]; exact z1, z2, z3⟩
theorem Rel.pinFree {p : Addr} (R : Rel K F σ H ρ vs ds) (hp : H p = none) : F.H0 p = none ∧ ∀ z ∈ F.Z, z.1 ≠ p := by
  obtain ⟨Hi, own, R⟩ := R
  exact ⟨R.no0 hp, fun z hz => ne_of_none (R.pin z hz).1 hp⟩
theorem Rel.pinAt {p : Addr} {o : HO} (R : Rel K (F.mk1 p o) σ H ρ vs ds) : H p = some o := by
  obtain ⟨Hi, own, R⟩ := R
  exact (R.pin (p, o) List.mem_cons_self).1
end

/-! ### targets -/
abbrev DG := D → Rho → (Rho → Prop) → Prop
abbrev DGs := List D → Rho → (Rho → Prop) → Prop
def Apart (js : List Nat) (σ σ' : L2.St) (ρ ρ' : Rho) : Prop := σ'.length = σ.length ∧ (∀ j, j ∉ js → σ'[j]? = σ[j]?) ∧ ρ'.length = ρ.length ∧ ∀ j, j ∉ js → ρ'[j]? = ρ[j]?
theorem Apart.refl {js : List Nat} {σ : L2.St} {ρ : Rho} : Apart js σ σ ρ ρ := ⟨rfl, fun _ _ => rfl, rfl, fun _ _ => rfl⟩
theorem Apart.trans {js ks : List Nat} {σ σ1 σ2 : L2.St} {ρ ρ1 ρ2 : Rho} (a : Apart js σ σ1 ρ ρ1) (b : Apart ks σ1 σ2 ρ1 ρ2) : Apart (js ++ ks) σ σ2 ρ ρ2 :=
  ⟨b.1.trans a.1, fun j h => (b.2.1 j fun z => h (List.mem_append_right _ z)).trans (a.2.1 j fun z => h (List.mem_append_left _ z)), b.2.2.1.trans a.2.2.1, fun j h => (b.2.2.2 j fun z => h (List.mem_append_right _ z)).trans (a.2.2.2 j fun z => h (List.mem_append_left _ z))⟩
structure SG (K : PySem.W.Frag) (js : List Nat) (g : TG) (dg : DG) : Prop where
  mono : ∀ d ρ P P', (∀ r, P r → P' r) → dg d ρ P → dg d ρ P'
  run : ∀ F σ H ρ vs ds x d Q, Rel K F σ H ρ (x :: vs) (d :: ds) → dg d ρ (fun r => ∀ σ' H', Rel K F σ' H' r vs ds → Apart js σ σ' ρ r → Q σ' H') → g x σ H Q
structure SGs (K : PySem.W.Frag) (js : List Nat) (g : TGs) (dg : DGs) : Prop where
  mono : ∀ d ρ P P', (∀ r, P r → P' r) → dg d ρ P → dg d ρ P'
  run : ∀ F σ H ρ vs ds xs es Q, xs.length = es.length → Rel K F σ H ρ (xs ++ vs) (es ++ ds) → dg es ρ (fun r => ∀ σ' H', Rel K F σ' H' r vs ds → Apart js σ σ' ρ r → Q σ' H') → g xs σ H Q
section
variable {K : PySem.W.Frag}
def dgName (i : Nat) : DG := fun d ρ P => i < ρ.length ∧ P (ρ.set i (.sh d))
theorem sg_name (i : Nat) : SG K [i] (gName i) (dgName i) := ⟨fun d ρ P P' h q => ⟨q.1, h _ q.2⟩, fun F σ H ρ vs ds x d Q R q =>
  q.2 _ _ (R.store q.1) ⟨List.length_set .., fun j h => List.getElem?_set_ne (fun e => h (by rw [e]; simp)), List.length_set .., fun j h => List.getElem?_set_ne (fun e => h (by rw [e]; simp))⟩⟩
def dgNil : DGs := fun es ρ P => es = [] ∧ P ρ
def dgCons (g : DG) (gs : DGs) : DGs := fun es ρ P => ∃ d r, es = d :: r ∧ g d ρ fun ρ1 => gs r ρ1 P
theorem sgs_nil : SGs K [] gNil dgNil := ⟨fun d ρ P P' h q => ⟨q.1, h _ q.2⟩, fun F σ H ρ vs ds xs es Q e R q => by
  obtain ⟨e1, q⟩ := q
  subst e1
  obtain rfl := len_nil e
  exact ⟨rfl, q _ _ R .refl⟩⟩
theorem sgs_cons {js ks : List Nat} {g : TG} {dg : DG} {gs : TGs} {dgs : DGs} (s : SG K js g dg) (ss : SGs K ks gs dgs) : SGs K (js ++ ks) (gCons g gs) (dgCons dg dgs) := by
  refine ⟨fun es ρ P P' h ⟨d, r, e, q⟩ => ⟨d, r, e, s.mono _ _ _ _ (fun _ q => ss.mono _ _ _ _ h q) q⟩, fun F σ H ρ vs ds xs es Q e R q => ?_⟩
  obtain ⟨d, r, e1, q⟩ := q
  subst e1
  obtain ⟨x, xr, rfl, e2⟩ := len_cons e
  refine ⟨x, xr, rfl, ?_⟩
  refine s.run F σ H ρ (xr ++ vs) (r ++ ds) x d _ R (s.mono _ _ _ _ (fun ρ1 q σ1 H1 R1 A1 => ?_) q)
  exact ss.run F σ1 H1 ρ1 vs ds xr r Q e2 R1 (ss.mono _ _ _ _ (fun ρ2 q σ2 H2 R2 A2 => q σ2 H2 R2 (A1.trans A2)) q)
def dgTup (n : Nat) (gs : DGs) : DG := fun d ρ P => ∃ es, d = .tuple es ∧ es.length = n ∧ gs es ρ P
theorem sg_tup {js : List Nat} {n : Nat} {gs : TGs} {dgs : DGs} (ss : SGs K js gs dgs) : SG K js (gTup K n gs) (dgTup n dgs) := by
  refine ⟨fun d ρ P P' h ⟨es, e, el, q⟩ => ⟨es, e, el, ss.mono _ _ _ _ h q⟩, fun F σ H ρ vs ds x d Q R q => ?_⟩
  obtain ⟨es, e, el, q⟩ := q
  subst e
  obtain ⟨p, xs, rfl, e2, s, R1⟩ := R.asTup
  refine ⟨p, xs, rfl, s, e2.trans el, ?_⟩
  refine ss.run F σ H ρ vs ds xs es Q e2 (R1.swap fun _ h => ?_) q
  obtain ⟨h1, h2⟩ := dpAll_split e2 h
  cases h2 with
  | cons _ h2 => exact dpAll_app h1 h2
end

/-! ### what is walked -/
abbrev TDI := Rho → KL → Prop
/-- while ws stand for es, J walks the items -/
def Walks (K : PySem.W.Frag) (J : It) (items : List D) (ws : List V) (es : List D) : Prop :=
  ∀ F σ H ρ vs ds i, Rel K F σ H ρ (ws ++ vs) (es ++ ds) → (∀ d, items[i]? = some d → J.go i H ∧ ∀ x H', J.yld i H x H' → Rel K F σ H' ρ (x :: (ws ++ vs)) (d :: (es ++ ds))) ∧ (items.length ≤ i → J.stop i H)
structure SI (K : PySem.W.Frag) (wi : TI) (di : TDI) : Prop where
  mono : ∀ ρ P P', (∀ r d, P r d → P' r d) → di ρ P → di ρ P'
  run : ∀ F σ H ρ vs ds Q, Rel K F σ H ρ vs ds → di ρ (fun r items => ∀ J H1 ws es, ws.length = es.length → Walks K J items ws es → Rel K F σ H1 r (ws ++ vs) (es ++ ds) → Q J H1) → wi σ H Q
section
variable {K : PySem.W.Frag}
def iL (a : TD) : TDI := fun ρ P => a ρ fun r d => ∃ es, d = .list es ∧ P r es
def iT (a : TD) : TDI := fun ρ P => a ρ fun r d => ∃ es, d = .tuple es ∧ P r es
theorem walks_list {p : Addr} {es : List D} : Walks K (Itl K p) es [.ref p] [.list es] := by
  intro F σ H ρ vs ds i R
  obtain ⟨p', xs, e, e2, s, R1⟩ := Rel.asList (vs := vs) (ds := ds) R
  cases e
  refine ⟨fun d hd => ?_, fun h => ⟨xs, s, by rw [e2]; exact h⟩⟩
  obtain ⟨v, e3, R2⟩ := R1.pick e2 hd
  refine ⟨⟨xs, v, s, e3⟩, fun x H' hy => ?_⟩
  obtain ⟨rfl, hy⟩ := hy
  have := (hy xs s).symm.trans e3
  cases this
  exact R2
theorem walks_tup {p : Addr} {es : List D} : Walks K (Itt K p) es [.ref p] [.tuple es] := by
  intro F σ H ρ vs ds i R
  obtain ⟨p', xs, e, e2, s, R1⟩ := Rel.asTup (vs := vs) (ds := ds) R
  cases e
  refine ⟨fun d hd => ?_, fun h => ⟨xs, s, by rw [e2]; exact h⟩⟩
  obtain ⟨v, e3, R2⟩ := R1.pick e2 hd
  refine ⟨⟨xs, v, s, e3⟩, fun x H' hy => ?_⟩
  obtain ⟨rfl, hy⟩ := hy
  have := (hy xs s).symm.trans e3
  cases this
  exact R2
theorem si_list {ta : TE} {a : TD} (sa : SE K ta a) : SI K (iList K ta) (iL a) := by
  refine ⟨fun ρ P P' h q => sa.mono _ _ _ (fun _ d ⟨es, e, q⟩ => ⟨es, e, h _ _ q⟩) q, fun F σ H ρ vs ds Q R q => ?_⟩
  refine sa.run F σ H ρ vs ds _ R (sa.mono _ _ _ (fun r d q v H1 R1 => ?_) q)
  obtain ⟨es, e, q⟩ := q
  subst e
  obtain ⟨p, xs, rfl, e2, s, R2⟩ := R1.asList
  exact ⟨p, rfl, ⟨xs, s⟩, q _ _ [.ref p] [.list es] rfl walks_list R1⟩
theorem si_tup {ta : TE} {a : TD} (sa : SE K ta a) : SI K (iTup K ta) (iT a) := by
  refine ⟨fun ρ P P' h q => sa.mono _ _ _ (fun _ d ⟨es, e, q⟩ => ⟨es, e, h _ _ q⟩) q, fun F σ H ρ vs ds Q R q => ?_⟩
  refine sa.run F σ H ρ vs ds _ R (sa.mono _ _ _ (fun r d q v H1 R1 => ?_) q)
  obtain ⟨es, e, q⟩ := q
  subst e
  obtain ⟨p, xs, rfl, e2, s, R2⟩ := R1.asTup
  exact ⟨p, rfl, ⟨xs, s⟩, q _ _ [.ref p] [.tuple es] rfl walks_tup R1⟩
def rngD (lo : Int) (n : Nat) : List D := (List.range n).map fun (k : Nat) => PyData.int (lo + (k : Int))
theorem walks_rng {lo : Int} {n : Nat} : Walks K (Itr lo n) (rngD lo n) [] [] := by
  intro F σ H ρ vs ds i R
  refine ⟨fun d hd => ?_, fun h => ?_⟩
  · unfold rngD at hd
    rw [List.getElem?_map] at hd
    have hi : i < n := by
      cases e : (List.range n)[i]? with
      | none => rw [e] at hd; cases hd
      | some k => have := (List.getElem?_eq_some_iff.mp e).1; rwa [List.length_range] at this
    rw [List.getElem?_range hi] at hd
    cases hd
    refine ⟨hi, fun x H' hy => ?_⟩
    obtain ⟨rfl, rfl⟩ := hy
    exact R.push (v := .int (lo + i)) rfl
  · unfold rngD at h
    rw [List.length_map, List.length_range] at h
    exact h
def iR1 (t : TDA) : TDI := fun ρ P => t ρ fun r es => ∃ j : Int, es = [.int j] ∧ -(2 ^ 62) ≤ j ∧ j < 2 ^ 62 ∧ P r (rngD 0 j.toNat)
def iR2 (t : TDA) : TDI := fun ρ P => t ρ fun r es => ∃ i j : Int, es = [.int i, .int j] ∧ (-(2 ^ 62) ≤ i ∧ i < 2 ^ 62 ∧ -(2 ^ 62) ≤ j ∧ j < 2 ^ 62) ∧ P r (rngD i (j - i).toNat)
theorem si_rng1 {ta : TA} {t : TDA} (sa : SA K ta t) : SI K (iRng1 ta) (iR1 t) := by
  refine ⟨fun ρ P P' h q => sa.mono _ _ _ (fun _ d ⟨j, e, h1, h2, q⟩ => ⟨j, e, h1, h2, h _ _ q⟩) q, fun F σ H ρ vs ds Q R q => ?_⟩
  refine sa.run F σ H ρ vs ds _ R (sa.mono _ _ _ (fun r es q xs H1 e R1 => ?_) q)
  obtain ⟨j, e1, h1, h2, q⟩ := q
  subst e1
  obtain ⟨x, xr, rfl, e2⟩ := len_cons e
  obtain rfl := len_nil e2
  obtain rfl := Rel.int R1
  exact ⟨j, rfl, h1, h2, q _ _ [] [] rfl walks_rng R1.drop⟩
theorem si_rng2 {ta : TA} {t : TDA} (sa : SA K ta t) : SI K (iRng2 ta) (iR2 t) := by
  refine ⟨fun ρ P P' h q => sa.mono _ _ _ (fun _ d ⟨i, j, e, h1, q⟩ => ⟨i, j, e, h1, h _ _ q⟩) q, fun F σ H ρ vs ds Q R q => ?_⟩
  refine sa.run F σ H ρ vs ds _ R (sa.mono _ _ _ (fun r es q xs H1 e R1 => ?_) q)
  obtain ⟨i, j, e1, h1, q⟩ := q
  subst e1
  obtain ⟨x, xr, rfl, e2⟩ := len_cons e
  obtain ⟨y, yr, rfl, e3⟩ := len_cons e2
  obtain rfl := len_nil e3
  have ex := Rel.int R1
  have ey := Rel.int (Rel.drop R1)
  subst ex ey
  exact ⟨i, j, rfl, h1, q _ _ [] [] rfl walks_rng (Rel.drop (Rel.drop R1))⟩

/-! ### list comprehensions -/
def compW (f : D → Rho → (Rho → Option D → Prop) → Prop) (js : List Nat) : List D → Rho → List D → KL → Prop
  | [], ρ, acc, P => P ρ acc
  | d :: r, ρ, acc, P => f d ρ fun ρ1 o => match o with
    | none => compW f js r (wipeR ρ1 js) acc P
    | some y => compW f js r (wipeR ρ1 js) (acc ++ [y]) P
def compF (dg : DG) (dt : TDT) (de : TD) : D → Rho → (Rho → Option D → Prop) → Prop := fun d r k => dg d r fun r1 => dt r1 fun r2 b => if b = true then de r2 (fun r3 y => k r3 (some y)) else k r2 none
def dLc (di : TDI) (dg : DG) (dt : TDT) (de : TD) (js : List Nat) : TDA := fun ρ P => di ρ fun ρ0 items => items.length ≤ sizeLine ∧ (∀ j ∈ js, ρ0[j]? = some .no) ∧ compW (compF dg dt de) js items ρ0 [] P
theorem compW_mono {f : D → Rho → (Rho → Option D → Prop) → Prop} (hf : ∀ d ρ k k', (∀ r o, k r o → k' r o) → f d ρ k → f d ρ k') {js : List Nat} : ∀ {items : List D} {ρ : Rho} {acc : List D} {P P' : KL}, (∀ r d, P r d → P' r d) → compW f js items ρ acc P → compW f js items ρ acc P'
  | [], _, _, _, _, h, q => h _ _ q
  | d :: r, ρ, acc, P, P', h, q => by
    unfold compW at q ⊢
    refine hf _ _ _ _ (fun r1 o q => ?_) q
    cases o with
    | none => exact compW_mono hf h q
    | some y => exact compW_mono hf h q
theorem compF_mono {js : List Nat} {g : TG} {dg : DG} {tt : TT} {dt : TDT} {te : TE} {de : TD} (sg : SG K js g dg) (st : ST K tt dt) (se : SE K te de) : ∀ d ρ k k', (∀ r o, k r o → k' r o) → compF dg dt de d ρ k → compF dg dt de d ρ k' := by
  intro d ρ k k' h q
  refine sg.mono _ _ _ _ (fun r1 q => st.mono _ _ _ (fun r2 b q => ?_) q) q
  cases b with
  | true => exact se.mono _ _ _ (fun r3 y q => h _ _ q) q
  | false => exact h _ _ q
theorem swapFront {H : Hp} {y : V} {d : D} {ws acc vs : List V} {es ys ds : List D} (e1 : ws.length = es.length) (e2 : acc.length = ys.length) (h : DpAll K H (y :: (ws ++ (acc ++ vs))) (d :: (es ++ (ys ++ ds)))) :
    DpAll K H (ws ++ ((acc ++ [y]) ++ vs)) (es ++ ((ys ++ [d]) ++ ds)) := by
  cases h with
  | cons a b =>
    obtain ⟨b1, b2⟩ := dpAll_split e1 b
    obtain ⟨b3, b4⟩ := dpAll_split e2 b2
    exact dpAll_app b1 (dpAll_app (dpAll_app b3 (.cons a .nil)) b4)
theorem sf_lc {js : List Nat} {wi : TI} {di : TDI} {g : TG} {dg : DG} {tt : TT} {dt : TDT} {te : TE} {de : TD} {jg : List Nat} (si : SI K wi di) (sg : SG K jg g dg) (st : ST K tt dt) (se : SE K te de) (hj : ∀ j ∈ jg, j ∈ js := by decide) : SF K (tLc wi g tt te js) (dLc di dg dt de js) := by
  refine ⟨fun ρ P P' h q => si.mono _ _ _ (fun r items ⟨q1, q2, q3⟩ => ⟨q1, q2, compW_mono (compF_mono sg st se) h q3⟩) q, fun F σ H ρ vs ds Q R q => ?_⟩
  refine si.run F σ H ρ vs ds _ R (si.mono _ _ _ (fun ρ0 items q J H1 ws es ew hw R1 => ?_) q)
  obtain ⟨q1, q2, q3⟩ := q
  intro Dp hD
  obtain ⟨f0, fz⟩ := R1.pinFree hD
  have hno : ∀ {ρ : Rho}, (∀ j ∈ js, ρ[j]? = some .no) → wipeR ρ js = ρ := fun {ρ} h => by
    refine List.ext_getElem? fun j => ?_
    by_cases hj : j ∈ js
    · rw [h j hj]
      cases e : (wipeR ρ js)[j]? with
      | none =>
        have h1 := List.getElem?_eq_none_iff.mp e
        rw [wipeR_len] at h1
        have h2 := (List.getElem?_eq_some_iff.mp (h j hj)).1
        omega
      | some x => rw [wipeR_in hj e]
    · exact wipeR_out hj
  refine ⟨fun i m H => ∃ ρ1 acc ys, i + m = items.length ∧ acc.length = ys.length ∧ ys.length ≤ i ∧ (∀ j x, j ∈ js → ρ1[j]? = some x → x = .no) ∧ Rel K (F.mk1 Dp (.lst acc)) (L2.wipe σ js) H ρ1 (ws ++ (acc ++ vs)) (es ++ (ys ++ ds)) ∧
      compW (compF dg dt de) js (items.drop i) ρ1 ys (fun r es => ∀ xs H' p, xs.length = es.length → Rel K F σ H' r (xs ++ vs) (es ++ ds) → H' p = none → Q (.ref p) (upd H' p (.lst xs))), ⟨items.length, ρ0, [], [], Nat.zero_add _, rfl, Nat.le_refl _, fun j x hj e => ?_, ?_, q3⟩, fun i m H2 hW => ?_⟩
  · rw [q2 j hj] at e; cases e; rfl
  · have R2 := (R1.pinNew (o := .lst []) hD).wipe (js := js)
    rw [hno q2] at R2
    exact R2
  · obtain ⟨ρ1, acc, ys, em, el, eli, hn, R2, q4⟩ := hW
    by_cases hi : i < items.length
    · -- one more
      right
      have hd : items[i]? = some items[i] := List.getElem?_eq_getElem hi
      rw [List.drop_eq_getElem_cons hi] at q4
      unfold compW at q4
      obtain ⟨hgo, hy⟩ := (hw (F.mk1 Dp (.lst acc)) (L2.wipe σ js) H2 ρ1 (acc ++ vs) (ys ++ ds) i R2).1 _ hd
      refine ⟨hgo, fun H => ∃ ρ1 acc ys, (i + 1) + (m - 1) = items.length ∧ acc.length = ys.length ∧ ys.length ≤ i + 1 ∧ (∀ j x, j ∈ js → ρ1[j]? = some x → x = .no) ∧ Rel K (F.mk1 Dp (.lst acc)) (L2.wipe σ js) H ρ1 (ws ++ (acc ++ vs)) (es ++ (ys ++ ds)) ∧
        compW (compF dg dt de) js (items.drop (i + 1)) ρ1 ys (fun r es => ∀ xs H' p, xs.length = es.length → Rel K F σ H' r (xs ++ vs) (es ++ ds) → H' p = none → Q (.ref p) (upd H' p (.lst xs))), fun H' h' => ⟨m - 1, by omega, h'⟩, fun x H' hx => ?_⟩
      have R3 := hy x H' hx
      refine sg.run (F.mk1 Dp (.lst acc)) _ H' ρ1 _ _ x _ _ R3 (sg.mono _ _ _ _ (fun r1 q σ2 H3 R4 A => ?_) q4)
      have ew2 : L2.wipe σ2 js = L2.wipe σ js := by
        have e1 : L2.wipe σ2 js = L2.wipe (L2.wipe σ js) js := wipe_eq A.1 fun j hjn => A.2.1 j fun z => hjn (hj j z)
        rw [e1]
        exact wipe_eq (wipe_length ..) fun j hjn => wipe_out hjn
      refine ⟨ew2, st.run (F.mk1 Dp (.lst acc)) σ2 H3 r1 _ _ _ R4 (st.mono _ _ _ (fun r2 b q H4 R5 => ?_) q)⟩
      cases b with
      | false =>
        refine ⟨wipeR r2 js, acc, ys, by omega, el, by omega, fun j x hj e => wipeR_in hj e, ?_, q⟩
        have R6 := R5.wipe (js := js)
        rw [ew2] at R6
        exact R6
      | true =>
        refine se.run (F.mk1 Dp (.lst acc)) σ2 H4 r2 _ _ _ R5 (se.mono _ _ _ (fun r3 y q yv H5 R6 => ?_) q)
        refine ⟨acc, R6.pinAt, by rw [el]; omega, wipeR r3 js, acc ++ [yv], ys ++ [y], by omega, by rw [List.length_append, List.length_append, el]; rfl, by rw [List.length_append]; show ys.length + 1 ≤ i + 1; omega, fun j x hj e => wipeR_in hj e, ?_, q⟩
        have R7 := (R6.repin (o' := .lst (acc ++ [yv])) f0 fz).wipe (js := js)
        rw [ew2] at R7
        exact R7.swap fun _ h => swapFront ew el h
    · -- the end
      left
      have ei : items.drop i = [] := List.drop_eq_nil_iff.mpr (by omega)
      rw [ei] at q4
      obtain ⟨_, hs⟩ := hw (F.mk1 Dp (.lst acc)) (L2.wipe σ js) H2 ρ1 (acc ++ vs) (ys ++ ds) i R2
      refine ⟨hs (by omega), ?_⟩
      obtain ⟨u1, u2, u3⟩ := R2.unpin f0 fz
      rw [u2]
      refine q4 acc _ Dp el ?_ u1
      refine (u3.dropN ew).resig (wipe_length ..).symm fun j x e => ?_
      by_cases hjs : j ∈ js
      · exact .inl (hn j x hjs e)
      · exact .inr (wipe_out hjs).symm
end
end LD

/-! LD5: statements, loops, lists that a slot owns. -/
namespace LD
open PySem PySem.Spec L2
structure DE where
  nx : Rho → Prop
  rt : Rho → D → Prop
  bk : Rho → Prop := fun _ => False
  ct : Rho → Prop := fun _ => False
  rm : Rho → Prop := fun _ => False
  /-- what slot i holds is handed back -/
  ro : Rho → Nat → Prop := fun _ _ => False
abbrev TDS := DE → Rho → Prop
structure DE.Le (a b : DE) : Prop where
  nx : ∀ ρ, a.nx ρ → b.nx ρ
  rt : ∀ ρ d, a.rt ρ d → b.rt ρ d
  bk : ∀ ρ, a.bk ρ → b.bk ρ
  ct : ∀ ρ, a.ct ρ → b.ct ρ
  rm : ∀ ρ, a.rm ρ → b.rm ρ
  ro : ∀ ρ i, a.ro ρ i → b.ro ρ i
structure Glue (K : PySem.W.Frag) (F : Fx) (vs : List V) (ds : List D) (E : Ends) (dn : DE) : Prop where
  nx : ∀ σ H ρ, Rel K F σ H ρ vs ds → dn.nx ρ → E.nx σ H
  rt : ∀ σ H ρ v d, Rel K F σ H ρ (v :: vs) (d :: ds) → dn.rt ρ d → E.rt v H
  bk : ∀ σ H ρ, Rel K F σ H ρ vs ds → dn.bk ρ → E.bk σ H
  ct : ∀ σ H ρ, Rel K F σ H ρ vs ds → dn.ct ρ → E.ct σ H
  rm : ∀ σ H ρ a l ns b, Rel K F σ H ρ vs ds → a ≠ l → H a = none → H l = none → DealOk ns b → dn.rm ρ → E.rt (.ref a) (upd (upd H l (.lst (ns.map V.int))) a (.lst [.ref l, .int b]))
  ro : ∀ σ H ρ i v, Rel K F σ H ρ vs ds → σ[i]? = some (some v) → dn.ro ρ i → E.rt v H
structure SS (K : PySem.W.Frag) (ts : TS) (t : TDS) : Prop where
  mono : ∀ a b ρ, DE.Le a b → t a ρ → t b ρ
  run : ∀ F σ H ρ vs ds E dn, Glue K F vs ds E dn → Rel K F σ H ρ vs ds → t dn ρ → ts E σ H
section
variable {K : PySem.W.Frag} {ts us : TS} {t u : TDS} {te : TE} {e : TD}
def dNext : TDS := fun dn ρ => dn.nx ρ
theorem ss_nil : SS K tNext dNext := ⟨fun a b ρ h q => h.nx _ q, fun F σ H ρ vs ds E dn G R q => G.nx _ _ _ R q⟩
def dSeq (t u : TDS) : TDS := fun dn ρ => t { dn with nx := u dn } ρ
theorem ss_cons (s : SS K ts t) (s' : SS K us u) : SS K (tSeq ts us) (dSeq t u) := ⟨fun a b ρ h q => s.mono { a with nx := u a } { b with nx := u b } _ ⟨fun ρ q => s'.mono _ _ _ h q, h.rt, h.bk, h.ct, h.rm, h.ro⟩ q, fun F σ H ρ vs ds E dn G R q =>
  s.run F σ H ρ vs ds { E with nx := us E } { dn with nx := u dn } ⟨fun σ H ρ R q => s'.run F σ H ρ vs ds E dn G R q, G.rt, G.bk, G.ct, G.rm, G.ro⟩ R q⟩
def dBreak : TDS := fun dn ρ => dn.bk ρ
def dCont : TDS := fun dn ρ => dn.ct ρ
theorem ss_break : SS K tBreak dBreak := ⟨fun a b ρ h q => h.bk _ q, fun F σ H ρ vs ds E dn G R q => G.bk _ _ _ R q⟩
theorem ss_cont : SS K tCont dCont := ⟨fun a b ρ h q => h.ct _ q, fun F σ H ρ vs ds E dn G R q => G.ct _ _ _ R q⟩
def dRet (e : TD) : TDS := fun dn ρ => e ρ fun r d => dn.rt r d
theorem ss_ret (s : SE K te e) : SS K (tRet te) (dRet e) := ⟨fun a b ρ h q => s.mono _ _ _ (fun _ _ q => h.rt _ _ q) q, fun F σ H ρ vs ds E dn G R q =>
  s.run F σ H ρ vs ds _ R (s.mono _ _ _ (fun r d q v H' R' => G.rt _ _ _ _ _ R' q) q)⟩
def dDrop (e : TD) : TDS := fun dn ρ => e ρ fun r _ => dn.nx r
theorem ss_drop (s : SE K te e) : SS K (tDrop te) (dDrop e) := ⟨fun a b ρ h q => s.mono _ _ _ (fun _ _ q => h.nx _ q) q, fun F σ H ρ vs ds E dn G R q =>
  s.run F σ H ρ vs ds _ R (s.mono _ _ _ (fun r d q v H' R' => G.nx _ _ _ R'.drop q) q)⟩
def dIfS (c : TDT) (t u : TDS) : TDS := fun dn ρ => c ρ fun r b => if b = true then t dn r else u dn r
theorem ss_if {tc : TT} {c : TDT} (sc : ST K tc c) (s : SS K ts t) (s' : SS K us u) : SS K (tIfS tc ts us) (dIfS c t u) := by
  refine ⟨fun a b ρ h q => sc.mono _ _ _ (fun r k q => ?_) q, fun F σ H ρ vs ds E dn G R q => sc.run F σ H ρ vs ds _ R (sc.mono _ _ _ (fun r k q H1 R1 => ?_) q)⟩
  · cases k with
    | true => exact s.mono _ _ _ h q
    | false => exact s'.mono _ _ _ h q
  · cases k with
    | true => exact s.run F σ H1 r vs ds E dn G R1 q
    | false => exact s'.run F σ H1 r vs ds E dn G R1 q
/-- target = value, the value shared -/
def dAsg (e : TD) (g : DG) : TDS := fun dn ρ => e ρ fun r d => g d r dn.nx
theorem ss_asg {js : List Nat} {g : TG} {dg : DG} (s : SE K te e) (sg : SG K js g dg) : SS K (tAsg te g) (dAsg e dg) := ⟨fun a b ρ h q => s.mono _ _ _ (fun r d q => sg.mono _ _ _ _ h.nx q) q, fun F σ H ρ vs ds E dn G R q =>
  s.run F σ H ρ vs ds _ R (s.mono _ _ _ (fun r d q v H' R' => sg.run F σ H' r vs ds v d _ R' (sg.mono _ _ _ _ (fun r q σ2 H2 R2 _ => G.nx _ _ _ R2 q) q)) q)⟩
/-- name = a list made new, kept in this slot alone -/
def dOwn (e : TDA) (i : Nat) : TDS := fun dn ρ => e ρ fun r es => i < r.length ∧ dn.nx (r.set i (.ls es))
theorem ss_own {i : Nat} {e : TDA} (s : SF K te e) : SS K (tAsg te (gName i)) (dOwn e i) := ⟨fun a b ρ h q => s.mono _ _ _ (fun r d q => ⟨q.1, h.nx _ q.2⟩) q, fun F σ H ρ vs ds E dn G R q =>
  s.run F σ H ρ vs ds _ R (s.mono _ _ _ (fun r es q xs H' p el R' hp => G.nx _ _ _ (R'.keepOwn el hp q.1) q.2) q)⟩
/-- a, b = x, y -/
def dPar (i j : Nat) (t : TDA) : TDS := fun dn ρ => t ρ fun r es => ∃ d e, es = [d, e] ∧ i < r.length ∧ j < r.length ∧ dn.nx ((r.set i (.sh d)).set j (.sh e))
theorem ss_par {i j : Nat} {ta : TA} {a : TDA} (s : SA K ta a) : SS K (tPar i j ta) (dPar i j a) := ⟨fun a b ρ h q => s.mono _ _ _ (fun r es ⟨d, e, e1, h1, h2, q⟩ => ⟨d, e, e1, h1, h2, h.nx _ q⟩) q, fun F σ H ρ vs ds E dn G R q =>
  s.run F σ H ρ vs ds _ R (s.mono _ _ _ (fun r es q xs H' el R' => by
    obtain ⟨d, e, e1, h1, h2, q⟩ := q
    subst e1
    obtain ⟨x, xr, rfl, e2⟩ := len_cons el
    obtain ⟨y, yr, rfl, e3⟩ := len_cons e2
    obtain rfl := len_nil e3
    refine ⟨x, y, rfl, G.nx _ _ _ ?_ q⟩
    have R2 : Rel K F σ H' r (x :: y :: vs) (d :: e :: ds) := R'
    exact (R2.store h1).store (by rw [List.length_set]; exact h2)) q)⟩
/-- the list of slot i will not change any more; slot i is forgotten -/
def dFrz (i : Nat) (t : TDS) : TDS := fun dn ρ => ∃ es, ρ[i]? = some (.ls es) ∧ t dn (ρ.set i (.sh (.list es)))
theorem ss_frz (i : Nat) (s : SS K ts t) : SS K ts (dFrz i t) := ⟨fun a b ρ h ⟨es, e, q⟩ => ⟨es, e, s.mono _ _ _ h q⟩, fun F σ H ρ vs ds E dn G R ⟨es, e, q⟩ => s.run F σ H _ vs ds E dn G (R.freeze e) q⟩
def dFgt (js : List Nat) (t : TDS) : TDS := fun dn ρ => t dn (wipeR ρ js)
theorem ss_fgt (js : List Nat) (s : SS K ts t) : SS K ts (dFgt js t) := ⟨fun a b ρ h q => s.mono _ _ _ h q, fun F σ H ρ vs ds E dn G R q => by
  refine s.run F σ H _ vs ds E dn G ((R.wipe (js := js)).resig (wipe_length ..).symm fun j x e => ?_) q
  by_cases hj : j ∈ js
  · exact .inl (wipeR_in hj e)
  · exact .inr (wipe_out hj).symm⟩
/-! loops -/
theorem Rel.dropMid {F : Fx} {σ : L2.St} {H : Hp} {ρ : Rho} {vs ws : List V} {ds es : List D} {v : V} {d : D} (R : Rel K F σ H ρ (v :: (ws ++ vs)) (d :: (es ++ ds))) (e : ws.length = es.length) : Rel K F σ H ρ (v :: vs) (d :: ds) := R.swap fun _ h => by
  cases h with
  | cons a b => exact .cons a (dpAll_split e b).2
def dFor (di : TDI) (dg : DG) (tb : TDS) : TDS := fun dn ρ => di ρ fun ρ0 items => ∃ I : Nat → Rho → Prop, I 0 ρ0 ∧ (∀ i d r, items[i]? = some d → I i r → dg d r fun r1 => tb { nx := I (i + 1), rt := dn.rt, bk := dn.nx, ct := I (i + 1), rm := dn.rm, ro := dn.ro } r1) ∧ ∀ r, I items.length r → dn.nx r
theorem ss_for {js : List Nat} {wi : TI} {di : TDI} {g : TG} {dg : DG} (si : SI K wi di) (sg : SG K js g dg) (s : SS K ts t) : SS K (tFor wi g ts) (dFor di dg t) := by
  refine ⟨fun a b ρ h q => si.mono _ _ _ (fun r items ⟨I, q1, q2, q3⟩ => ⟨I, q1, fun i d r e hI => sg.mono _ _ _ _ (fun r q => s.mono { nx := I (i + 1), rt := a.rt, bk := a.nx, ct := I (i + 1), rm := a.rm, ro := a.ro } { nx := I (i + 1), rt := b.rt, bk := b.nx, ct := I (i + 1), rm := b.rm, ro := b.ro } _ ⟨fun _ z => z, h.rt, h.nx, fun _ z => z, h.rm, h.ro⟩ q) (q2 i d r e hI), fun r z => h.nx _ (q3 r z)⟩) q, fun F σ H ρ vs ds E dn G R q => ?_⟩
  refine si.run F σ H ρ vs ds _ R (si.mono _ _ _ (fun ρ0 items q J H1 ws es ew hw R1 => ?_) q)
  obtain ⟨I, q1, q2, q3⟩ := q
  refine ⟨fun i m σ H => ∃ r, i + m = items.length ∧ Rel K F σ H r (ws ++ vs) (es ++ ds) ∧ I i r, ⟨items.length, ρ0, Nat.zero_add _, R1, q1⟩, fun i m σ H hW => ?_⟩
  obtain ⟨r, em, R2, hI⟩ := hW
  by_cases hi : i < items.length
  · right
    have hd : items[i]? = some items[i] := List.getElem?_eq_getElem hi
    obtain ⟨hgo, hy⟩ := (hw F σ H r vs ds i R2).1 _ hd
    refine ⟨hgo, fun σ H => ∃ r, Rel K F σ H r (ws ++ vs) (es ++ ds) ∧ I (i + 1) r, fun σ' H' ⟨r, R3, h3⟩ => ⟨m - 1, by omega, r, by omega, R3, h3⟩, fun x H' hx => ?_⟩
    have R3 := hy x H' hx
    refine sg.run F σ H' r (ws ++ vs) (es ++ ds) x _ _ R3 (sg.mono _ _ _ _ (fun r1 q σ2 H2 R4 _ => ?_) (q2 i _ r hd hI))
    refine s.run F σ2 H2 r1 (ws ++ vs) (es ++ ds) _ { nx := I (i + 1), rt := dn.rt, bk := dn.nx, ct := I (i + 1), rm := dn.rm, ro := dn.ro } ⟨fun σ H ρ R q => ⟨ρ, R, q⟩, fun σ H ρ v d R q => G.rt _ _ _ _ _ (R.dropMid ew) q, fun σ H ρ R q => G.nx _ _ _ (R.dropN ew) q, fun σ H ρ R q => ⟨ρ, R, q⟩, fun σ H ρ a l ns b R n h1 h2 ok q => G.rm _ _ _ _ _ _ _ (R.dropN ew) n h1 h2 ok q, fun σ H ρ i v R e q => G.ro _ _ _ _ _ (R.dropN ew) e q⟩ R4 q
  · left
    have ei : i = items.length := by omega
    refine ⟨(hw F σ H r vs ds i R2).2 (by omega), G.nx _ _ _ (R2.dropN ew) (q3 r (ei ▸ hI))⟩
def dWhile (c : TDT) (tb : TDS) : TDS := fun dn ρ => ∃ (I : Rho → Prop) (μ : Rho → Nat), I ρ ∧ ∀ r, I r → c r fun r1 b => if b = true then tb { nx := fun r2 => I r2 ∧ μ r2 < μ r, rt := dn.rt, bk := dn.nx, ct := fun r2 => I r2 ∧ μ r2 < μ r, rm := dn.rm, ro := dn.ro } r1 else dn.nx r1
theorem ss_while {tc : TT} {c : TDT} (sc : ST K tc c) (s : SS K ts t) : SS K (tWhile tc ts) (dWhile c t) := by
  refine ⟨fun a b ρ h ⟨I, μ, q1, q2⟩ => ⟨I, μ, q1, fun r hI => sc.mono _ _ _ (fun r1 k q => ?_) (q2 r hI)⟩, fun F σ H ρ vs ds E dn G R q => ?_⟩
  · cases k with
    | true => exact s.mono { nx := fun r2 => I r2 ∧ μ r2 < μ r, rt := a.rt, bk := a.nx, ct := fun r2 => I r2 ∧ μ r2 < μ r, rm := a.rm, ro := a.ro } { nx := fun r2 => I r2 ∧ μ r2 < μ r, rt := b.rt, bk := b.nx, ct := fun r2 => I r2 ∧ μ r2 < μ r, rm := b.rm, ro := b.ro } _ ⟨fun _ z => z, h.rt, h.nx, fun _ z => z, h.rm, h.ro⟩ q
    | false => exact h.nx _ q
  · obtain ⟨I, μ, q1, q2⟩ := q
    refine ⟨fun m σ H => ∃ r, m = μ r ∧ Rel K F σ H r vs ds ∧ I r, ⟨μ ρ, ρ, rfl, R, q1⟩, fun m σ H hW => ?_⟩
    obtain ⟨r, em, R1, hI⟩ := hW
    refine sc.run F σ H r vs ds _ R1 (sc.mono _ _ _ (fun r1 b q H1 R2 => ?_) (q2 r hI))
    cases b with
    | false => exact G.nx _ _ _ R2 q
    | true =>
      refine ⟨fun σ' H' => ∃ r2, Rel K F σ' H' r2 vs ds ∧ I r2 ∧ μ r2 < μ r, fun σ' H' ⟨r2, R3, h1, h2⟩ => ⟨μ r2, by rw [em]; exact h2, r2, rfl, R3, h1⟩, ?_⟩
      exact s.run F σ H1 r1 vs ds _ { nx := fun r2 => I r2 ∧ μ r2 < μ r, rt := dn.rt, bk := dn.nx, ct := fun r2 => I r2 ∧ μ r2 < μ r, rm := dn.rm, ro := dn.ro } ⟨fun σ H ρ R q => ⟨ρ, R, q.1, q.2⟩, G.rt, G.nx, fun σ H ρ R q => ⟨ρ, R, q.1, q.2⟩, G.rm, G.ro⟩ R2 q
/-! lists that a slot owns -/
theorem Rel.ownAt {F : Fx} {σ : L2.St} {H : Hp} {ρ : Rho} {vs : List V} {ds es : List D} {i : Nat} (R : Rel K F σ H ρ vs ds) (h : ρ[i]? = some (.ls es)) : ∃ p xs, σ[i]? = some (some (.ref p)) ∧ H p = some (.lst xs) ∧ xs.length = es.length ∧ Dp K H (.ref p) (.list es) := by
  obtain ⟨Hi, own, R⟩ := R
  obtain ⟨p, xs, e, eo, hp, q⟩ := R.slot i _ h
  have e' : σ[i]? = some (some (.ref p)) := by
    cases z : σ[i]? with
    | none => rw [z] at e; cases e
    | some y => rw [z] at e; exact congrArg some e
  exact ⟨p, xs, e', hp, dpAll_len q, .lst (.inl (.inl hp)) (dpAll_mono R.sub _ _ q)⟩
/-- what stands in slot i's own list is turned: ys for fs, of what was there or is at hand -/
theorem Rel.turn {F : Fx} {σ : L2.St} {H : Hp} {ρ : Rho} {vs ws : List V} {ds es fs gs : List D} {i : Nat} {p : Addr} {xs ys : List V} (R : Rel K F σ H ρ vs ds) (h : ρ[i]? = some (.ls es)) (hs : σ[i]? = some (some (.ref p))) (hp : H p = some (.lst xs))
    (hy : ∀ Hi, DpAll K Hi xs es → DpAll K Hi vs ds → DpAll K Hi ys fs ∧ DpAll K Hi ws gs) : Rel K F σ (upd H p (.lst ys)) (ρ.set i (.ls fs)) ws gs := by
  obtain ⟨Hi, own, R⟩ := R
  obtain ⟨p', xs', e, eo, hp', q⟩ := R.slot i _ h
  have e2 : p' = p := by rw [hs] at e; cases e; rfl
  subst e2
  rw [hp] at hp'
  cases hp'
  have hi : i < ρ.length := (List.getElem?_eq_some_iff.mp h).1
  obtain ⟨y1, y2⟩ := hy Hi q R.tmp
  have np : Hi p' = none := R.free i p' (by rw [eo]; simp)
  have no : ∀ j, j ≠ i → ∀ a ∈ own j, a ≠ p' := fun j hj a ha z => R.sep j i hj a ha (by rw [eo, z]; simp)
  refine ⟨Hi, own, ⟨R.base, fun b x z => ?_, R.new, fun b o z hn => ?_, fun b z => ?_, by rw [List.length_set]; exact R.len, fun j x z => ?_, R.free, fun j a ha => ?_, R.nown, R.sep, fun j es' z => ?_, fun z hz => ?_, y2⟩⟩
  · rw [upd_ne (fun w => by rw [w, np] at z; cases z)]; exact R.sub b x z
  · have nb : b ≠ p' := fun w => by
      have := R.nls i es h p' (by rw [eo]; simp)
      rw [w, this] at z; cases z
    rw [upd_ne nb]; exact R.keep b o z hn
  · by_cases hb : b = p'
    · rw [hb, upd_same]; simp
    · rw [upd_ne hb]; exact R.dom b z
  · by_cases hj : j = i
    · subst hj
      rw [List.getElem?_set_self hi] at z
      cases z
      exact ⟨p', ys, e, eo, upd_same, y1⟩
    · rw [List.getElem?_set_ne (Ne.symm hj)] at z
      exact (R.slot j x z).grow (Same.refl _) fun a ha o w => by rw [upd_ne (no j hj a ha)]; exact w
  · by_cases hap : a = p'
    · rw [hap, upd_same]; simp
    · rw [upd_ne hap]; exact R.held j a ha
  · by_cases hj : j = i
    · subst hj
      exact R.nls j es h
    · rw [List.getElem?_set_ne (Ne.symm hj)] at z
      exact R.nls j es' z
  · obtain ⟨z1, z2, z3⟩ := R.pin z hz
    have nz : z.1 ≠ p' := fun w => z3 i (by rw [eo, w]; simp)
    exact ⟨by rw [upd_ne nz]; exact z1, z2, z3⟩
/-- len of it -/
def dLenO (i : Nat) : TD := fun ρ P => ∃ es, ρ[i]? = some (.ls es) ∧ P ρ (.int es.length)
theorem se_lenO (i : Nat) : SE K (tCB (fun xs H Q => ∃ p ys, xs = [.ref p] ∧ (SqL K H p ys ∨ SqT K H p ys) ∧ Q (.int ys.length) H) (tCons (tVar i) tNil)) (dLenO i) := ⟨fun ρ P P' h ⟨es, e, q⟩ => ⟨es, e, h _ _ q⟩, fun F σ H ρ vs ds Q R ⟨es, e, q⟩ => by
  obtain ⟨p, xs, e1, hp, el, _⟩ := R.ownAt e
  refine ⟨.ref p, e1, p, xs, rfl, .inl (.inl (.inl hp)), ?_⟩
  rw [el]
  exact q _ _ (R.push (v := .int es.length) rfl)⟩
/-- it stands at the left of an operator that looks at it alone -/
structure SOv (K : PySem.W.Frag) (r : R2) (o : OD) : Prop where
  mono : ∀ a b P P', (∀ d, P d → P' d) → o a b P → o a b P'
  run : ∀ F σ H ρ vs ds x y a b Q, Dp K H x a → Rel K F σ H ρ (y :: vs) (b :: ds) → o a b (fun d => ∀ v H', Rel K F σ H' ρ (v :: vs) (d :: ds) → Q v H') → r x y H Q
theorem sov_eqD : SOv K (rEqD K) oEq := ⟨fun a b P P' h ⟨e1, e2, q⟩ => ⟨e1, e2, h _ q⟩, fun F σ H ρ vs ds x y a b Q hx R ⟨e1, e2, q⟩ =>
  ⟨a, b, hx, R.dp, e1, e2, q _ _ (R.drop.push (v := .bl (PyData.eqv a b)) rfl)⟩⟩
theorem sov_neD : SOv K (rNeD K) oNe := ⟨fun a b P P' h ⟨e1, e2, q⟩ => ⟨e1, e2, h _ q⟩, fun F σ H ρ vs ds x y a b Q hx R ⟨e1, e2, q⟩ =>
  ⟨a, b, hx, R.dp, e1, e2, q _ _ (R.drop.push (v := .bl (!PyData.eqv a b)) rfl)⟩⟩
def dOpO (o : OD) (i : Nat) (b : TD) : TD := fun ρ P => (∃ es, ρ[i]? = some (.ls es)) ∧ b ρ fun r y => ∃ es, r[i]? = some (.ls es) ∧ o (.list es) y (P r)
theorem se_opO {r : R2} {o : OD} {tb : TE} {b : TD} (i : Nat) (so : SOv K r o) (sb : SE K tb b) : SE K (tOp r (tVar i) tb) (dOpO o i b) := by
  refine ⟨fun ρ P P' h ⟨q0, q⟩ => ⟨q0, sb.mono _ _ _ (fun r y ⟨es, e, q⟩ => ⟨es, e, so.mono _ _ _ _ (h _) q⟩) q⟩, fun F σ H ρ vs ds Q R q => ?_⟩
  obtain ⟨⟨es0, e0⟩, q⟩ := q
  obtain ⟨p, xs, e1, hp, el, _⟩ := R.ownAt e0
  refine ⟨.ref p, e1, sb.run F σ H ρ vs ds _ R (sb.mono _ _ _ (fun r y q v H1 R1 => ?_) q)⟩
  obtain ⟨es, e, q⟩ := q
  obtain ⟨p2, xs2, e2, hp2, el2, hd⟩ := R1.ownAt e
  rw [e1] at e2
  cases e2
  exact so.run F σ H1 r vs ds _ v _ y Q hd R1 q
/-- an item of it -/
def dIxO (i : Nat) (b : TD) : TD := fun ρ P => (∃ es, ρ[i]? = some (.ls es)) ∧ b ρ fun r y => ∃ es k d, r[i]? = some (.ls es) ∧ y = .int k ∧ atI es k = some d ∧ P r d
theorem se_ixO {tb : TE} {b : TD} (i : Nat) (sb : SE K tb b) : SE K (tOp (rIxL K) (tVar i) tb) (dIxO i b) := by
  refine ⟨fun ρ P P' h ⟨q0, q⟩ => ⟨q0, sb.mono _ _ _ (fun r y ⟨es, k, d, e, e1, e2, q⟩ => ⟨es, k, d, e, e1, e2, h _ _ q⟩) q⟩, fun F σ H ρ vs ds Q R q => ?_⟩
  obtain ⟨⟨es0, e0⟩, q⟩ := q
  obtain ⟨p, xs, e1, hp, el, _⟩ := R.ownAt e0
  refine ⟨.ref p, e1, sb.run F σ H ρ vs ds _ R (sb.mono _ _ _ (fun r y q v H1 R1 => ?_) q)⟩
  obtain ⟨es, k, d, e, ey, ea, q⟩ := q
  subst ey
  obtain rfl := R1.int
  obtain ⟨Hi, own, R2⟩ := R1.drop
  obtain ⟨p2, xs2, e2, eo, hp2, q2⟩ := R2.slot i _ e
  have e3 : p2 = p := by rw [e1] at e2; cases e2; rfl
  subst e3
  have R3 : Rel K F σ H1 r (xs2 ++ vs) (es ++ ds) := ⟨Hi, own, R2.tmpTo (dpAll_app q2 R2.tmp)⟩
  obtain ⟨v, e4, R4⟩ := atI_pick (dpAll_len q2) R3 ea
  exact ⟨p2, xs2, k, v, rfl, rfl, .inl (.inl hp2), e4, q _ _ R4⟩
/-- name.append(e) -/
def dApp (i : Nat) (b : TD) : TDS := fun dn ρ => (∃ es, ρ[i]? = some (.ls es)) ∧ b ρ fun r d => ∃ es, r[i]? = some (.ls es) ∧ es.length < sizeLine ∧ dn.nx (r.set i (.ls (es ++ [d])))
theorem ss_app {tb : TE} {b : TD} (i : Nat) (sb : SE K tb b) : SS K (tDrop (tBM K "list" rAppend (tVar i) (tCons tb tNil))) (dApp i b) := by
  refine ⟨fun a b ρ h ⟨q0, q⟩ => ⟨q0, sb.mono _ _ _ (fun r y ⟨es, e, e1, q⟩ => ⟨es, e, e1, h.nx _ q⟩) q⟩, fun F σ H ρ vs ds E dn G R q => ?_⟩
  obtain ⟨⟨es0, e0⟩, q⟩ := q
  obtain ⟨p, xs, e1, hp, el, _⟩ := R.ownAt e0
  refine ⟨.ref p, e1, .inl ⟨rfl, xs, .inl (.inl hp)⟩, sb.run F σ H ρ vs ds _ R (sb.mono _ _ _ (fun r y q v H1 R1 => ?_) q)⟩
  obtain ⟨es, e, ez, q⟩ := q
  obtain ⟨p2, xs2, e2, hp2, el2, hd⟩ := R1.ownAt e
  rw [e1] at e2
  cases e2
  refine ⟨p, xs2, v, rfl, rfl, hp2, by rw [el2]; exact ez, G.nx _ _ _ (R1.turn e e1 hp2 fun Hi h1 h2 => ?_) q⟩
  cases h2 with
  | cons a b => exact ⟨dpAll_app h1 (.cons a .nil), b⟩
/-- name[k] = e -/
theorem dpAll_set {H : Hp} {d : D} {v : V} (hv : Dp K H v d) : ∀ {es : List D} {xs : List V} (j : Nat), DpAll K H xs es → DpAll K H (xs.set j v) (es.set j d)
  | [], _, j, h => by cases h; exact .nil
  | e :: es, _, 0, h => by cases h with | cons a b => exact .cons hv b
  | e :: es, _, j + 1, h => by cases h with | cons a b => exact .cons a (dpAll_set hv j b)
def dSetI (i : Nat) (b k : TD) : TDS := fun dn ρ => b ρ fun r d => (∃ es, r[i]? = some (.ls es)) ∧ k r fun r2 z => ∃ es n j, r2[i]? = some (.ls es) ∧ z = .int n ∧ ixN es.length n = some j ∧ dn.nx (r2.set i (.ls (es.set j d)))
theorem ss_setI {tb tk : TE} {b k : TD} (i : Nat) (sb : SE K tb b) (sk : SE K tk k) : SS K (tAsg tb (gSub (tVar i) tk rSetL)) (dSetI i b k) := by
  refine ⟨fun a b ρ h q => sb.mono _ _ _ (fun r y ⟨q0, q⟩ => ⟨q0, sk.mono _ _ _ (fun r2 z ⟨es, n, j, e, e1, e2, q⟩ => ⟨es, n, j, e, e1, e2, h.nx _ q⟩) q⟩) q, fun F σ H ρ vs ds E dn G R q => ?_⟩
  refine sb.run F σ H ρ vs ds _ R (sb.mono _ _ _ (fun r d q v H1 R1 => ?_) q)
  obtain ⟨⟨es0, e0⟩, q⟩ := q
  obtain ⟨p, xs, e1, hp, el, _⟩ := R1.ownAt e0
  refine ⟨.ref p, e1, sk.run F σ H1 r _ _ _ R1 (sk.mono _ _ _ (fun r2 z q w H2 R2 => ?_) q)⟩
  obtain ⟨es, n, j, e, ez, ej, q⟩ := q
  subst ez
  obtain rfl := R2.int
  obtain ⟨p2, xs2, e2, hp2, el2, hd⟩ := R2.ownAt e
  rw [e1] at e2
  cases e2
  refine ⟨p, xs2, n, j, rfl, rfl, hp2, by rw [el2]; exact ej, G.nx _ _ _ (R2.drop.turn e e1 hp2 fun Hi h1 h2 => ?_) q⟩
  cases h2 with
  | cons a b => exact ⟨dpAll_set a j h1, b⟩
/-- name.pop(k) -/
theorem dpAll_erase {H : Hp} : ∀ {es : List D} {xs : List V} (j : Nat), DpAll K H xs es → DpAll K H (xs.eraseIdx j) (es.eraseIdx j)
  | [], _, j, h => by cases h; exact .nil
  | e :: es, _, 0, h => by cases h with | cons a b => exact b
  | e :: es, _, j + 1, h => by cases h with | cons a b => exact .cons a (dpAll_erase j b)
def dPopI (i : Nat) (k : TD) : TD := fun ρ P => (∃ es, ρ[i]? = some (.ls es)) ∧ k ρ fun r z => ∃ es n j d, r[i]? = some (.ls es) ∧ z = .int n ∧ (-(2 ^ 63) ≤ n ∧ n < 2 ^ 63) ∧ seqIndex? n es.length = some j ∧ es[j]? = some d ∧ P (r.set i (.ls (es.eraseIdx j))) d
theorem se_popI {tk : TE} {k : TD} (i : Nat) (sk : SE K tk k) : SE K (tBM K "list" rPopAt (tVar i) (tCons tk tNil)) (dPopI i k) := by
  refine ⟨fun ρ P P' h ⟨q0, q⟩ => ⟨q0, sk.mono _ _ _ (fun r z ⟨es, n, j, d, e, e1, e2, e3, e4, q⟩ => ⟨es, n, j, d, e, e1, e2, e3, e4, h _ _ q⟩) q⟩, fun F σ H ρ vs ds Q R q => ?_⟩
  obtain ⟨⟨es0, e0⟩, q⟩ := q
  obtain ⟨p, xs, e1, hp, el, _⟩ := R.ownAt e0
  refine ⟨.ref p, e1, .inl ⟨rfl, xs, .inl (.inl hp)⟩, sk.run F σ H ρ vs ds _ R (sk.mono _ _ _ (fun r z q w H1 R1 => ?_) q)⟩
  obtain ⟨es, n, j, d, e, ez, en, ej, ed, q⟩ := q
  subst ez
  obtain rfl := R1.int
  obtain ⟨Hi, own, R2⟩ := R1.drop
  obtain ⟨p2, xs2, e2, eo, hp2, q2⟩ := R2.slot i _ e
  have e3 : p2 = p := by rw [e1] at e2; cases e2; rfl
  subst e3
  obtain ⟨v, hv, hd⟩ := dpAll_at q2 ed
  have R3 : Rel K F σ H1 r (v :: vs) (d :: ds) := ⟨Hi, own, R2.tmpTo (.cons hd R2.tmp)⟩
  refine ⟨p2, xs2, n, j, v, rfl, rfl, hp2, en.1, en.2, by rw [dpAll_len q2]; exact ej, hv, q _ _ (R3.turn e e1 hp2 fun Hi h1 h2 => ⟨dpAll_erase j h1, h2⟩)⟩
end
end LD

/-! LD6: what a def promises over data; its calls; its entry. -/
namespace LD
open PySem PySem.Spec L2
/-- what has come between: nothing tracked is lost, what was laid is new -/
def Fresh (Hi Hi' H : Hp) : Prop := ∀ b, Hi' b ≠ none → Hi b ≠ none ∨ H b = none
/-- a def of data alone -/
def spD (K : PySem.W.Frag) (g : CD) : Sp := fun vs H Q _ => ∃ Hi ds, Same Hi H ∧ DpAll K Hi vs ds ∧ g ds fun d => ∀ v H' Hi', Same Hi Hi' → Same Hi' H' → Same H H' → Fresh Hi Hi' H → Dp K Hi' v d → Q v H'
/-- a def that draws: the source first -/
def spW (K : PySem.W.Frag) (g : CD) : Sp := fun vs H Q _ => ∃ Hi a l vs' ds, vs = .ref a :: vs' ∧ a ≠ l ∧ Same Hi H ∧ Hi a = none ∧ Hi l = none ∧ DealAt H a l ∧ DpAll K Hi vs' ds ∧
  g ds fun d => ∀ v H' Hi', Same Hi Hi' → Same Hi' H' → (∀ c o, H c = some o → c ≠ a → c ≠ l → H' c = some o) → (∀ c, H c ≠ none → H' c ≠ none) → Fresh Hi Hi' H → DealAt H' a l → Dp K Hi' v d → Q v H'
/-- a def that makes a source -/
def spM (K : PySem.W.Frag) (g : List D → Prop) : Sp := fun vs H Q _ => ∃ Hi ds, Same Hi H ∧ DpAll K Hi vs ds ∧ g ds ∧
  ∀ a l ns b H', a ≠ l → H' a = none → H' l = none → Same H H' → DealOk ns b → Q (.ref a) (upd (upd H' l (.lst (ns.map V.int))) a (.lst [.ref l, .int b]))
section
variable {K : PySem.W.Frag} {F : Fx} {σ : L2.St} {H H' : Hp} {ρ : Rho} {vs ws xs : List V} {ds es : List D}
/-- behind a call that only adds -/
theorem RelI.after {Hi Hi' : Hp} {own : Nat → List Addr} (R : RelI K F σ H ρ vs ds Hi own) (h1 : Same Hi Hi') (h2 : Same Hi' H') (h3 : Same H H') (h4 : Fresh Hi Hi' H) (h : DpAll K Hi' ws es) : RelI K F σ H' ρ ws es Hi' own := by
  have dom : ∀ b, H b ≠ none → H' b ≠ none := fun b hb => by
    cases q : H b with
    | none => exact absurd q hb
    | some o => rw [h3 b o q]; simp
  refine ⟨R.base.trans h1, h2, fun b hb => ?_, fun b o e hn => h3 b o (R.keep b o e hn), fun b e => dom b (R.dom b e), R.len, fun i x e => (R.slot i x e).grow h1 fun a ha o q => h3 a o q, fun i a ha => ?_, fun i a ha => dom a (R.held i a ha), R.nown, R.sep, R.nls, fun z hz => ?_, h⟩
  · rcases h4 b hb with z | z
    · exact R.new b z
    · exact .inr (R.no0 z)
  · cases q : Hi' a with
    | none => rfl
    | some o =>
      rcases h4 a (by rw [q]; simp) with z | z
      · exact absurd (R.free i a ha) z
      · exact absurd z (R.held i a ha)
  · obtain ⟨z1, z2, z3⟩ := R.pin z hz
    refine ⟨h3 _ _ z1, ?_, z3⟩
    cases q : Hi' z.1 with
    | none => rfl
    | some o =>
      rcases h4 z.1 (by rw [q]; simp) with w | w
      · exact absurd z2 w
      · rw [z1] at w; cases w
theorem se_call {g : CD} {ta : TA} {t : TDA} {E : XK} (hg : ∀ es P P', (∀ d, P d → P' d) → g es P → g es P') (s : SA K ta t) : SE K (tCall (spD K g) [] E ta) (dCall g t) := by
  refine ⟨fun ρ P P' h q => s.mono _ _ _ (fun _ es q => hg _ _ _ (h _) q) q, fun F σ H ρ vs ds Q R q => s.run F σ H ρ vs ds _ R (s.mono _ _ _ (fun r es q xs H1 e R1 => ?_) q)⟩
  show spD K g (xs ++ []) H1 Q E
  rw [List.append_nil]
  obtain ⟨Hi, own, R2⟩ := R1
  obtain ⟨t1, t2⟩ := dpAll_split e R2.tmp
  exact ⟨Hi, es, R2.sub, t1, hg _ _ _ (fun d q v H' Hi' h1 h2 h3 h4 h5 => q v H' ⟨Hi', own, R2.after h1 h2 h3 h4 (.cons h5 (dpAll_mono h1 _ _ t2))⟩) q⟩
/-- .. with the source in slot i first -/
def dCallW (i : Nat) (g : CD) (t : TDA) : TD := fun ρ P => (∃ a l, ρ[i]? = some (.dl a l)) ∧ t ρ fun r es => (∃ a l, r[i]? = some (.dl a l)) ∧ g es (P r)
theorem Rel.dealAt {i : Nat} {a l : Addr} (R : Rel K F σ H ρ vs ds) (h : ρ[i]? = some (.dl a l)) : σ[i]? = some (some (.ref a)) := by
  obtain ⟨Hi, own, R⟩ := R
  obtain ⟨e, _⟩ := R.slot i _ h
  cases z : σ[i]? with
  | none => rw [z] at e; cases e
  | some y => rw [z] at e; exact congrArg some e
theorem se_callW {i : Nat} {g : CD} {ta : TA} {t : TDA} {E : XK} (hg : ∀ es P P', (∀ d, P d → P' d) → g es P → g es P') (s : SA K ta t) : SE K (tCall (spW K g) [] E (tCons (tVar i) ta)) (dCallW i g t) := by
  refine ⟨fun ρ P P' h q => ⟨q.1, s.mono _ _ _ (fun _ es q => ⟨q.1, hg _ _ _ (h _) q.2⟩) q.2⟩, fun F σ H ρ vs ds Q R q => ?_⟩
  obtain ⟨⟨a, l, e0⟩, q⟩ := q
  have s0 := R.dealAt e0
  refine ⟨.ref a, s0, s.run F σ H ρ vs ds _ R (s.mono _ _ _ (fun r es q xs H1 e R1 => ?_) q)⟩
  show spW K g (V.ref a :: xs ++ []) H1 Q E
  rw [List.append_nil]
  obtain ⟨⟨a', l', e1⟩, q⟩ := q
  have s1 := R1.dealAt e1
  rw [s0] at s1
  cases s1
  obtain ⟨Hi, own, R2⟩ := R1
  obtain ⟨t1, t2⟩ := dpAll_split e R2.tmp
  obtain ⟨_, eo, nal, da⟩ := R2.slot i _ e1
  have ia : a ∈ own i := by rw [eo]; simp
  have il : l' ∈ own i := by rw [eo]; simp
  refine ⟨Hi, a, l', xs, es, rfl, nal, R2.sub, R2.free i a ia, R2.free i l' il, da, t1, hg _ _ _ (fun d q v H' Hi' h1 h2 h3 h3' h4 hda h5 => q v H' ⟨Hi', own, ?_⟩) q⟩
  have notA : ∀ {c : Addr}, F.H0 c ≠ none → c ∉ F.P → c ≠ a ∧ c ≠ l' := fun {c} hc hp => ⟨fun z => by
    rcases R2.nown i a ia with w | w
    · exact hc (by rw [z]; exact w)
    · exact hp (by rw [z]; exact w), fun z => by
    rcases R2.nown i l' il with w | w
    · exact hc (by rw [z]; exact w)
    · exact hp (by rw [z]; exact w)⟩
  refine ⟨R2.base.trans h1, h2, fun b hb => ?_, fun b o z hn => ?_, fun b z => h3' b (R2.dom b z), R2.len, fun j x z => ?_, fun j c hc => ?_, fun j c hc => h3' c (R2.held j c hc), R2.nown, R2.sep, R2.nls, fun z hz => ?_, .cons h5 (dpAll_mono h1 _ _ t2)⟩
  · rcases h4 b hb with z | z
    · exact R2.new b z
    · exact .inr (R2.no0 z)
  · obtain ⟨n1, n2⟩ := notA (c := b) (by rw [z]; simp) hn
    exact h3 b o (R2.keep b o z hn) n1 n2
  · by_cases hj : j = i
    · subst hj
      rw [e1] at z
      cases z
      obtain ⟨g1, g2, g3, _⟩ := R2.slot j _ e1
      exact ⟨g1, g2, g3, hda⟩
    · exact (R2.slot j x z).grow h1 fun c hc o w => h3 c o w (fun y => R2.sep j i hj c hc (by rw [y]; exact ia)) (fun y => R2.sep j i hj c hc (by rw [y]; exact il))
  · cases w : Hi' c with
    | none => rfl
    | some o =>
      rcases h4 c (by rw [w]; simp) with z | z
      · exact absurd (R2.free j c hc) z
      · exact absurd z (R2.held j c hc)
  · obtain ⟨z1, z2, z3⟩ := R2.pin z hz
    refine ⟨h3 _ _ z1 (fun y => z3 i (by rw [y]; exact ia)) (fun y => z3 i (by rw [y]; exact il)), ?_, z3⟩
    cases w : Hi' z.1 with
    | none => rfl
    | some o =>
      rcases h4 z.1 (by rw [w]; simp) with y | y
      · exact absurd z2 y
      · rw [z1] at y; cases y
/-- name = a new source -/
def dMk (g : List D → Prop) (t : TDA) (i : Nat) : TDS := fun dn ρ => t ρ fun r es => i < r.length ∧ g es ∧ ∀ a l, dn.nx (r.set i (.dl a l))
theorem ss_mk {i : Nat} {g : List D → Prop} {ta : TA} {t : TDA} {E : XK} (s : SA K ta t) : SS K (tAsg (tCall (spM K g) [] E ta) (gName i)) (dMk g t i) := by
  refine ⟨fun a b ρ h q => s.mono _ _ _ (fun r es q => ⟨q.1, q.2.1, fun a l => h.nx _ (q.2.2 a l)⟩) q, fun F σ H ρ vs ds En dn G R q => s.run F σ H ρ vs ds _ R (s.mono _ _ _ (fun r es q xs H1 e R1 => ?_) q)⟩
  show spM K g (xs ++ []) H1 _ E
  rw [List.append_nil]
  obtain ⟨hi, q0, q⟩ := q
  obtain ⟨Hi, own, R2⟩ := R1
  obtain ⟨t1, t2⟩ := dpAll_split e R2.tmp
  refine ⟨Hi, es, R2.sub, t1, q0, fun a l ns b H' nal ha hl hs ok => G.nx _ _ _ ?_ (q a l)⟩
  have fr : ∀ {c : Addr}, H' c = none → H1 c = none := fun {c} hc => hs.free hc
  have ne : ∀ {c p : Addr} {o : HO}, H1 c = some o → H' p = none → c ≠ p := fun {c p o} h1 h2 => ne_of_none h1 (fr h2)
  have hH : ∀ c o, H1 c = some o → (upd (upd H' l (.lst (ns.map V.int))) a (.lst [.ref l, .int b])) c = some o := fun c o h => by
    rw [upd_ne (ne h ha), upd_ne (ne h hl)]; exact hs _ _ h
  have dom : ∀ c, H1 c ≠ none → (upd (upd H' l (.lst (ns.map V.int))) a (.lst [.ref l, .int b])) c ≠ none := fun c hc => by
    cases w : H1 c with
    | none => exact absurd w hc
    | some o => rw [hH c o w]; simp
  have no : ∀ {j : Nat} {c : Addr}, c ∈ own j → c ≠ a ∧ c ≠ l := fun {j c} hc => ⟨fun z => R2.held j c hc (by rw [z]; exact fr ha), fun z => R2.held j c hc (by rw [z]; exact fr hl)⟩
  refine ⟨Hi, fun j => if j = i then [a, l] else own j, ⟨R2.base, fun c o h => hH c o (R2.sub c o h), R2.new, fun c o h hn => hH c o (R2.keep c o h hn), fun c h => dom c (R2.dom c h), by rw [List.length_set, List.length_set]; exact R2.len, fun j x z => ?_, fun j c hc => ?_, fun j c hc => ?_, fun j c hc => ?_, fun j k hjk c hc hk => ?_, fun j es' z c hc => ?_, fun z hz => ?_, t2⟩⟩
  · by_cases hj : j = i
    · subst hj
      rw [List.getElem?_set_self hi] at z
      cases z
      rw [List.getElem?_set_self (by rw [R2.len]; exact hi), if_pos rfl]
      exact ⟨rfl, rfl, nal, ns, b, ok, upd_same, by rw [upd_ne (Ne.symm nal), upd_same]⟩
    · rw [List.getElem?_set_ne (Ne.symm hj)] at z ⊢
      rw [if_neg hj]
      exact (R2.slot j x z).grow (Same.refl _) fun c hc o w => hH c o w
  · by_cases hj : j = i
    · rw [if_pos hj] at hc
      rcases List.mem_cons.mp hc with rfl | hc
      · exact R2.noSub (fr ha)
      · obtain rfl : c = l := by simpa using hc
        exact R2.noSub (fr hl)
    · rw [if_neg hj] at hc; exact R2.free j c hc
  · by_cases hj : j = i
    · rw [if_pos hj] at hc
      rcases List.mem_cons.mp hc with rfl | hc
      · rw [upd_same]; simp
      · obtain rfl : c = l := by simpa using hc
        rw [upd_ne (Ne.symm nal), upd_same]; simp
    · rw [if_neg hj] at hc; exact dom c (R2.held j c hc)
  · by_cases hj : j = i
    · rw [if_pos hj] at hc
      rcases List.mem_cons.mp hc with rfl | hc
      · exact .inl (R2.no0 (fr ha))
      · obtain rfl : c = l := by simpa using hc
        exact .inl (R2.no0 (fr hl))
    · rw [if_neg hj] at hc; exact R2.nown j c hc
  · by_cases hj : j = i
    · rw [if_pos hj] at hc
      rw [if_neg (fun z => hjk (hj.trans z.symm))] at hk
      rcases List.mem_cons.mp hc with z | hc
      · exact (no hk).1 z
      · exact (no hk).2 (by simpa using hc)
    · rw [if_neg hj] at hc
      by_cases hki : k = i
      · rw [if_pos hki] at hk
        rcases List.mem_cons.mp hk with z | hk
        · exact (no hc).1 z
        · exact (no hc).2 (by simpa using hk)
      · rw [if_neg hki] at hk; exact R2.sep j k hjk c hc hk
  · by_cases hj : j = i
    · subst hj
      rw [List.getElem?_set_self hi] at z
      cases z
    · rw [if_neg hj] at hc
      rw [List.getElem?_set_ne (Ne.symm hj)] at z
      exact R2.nls j es' z c hc
  · obtain ⟨z1, z2, z3⟩ := R2.pin z hz
    refine ⟨hH _ _ z1, z2, fun j hj => ?_⟩
    by_cases hji : j = i
    · rw [if_pos hji] at hj
      rcases List.mem_cons.mp hj with w | w
      · exact ne z1 ha w
      · exact ne z1 hl (by simpa using w)
    · rw [if_neg hji] at hj; exact z3 j hj
/-! ### the entry of a def -/
theorem start_sh {N : List Str} {Hi : Hp} : ∀ {ds : List D} {vs : List V} {n : Nat} {i : Nat} {x : DV}, DpAll K Hi vs ds → (ds.map DV.sh ++ List.replicate n DV.no)[i]? = some x → x = .no ∨ ∃ d v, x = .sh d ∧ (vs.map some ++ List.replicate n none)[i]? = some (some v) ∧ Dp K Hi v d
  | [], _, n, i, x, h, e => by
    cases h
    left
    have := List.mem_of_getElem? e
    exact (List.mem_replicate.mp (by simpa using this)).2
  | d :: ds, _, n, 0, x, h, e => by
    cases h with
    | cons a b =>
      cases e
      exact .inr ⟨d, _, rfl, rfl, a⟩
  | d :: ds, _, n, i + 1, x, h, e => by
    cases h with
    | cons a b => exact start_sh (N := N) (i := i) b e
def rho0 (ds : List D) (n : Nat) : Rho := ds.map DV.sh ++ List.replicate n DV.no
theorem run_D {N : List Str} {ts : TS} {t : TDS} {Hi : Hp} {Q : VK} {P : D → Prop} (s : SS K ts t) (h1 : Same Hi H) (h2 : DpAll K Hi vs ds) (hq : ∀ d, P d → ∀ v H' Hi', Same Hi Hi' → Same Hi' H' → Same H H' → Fresh Hi Hi' H → Dp K Hi' v d → Q v H')
    (ht : t { nx := fun _ => P .none, rt := fun _ d => P d } (rho0 ds (N.length - ds.length))) : ts { nx := fun _ H' => Q .non H', rt := Q } (start N vs) H := by
  have el := dpAll_len h2
  have back : ∀ σ' H' ρ' v d, Rel K ⟨Hi, H, [], []⟩ σ' H' ρ' [v] [d] → P d → Q v H' := fun σ' H' ρ' v d R p => by
    obtain ⟨Hi', own, R⟩ := R
    have q := R.tmp
    cases q with
    | cons a _ => exact hq d p v H' Hi' R.base R.sub (fun b o e => R.keep b o e (by simp)) (fun b hb => R.new b hb) a
  refine s.run ⟨Hi, H, [], []⟩ (start N vs) H (rho0 ds (N.length - ds.length)) [] [] { nx := fun _ H' => Q .non H', rt := Q } { nx := fun _ => P .none, rt := fun _ d => P d } ⟨fun σ' H' ρ' R p => back σ' H' ρ' .non .none (R.push (v := .non) rfl) p, fun σ' H' ρ' v d R p => back σ' H' ρ' v d R p, fun _ _ _ _ z => z.elim, fun _ _ _ _ z => z.elim, fun _ _ _ _ _ _ _ _ _ _ _ _ z => z.elim, fun _ _ _ _ _ _ _ z => z.elim⟩ ⟨Hi, fun _ => [], ?_⟩ ht
  refine ⟨Same.refl _, h1, fun b hb => .inl hb, fun b o e _ => e, fun b e => e, ?_, fun i x e => ?_, fun i a ha => (by cases ha), fun i a ha => (by cases ha), fun i a ha => (by cases ha), fun i j _ a ha => (by cases ha), fun i es e a ha => (by cases ha), fun z hz => (by cases hz), DpAll.nil⟩
  · unfold L2.start rho0
    rw [List.length_append, List.length_append, List.length_map, List.length_map, List.length_replicate, List.length_replicate, el]
  · unfold rho0 at e
    rcases start_sh (N := N) h2 e with z | ⟨d, v, z, e2, q⟩
    · rw [z]; trivial
    · rw [z]
      refine ⟨v, ?_, q⟩
      unfold L2.start
      rw [el, e2]
      rfl
theorem run_W {N : List Str} {ts : TS} {t : TDS} {Hi : Hp} {a l : Addr} {Q : VK} {P : D → Prop} (s : SS K ts t) (nal : a ≠ l) (h1 : Same Hi H) (ha : Hi a = none) (hl : Hi l = none) (hd : DealAt H a l) (h2 : DpAll K Hi vs ds)
    (hq : ∀ d, P d → ∀ v H' Hi', Same Hi Hi' → Same Hi' H' → (∀ c o, H c = some o → c ≠ a → c ≠ l → H' c = some o) → (∀ c, H c ≠ none → H' c ≠ none) → Fresh Hi Hi' H → DealAt H' a l → Dp K Hi' v d → Q v H')
    (hN : 1 + ds.length ≤ N.length) (ht : t { nx := fun r => r[0]? = some (.dl a l) ∧ P .none, rt := fun r d => r[0]? = some (.dl a l) ∧ P d } (.dl a l :: rho0 ds (N.length - 1 - ds.length))) : ts { nx := fun _ H' => Q .non H', rt := Q } (start N (.ref a :: vs)) H := by
  have el := dpAll_len h2
  have back : ∀ σ' H' ρ' v d, Rel K ⟨Hi, H, [a, l], []⟩ σ' H' ρ' [v] [d] → ρ'[0]? = some (.dl a l) ∧ P d → Q v H' := fun σ' H' ρ' v d R ⟨e, p⟩ => by
    obtain ⟨Hi', own, R⟩ := R
    obtain ⟨_, _, _, da⟩ := R.slot 0 _ e
    have q := R.tmp
    cases q with
    | cons x _ => exact hq d p v H' Hi' R.base R.sub (fun c o e n1 n2 => R.keep c o e (by simp [n1, n2])) R.dom (fun b hb => R.new b hb) da x
  refine s.run ⟨Hi, H, [a, l], []⟩ (start N (.ref a :: vs)) H (.dl a l :: rho0 ds (N.length - 1 - ds.length)) [] [] { nx := fun _ H' => Q .non H', rt := Q } { nx := fun r => r[0]? = some (.dl a l) ∧ P .none, rt := fun r d => r[0]? = some (.dl a l) ∧ P d } ⟨fun σ' H' ρ' R p => back σ' H' ρ' .non .none (R.push (v := .non) rfl) p, fun σ' H' ρ' v d R p => back σ' H' ρ' v d R p, fun _ _ _ _ z => z.elim, fun _ _ _ _ z => z.elim, fun _ _ _ _ _ _ _ _ _ _ _ _ z => z.elim, fun _ _ _ _ _ _ _ z => z.elim⟩ ⟨Hi, fun j => if j = 0 then [a, l] else [], ?_⟩ ht
  have hda := hd
  obtain ⟨ns, b, _, g1, g2⟩ := hda
  refine ⟨Same.refl _, h1, fun b hb => .inl hb, fun b o e _ => e, fun b e => e, ?_, fun i x e => ?_, fun i c hc => ?_, fun i c hc => ?_, fun i c hc => ?_, fun i j hij c hc hk => ?_, fun i es e c hc => ?_, fun z hz => (by cases hz), DpAll.nil⟩
  · unfold L2.start rho0
    simp only [List.length_append, List.length_map, List.length_cons, List.length_replicate]
    omega
  · cases i with
    | zero =>
      cases e
      exact ⟨rfl, rfl, nal, hd⟩
    | succ i =>
      unfold rho0 at e
      rcases start_sh (N := N) h2 e with z | ⟨d, v, z, e2, q⟩
      · rw [z]; trivial
      · rw [z]
        refine ⟨v, ?_, q⟩
        unfold L2.start
        have en : N.length - (V.ref a :: vs).length = N.length - 1 - ds.length := by rw [List.length_cons, el]; omega
        rw [en]
        show ((vs.map some ++ _)[i]?).join = _
        rw [e2]
        rfl
  · by_cases hi : i = 0
    · rw [if_pos hi] at hc
      rcases List.mem_cons.mp hc with rfl | hc
      · exact ha
      · obtain rfl : c = l := by simpa using hc
        exact hl
    · rw [if_neg hi] at hc; cases hc
  · by_cases hi : i = 0
    · rw [if_pos hi] at hc
      rcases List.mem_cons.mp hc with rfl | hc
      · rw [g1]; simp
      · obtain rfl : c = l := by simpa using hc
        rw [g2]; simp
    · rw [if_neg hi] at hc; cases hc
  · by_cases hi : i = 0
    · rw [if_pos hi] at hc; exact .inr hc
    · rw [if_neg hi] at hc; cases hc
  · by_cases hi : i = 0
    · rw [if_neg (fun z => hij (hi.trans z.symm))] at hk; cases hk
    · rw [if_neg hi] at hc; cases hc
  · by_cases hi : i = 0
    · rw [hi] at e; cases e
    · rw [if_neg hi] at hc; cases hc
end
end LD

/-! LD7: more operators and built-in functions: repr, isinstance, + of lists and tuples, chains of comparisons, keywords alone. -/
namespace LD
open PySem PySem.Spec L2
/-! ### rules of the layer below -/
def rCatL (K : PySem.W.Frag) : R2 := fun x y H Q => ∃ a b xs ys, x = .ref a ∧ y = .ref b ∧ SqL K H a xs ∧ SqL K H b ys ∧ xs.length + ys.length ≤ sizeLine ∧ ∀ p, H p = none → Q (.ref p) (upd H p (.lst (xs ++ ys)))
def rReprS : List V → Hp → VK → Prop := fun xs H Q => (∃ i, xs = [.int i] ∧ i.natAbs.log2 < 1920 ∧ Q (.str (PyData.shown (.int i))) H) ∨ ∃ b, xs = [.bl b] ∧ Q (.str (PyData.shown (.bool b))) H
def rReprD (K : PySem.W.Frag) : List V → Hp → VK → Prop := fun xs H Q => ∃ v d, xs = [v] ∧ Dp K H v d ∧ d.showable = true ∧ d.hasDict = false ∧ d.depth ≤ 60 ∧ d.shown.length ≤ sizeLine ∧ Q (.str d.shown) H
section
variable {X : Cx}
theorem op_catL : OpR X (binaryOp .Add) (rCatL X.K) := by
  intro pins s σ H x y v u Q I rx ry h
  obtain ⟨a, b, xs, ys, rfl, rfl, ha, hb, hz, q⟩ := h
  cases rx
  cases ry
  obtain ⟨i1, r1, p1, z1⟩ := I.list ha
  obtain ⟨i2, r2, p2, z2⟩ := I.list hb
  obtain ⟨m, F⟩ := I.fr
  have rr := r1.append r2
  have hl := rr.length
  rw [List.length_append, List.length_append] at hl
  obtain ⟨o1, n1, g1, c1, d1, q1⟩ := p1
  obtain ⟨o2, n2, g2, c2, d2, q2⟩ := p2
  obtain ⟨k1, u1, w1, sl1⟩ := o1
  obtain ⟨k2, u2, w2, sl2⟩ := o2
  simp only at c1 d1 q1 c2 d2 q2
  subst c1 d1 q1 c2 d2 q2
  have hz' : i1.toArray.size + i2.toArray.size ≤ sizeLine := by
    rw [List.size_toArray, List.size_toArray]
    omega
  refine concat_meets ⟨_, g1, rfl⟩ ⟨_, g2, rfl⟩
    noFill_list_add seq_list_add
    PySem.F.slot_list_add PySem.F.entry_list_add
    (PySem.F.args_list_add_2 _ _)
    (PyProof.Rows.list_addW a b i1.toArray i2.toArray n1 n2 none none sl1 sl2 hz') ⟨g1, g2, ?_⟩
  have ea : i1.toArray ++ i2.toArray = (i1 ++ i2).toArray := by simp
  rw [ea]
  exact ⟨.ref _, _, I.lnew (t' := s.toks) rr (by rw [List.length_append]; omega), rfl, q _ I.fresh⟩
theorem call_reprS : CallR X (.builtin "repr") rReprS := by
  intro pins s σ H xs us Q I r h
  rcases h with ⟨i, rfl, hz, q⟩ | ⟨b, rfl, q⟩
  · obtain ⟨u, rfl, t, rfl⟩ := vals1 r
    exact PySem.P.repr_of_int hz ⟨.str _, H, I.tok _, ⟨_, rfl⟩, q⟩
  · obtain ⟨u, rfl, ru⟩ := vals1 r
    cases ru
    exact PySem.P.repr_of_bool ⟨.str _, H, I.tok _, ⟨_, rfl⟩, q⟩
theorem call_reprD (hg : X.A.guards = some []) (hu : X.A.units + 64 < cLine) : CallR X (.builtin "repr") (rReprD X.K) := by
  intro pins s σ H xs us Q I r h
  obtain ⟨v, d, rfl, hd, hs, hn, hdp, hsz, q⟩ := h
  obtain ⟨u, rfl, ru⟩ := vals1 r
  have hR := Dp.reads I d v u hd ru
  cases hd with
  | non => cases ru; exact PySem.P.repr_of_none ⟨.str _, H, I.tok _, ⟨_, rfl⟩, q⟩
  | bl b => cases ru; exact PySem.P.repr_of_bool ⟨.str _, H, I.tok _, ⟨_, rfl⟩, q⟩
  | int i => obtain ⟨t, rfl⟩ := ru; exact PySem.P.repr_of_int (of_decide_eq_true hs) ⟨.str _, H, I.tok _, ⟨_, rfl⟩, q⟩
  | str x => obtain ⟨t, rfl⟩ := ru; exact PySem.P.repr_of_str ⟨.str _, H, I.tok _, ⟨_, rfl⟩, q⟩ hsz
  | lst a b =>
    cases ru
    obtain ⟨as, rd⟩ := hR
    exact repr_of_reads' rd hs (fun e => by rw [hn] at e; cases e) hg (by omega) (fun _ _ e => e) (fun h' u tk hk => ⟨.str _, H, I.kept (t' := tk) hk, ⟨u, rfl⟩, q⟩) hsz
  | tup a b =>
    cases ru
    obtain ⟨as, rd⟩ := hR
    exact repr_of_reads' rd hs (fun e => by rw [hn] at e; cases e) hg (by omega) (fun _ _ e => e) (fun h' u tk hk => ⟨.str _, H, I.kept (t' := tk) hk, ⟨u, rfl⟩, q⟩) hsz
variable {CX : CXT} {k : Nat} {f : Addr} {fd : FuncData} {ps ks : List Str} {sp : Sp} {E : XK} {x : Str} {p pos : Pos} {kws : List Keyword} {tk : TA} {g : List Value → List Value → List Value} {gV : List V → List V → List V}
/-- f(k = v, ..) -/
theorem pe_callK0 (F : FnOk X.prog X.w X.K X.mg X.base CX k f fd ps sp) (hr : Room k X.A) (hg : Gl X x) (hm : X.mg x = some (.ref f)) (hk : PySem.W.keepIn X.K (.ref f) = true) (hb : KBinds X.K fd ps ks g gV) (hx : Passes CX X E) (hkw : PK X kws tk)
    (hall : (backToKw pos (keywordEach kws X.env)).all (·.1.isSome) = true := by rfl) (hks : (backToKw pos (keywordEach kws X.env)).filterMap (·.1) = ks := by rfl) (hdb : (x == ("__debug__" : Str)) = false := by decide)
    (hpl : ((backTo pos (starEach [] X.env)).any (·.1) || (backToKw pos (keywordEach kws X.env)).any (·.1.isNone)) = false := by rfl) : PE X (.Call (.Name x p) [] kws pos) (tCallK sp gV E tNil tk) := by
  refine ⟨fun pins s σ H Q I h => wpAny_Call_Name_kw (ld_glob I hg hm ?_ hdb)⟩
  refine PySem.W.callWith_KW0 (h₀ := X.base) I.ok.mod.kin hk hall (thn (hkw.run pos pins s σ H _ I h) fun ws s2 ⟨zs, H2, I2, rz, q2⟩ => ⟨I2.kIn, ?_⟩) hpl
  rw [hks]
  exact run_fnk (us := []) F hr hb hx I2 .nil rz q2
end
/-! ### over data -/
section
variable {K : PySem.W.Frag} {ta tb tc te : TE} {a b c e : TD}
def cReprS : CD := fun es P => (∃ i : Int, es = [.int i] ∧ i.natAbs.log2 < 1920 ∧ P (.str (PyData.shown (.int i)))) ∨ ∃ b, es = [.bool b] ∧ P (.str (PyData.shown (.bool b)))
theorem sc_reprS : SC K rReprS cReprS := by
  refine ⟨fun a P P' h q => ?_, fun F σ H ρ vs ds xs es Q e R q => ?_⟩
  · rcases q with ⟨i, e, z, q⟩ | ⟨b, e, q⟩
    · exact .inl ⟨i, e, z, h _ q⟩
    · exact .inr ⟨b, e, h _ q⟩
  · rcases q with ⟨i, e1, z, q⟩ | ⟨b, e1, q⟩
    · subst e1
      obtain ⟨x, r, rfl, e2⟩ := len_cons e
      obtain rfl := len_nil e2
      obtain rfl := Rel.int R
      exact .inl ⟨i, rfl, z, q _ _ (Rel.push (v := .str (PyData.shown (.int i))) R.drop rfl)⟩
    · subst e1
      obtain ⟨x, r, rfl, e2⟩ := len_cons e
      obtain rfl := len_nil e2
      obtain rfl := Rel.bl R
      exact .inr ⟨b, rfl, q _ _ (Rel.push (v := .str (PyData.shown (.bool b))) R.drop rfl)⟩
def cReprD : CD := fun es P => ∃ d : D, es = [d] ∧ d.showable = true ∧ d.hasDict = false ∧ d.depth ≤ 60 ∧ d.shown.length ≤ sizeLine ∧ P (.str d.shown)
theorem sc_reprD : SC K (rReprD K) cReprD := by
  refine ⟨fun a P P' h ⟨d, e, h1, h2, h3, h4, q⟩ => ⟨d, e, h1, h2, h3, h4, h _ q⟩, fun F σ H ρ vs ds xs es Q e R ⟨d, e1, h1, h2, h3, h4, q⟩ => ?_⟩
  subst e1
  obtain ⟨x, r, rfl, e2⟩ := len_cons e
  obtain rfl := len_nil e2
  exact ⟨x, d, rfl, Rel.dp R, h1, h2, h3, h4, q _ _ (Rel.push (v := .str d.shown) (Rel.drop R) rfl)⟩
/-! isinstance -/
def typD : D → String
  | .none => "NoneType" | .bool _ => "bool" | .int _ => "int" | .str _ => "str" | .list _ => "list" | .tuple _ => "tuple" | .dict _ => "dict"
theorem tyx_of {H : Hp} {v : V} {d : D} (h : Dp K H v d) : TyX K H v (.type (typD d)) := by
  cases h with
  | non => exact .base .non
  | bl b => exact .base (.bl b)
  | int i => exact .base (.int i)
  | str x => exact .base (.str x)
  | lst s _ =>
    rcases s with (s | ⟨o, s⟩) | ⟨o, its, n, s, c, _⟩
    · exact .base (.lst s)
    · exact .base (.frz s)
    · exact .kList s c
  | tup s _ =>
    rcases s with (s | ⟨o, s⟩) | ⟨o, its, n, s, c, _⟩
    · exact .base (.tup s)
    · exact .fTuple s
    · exact .kTuple s c
/-- x is an instance of the class of this name -/
structure IsiD (K : PySem.W.Frag) (n : String) (f : D → Bool) : Prop where
  ok : ∀ d, PySem.W.kitOne K (.type (typD d)) (.type n) = some (f d)
def dIsi (f : D → Bool) (a : TD) : TD := fun ρ P => a ρ fun r d => P r (.bool (f d))
theorem se_isi {n : String} {f : D → Bool} (k : IsiD K n f) (s : SE K te e) : SE K (tCB (rIsi K) (tCons te (tCons (tC (.ty n)) tNil))) (dIsi f e) := ⟨fun ρ P P' h q => s.mono _ _ _ (fun _ d q => h _ _ q) q, fun F σ H ρ vs ds Q R q =>
  s.run F σ H ρ vs ds _ R (s.mono _ _ _ (fun r d q v H1 R1 => ⟨v, .ty n, _, _, f d, rfl, .ty n, tyx_of R1.dp, k.ok d, q _ _ (Rel.push (v := .bl (f d)) R1.drop rfl)⟩) q)⟩
def dIsiT (f : D → Bool) (a : TD) : TD := dIsi f a
/-- + -/
def dCatL (a b : TD) : TDA := fun ρ P => a ρ fun r1 x => b r1 fun r2 y => ∃ es fs, x = .list es ∧ y = .list fs ∧ es.length + fs.length ≤ sizeLine ∧ P r2 (es ++ fs)
theorem sf_catL (sa : SE K ta a) (sb : SE K tb b) : SF K (tOp (rCatL K) ta tb) (dCatL a b) := by
  refine ⟨fun ρ P P' h q => sa.mono _ _ _ (fun _ x q => sb.mono _ _ _ (fun _ y ⟨es, fs, e1, e2, z, q⟩ => ⟨es, fs, e1, e2, z, h _ _ q⟩) q) q, fun F σ H ρ vs ds Q R q => ?_⟩
  refine sa.run F σ H ρ vs ds _ R (sa.mono _ _ _ (fun r1 x q1 v H1 R1 => ?_) q)
  refine sb.run F σ H1 r1 _ _ _ R1 (sb.mono _ _ _ (fun r2 y q2 u H2 R2 => ?_) q1)
  obtain ⟨es, fs, e1, e2, z, q3⟩ := q2
  subst e1 e2
  obtain ⟨Hi, own, R5⟩ := R2
  have t := R5.tmp
  cases t with
  | cons t2 t =>
    cases t with
    | cons t1 t =>
      cases t1 with
      | lst w1 g1 =>
        cases t2 with
        | lst w2 g2 =>
          have g3 := dpAll_app g1 g2
          exact ⟨_, _, _, _, rfl, rfl, R5.sub.seq w1, R5.sub.seq w2, by rw [dpAll_len g1, dpAll_len g2]; exact z, fun p hp => q3 _ _ p (dpAll_len g3) ⟨Hi, own, R5.tmpTo (dpAll_app g3 t)⟩ hp⟩
end
end LD

/-! LD8: chains of comparisons, keywords, + of tuples, returns of a new source; short words for a whole def. -/
namespace LD
open PySem PySem.Spec L2
section
variable {K : PySem.W.Frag} {ta tb tc te : TE} {a b c e : TD}
def dChain (o o' : OD) (a b c : TD) : TD := fun ρ P => a ρ fun r1 x => b r1 fun r2 y => o x y fun z => ∃ k, z = .bool k ∧ if k = true then c r2 (fun r3 w => o' y w (P r3)) else P r2 (.bool false)
theorem se_chain {r r' : R2} {o o' : OD} (so : SO K r o) (so' : SO K r' o') (sa : SE K ta a) (sb : SE K tb b) (sc : SE K tc c) : SE K (tChain r r' ta tb tc) (dChain o o' a b c) := by
  refine ⟨fun ρ P P' h q => sa.mono _ _ _ (fun _ x q => sb.mono _ _ _ (fun _ y q => so.mono _ _ _ _ (fun z q => ?_) q) q) q, fun F σ H ρ vs ds Q R q => ?_⟩
  · obtain ⟨k, e, q⟩ := q
    refine ⟨k, e, ?_⟩
    cases k with
    | true => exact sc.mono _ _ _ (fun _ w q => so'.mono _ _ _ _ (h _) q) q
    | false => exact h _ _ q
  · refine sa.run F σ H ρ vs ds _ R (sa.mono _ _ _ (fun r1 x q v H1 R1 => ?_) q)
    refine sb.run F σ H1 r1 _ _ _ R1 (sb.mono _ _ _ (fun r2 y q u H2 R2 => ?_) q)
    refine so.run F σ H2 r2 (u :: vs) (y :: ds) v u x y _ (R2.swap fun _ h => ?_) (so.mono _ _ _ _ (fun z q w H3 R3 => ?_) q)
    · cases h with
      | cons h1 h => cases h with | cons h2 h => exact .cons h1 (.cons h2 (.cons h1 h))
    · obtain ⟨k, e, q⟩ := q
      subst e
      refine ⟨k, R3.bl, ?_⟩
      cases k with
      | true =>
        refine sc.run F σ H3 r2 _ _ _ R3.drop (sc.mono _ _ _ (fun r3 w q w' H4 R4 => ?_) q)
        exact so'.run F σ H4 r3 vs ds u w' y w Q R4 q
      | false => exact q _ _ (R3.drop.drop.push (v := .bl false) rfl)
/-- + of tuples -/
def oCatT : OD := fun a b P => ∃ es fs, a = .tuple es ∧ b = .tuple fs ∧ es.length + fs.length ≤ sizeLine ∧ P (.tuple (es ++ fs))
theorem so_catT : SO K (rCatA K) oCatT := by
  refine ⟨fun a b P P' h ⟨es, fs, e1, e2, z, q⟩ => ⟨es, fs, e1, e2, z, h _ q⟩, fun F σ H ρ vs ds x y a b Q R q => ?_⟩
  obtain ⟨es, fs, e1, e2, z, q⟩ := q
  subst e1 e2
  obtain ⟨Hi, own, R5⟩ := R
  have t := R5.tmp
  cases t with
  | cons t2 t =>
    cases t with
    | cons t1 t =>
      cases t1 with
      | tup w1 g1 =>
        cases t2 with
        | tup w2 g2 =>
          have g3 := dpAll_app g1 g2
          have l1 := dpAll_len g1
          have l2 := dpAll_len g2
          refine ⟨_, _, _, _, rfl, rfl, sqT_mono R5.sub w1, sqT_mono R5.sub w2, by rw [l1, l2]; exact z, fun h => ?_, fun _ h => ?_, fun _ _ p hp => ?_⟩
          · rw [h] at l1
            have e : es = [] := List.length_eq_zero_iff.mp l1.symm
            subst e
            exact q _ _ ⟨Hi, own, R5.tmpTo (.cons (.tup w2 g2) t)⟩
          · rw [h] at l2
            have e : fs = [] := List.length_eq_zero_iff.mp l2.symm
            subst e
            rw [List.append_nil] at q
            exact q _ _ ⟨Hi, own, R5.tmpTo (.cons (.tup w1 g1) t)⟩
          · exact q _ _ (Rel.tup ⟨Hi, own, R5.tmpTo (dpAll_app g3 t)⟩ (dpAll_len g3) hp)
/-! keywords -/
def ordP {α : Type} (n m : Nat) (o : List Nat) (xs zs : List α) : List α := if xs.length = n ∧ zs.length = m then o.filterMap fun i => (xs ++ zs)[i]? else []
theorem dpAll_pick {H : Hp} {es : List D} {xs : List V} (h : DpAll K H xs es) : ∀ o : List Nat, DpAll K H (o.filterMap fun i => xs[i]?) (o.filterMap fun i => es[i]?)
  | [] => .nil
  | i :: o => by
    have hl := dpAll_len h
    cases he : es[i]? with
    | none =>
      have hx : xs[i]? = none := by
        have := List.getElem?_eq_none_iff.mp he
        exact List.getElem?_eq_none_iff.mpr (by omega)
      rw [List.filterMap_cons_none hx, List.filterMap_cons_none he]
      exact dpAll_pick h o
    | some d =>
      obtain ⟨v, hv, q⟩ := dpAll_at h he
      rw [List.filterMap_cons_some hv, List.filterMap_cons_some he]
      exact .cons q (dpAll_pick h o)
theorem vals_pick {xs : List V} {us : List Value} (h : Vals xs us) : ∀ o : List Nat, Vals (o.filterMap fun i => xs[i]?) (o.filterMap fun i => us[i]?)
  | [] => .nil
  | i :: o => by
    cases he : xs[i]? with
    | none =>
      rw [List.filterMap_cons_none he, List.filterMap_cons_none (h.none_of he)]
      exact vals_pick h o
    | some d =>
      obtain ⟨v, hv, q⟩ := h.get he
      rw [List.filterMap_cons_some he, List.filterMap_cons_some hv]
      exact .cons q (vals_pick h o)
theorem dpAll_ord {H : Hp} {es fs : List D} {xs zs : List V} (h : DpAll K H xs es) (k : DpAll K H zs fs) (n m : Nat) (o : List Nat) : DpAll K H (ordP n m o xs zs) (ordP n m o es fs) := by
  unfold ordP
  rw [dpAll_len h, dpAll_len k]
  split
  · exact dpAll_pick (dpAll_app h k) o
  · exact .nil
theorem vals_ord {xs zs : List V} {us ws : List Value} (h : Vals xs us) (k : Vals zs ws) (n m : Nat) (o : List Nat) : Vals (ordP n m o xs zs) (ordP n m o us ws) := by
  unfold ordP
  rw [h.length, k.length]
  split
  · exact vals_pick (h.append k) o
  · exact .nil
/-- how a call with n arguments by place and the keywords ks binds -/
theorem kb_mk {x qual : Str} {st : Stmt} {f : Addr} {fd : FuncData} {ps ks : List Str} {n m : Nat} {o : List Nat} (F : Fun K x qual st f fd) (hp : ps ≠ [])
    (h : ∀ (kV doc pm : Value) (an : Option Addr) (cdv ct : Value) (us ws : List Value), us.length = n → ws.length = m → bindArgs (PySem.W.fnOf x qual (defArgs st) (defBody st) (defScope st) .none kV doc pm an cdv ct) ⟨us, ks.zip ws⟩ = pure (ps.zip (ordP n m o us ws))) : KBinds K fd ps ks (ordP n m o) (ordP n m o) := by
  obtain ⟨oc, od, kV, doc, pm, an, cdv, ct, osl, rfl, lk, hcd⟩ := F.ex
  refine ⟨fun s us ws hK hl => .of_eq (h _ _ _ _ _ _ us ws ?_ ?_), fun r k => vals_ord r k n m o⟩
  all_goals
    by_cases hc : us.length = n ∧ ws.length = m
    · first | exact hc.1 | exact hc.2
    · unfold ordP at hl
      rw [if_neg hc] at hl
      exact absurd (List.length_eq_zero_iff.mp hl.symm) hp
def dCallK (n m : Nat) (o : List Nat) (g : CD) (t tk : TDA) : TD := fun ρ P => t ρ fun r es => tk r fun r2 fs => g (ordP n m o es fs) (P r2)
theorem se_callK {n m : Nat} {o : List Nat} {g : CD} {ta tk : TA} {t u : TDA} {E : XK} (hg : ∀ es P P', (∀ d, P d → P' d) → g es P → g es P') (s : SA K ta t) (s' : SA K tk u) : SE K (tCallK (spD K g) (ordP n m o) E ta tk) (dCallK n m o g t u) := by
  refine ⟨fun ρ P P' h q => s.mono _ _ _ (fun _ es q => s'.mono _ _ _ (fun _ fs q => hg _ _ _ (h _) q) q) q, fun F σ H ρ vs ds Q R q => s.run F σ H ρ vs ds _ R (s.mono _ _ _ (fun r es q xs H1 e R1 => ?_) q)⟩
  refine s'.run F σ H1 r _ _ _ R1 (s'.mono _ _ _ (fun r2 fs q zs H2 e2 R2 => ?_) q)
  obtain ⟨Hi, own, R3⟩ := R2
  obtain ⟨t1, t2⟩ := dpAll_split e2 R3.tmp
  obtain ⟨t3, t4⟩ := dpAll_split e t2
  exact ⟨Hi, ordP n m o es fs, R3.sub, dpAll_ord t3 t1 n m o, hg _ _ _ (fun d q v H' Hi' h1 h2 h3 h4 h5 => q v H' ⟨Hi', own, R3.after h1 h2 h3 h4 (.cons h5 (dpAll_mono h1 _ _ t4))⟩) q⟩
/-! return [great numbers, a mixed number] -/
def dRetM (t : TDA) (e : TD) : TDS := fun dn ρ => t ρ fun r es => e r fun r2 d => ∃ ns b, es = ns.map PyData.int ∧ d = .int b ∧ DealOk ns b ∧ dn.rm r2
theorem ss_retM {tf : TE} {t : TDA} (sf : SF K tf t) (se : SE K te e) : SS K (tRet (tLst (tCons tf (tCons te tNil)))) (dRetM t e) := by
  refine ⟨fun a b ρ h q => sf.mono _ _ _ (fun _ es q => se.mono _ _ _ (fun _ d ⟨ns, k, e1, e2, ok, q⟩ => ⟨ns, k, e1, e2, ok, h.rm _ q⟩) q) q, fun F σ H ρ vs ds E dn G R q => ?_⟩
  refine sf.run F σ H ρ vs ds _ R (sf.mono _ _ _ (fun r es q xs H1 p el R1 hp => ?_) q)
  have f0 := R1.pinFree hp
  refine se.run (F.mk1 p (.lst xs)) σ _ r _ _ _ (R1.pinNew hp) (se.mono _ _ _ (fun r2 d q4 v H2 R2 => ?_) q)
  obtain ⟨ns, b, e1, e2, ok, q5⟩ := q4
  subst e1 e2
  obtain rfl := R2.int
  refine ⟨by show 2 ≤ sizeLine; decide, fun p2 hp2 => ?_⟩
  obtain ⟨u1, u2, u3⟩ := R2.unpin f0.1 f0.2
  have ex : xs = ns.map V.int := ints_of (K := K) ns xs (dpAll_split el u3.drop.dpAll).1
  have n2 : p2 ≠ p := fun z => by rw [z, R2.pinAt] at hp2; cases hp2
  have h3 : (hide H2 p) p2 = none := by unfold hide; rw [if_neg n2]; exact hp2
  rw [u2, ex]
  exact G.rm _ _ _ p2 p ns b (u3.drop.dropN el) n2 h3 u1 ok q5
/-- the entry of a def that makes a source -/
theorem run_M {N : List Str} {ts : TS} {t : TDS} {Hi H : Hp} {vs : List V} {ds : List D} {Q : VK} (s : SS K ts t) (h1 : Same Hi H) (h2 : DpAll K Hi vs ds)
    (hq : ∀ a l ns b H', a ≠ l → H' a = none → H' l = none → Same H H' → DealOk ns b → Q (.ref a) (upd (upd H' l (.lst (ns.map V.int))) a (.lst [.ref l, .int b])))
    (ht : t { nx := fun _ => False, rt := fun _ _ => False, rm := fun _ => True } (rho0 ds (N.length - ds.length))) : ts { nx := fun _ H' => Q .non H', rt := Q } (L2.start N vs) H := by
  have el := dpAll_len h2
  refine s.run ⟨Hi, H, [], []⟩ (L2.start N vs) H (rho0 ds (N.length - ds.length)) [] [] { nx := fun _ H' => Q .non H', rt := Q } { nx := fun _ => False, rt := fun _ _ => False, rm := fun _ => True } ⟨fun _ _ _ _ z => z.elim, fun _ _ _ _ _ _ z => z.elim, fun _ _ _ _ z => z.elim, fun _ _ _ _ z => z.elim, fun σ' H' ρ' a l ns b R n ha hl ok _ => ?_, fun _ _ _ _ _ _ _ z => z.elim⟩ ⟨Hi, fun _ => [], ?_⟩ ht
  · obtain ⟨Hi', own, R⟩ := R
    exact hq a l ns b H' n ha hl (fun b o e => R.keep b o e (by simp)) ok
  · refine ⟨Same.refl _, h1, fun b hb => .inl hb, fun b o e _ => e, fun b e => e, ?_, fun i x e => ?_, fun i a ha => (by cases ha), fun i a ha => (by cases ha), fun i a ha => (by cases ha), fun i j _ a ha => (by cases ha), fun i es e a ha => (by cases ha), fun z hz => (by cases hz), DpAll.nil⟩
    · unfold L2.start rho0
      rw [List.length_append, List.length_append, List.length_map, List.length_map, List.length_replicate, List.length_replicate, el]
    · unfold rho0 at e
      rcases start_sh (N := N) h2 e with z | ⟨d, v, z, e2, q⟩
      · rw [z]; trivial
      · rw [z]
        refine ⟨v, ?_, q⟩
        unfold L2.start
        rw [el, e2]
        rfl
end
/-! ### a whole def -/
section
variable {P : Program} {w : World} {K : PySem.W.Frag} {mg : Str → Option Value} {base : Heap}
theorem ok_D {x qual : Str} {st : Stmt} {f : Addr} {fd : FuncData} {N ps : List Str} {k : Nat} {g : CD} (F : Fun K x qual st f fd) (S : FnScope N ps (defScope st)) (hl : ∀ ds P, g ds P → ds.length = ps.length)
    (hbody : ∀ (cdv : Value) (A : Around) (outer : List Env) (s : Shared) (H : Hp) (E : XK), Room k (A.deeper (PyProof.Rows.envOfC qual (defScope st) s.heap.objs.size f cdv)) →
      ∃ ts t, PSs (cxOf CX0 P w K mg base N qual (defScope st) f cdv A outer s H E).nox (defBody st) ts ∧ SS K ts t ∧ ∀ ds Pd, g ds Pd → t { nx := fun _ => Pd .none, rt := fun _ d => Pd d } (rho0 ds (N.length - ds.length))) : FnOk P w K mg base CX0 (k + 1) f fd ps (spD K g) := by
  refine F.ok S (fun vs H Q E h => ?_) (fun cdv A outer s H vs Q E hr h => ?_)
  · obtain ⟨Hi, ds, _, h2, hg⟩ := h
    rw [dpAll_len h2]
    exact hl _ _ hg
  · obtain ⟨ts, t, h1, h2, h3⟩ := hbody cdv A outer s H E hr
    obtain ⟨Hi, ds, e1, e2, hg⟩ := h
    exact ⟨ts, h1, run_D h2 e1 e2 (fun d q => q) (h3 ds _ hg)⟩
theorem ok_W {x qual : Str} {st : Stmt} {f : Addr} {fd : FuncData} {N ps : List Str} {k : Nat} {g : CD} (F : Fun K x qual st f fd) (S : FnScope N ps (defScope st)) (hl : ∀ ds P, g ds P → 1 + ds.length = ps.length) (hN : ps.length ≤ N.length)
    (hbody : ∀ (cdv : Value) (A : Around) (outer : List Env) (s : Shared) (H : Hp) (E : XK), Room k (A.deeper (PyProof.Rows.envOfC qual (defScope st) s.heap.objs.size f cdv)) →
      ∃ ts t, PSs (cxOf CX0 P w K mg base N qual (defScope st) f cdv A outer s H E).nox (defBody st) ts ∧ SS K ts t ∧ ∀ a l ds Pd, g ds Pd → t { nx := fun r => r[0]? = some (.dl a l) ∧ Pd .none, rt := fun r d => r[0]? = some (.dl a l) ∧ Pd d } (.dl a l :: rho0 ds (N.length - 1 - ds.length))) : FnOk P w K mg base CX0 (k + 1) f fd ps (spW K g) := by
  refine F.ok S (fun vs H Q E h => ?_) (fun cdv A outer s H vs Q E hr h => ?_)
  · obtain ⟨Hi, a, l, vs', ds, rfl, _, _, _, _, _, h2, hg⟩ := h
    rw [List.length_cons, dpAll_len h2, ← hl _ _ hg]
    omega
  · obtain ⟨ts, t, h1, h2, h3⟩ := hbody cdv A outer s H E hr
    obtain ⟨Hi, a, l, vs', ds, rfl, n, e1, ea, el, ed, e2, hg⟩ := h
    exact ⟨ts, h1, run_W h2 n e1 ea el ed e2 (fun d q => q) (by rw [hl _ _ hg]; exact hN) (h3 a l ds _ hg)⟩
theorem ok_M {x qual : Str} {st : Stmt} {f : Addr} {fd : FuncData} {N ps : List Str} {k : Nat} {g : List D → Prop} (F : Fun K x qual st f fd) (S : FnScope N ps (defScope st)) (hl : ∀ ds, g ds → ds.length = ps.length)
    (hbody : ∀ (cdv : Value) (A : Around) (outer : List Env) (s : Shared) (H : Hp) (E : XK), Room k (A.deeper (PyProof.Rows.envOfC qual (defScope st) s.heap.objs.size f cdv)) →
      ∃ ts t, PSs (cxOf CX0 P w K mg base N qual (defScope st) f cdv A outer s H E).nox (defBody st) ts ∧ SS K ts t ∧ ∀ ds, g ds → t { nx := fun _ => False, rt := fun _ _ => False, rm := fun _ => True } (rho0 ds (N.length - ds.length))) : FnOk P w K mg base CX0 (k + 1) f fd ps (spM K g) := by
  refine F.ok S (fun vs H Q E h => ?_) (fun cdv A outer s H vs Q E hr h => ?_)
  · obtain ⟨Hi, ds, _, h2, hg, _⟩ := h
    rw [dpAll_len h2]
    exact hl _ hg
  · obtain ⟨ts, t, h1, h2, h3⟩ := hbody cdv A outer s H E hr
    obtain ⟨Hi, ds, e1, e2, hg, hq⟩ := h
    exact ⟨ts, h1, run_M h2 e1 e2 hq (h3 ds hg)⟩
end
end LD

/-! LD9: defs by name, with keywords too. -/
namespace LD
open PySem PySem.Spec L2
theorem st_yes {K : PySem.W.Frag} : ST K tYes (fun ρ P => P ρ true) := ⟨fun ρ P P' h q => h _ _ q, fun F σ H ρ vs ds Q R q => q H R⟩
theorem bools_of {K : PySem.W.Frag} {H : Hp} : ∀ (ns : List Bool) (vs : List V), DpAll K H vs (ns.map PyData.bool) → vs = ns.map V.bl
  | [], _, h => by cases h; rfl
  | n :: ns, _, h => by
    cases h with
    | cons a b =>
      cases a
      rw [bools_of ns _ b]
      rfl
def cAll : CD := fun es P => ∃ bs : List Bool, es = [.list (bs.map PyData.bool)] ∧ P (.bool (bs.all id))
def cAny : CD := fun es P => ∃ bs : List Bool, es = [.list (bs.map PyData.bool)] ∧ P (.bool (bs.any id))
def cSum : CD := fun es P => ∃ ns : List Int, es = [.list (ns.map PyData.int)] ∧ P (.int ns.sum)
theorem sc_all {K : PySem.W.Frag} : SC K (rAll K) cAll := ⟨fun a P P' h ⟨bs, e, q⟩ => ⟨bs, e, h _ q⟩, fun F σ H ρ vs ds xs es Q e R ⟨bs, h, q⟩ => by
  subst h
  obtain ⟨x, r, rfl, e1⟩ := len_cons e
  obtain rfl := len_nil e1
  obtain ⟨p, ys, rfl, e2, s, R1⟩ := Rel.asList R
  have ey := bools_of (K := K) bs ys (dpAll_split e2 R1.dpAll).1
  subst ey
  exact ⟨p, bs, rfl, s, q _ _ (Rel.push (v := .bl (bs.all id)) (Rel.drop R) rfl)⟩⟩
theorem sc_any {K : PySem.W.Frag} : SC K (rAny K) cAny := ⟨fun a P P' h ⟨bs, e, q⟩ => ⟨bs, e, h _ q⟩, fun F σ H ρ vs ds xs es Q e R ⟨bs, h, q⟩ => by
  subst h
  obtain ⟨x, r, rfl, e1⟩ := len_cons e
  obtain rfl := len_nil e1
  obtain ⟨p, ys, rfl, e2, s, R1⟩ := Rel.asList R
  have ey := bools_of (K := K) bs ys (dpAll_split e2 R1.dpAll).1
  subst ey
  exact ⟨p, bs, rfl, s, q _ _ (Rel.push (v := .bl (bs.any id)) (Rel.drop R) rfl)⟩⟩
theorem sc_sum {K : PySem.W.Frag} : SC K (rSum K) cSum := ⟨fun a P P' h ⟨bs, e, q⟩ => ⟨bs, e, h _ q⟩, fun F σ H ρ vs ds xs es Q e R ⟨bs, h, q⟩ => by
  subst h
  obtain ⟨x, r, rfl, e1⟩ := len_cons e
  obtain rfl := len_nil e1
  obtain ⟨p, ys, rfl, e2, s, R1⟩ := Rel.asList R
  have ey := ints_of (K := K) bs ys (dpAll_split e2 R1.dpAll).1
  subst ey
  exact ⟨p, bs, rfl, s, q _ _ (Rel.push (v := .int bs.sum) (Rel.drop R) rfl)⟩⟩
structure CalK (P : Program) (w : World) (K : PySem.W.Frag) (mg : Str → Option Value) (base : Heap) (k : Nat) (x : Str) (ks : List Str) (n m : Nat) (o : List Nat) (sp : Sp) : Prop where
  ex : ∃ (f : Addr) (fd : FuncData) (ps : List Str), FnOk P w K mg base CX0 k f fd ps sp ∧ mg x = some (.ref f) ∧ PySem.W.keepIn K (.ref f) = true ∧ KBinds K fd ps ks (ordP n m o) (ordP n m o)
section
variable {X : Cx} {k j n m : Nat} {o : List Nat} {ks : List Str} {sp : Sp} {x : Str} {p pos : Pos} {e : Expr} {es : List Expr} {kws : List Keyword} {t tk : TA}
theorem pe_cK0 (c : CalK X.prog X.w X.K X.mg X.base k x ks n m o sp) (hr : Room j X.A) (hk : k ≤ j) (hg : Gl X x) (hkw : PK X kws tk)
    (hall : (backToKw pos (keywordEach kws X.env)).all (·.1.isSome) = true := by rfl) (hks : (backToKw pos (keywordEach kws X.env)).filterMap (·.1) = ks := by rfl) (hdb : (x == ("__debug__" : Str)) = false := by decide)
    (hpl : ((backTo pos (starEach [] X.env)).any (·.1) || (backToKw pos (keywordEach kws X.env)).any (·.1.isNone)) = false := by rfl) : PE X (.Call (.Name x p) [] kws pos) (tCallK sp (ordP n m o) E0 tNil tk) := by
  obtain ⟨f, fd, ps, F, hm, kp, b⟩ := c.ex
  exact pe_callK0 F (hr.mono hk) hg hm kp b pass0 hkw hall hks hdb hpl
end
section
variable {P : Program} {w : World} {K : PySem.W.Frag} {mg : Str → Option Value} {base : Heap} {k : Nat} {x : Str} {f : Addr} {fd : FuncData} {ps : List Str} {sp : Sp}
theorem cal_of (F : FnOk P w K mg base CX0 k f fd ps sp) (g : mg x = some (.ref f)) (kp : PySem.W.keepIn K (.ref f) = true) (b : Binds K fd ps []) : C8.Cal P w K mg base k x sp [] := ⟨⟨f, fd, ps, [], F, g, kp, b, .nil⟩⟩
theorem calK_of {ks : List Str} {n m : Nat} {o : List Nat} (F : FnOk P w K mg base CX0 k f fd ps sp) (g : mg x = some (.ref f)) (kp : PySem.W.keepIn K (.ref f) = true) (b : KBinds K fd ps ks (ordP n m o) (ordP n m o)) : CalK P w K mg base k x ks n m o sp := ⟨⟨f, fd, ps, F, g, kp, b⟩⟩
end
end LD

/-! LD10: comprehensions told as lists; small facts for readings. -/
namespace LD
open PySem PySem.Spec L2
/-- one statement after another, by what holds between them -/
def dSeqM (t u : TDS) : TDS := fun dn ρ => ∃ J : Rho → Prop, t { dn with nx := J } ρ ∧ ∀ r, J r → u dn r
theorem ss_consM {K : PySem.W.Frag} {ts us : TS} {t u : TDS} (s : SS K ts t) (s' : SS K us u) : SS K (tSeq ts us) (dSeqM t u) := ⟨fun a b ρ h ⟨J, q, q'⟩ => ⟨J, s.mono { a with nx := J } { b with nx := J } _ ⟨fun _ z => z, h.rt, h.bk, h.ct, h.rm, h.ro⟩ q, fun r z => s'.mono _ _ _ h (q' r z)⟩, fun F σ H ρ vs ds E dn G R ⟨J, q, q'⟩ =>
  s.run F σ H ρ vs ds { E with nx := us E } { dn with nx := J } ⟨fun σ H ρ R z => s'.run F σ H ρ vs ds E dn G R (q' ρ z), G.rt, G.bk, G.ct, G.rm, G.ro⟩ R q⟩
theorem compW_det {f : D → Rho → (Rho → Option D → Prop) → Prop} {js : List Nat} {ρ : Rho} (h : D → Option D) : ∀ {items acc : List D} {P : KL}, (∀ d ∈ items, ∀ k : Rho → Option D → Prop, (∀ r, wipeR r js = ρ → k r (h d)) → f d ρ k) → P ρ (acc ++ items.filterMap h) → compW f js items ρ acc P
  | [], acc, P, _, q => by
    rw [List.filterMap_nil, List.append_nil] at q
    exact q
  | d :: r, acc, P, hf, q => by
    unfold compW
    refine hf d List.mem_cons_self _ fun r1 e => ?_
    cases hd : h d with
    | none =>
      rw [List.filterMap_cons_none hd] at q
      show compW f js r (wipeR r1 js) acc P
      rw [e]
      exact compW_det h (fun d hd => hf d (List.mem_cons_of_mem _ hd)) q
    | some y =>
      rw [List.filterMap_cons_some hd] at q
      show compW f js r (wipeR r1 js) (acc ++ [y]) P
      rw [e]
      refine compW_det h (fun d hd => hf d (List.mem_cons_of_mem _ hd)) ?_
      rw [List.append_assoc]
      exact q
theorem compW_any {f : D → Rho → (Rho → Option D → Prop) → Prop} {js : List Nat} {ρ : Rho} (Pr : D → Prop) : ∀ {items acc : List D} {P : KL}, (∀ d ∈ items, ∀ k : Rho → Option D → Prop, (∀ r y, wipeR r js = ρ → Pr y → k r (some y)) → f d ρ k) → (∀ y ∈ acc, Pr y) →
    (∀ ys : List D, ys.length = acc.length + items.length → (∀ y ∈ ys, Pr y) → P ρ ys) → compW f js items ρ acc P
  | [], acc, P, _, ha, q => q acc rfl ha
  | d :: r, acc, P, hf, ha, q => by
    unfold compW
    refine hf d List.mem_cons_self _ fun r1 y e hy => ?_
    show compW f js r (wipeR r1 js) (acc ++ [y]) P
    rw [e]
    refine compW_any Pr (fun d hd => hf d (List.mem_cons_of_mem _ hd)) (fun z hz => ?_) fun ys hl hy => q ys ?_ hy
    · rcases List.mem_append.mp hz with hz | hz
      · exact ha z hz
      · have : z = y := by simpa using hz
        rw [this]; exact hy
    · rw [hl, List.length_append, List.length_cons]
      show acc.length + 1 + r.length = acc.length + (r.length + 1)
      omega
theorem isi_of {K : PySem.W.Frag} {n : String} {f : String → Bool} (h : ∀ s ∈ ["NoneType", "bool", "int", "str", "list", "tuple", "dict"], kitB s n = some (f s)) : IsiD K n fun d => f (typD d) := ⟨fun d => kit_ty (h _ (by cases d <;> simp [typD]))⟩
def oInt (F : Int → Option D) : D → Option D
  | .int k => F k
  | _ => none
theorem fm_oInt (F : Int → Option D) : ∀ ns : List Int, (ns.map PyData.int).filterMap (oInt F) = ns.filterMap F
  | [] => rfl
  | x :: xs => by
    rw [List.map_cons]
    cases h : F x with
    | none => rw [List.filterMap_cons_none (show oInt F (.int x) = none from h), List.filterMap_cons_none h, fm_oInt F xs]
    | some y => rw [List.filterMap_cons_some (show oInt F (.int x) = some y from h), List.filterMap_cons_some h, fm_oInt F xs]
theorem fm_some (g : Int → Int) : ∀ ns : List Int, ns.filterMap (fun k => some (PyData.int (g k))) = (ns.map g).map PyData.int
  | [] => rfl
  | x :: xs => by
    rw [List.map_cons, List.map_cons, ← fm_some g xs]
    exact List.filterMap_cons_some (f := fun k => some (PyData.int (g k))) rfl
theorem fm_if (p : Int → Bool) : ∀ ns : List Int, ns.filterMap (fun k => if p k = true then some (PyData.int k) else none) = (ns.filter p).map PyData.int
  | [] => rfl
  | x :: xs => by
    cases h : p x with
    | true => rw [List.filter_cons_of_pos h, List.map_cons, ← fm_if p xs, List.filterMap_cons_some (b := PyData.int x) (by rw [if_pos h])]
    | false => rw [List.filter_cons_of_neg (by rw [h]; decide), ← fm_if p xs, List.filterMap_cons_none (by rw [if_neg (by rw [h]; decide)])]
theorem mem_int {ns : List Int} {d : D} (h : d ∈ ns.map PyData.int) : ∃ n, d = .int n ∧ n ∈ ns := by
  obtain ⟨n, hn, rfl⟩ := List.mem_map.mp h
  exact ⟨n, rfl, hn⟩
theorem ifT {c : Bool} {A B : Prop} (h : c = true) (x : A) : if c = true then A else B := by
  rw [if_pos h]
  exact x
theorem ifF {c : Bool} {A B : Prop} (h : c = false) (x : B) : if c = true then A else B := by
  rw [h]
  exact iteF x
theorem sh_int (i : Int) : SeqAt.shaped (.int i) = true := rfl
theorem eqv_int (i j : Int) : PyData.eqv (.int i) (.int j) = decide (i = j) := by
  simp only [PyData.eqv]
  by_cases h : i = j
  · rw [h]; simp
  · simp [h]
theorem mem_rngD {lo : Int} {n : Nat} {d : D} (h : d ∈ rngD lo n) : ∃ k : Int, d = .int k ∧ lo ≤ k ∧ k < lo + n := by
  unfold rngD at h
  obtain ⟨k, hk, rfl⟩ := List.mem_map.mp h
  have := List.mem_range.mp hk
  exact ⟨_, rfl, by omega, by omega⟩
theorem rngD_len (lo : Int) (n : Nat) : (rngD lo n).length = n := by unfold rngD; rw [List.length_map, List.length_range]
theorem rngD_at {lo : Int} {n i : Nat} {d : D} (h : (rngD lo n)[i]? = some d) : d = .int (lo + i) ∧ i < n := by
  unfold rngD at h
  rw [List.getElem?_map] at h
  have hi : i < n := by
    cases e : (List.range n)[i]? with
    | none => rw [e] at h; cases h
    | some k => have := (List.getElem?_eq_some_iff.mp e).1; rwa [List.length_range] at this
  rw [List.getElem?_range hi] at h
  cases h
  exact ⟨rfl, hi⟩
end LD

/-! LD11: enumerate of a tuple; min, sorted over data; sum of a tuple. -/
namespace LD
open PySem PySem.Spec L2
/-! ### enumerate of what begins -/
set_option maxHeartbeats 1000000 in
theorem newEnum1 {v : Value} {o : Obj} {W : Heap → Prop} (B : Begins v o W) : Meets (Builtin.«enumerate.__new__» ⟨[.type "enumerate", v], []⟩) fun _ R s => W s.heap ∧
      R (.ok (.ret (.ref (s.heap.push o).objs.size))) { s with heap := (s.heap.push o).push { cls := .type "enumerate", data := .fields #[.none, .bool false, .ref s.heap.objs.size, rawInt 0, .none, .none] } } :=
  .of_wp fun prog w A R s h => by
    obtain ⟨hp, g, d, tk, os⟩ := s
    obtain ⟨h1, h⟩ := h
    have hsub := sub_enumerate
    have go : ∀ {A' : Around} {E Q : Value → Shared → Prop}, Q (.ref hp.objs.size) ⟨hp.push o, g, d, tk, os⟩ → wpAny (model prog w) A' (pyIter v) Q E ⟨hp, g, d, tk, os⟩ := fun q => B.iter prog w _ _ ⟨hp, g, d, tk, os⟩ _ h1 q
    wp_walk using go
    refine wpAny_stack_any fun st => wpAny_pure ?_
    split
    · rename_i c _ _ _ _ _
      cases (c == Value.type "enumerate") <;> (wp_walk using go; exact ⟨_, rfl, h⟩)
    · wp_walk using go
      exact ⟨_, rfl, h⟩
section
variable {prog : Program} {w : World} {A : Around} {E : Value → Shared → Prop} {s : Shared}
theorem enum1 {v : Value} {o : Obj} {W : Heap → Prop} {Q : Value → Shared → Prop} (B : Begins v o W) (h1 : W s.heap)
    (h : ∀ h', IsEnum h' (s.heap.objs.size + 1) s.heap.objs.size 0 .none → h'.get? s.heap.objs.size = some o → (∀ b x, s.heap.get? b = some x → h'.get? b = some x) → Q (.ref (s.heap.objs.size + 1)) { s with heap := h' }) :
    wpAny (model prog w) A (call (.type "enumerate") [v]) Q E s := by
  refine callType_new F.called_enumerate (by decide) (F.typeCall_enumerate_1 _) (F.newCall_enumerate_1 _) (fun x => F.args_object_init_2 x _) F.entry_enumerate_new (newEnum1 B) ⟨h1, ?_⟩
  have hz : (s.heap.push o).objs.size = s.heap.objs.size + 1 := Heap.size_push ..
  show _ ∧ _
  rw [hz]
  have he : IsEnum ((s.heap.push o).push { cls := .type "enumerate", data := .fields #[.none, .bool false, .ref s.heap.objs.size, rawInt 0, .none, .none] }) (s.heap.objs.size + 1) s.heap.objs.size 0 .none := by
    have e := Heap.get?_push_size (s.heap.push o) (o := { cls := .type "enumerate", data := .fields #[.none, .bool false, .ref s.heap.objs.size, rawInt 0, .none, .none] }) rfl
    rw [hz] at e
    exact e
  exact ⟨⟨_, he, rfl⟩, h _ he (Heap.get?_push_of_some _ (Heap.get?_push_size _ B.free)) fun b x e => Heap.get?_push_of_some _ (Heap.get?_push_of_some _ e)⟩
end
/-- the tuple at a, each item in a new pair with its number -/
def ItN (K : PySem.W.Frag) (a : Addr) : It where
  go i H := ∃ xs x, SqT K H a xs ∧ xs[i]? = some x
  yld i H v H' := ∃ T x, v = .ref T ∧ H T = none ∧ H' = upd H T (.tup [.int (i : Nat), x]) ∧ ∀ xs, SqT K H a xs → xs[i]? = some x
  stop i H := ∃ xs, SqT K H a xs ∧ xs.length ≤ i
theorem turn_numT {P : Program} {w : World} {K : PySem.W.Frag} {es : List Expr} {j : Nat} {tp : Pos} (a e it : Addr) :
    Turn P w K (.Tuple es j tp) (ItN K a) [e, it] e fun i h => (∃ old, IsEnum h e it ((i : Nat) : Int) old) ∧ h.IsTupleIter it a i ∧ e ≠ it ∧ a ≠ it ∧ a ≠ e where
  mem := by simp
  obj i h st b hb := by
    obtain ⟨⟨old, he⟩, ⟨o, ho, hc, hd⟩, _⟩ := st
    rcases (by simpa using hb : b = e ∨ b = it) with z | z
    · exact z ▸ ⟨_, he, fun v q => nomatch q⟩
    · exact z ▸ ⟨o, ho, fun v q => by rw [hd] at q; cases q⟩
  keep i h h' st k := by
    obtain ⟨⟨old, he⟩, hi, n⟩ := st
    exact ⟨⟨old, k e (by simp) _ he⟩, hi.at fun o q => k it (by simp) o q, n⟩
  item := by
    intro X hP hw hK hc i pins s σ H E I hf st hg
    subst hP hw hK
    obtain ⟨⟨old, he⟩, hit, hne, n1, n2⟩ := st
    obtain ⟨xs, x, hq, hx⟩ := hg
    obtain ⟨its, rv, p, hz⟩ := I.tuple hq
    obtain ⟨u, hu, ru⟩ := rv.get hx
    have p' : s.heap.IsTuple a its.toArray := p
    have hel : e < s.heap.objs.size := Heap.lt_size he
    have hil : it < s.heap.objs.size := by
      obtain ⟨_, q, _⟩ := hit
      exact Heap.lt_size q
    have li : i < its.toArray.size := by
      have := (List.getElem?_eq_some_iff.mp hu).1
      rw [List.size_toArray]
      exact this
    refine wpAny_pyNext_enum_itemD (Draws.tuple (A := X.A.in1) (I.ok.hd hc) it a n1 its.toArray) he ⟨hit, p'⟩ li hne (by simp [hne, Ne.symm n2]) fun y h' tk hy ho hit' hT hsz hk => ?_
    have ey : y = u := by
      have h2 : its[i]? = some y := by simpa using hy
      rw [hu] at h2
      exact (Option.some.inj h2).symm
    subst ey
    refine ⟨_, rfl, wpAny_letOwnedTupleGo_enum (s := { s with heap := h', toks := tk + 1 }) ho fun h2 he' sb => ?_⟩
    have hT2 : h2.get? s.heap.objs.size = some { cls := .type "tuple", data := .seq #[.int i tk, y] } := (sb.2 _ (Nat.ne_of_gt hel)).trans hT
    have new : ObjOk X.prog X.w (upd H s.heap.objs.size (.tup [.int (i : Nat), x])) h2 s.heap.objs.size (.tup [.int (i : Nat), x]) :=
      ⟨by show 2 ≤ sizeLine; decide, [.int i tk, y], .cons ⟨_, rfl⟩ (.cons ru .nil), ⟨_, hT2, rfl, _, rfl⟩⟩
    have I1 : Inv X pins σ (upd H s.heap.objs.size (.tup [.int (i : Nat), x])) { s with heap := h2, toks := tk + 1 } :=
      I.turnedNew (ch := [e, it]) (fun b o hb q => (sb.2 b fun z => hb (by simp [z])).trans (hk b o (fun z => hb (by simp [z])) (fun z => hb (by simp [z])) q)) hf (Nat.le_refl _) new
    refine ⟨.ref s.heap.objs.size, _, I1, rfl, ⟨_, x, rfl, I.hok.fresh (Nat.le_refl _), rfl, fun ys hy => by rw [I.tuple_inj hy hq]; exact hx⟩, ⟨⟨y, ?_⟩, hit'.1.at fun o q => (sb.2 it (Ne.symm hne)).trans q, hne, n1, n2⟩, fun b hb => ?_⟩
    · rw [show ((i + 1 : Nat) : Int) = (i : Int) + 1 by omega]
      exact he'
    · have hb' : b < s.heap.objs.size := by
        rcases (by simpa using hb : b = e ∨ b = it) with z | z
        · exact z ▸ hel
        · exact z ▸ hil
      rw [upd_ne (Nat.ne_of_lt hb')]
      exact (hf b hb).1
  done := by
    intro X hP hw hK hc i pins s σ H E I hf st hg
    subst hP hw hK
    obtain ⟨⟨old, he⟩, hit, hne, n1, n2⟩ := st
    obtain ⟨xs, hq, hx⟩ := hg
    obtain ⟨its, rv, p, hz⟩ := I.tuple hq
    have p' : s.heap.IsTuple a its.toArray := p
    obtain ⟨f0, f1, f2, f3, f4, f5⟩ := hf it (by simp)
    have hl := rv.length
    have T : s.TypeIs (.ref e) "enumerate" := ⟨_, he, rfl⟩
    unfold pyNext
    refine wpAny_bind (wpAny_attempt (wpAny_callSpecial?_slot (name := Str.ofString "__next__") T F.slot_enumerate_next (wpAny_call_entry F.slot_enumerate_next T F.entry_enumerate_next ?_ (F.args_enumerate_next_1 _))))
    show wpAny _ _ (field (.ref e) 2 >>= _) _ _ _
    refine wpAny_bind (wpAny_field he rfl (x := .ref it) rfl ?_)
    refine wpAny_bind (wpAny_nextOf_tuple_end (I.ok.hd hc) hit p' (by simp; omega) fun h' x eb hx' => ?_)
    obtain ⟨o, ho, hcl⟩ := hx'
    refine wpAny_bind (wpAny_isInstance (T := "StopIteration") (b := true) ⟨o, ho, hcl⟩ isSubtype_stop (wpAny_pure ⟨rfl, ?_⟩))
    exact I.turned (t' := s.toks) (fun b o hb q => eb b o hb q) f0 f1 f3 f4 f5
  self A i s Q E st h := by
    obtain ⟨⟨_, he⟩, _⟩ := st
    exact wpAny_pyIter_enum he h
def iNumT (K : PySem.W.Frag) (ta : TA) : TI := fun σ H R => ta σ H fun vs H1 => ∃ a xs, vs = [.ref a] ∧ SqT K H1 a xs ∧ R (ItN K a) H1
theorem pi_numT {X : Cx} {e : Expr} {ta : TA} {p pos tp : Pos} {es : List Expr} {j : Nat} (hg : Gl X "enumerate") (hm : X.mg "enumerate" = none) (ha : PA X [e] ta) (hs : starEach [e] X.env = [(false, eval e X.env)] := by rfl) :
    PI X (.Tuple es j tp) (.Call (.Name "enumerate" p) [e] [] pos) (iNumT X.K ta) := by
  refine ⟨fun pins s σ H R I h => PyProof.Rows.Call_ (ld_blt I hg hm PyProof.Rows.boot_enumerate (PyProof.Rows.callWith_type1 (thn (ha.run pos pins s σ H _ I h) fun us s1 ⟨vs, H1, I1, r1, q1⟩ => ?_) hs rfl))⟩
  obtain ⟨a, xs, ex, hq, q⟩ := q1
  subst ex
  obtain ⟨u, rfl, ru⟩ := vals1 r1
  obtain rfl : u = Value.ref a := ru
  obtain ⟨its, rv, p', hz⟩ := I1.tuple hq
  have p2 : s1.heap.IsTuple a its.toArray := p'
  have la : a < s1.heap.objs.size := by
    obtain ⟨_, q, _⟩ := p2
    exact Heap.lt_size q
  refine enum1 (begins_tuple a its.toArray) p2 fun h' he hit hk => wpAny_pyIter_enum he ?_
  have I2 : Inv X pins σ H1 { s1 with heap := h' } := I1.kept (t' := s1.toks) hk
  refine ⟨s1.heap.objs.size + 1, [s1.heap.objs.size + 1, s1.heap.objs.size], _, _, H1, rfl, I2, turn_numT a (s1.heap.objs.size + 1) s1.heap.objs.size, ⟨⟨.none, he⟩, ⟨_, hit, rfl, rfl⟩, Nat.succ_ne_self _, Nat.ne_of_lt la, Nat.ne_of_lt (Nat.lt_succ_of_lt la)⟩, fun b hb => ?_, q⟩
  have hle : s1.heap.objs.size ≤ b := by
    rcases (by simpa using hb : b = s1.heap.objs.size + 1 ∨ b = s1.heap.objs.size) with z | z
    · rw [z]; exact Nat.le_add_right _ _
    · rw [z]; exact Nat.le_refl _
  exact I1.fpOk hle (I1.hok.fresh hle)

/-! ### min of a list of data that can be compared -/
def rMinD (K : PySem.W.Frag) : List V → Hp → VK → Prop := fun vs H Q => ∃ (a : Addr) (xs : List V) (d : D) (ds : List D), vs = [.ref a] ∧ SqL K H a xs ∧ DpAll K H xs (d :: ds) ∧ PySem.W.AlikeAll (d :: ds) ∧ PyData.depthAll (d :: ds) ≤ 50 ∧
  ∀ (i : Nat) (v : V), xs[i]? = some v → (d :: ds)[i]? = some (PySem.W.minD d ds) → Q v H
def rMaxD (K : PySem.W.Frag) : List V → Hp → VK → Prop := fun vs H Q => ∃ (a : Addr) (xs : List V) (d : D) (ds : List D), vs = [.ref a] ∧ SqL K H a xs ∧ DpAll K H xs (d :: ds) ∧ PySem.W.AlikeAll (d :: ds) ∧ PyData.depthAll (d :: ds) ≤ 50 ∧
  ∀ (i : Nat) (v : V), xs[i]? = some v → (d :: ds)[i]? = some (PySem.W.maxD d ds) → Q v H
theorem getD_some {α : Type} {xs : List α} {i : Nat} {x z : α} (hi : i < xs.length) (e : xs.getD i x = z) : xs[i]? = some z := by
  rw [List.getD_eq_getElem?_getD, List.getElem?_eq_getElem hi] at e
  rw [List.getElem?_eq_getElem hi]
  exact congrArg some e
theorem vals_back {xs : List V} {us : List Value} {i : Nat} {u : Value} (r : Vals xs us) (h : us[i]? = some u) : ∃ x, xs[i]? = some x ∧ RelV x u := by
  have hi : i < xs.length := by
    rw [r.length]
    exact (List.getElem?_eq_some_iff.mp h).1
  obtain ⟨u', e, q⟩ := r.get (List.getElem?_eq_getElem hi)
  rw [h] at e
  cases e
  exact ⟨_, List.getElem?_eq_getElem hi, q⟩
theorem cr_minD {X : Cx} (hc : X.calm = true) (hu : X.A.units + 64 < cLine) : CallR X (.builtin "min") (rMinD X.K) := by
  intro pins s σ H vs us Q I r h
  obtain ⟨a, xs, d, ds, rfl, hs, hd, ha, hz, q⟩ := h
  obtain ⟨its, rv, hl, _⟩ := I.list hs
  rw [Vals.ref1 r]
  obtain ⟨as, hr⟩ := Dp.readsAll I _ xs its hd rv
  have hn : its.length = ds.length + 1 := by rw [← rv.length, dpAll_len hd]; rfl
  have hr' : ReadsAll s.heap its.toArray.toList (d :: ds) as := hr
  refine PySem.call_min_walkH (PySem.W.iter_listW (A := X.A.in1) (I.ok.hd hc) hl.isList fun s₂ e W st hfp hw hk => ?_)
  refine ⟨_, _, _, _, _, _, _, s.heap, _, rfl, W, st, hfp, by rw [List.size_toArray]; omega, hw, hk, PySem.W.cmpIn_lt (A := X.A.in1) hr' ha (by show X.A.units + 1 + _ < _; omega), fun v s' hP m => ?_⟩
  obtain ⟨h', tk, rfl, hk'⟩ := PySem.W.moved_old e rfl m
  have e1 : its.toArray.size - 1 = ds.length := by rw [List.size_toArray]; omega
  obtain ⟨e3, e2⟩ := PySem.W.argBest_fold PySem.W.dataLt PyData.none d ds ds.length (Nat.le_refl _)
  rw [List.take_length] at e2
  rw [e1] at hP
  rw [List.getElem?_toArray] at hP
  obtain ⟨x, hx, rx⟩ := vals_back rv hP
  exact ⟨x, H, I.kept hk', rx, q _ x hx (getD_some (Nat.lt_succ_of_le e3) e2)⟩
theorem cr_maxD {X : Cx} (hc : X.calm = true) (hu : X.A.units + 64 < cLine) : CallR X (.builtin "max") (rMaxD X.K) := by
  intro pins s σ H vs us Q I r h
  obtain ⟨a, xs, d, ds, rfl, hs, hd, ha, hz, q⟩ := h
  obtain ⟨its, rv, hl, _⟩ := I.list hs
  rw [Vals.ref1 r]
  obtain ⟨as, hr⟩ := Dp.readsAll I _ xs its hd rv
  have hn : its.length = ds.length + 1 := by rw [← rv.length, dpAll_len hd]; rfl
  have hr' : ReadsAll s.heap its.toArray.toList (d :: ds) as := hr
  refine PySem.call_max_walkH (PySem.W.iter_listW (A := X.A.in1) (I.ok.hd hc) hl.isList fun s₂ e W st hfp hw hk => ?_)
  refine ⟨_, _, _, _, _, _, _, s.heap, _, rfl, W, st, hfp, by rw [List.size_toArray]; omega, hw, hk, PySem.W.cmpIn_gt (A := X.A.in1) hr' ha (by show X.A.units + 1 + _ < _; omega), fun v s' hP m => ?_⟩
  obtain ⟨h', tk, rfl, hk'⟩ := PySem.W.moved_old e rfl m
  have e1 : its.toArray.size - 1 = ds.length := by rw [List.size_toArray]; omega
  obtain ⟨e3, e2⟩ := PySem.W.argBest_fold (fun a b => PySem.W.dataLt b a) PyData.none d ds ds.length (Nat.le_refl _)
  rw [List.take_length] at e2
  rw [e1] at hP
  rw [List.getElem?_toArray] at hP
  obtain ⟨x, hx, rx⟩ := vals_back rv hP
  exact ⟨x, H, I.kept hk', rx, q _ x hx (getD_some (Nat.lt_succ_of_le e3) e2)⟩
/-! ### sorted of data that can be compared -/
def leD (x y : D) : Bool := !PySem.W.dataLt y x
def rSortD (K : PySem.W.Frag) : List V → Hp → VK → Prop := fun vs H Q => ∃ (a : Addr) (xs : List V) (ds : List D), vs = [.ref a] ∧ SqL K H a xs ∧ DpAll K H xs ds ∧ PySem.W.AllAlike ds ∧ PySem.W.Sortable ds ∧ PyData.depthAll ds ≤ 50 ∧
  ∀ (ys : List V) (p : Addr), ys.length = ds.length → (∀ Hi, DpAll K Hi xs ds → DpAll K Hi ys (ds.mergeSort leD)) → H p = none → Q (.ref p) (upd H p (.lst ys))
theorem each_vals : ∀ {xs : List V} {us : List Value} {ds : List D}, Vals xs us → xs.length = ds.length → PySem.W.EachIs (fun u (b : V × D) => RelV b.1 u) us (xs.zip ds)
  | [], _, [], r, _ => by cases r; exact .nil
  | [], _, _ :: _, _, e => by cases e
  | _ :: _, _, [], _, e => by cases e
  | x :: xs, _, d :: ds, r, e => by
    cases r with
    | cons r1 r2 => exact .cons r1 (each_vals r2 (Nat.succ.inj e))
theorem each_reads {h : Heap} : ∀ {xs : List V} {us : List Value} {ds : List D} {as : List Addr}, ReadsAll h us ds as → xs.length = ds.length → PySem.W.EachIs (fun u (b : V × D) => ∃ as, Reads h u b.2 as) us (xs.zip ds)
  | [], _, [], _, r, _ => by cases r; exact .nil
  | [], _, _ :: _, _, _, e => by cases e
  | _ :: _, _, [], _, _, e => by cases e
  | x :: xs, _, d :: ds, _, r, e => by
    cases r with
    | cons r1 r2 => exact .cons ⟨_, r1⟩ (each_reads r2 (Nat.succ.inj e))
theorem vals_each : ∀ {us : List Value} {zs : List (V × D)}, PySem.W.EachIs (fun u (b : V × D) => RelV b.1 u) us zs → Vals (zs.map Prod.fst) us
  | _, [], h => by cases h; exact .nil
  | _, z :: zs, h => by
    cases h with
    | cons a b => exact .cons a (vals_each b)
theorem dp_zip {K : PySem.W.Frag} {Hi : Hp} : ∀ {xs : List V} {ds : List D}, DpAll K Hi xs ds → ∀ z ∈ xs.zip ds, Dp K Hi z.1 z.2
  | _, [], h, z, hz => by cases h; cases hz
  | _, d :: ds, h, z, hz => by
    cases h with
    | cons a b =>
      rcases List.mem_cons.mp hz with e | hz
      · rw [e]; exact a
      · exact dp_zip b z hz
theorem dp_unzip {K : PySem.W.Frag} {Hi : Hp} : ∀ {zs : List (V × D)}, (∀ z ∈ zs, Dp K Hi z.1 z.2) → DpAll K Hi (zs.map Prod.fst) (zs.map Prod.snd)
  | [], _ => .nil
  | z :: zs, h => .cons (h z List.mem_cons_self) (dp_unzip fun y hy => h y (List.mem_cons_of_mem _ hy))
theorem depth_mem : ∀ {ds : List D} {d : D}, d ∈ ds → d.depth ≤ PyData.depthAll ds
  | e :: ds, d, h => by
    unfold PyData.depthAll
    rcases List.mem_cons.mp h with z | z
    · rw [z]; exact Nat.le_max_left _ _
    · exact Nat.le_trans (depth_mem z) (Nat.le_max_right _ _)
theorem cr_sortD {X : Cx} (hu : X.A.units + 64 < cLine) : CallR X (.builtin "sorted") (rSortD X.K) := by
  intro pins s σ H vs us Q I r h
  obtain ⟨a, xs, ds, rfl, hs, hd, ha, hb, hz, q⟩ := h
  obtain ⟨its, rv, hl, hsz⟩ := I.list hs
  rw [Vals.ref1 r]
  obtain ⟨as, hr⟩ := Dp.readsAll I _ xs its hd rv
  have el := dpAll_len hd
  have em : (xs.zip ds).map Prod.snd = ds := List.map_snd_zip (by omega)
  have en : (xs.zip ds).length = ds.length := by rw [List.length_zip]; omega
  refine PySem.W.sorted_data (bs := xs.zip ds) (enc := Prod.snd) hl.isList (each_vals rv el) (each_reads hr el) (by rw [em]; exact ha) (by rw [em]; exact hb) (by rw [en, ← el]; exact hsz) (fun b hb => ?_) fun out ho he => ?_
  · have := depth_mem (List.of_mem_zip (a := b.1) (b := b.2) hb).2
    omega
  have hv := vals_each he
  generalize hzs : (xs.zip ds).mergeSort (PySem.W.dataLe false Prod.snd) = zs at hv
  have hp : ∀ z ∈ zs, z ∈ xs.zip ds := fun z h => by
    rw [← hzs] at h
    exact (List.mergeSort_perm _ _).mem_iff.mp h
  have hlz : zs.length = ds.length := by rw [← hzs, (List.mergeSort_perm _ _).length_eq, en]
  have es : zs.map Prod.snd = ds.mergeSort leD := by
    rw [← hzs, List.map_mergeSort (s := leD) (fun x _ y _ => by rw [PySem.W.dataLe_eq]; rfl), em]
  obtain ⟨ep, he'⟩ := PyProof.Rows.sortedAll_at s.heap its out.toArray
  have hlen : (zs.map Prod.fst).length ≤ sizeLine := by rw [List.length_map, hlz, ← el]; exact hsz
  refine ⟨.ref _, upd H (s.heap.objs.size + 1) (.lst (zs.map Prod.fst)), I.laid (t' := s.toks) (fun _ _ => PyProof.Rows.sortedAll_old) (Nat.le_succ _) ⟨hlen, out, ep, hv, he'⟩, rfl, q _ _ (by rw [List.length_map, hlz]) (fun Hi h => ?_) (I.hok.fresh (Nat.le_succ _))⟩
  rw [← es]
  exact dp_unzip fun z hz => dp_zip h z (hp z hz)
/-! ### sum of a tuple -/
def rSumT (K : PySem.W.Frag) : List V → Hp → VK → Prop := fun vs H Q => ∃ (a : Addr) (ns : List Int), vs = [V.ref a] ∧ SqT K H a (ns.map V.int) ∧ Q (.int ns.sum) H
theorem preSum_take (ns : List Int) : ∀ k, k ≤ ns.length → preSum (fun i => ns.getD i 0) k = (ns.take k).sum
  | 0, _ => by rw [List.take_zero]; rfl
  | k + 1, h => by
    rw [List.take_add_one, List.sum_append, ← preSum_take ns k (Nat.le_of_succ_le h), List.getElem?_eq_getElem h]
    show _ + ns.getD k 0 = _
    rw [List.getD_eq_getElem?_getD, List.getElem?_eq_getElem h]
    simp
theorem cr_sumT {X : Cx} (hc : X.calm = true) : CallR X (.builtin "sum") (rSumT X.K) := by
  intro pins s σ H vs us Q I r h
  obtain ⟨a, ns, rfl, hs, q⟩ := h
  obtain ⟨its, rv, hl, _⟩ := I.tuple hs
  rw [Vals.ref1 r]
  have hl' : s.heap.IsTuple a its.toArray := hl
  have hn : its.length = ns.length := by rw [← rv.length, List.length_map]
  refine PySem.call_sum_walkAnyS (PySem.W.iter_tupleW (A := X.A.in1) (I.ok.hd hc) hl' fun s₂ e W st hfp hw hk => ?_)
  refine ⟨_, _, _, _, _, _, _, fun i => ns.getD i 0, rfl, W, st, hfp, fun i v hv => ?_, fun s' t' m => ?_⟩
  · obtain ⟨x, hx, rx⟩ := vals_back rv (by simpa using hv)
    rw [List.getElem?_map] at hx
    cases hi : ns[i]? with
    | none => rw [hi] at hx; cases hx
    | some n =>
      rw [hi] at hx
      cases hx
      obtain ⟨t, rfl⟩ := rx
      exact ⟨t, by show _ = Value.int (ns.getD i 0) t; rw [List.getD_eq_getElem?_getD, hi]; rfl⟩
  · obtain ⟨h', tk, rfl, hk'⟩ := PySem.W.moved_old e rfl m
    refine ⟨.int ns.sum, H, I.kept hk', ⟨t', ?_⟩, q⟩
    rw [List.size_toArray, hn, preSum_take ns _ (Nat.le_refl _), List.take_length]
end LD

/-! LD12: defs in which the text of a list or tuple is asked: no such text is under way around them. -/
namespace LD
open PySem PySem.Spec L2 PyProof.Rows
/-- as FnOk, where no repr is under way -/
structure FnQ (P : Program) (w : World) (K : PySem.W.Frag) (mg : Str → Option Value) (base : Heap) (CX : CXT) (k : Nat) (f : Addr) (fd : FuncData) (ps : List Str) (sp : Sp) : Prop where
  len : ∀ vs H Q E, sp vs H Q E → vs.length = ps.length
  run : ∀ {A : Around} {outer : List Env} {s : Shared} {H : Hp} {args : Args} {us : List Value} {vs : List V} {Q : VK} {E : XK}, A.guards = some [] → Room k A → Env0 P w K mg base A outer s H →
    BindsTo s fd args (ps.zip us) → Vals vs us → sp vs H Q E → codeAny (model P w) A (.call (.ref f) args) (CR CX outer P w H s Q E) s
section
variable {P : Program} {w : World} {K : PySem.W.Frag} {mg : Str → Option Value} {base : Heap} {CX : CXT} {k : Nat} {f : Addr} {fd : FuncData} {ps N : List Str} {sp : Sp}
theorem FnQ.of (F : FnOk P w K mg base CX k f fd ps sp) : FnQ P w K mg base CX k f fd ps sp := ⟨F.len, fun _ hr e b r h => F.run _ _ _ _ _ _ _ _ _ hr e b r h⟩
theorem FnQ.mono {j : Nat} (F : FnQ P w K mg base CX j f fd ps sp) (h : j ≤ k) : FnQ P w K mg base CX k f fd ps sp := ⟨F.len, fun g hr => F.run g (hr.mono h)⟩
/-- a def by its body -/
theorem okQ {x qual : Str} {st : Stmt} (F : Fun K x qual st f fd) (S : FnScope N ps (defScope st)) (len : ∀ vs H Q E, sp vs H Q E → vs.length = ps.length)
    (hbody : ∀ (cdv : Value) (A : Around) (outer : List Env) (s : Shared) (H : Hp) (vs : List V) (Q : VK) (E : XK), (A.deeper (envOfC qual (defScope st) s.heap.objs.size f cdv)).guards = some [] → Room k (A.deeper (envOfC qual (defScope st) s.heap.objs.size f cdv)) → sp vs H Q E →
      ∃ t, PSs (cxOf CX0 P w K mg base N qual (defScope st) f cdv A outer s H E).nox (defBody st) t ∧ t { nx := fun _ H' => Q .non H', rt := Q } (start N vs) H) : FnQ P w K mg base CX0 (k + 1) f fd ps sp := by
  obtain ⟨oc, od, kV, doc, pm, an, cdv, ct, osl, rfl, lk, hcd⟩ := F.ex
  refine ⟨len, fun {A outer s H args us vs Q E} hg hr e0 hb r hsp => ?_⟩
  have hl := len _ _ _ _ hsp
  have old : ∀ b o, base.get? b = some o → s.heap.get? b = some o := fun b o e => (e0.bs b o e).1
  have KX := e0.mod.kin.keeps old
  refine codeAny_call_function hr.depth (KX _ _ lk) rfl S.co S.gen rfl (PySem.W.codeRec_of KX hcd) (hb _ _ _ _ ?_)
  refine wpAny_newFunctionEnv_cells S.kind (fun y hy => ?_) fun env he s1 x => ?_
  · have hm : y.1 ∈ ps := by
      obtain ⟨n, v⟩ := y
      exact (List.of_mem_zip hy).1
    rcases S.par _ hm with q | q
    · exact .inl q
    · exact .inr ⟨q, PySem.W.cellsFrom_some _ _ _ (.inl q)⟩
  subst he
  refine ⟨(e0.mod.nolimit.keeps old).keeps x.toInCall.keep, codeAny_func ?_⟩
  obtain ⟨t, ht, hq⟩ := hbody cdv A outer s H vs Q E hg (hr.deeper _) hsp
  have I := inv_start (CX := CX0) (E := E) S hr.hd e0 hl r x
  refine wpAny_mono (ht.nox.run [] s1 (start N vs) H _ I hq) (fun fl s' hs => ?_) fun e s' hs => hs
  cases fl with
  | ret u =>
    obtain ⟨v, σ', H', J, rv, q⟩ := hs
    exact ⟨v, H', J.os, J.bare, J.base, J.hok, rv, q⟩
  | next =>
    obtain ⟨σ', H', J, q⟩ := hs
    exact ⟨.non, H', J.os, J.bare, J.base, J.hok, rfl, q⟩
  | brk =>
    obtain ⟨_, _, _, q⟩ := hs
    exact q.elim
  | cont =>
    obtain ⟨_, _, _, q⟩ := hs
    exact q.elim
end
/-! ### calls of such defs -/
section
variable {X : Cx} {k : Nat} {f : Addr} {fd : FuncData} {ps : List Str} {sp : Sp}
theorem runQ {pins : List (Addr × Obj)} {σ : L2.St} {H : Hp} {s : Shared} {Q : VK} {us : List Value} {vs : List V} (F : FnQ X.prog X.w X.K X.mg X.base CX0 k f fd ps sp) (hg : X.A.guards = some []) (hr : Room k X.A) (hb : Binds X.K fd ps [])
    (I : Inv X pins σ H s) (r : Vals vs us) (h : sp vs H Q E0) : wpAny (model X.prog X.w) X.A (call (.ref f) us) (EP X pins σ Q) X.xe s := by
  have hl : us.length = ps.length := (r.length).symm.trans (F.len _ _ _ _ h)
  have b := hb s us I.kIn (by rw [List.append_nil]; exact hl)
  rw [List.append_nil] at b
  refine wpAny_call (codeAny_mono (F.run hg hr I.env0 b r h) fun o s' hq => ?_)
  cases o with
  | error e => exact hq.elim
  | ok fl =>
    cases fl with
    | ret u => exact I.after hq
    | next => exact hq.elim
    | brk => exact hq.elim
    | cont => exact hq.elim
structure CalQ (P : Program) (w : World) (K : PySem.W.Frag) (mg : Str → Option Value) (base : Heap) (k : Nat) (x : Str) (sp : Sp) : Prop where
  ex : ∃ (f : Addr) (fd : FuncData) (ps : List Str), FnQ P w K mg base CX0 k f fd ps sp ∧ mg x = some (.ref f) ∧ PySem.W.keepIn K (.ref f) = true ∧ Binds K fd ps []
theorem pe_q {x : Str} {p pos : Pos} {e : Expr} {es : List Expr} {j : Nat} {t : TA} (c : CalQ X.prog X.w X.K X.mg X.base k x sp) (hgd : X.A.guards = some []) (hr : Room j X.A) (hk : k ≤ j) (hg : Gl X x) (ha : PA X (e :: es) t)
    (hdb : (x == ("__debug__" : Str)) = false := by decide) (he : starEach (e :: es) X.env = (false, eval e X.env) :: starEach es X.env := by rfl) (hpl : (backTo pos (starEach es X.env)).any (·.1) = false := by rfl) :
    PE X (.Call (.Name x p) (e :: es) [] pos) (tCall sp [] E0 t) := by
  obtain ⟨f, fd, ps, F, hm, kp, b⟩ := c.ex
  refine ⟨fun pins s σ H Q I h => wpAny_Call_Name_kw (ld_glob I hg hm ?_ hdb)⟩
  refine PySem.W.callWith_K (h₀ := X.base) I.ok.mod.kin kp (thn (ha.run pos pins s σ H _ I h) fun us s1 ⟨vs, H1, I1, r, q⟩ => ⟨I1.kIn, ?_⟩) he hpl
  have q2 : sp (vs ++ []) H1 Q E0 := q
  rw [List.append_nil] at q2
  exact runQ F hgd (hr.mono hk) b I1 r q2
theorem calQ_of {P : Program} {w : World} {K : PySem.W.Frag} {mg : Str → Option Value} {base : Heap} {x : Str} (F : FnQ P w K mg base CX0 k f fd ps sp) (g : mg x = some (.ref f)) (kp : PySem.W.keepIn K (.ref f) = true) (b : Binds K fd ps []) : CalQ P w K mg base k x sp := ⟨⟨f, fd, ps, F, g, kp, b⟩⟩
end
/-! ### the law's own call: no repr is under way around it -/
theorem lawQ {P : Program} {w : World} {K : PySem.W.Frag} {mg mb : Str → Option Value} {k : Nat} {fa a : Addr} {fd : FuncData} {x : Str} {sp : Sp} {s : Shared} {vs : List Value} {ns : List Int}
    (KX : K.In s.heap) (hns : s.heap.Ns mainGlobals mg) (hb : s.heap.Ns builtinsNs mb) (hbb : ∀ x : Str, x ≠ "__name__" → mb x = bootBuiltins x) (hlim : s.heap.NoLimit) (hg : s.gens = #[])
    (ha : s.heap.get? a = some { cls := .type "list", data := .seq vs.toArray }) (hi : IntsAre vs ns) (hl : ns.length ≤ sizeLine) (hr : Room k callerA)
    (F : ∀ base : Heap, K.In base → base.Ns mainGlobals mg → FnQ P w K mg base CX0 k fa fd [x] sp) (hbind : ∀ (s : Shared) (u : Value), BindsTo s fd ⟨[u], []⟩ [(x, u)])
    (hsp : ∀ H : Hp, Only H → SqL K H a (ns.map V.int) → sp [.ref a] H (fun v _ => v = .bl true) fun _ _ _ => False) :
    codeAny (model P w) callerA (.call (.ref fa) ⟨[.ref a], []⟩) (fun r s' => r = .ok (.ret (.bool true)) ∧ OldK s.heap s'.heap ∧ s'.os = s.os ∧ AllBare s'.gens) s := by
  have rv := vals_ints hi
  have lenV := hi.length
  have run : ∀ H : Hp, Only H → SqL K H a (ns.map V.int) → HOk P w H s.heap → (∀ b, b ≠ a → H b = none) → (H a = none ∨ K.lookup a = none) →
      codeAny (model P w) callerA (.call (.ref fa) ⟨[.ref a], []⟩) (fun r s' => r = .ok (.ret (.bool true)) ∧ OldK s.heap s'.heap ∧ s'.os = s.os ∧ AllBare s'.gens) s := by
    intro H hO hS hok hA hK
    have dictFree : ∀ {b : Addr} {o : Obj} {es : Array DictEntry} {ep : Nat}, s.heap.get? b = some o → o.data = .dict es ep → H b = none := fun {b o es ep} e d => by
      by_cases z : b = a
      · subst z
        rw [ha] at e
        cases e
        have d' : Data.seq vs.toArray _ = Data.dict es ep := d
        cases d'
      · exact hA b z
    have ns2 : ∀ {b : Addr} {m : Str → Option Value}, s.heap.Ns b m → (hidT s.heap H).Ns b m := fun ⟨o, es, ep, e, d, r⟩ => ⟨o, es, ep, hidT_get e (dictFree e d), d, r⟩
    have kin2 : K.In (hidT s.heap H) := fun b o e => hidT_get (KX b o e) (by
      by_cases z : b = a
      · rcases hK with q | q
        · rw [z]; exact q
        · rw [z, q] at e; cases e
      · exact hA b z)
    obtain ⟨mc, c1, c2⟩ := hlim
    have e0 : Env0 P w K mg (hidT s.heap H) callerA [] s H := ⟨rfl, ⟨kin2, ns2 hns, ⟨mb, ns2 hb, hbb⟩, ⟨mc, ns2 c1, c2⟩⟩, fun b o e => of_hidT e, Nat.le_of_eq (hidT_size _ _), trivial, fun b hb => (by cases hb), hok, .of_eq hg⟩
    refine codeAny_mono ((F _ kin2 (ns2 hns)).run (us := [.ref a]) (vs := [V.ref a]) rfl hr e0 (hbind s (.ref a)) (.cons rfl .nil) (hsp H hO hS)) fun r s' h => ?_
    cases r with
    | error e => exact h.elim
    | ok fl =>
      cases fl with
      | next => exact h.elim
      | brk => exact h.elim
      | cont => exact h.elim
      | ret u =>
        obtain ⟨v, H', os, bare, un, hok', r', q⟩ := h
        obtain rfl : v = .bl true := q
        obtain rfl : u = Value.bool true := r'
        refine ⟨rfl, OldK.of_keep fun b o e => ?_, os, bare⟩
        cases z : H b with
        | none => exact un.keep b o e z (fun y => by cases y) (fun y => by cases y)
        | some y =>
          rcases hO b with c | ⟨ob, xs, c⟩
          · rw [z] at c; cases c
          · have e1 := (hok b _ c).1
            have e2 := (hok' b _ (un.frzs b ob _ c)).1
            rw [e] at e1
            cases e1
            exact e2
  cases hk : K.lookup a with
  | some o =>
    have e := KX a o hk
    rw [ha] at e
    cases e
    exact run (fun _ => none) (fun _ => .inl rfl) (.inr ⟨_, vs.toArray, _, hk, rfl, rfl, rfl, by rw [List.size_toArray, lenV]; exact hl, by simpa using rv⟩) (fun b u z => by have z' : (none : Option HO) = some u := z; cases z') (fun b _ => rfl) (.inl rfl)
  | none =>
    let o : HO := .frz { cls := .type "list", data := .seq vs.toArray } (.lst (ns.map V.int))
    have at_a : (upd (fun _ => none) a o) a = some o := upd_same
    have off : ∀ b, b ≠ a → (upd (fun _ => none) a o) b = none := fun b hb => upd_ne hb
    refine run (upd (fun _ => none) a o) (fun b => ?_) (.inl (.inr ⟨_, at_a⟩)) (fun b u z => ?_) off (.inr hk)
    · by_cases hb : b = a
      · exact .inr ⟨_, _, by rw [hb]; exact at_a⟩
      · exact .inl (off b hb)
    · by_cases hb : b = a
      · subst hb
        rw [at_a] at z
        cases z
        exact ⟨ha, by rw [List.length_map]; exact hl, vs, _, rv, ha⟩
      · rw [off b hb] at z
        cases z
theorem walkQ {l : PySem.W.OpenLaw} {n k : Nat} {q : Program} {loose : List Str} {XP : (Str → Option Value) → Heap → Prop} {YP : World → Heap → Prop} {d : DefRec} {K : Params → PySem.W.Frag} {sp : World → Sp} {x : Str}
    (hn : l.most = some n) (hn2 : n ≤ sizeLine) (hdf : d.params.defaults = []) (hr : Room k callerA) (hY : ∀ (w : World) (h : Heap), YP w h → (K w.params).In h)
    (F : ∀ (w : World) (mg : Str → Option Value) (fa : Addr) (h : Heap), (K w.params).In h → h.Ns mainGlobals mg → mg d.name = some (.ref fa) →
      ∃ fd : FuncData, (∀ (s : Shared) (u : Value), BindsTo s fd ⟨[u], []⟩ [(x, u)]) ∧ ∀ base : Heap, (K w.params).In base → base.Ns mainGlobals mg → FnQ l.prog w (K w.params) mg base CX0 k fa fd [x] (sp w))
    (hsp : ∀ (w : World) (H : Hp) (a : Addr) (ns : List Int), ns.length ≤ n → Only H → SqL (K w.params) H a (ns.map V.int) → sp w [.ref a] H (fun v _ => v = .bl true) fun _ _ _ => False) :
    PySem.W.WalkO q loose XP YP l.row.toRowW d [] (fun f vs => PySem.call f vs) :=
  Att.attach_call hn hdf fun w s0 s1 mg mb fa o pm cd doc a vs ns G Y ho hd hcd hmg hobj hints hlen hg =>
    have KX := hY w _ Y
    let ⟨fd, hb, hF⟩ := F w mg fa _ KX G.T.g hmg
    lawQ KX G.T.g G.T.b G.T.builtins G.T.nolimit hg hobj hints (Nat.le_trans hlen hn2) hr hF hb fun H hO hS => hsp w H a ns hlen hO hS
end LD

/-! LD13: readings over data of what LD11 and LD12 bring. -/
namespace LD
open PySem PySem.Spec L2
section
variable {K : PySem.W.Frag} {ta tb : TE} {a b : TD}
/-! enumerate of a tuple -/
def numD (es : List D) : List D := (List.range es.length).map fun i => .tuple [.int (i : Nat), es.getD i .none]
theorem numD_len (es : List D) : (numD es).length = es.length := by unfold numD; rw [List.length_map, List.length_range]
theorem numD_at {es : List D} {i : Nat} {d : D} (h : (numD es)[i]? = some d) : ∃ x, es[i]? = some x ∧ d = .tuple [.int (i : Nat), x] := by
  unfold numD at h
  rw [List.getElem?_map] at h
  cases hi : (List.range es.length)[i]? with
  | none => rw [hi] at h; cases h
  | some j =>
    have hl : i < es.length := by have := (List.getElem?_eq_some_iff.mp hi).1; rwa [List.length_range] at this
    rw [List.getElem?_range hl] at h
    refine ⟨es[i], List.getElem?_eq_getElem hl, ?_⟩
    rw [← Option.some.inj h]
    show PyData.tuple [.int (i : Nat), es.getD i .none] = _
    rw [List.getD_eq_getElem?_getD, List.getElem?_eq_getElem hl]
    rfl
theorem walks_num {p : Addr} {es : List D} : Walks K (ItN K p) (numD es) [.ref p] [.tuple es] := by
  intro F σ H ρ vs ds i R
  obtain ⟨p', xs, e, e2, s, R1⟩ := Rel.asTup (vs := vs) (ds := ds) R
  cases e
  refine ⟨fun d hd => ?_, fun h => ⟨xs, s, by rw [e2, ← numD_len es]; exact h⟩⟩
  obtain ⟨z, hz, rfl⟩ := numD_at hd
  obtain ⟨v, e3, R2⟩ := R1.pick e2 hz
  refine ⟨⟨xs, v, s, e3⟩, fun x H' hy => ?_⟩
  obtain ⟨T, x', rfl, hT, rfl, hy⟩ := hy
  have := (hy xs s).symm.trans e3
  cases this
  exact Rel.tup (xs := [.int (i : Nat), v]) (es := [.int (i : Nat), z]) (R2.swap fun Hi h => .cons (.int _) h) rfl hT
def iN (t : TDA) : TDI := fun ρ P => t ρ fun r es => ∃ fs, es = [.tuple fs] ∧ P r (numD fs)
theorem si_numT {ta : TA} {t : TDA} (sa : SA K ta t) : SI K (iNumT K ta) (iN t) := by
  refine ⟨fun ρ P P' h q => sa.mono _ _ _ (fun _ es ⟨fs, e, q⟩ => ⟨fs, e, h _ _ q⟩) q, fun F σ H ρ vs ds Q R q => ?_⟩
  refine sa.run F σ H ρ vs ds _ R (sa.mono _ _ _ (fun r es q xs H1 e R1 => ?_) q)
  obtain ⟨fs, e1, q⟩ := q
  subst e1
  obtain ⟨x, xr, rfl, e2⟩ := len_cons e
  obtain rfl := len_nil e2
  obtain ⟨p, ys, rfl, e3, s, R2⟩ := Rel.asTup R1
  exact ⟨p, ys, rfl, s, q _ _ [.ref p] [.tuple fs] rfl walks_num R1⟩
/-! min, max, sorted of data; sum of a tuple -/
def cMinD : CD := fun es P => ∃ d ds, es = [.list (d :: ds)] ∧ PySem.W.AlikeAll (d :: ds) ∧ PyData.depthAll (d :: ds) ≤ 50 ∧ P (PySem.W.minD d ds)
theorem sc_minD : SC K (rMinD K) cMinD := ⟨fun a P P' h ⟨d, ds, e, h1, h2, q⟩ => ⟨d, ds, e, h1, h2, h _ q⟩, fun F σ H ρ vs ds xs es Q e R ⟨d, fs, h, h1, h2, q⟩ => by
  subst h
  obtain ⟨x, r, rfl, e1⟩ := len_cons e
  obtain rfl := len_nil e1
  obtain ⟨p, ys, rfl, e2, s, R1⟩ := Rel.asList R
  refine ⟨p, ys, d, fs, rfl, s, (dpAll_split e2 R1.dpAll).1, h1, h2, fun i v hv hd => ?_⟩
  obtain ⟨w, hw, R2⟩ := R1.pick e2 hd
  rw [hv] at hw
  cases hw
  exact q _ _ R2.drop2⟩
def cMaxD : CD := fun es P => ∃ d ds, es = [.list (d :: ds)] ∧ PySem.W.AlikeAll (d :: ds) ∧ PyData.depthAll (d :: ds) ≤ 50 ∧ P (PySem.W.maxD d ds)
theorem sc_maxD : SC K (rMaxD K) cMaxD := ⟨fun a P P' h ⟨d, ds, e, h1, h2, q⟩ => ⟨d, ds, e, h1, h2, h _ q⟩, fun F σ H ρ vs ds xs es Q e R ⟨d, fs, h, h1, h2, q⟩ => by
  subst h
  obtain ⟨x, r, rfl, e1⟩ := len_cons e
  obtain rfl := len_nil e1
  obtain ⟨p, ys, rfl, e2, s, R1⟩ := Rel.asList R
  refine ⟨p, ys, d, fs, rfl, s, (dpAll_split e2 R1.dpAll).1, h1, h2, fun i v hv hd => ?_⟩
  obtain ⟨w, hw, R2⟩ := R1.pick e2 hd
  rw [hv] at hw
  cases hw
  exact q _ _ R2.drop2⟩
def cSortD : CF := fun es P => ∃ ds, es = [.list ds] ∧ PySem.W.AllAlike ds ∧ PySem.W.Sortable ds ∧ PyData.depthAll ds ≤ 50 ∧ P (ds.mergeSort leD)
theorem scf_sortD : SCF K (rSortD K) cSortD := ⟨fun a P P' h ⟨ds, e, h1, h2, h3, q⟩ => ⟨ds, e, h1, h2, h3, h _ q⟩, fun F σ H ρ vs ds xs es Q e R ⟨fs, h, h1, h2, h3, q⟩ => by
  subst h
  obtain ⟨x, r, rfl, e1⟩ := len_cons e
  obtain rfl := len_nil e1
  obtain ⟨p, ys, rfl, e2, s, R1⟩ := Rel.asList R
  refine ⟨p, ys, fs, rfl, s, (dpAll_split e2 R1.dpAll).1, h1, h2, h3, fun zs l hz hd hl => q zs H l (by rw [(List.mergeSort_perm _ _).length_eq]; exact hz) (R1.swap fun Hi h => ?_) hl⟩
  obtain ⟨g1, g2⟩ := dpAll_split e2 h
  cases g2 with | cons _ g2 => exact dpAll_app (hd Hi g1) g2⟩
def cSumT : CD := fun es P => ∃ ns : List Int, es = [.tuple (ns.map PyData.int)] ∧ P (.int ns.sum)
theorem sc_sumT : SC K (rSumT K) cSumT := ⟨fun a P P' h ⟨bs, e, q⟩ => ⟨bs, e, h _ q⟩, fun F σ H ρ vs ds xs es Q e R ⟨bs, h, q⟩ => by
  subst h
  obtain ⟨x, r, rfl, e1⟩ := len_cons e
  obtain rfl := len_nil e1
  obtain ⟨p, ys, rfl, e2, s, R1⟩ := Rel.asTup R
  have ey := ints_of (K := K) bs ys (dpAll_split e2 R1.dpAll).1
  subst ey
  exact ⟨p, bs, rfl, s, q _ _ (Rel.push (v := .int bs.sum) (Rel.drop R) rfl)⟩⟩
/-! a tuple so many times -/
def oRepT : OD := fun a b P => ∃ es k, a = .tuple es ∧ b = .int k ∧ es ≠ [] ∧ 2 ≤ k ∧ k ≤ 1000 ∧ es.length ≤ 1000 ∧ P (.tuple (List.replicate k.toNat es).flatten)
theorem dpAll_rep {Hi : Hp} {xs : List V} {es : List D} (h : DpAll K Hi xs es) : ∀ n, DpAll K Hi (List.replicate n xs).flatten (List.replicate n es).flatten
  | 0 => .nil
  | n + 1 => by
    rw [List.replicate_succ, List.replicate_succ, List.flatten_cons, List.flatten_cons]
    exact dpAll_app h (dpAll_rep h n)
theorem so_repT : SO K (rRepT K) oRepT := by
  refine ⟨fun a b P P' h ⟨es, k, e1, e2, h1, h2, h3, h4, q⟩ => ⟨es, k, e1, e2, h1, h2, h3, h4, h _ q⟩, fun F σ H ρ vs ds x y a b Q R q => ?_⟩
  obtain ⟨es, k, e1, e2, h1, h2, h3, h4, q⟩ := q
  subst e1 e2
  obtain rfl := R.int
  obtain ⟨p, xs, rfl, e, s, R1⟩ := R.drop.asTup
  refine ⟨p, k, xs, rfl, rfl, s, fun z => h1 ?_, h2, h3, by rw [e]; exact h4, fun t ht => q _ _ ?_⟩
  · rw [z] at e
    exact List.length_eq_zero_iff.mp e.symm
  · have R2 : Rel K F σ H ρ ((List.replicate k.toNat xs).flatten ++ vs) ((List.replicate k.toNat es).flatten ++ ds) := R1.swap fun Hi h => by
      obtain ⟨g1, g2⟩ := dpAll_split e h
      cases g2 with | cons _ g2 => exact dpAll_app (dpAll_rep g1 _) g2
    exact R2.tup (by rw [List.length_flatten, List.length_flatten, List.map_replicate, List.map_replicate, e]) ht
/-! list(range(..)) -/
theorem rgV_dp {Hi : Hp} (i j : Int) : DpAll K Hi (rgV i j) (rngD i (j - i).toNat) := by
  unfold rgV rngD
  generalize List.range (j - i).toNat = l
  induction l with
  | nil => exact .nil
  | cons x l ih => exact .cons (.int _) ih
def dRg1 (a : TD) : TDA := fun ρ P => a ρ fun r d => ∃ n, d = .int n ∧ RgOk 0 n ∧ P r (rngD 0 n.toNat)
theorem sf_rg1 (sa : SE K ta a) : SF K (tLstRg (tRg1 ta)) (dRg1 a) := by
  refine ⟨fun ρ P P' h q => sa.mono _ _ _ (fun _ x ⟨n, e, h1, q⟩ => ⟨n, e, h1, h _ _ q⟩) q, fun F σ H ρ vs ds Q R q => ?_⟩
  refine sa.run F σ H ρ vs ds _ R (sa.mono _ _ _ (fun r x q v H1 R1 => ?_) q)
  obtain ⟨n, e, h1, q⟩ := q
  subst e
  obtain rfl := R1.int
  refine ⟨n, rfl, h1, fun p hp => q _ _ _ ?_ (R1.drop.swap fun Hi h => ?_) hp⟩
  · rw [rgV_length, rngD_len, Int.sub_zero]
  · have := rgV_dp (K := K) (Hi := Hi) 0 n
    rw [Int.sub_zero] at this
    exact dpAll_app this h
def dRg2 (a b : TD) : TDA := fun ρ P => a ρ fun r x => b r fun r2 y => ∃ i j, x = .int i ∧ y = .int j ∧ RgOk i j ∧ P r2 (rngD i (j - i).toNat)
theorem sf_rg2 (sa : SE K ta a) (sb : SE K tb b) : SF K (tLstRg (tRg2 ta tb)) (dRg2 a b) := by
  refine ⟨fun ρ P P' h q => sa.mono _ _ _ (fun _ x q => sb.mono _ _ _ (fun _ y ⟨i, j, e, e2, h1, q⟩ => ⟨i, j, e, e2, h1, h _ _ q⟩) q) q, fun F σ H ρ vs ds Q R q => ?_⟩
  refine sa.run F σ H ρ vs ds _ R (sa.mono _ _ _ (fun r x q v H1 R1 => ?_) q)
  refine sb.run F σ H1 r _ _ _ R1 (sb.mono _ _ _ (fun r2 y q u H2 R2 => ?_) q)
  obtain ⟨i, j, e, e2, h1, q3⟩ := q
  subst e e2
  have ej := R2.int
  have ei := R2.drop.int
  subst ei ej
  refine ⟨i, j, rfl, rfl, h1, fun p hp => q3 _ _ _ ?_ (R2.drop.drop.swap fun Hi h => dpAll_app (rgV_dp i j) h) hp⟩
  rw [rgV_length, rngD_len]
end
/-! a whole def in which the text of data is asked -/
section
variable {P : Program} {w : World} {K : PySem.W.Frag} {mg : Str → Option Value} {base : Heap}
theorem ok_Q {x qual : Str} {st : Stmt} {f : Addr} {fd : FuncData} {N ps : List Str} {k : Nat} {g : CD} (F : Fun K x qual st f fd) (S : FnScope N ps (defScope st)) (hl : ∀ ds P, g ds P → ds.length = ps.length)
    (hbody : ∀ (cdv : Value) (A : Around) (outer : List Env) (s : Shared) (H : Hp) (E : XK), (A.deeper (PyProof.Rows.envOfC qual (defScope st) s.heap.objs.size f cdv)).guards = some [] → Room k (A.deeper (PyProof.Rows.envOfC qual (defScope st) s.heap.objs.size f cdv)) →
      ∃ ts t, PSs (cxOf CX0 P w K mg base N qual (defScope st) f cdv A outer s H E).nox (defBody st) ts ∧ SS K ts t ∧ ∀ ds Pd, g ds Pd → t { nx := fun _ => Pd .none, rt := fun _ d => Pd d } (rho0 ds (N.length - ds.length))) : FnQ P w K mg base CX0 (k + 1) f fd ps (spD K g) := by
  refine okQ F S (fun vs H Q E h => ?_) (fun cdv A outer s H vs Q E hgd hr h => ?_)
  · obtain ⟨Hi, ds, _, h2, hg⟩ := h
    rw [dpAll_len h2]
    exact hl _ _ hg
  · obtain ⟨ts, t, h1, h2, h3⟩ := hbody cdv A outer s H E hgd hr
    obtain ⟨Hi, ds, e1, e2, hg⟩ := h
    exact ⟨ts, h1, run_D h2 e1 e2 (fun d q => q) (h3 ds _ hg)⟩
end
end LD

/-! LD14: what the draws promise; facts that more than one law asks. -/
namespace LD
open PySem PySem.Spec L2
def g_any : CD := fun ds P => ∃ m : Int, ds = [.int m] ∧ 0 < m ∧ m.natAbs.log2 < 9000 ∧ ∀ x, 0 ≤ x → x < m → P (.int x)
theorem g_any_mono : ∀ es P P', (∀ d, P d → P' d) → g_any es P → g_any es P' := fun es P P' h ⟨m, e, h1, h2, q⟩ => ⟨m, e, h1, h2, fun x a b => h _ (q x a b)⟩
def g_of : CD := fun ds P => ∃ es : List D, ds = [.list es] ∧ es ≠ [] ∧ es.length ≤ 1000000 ∧ ∀ d ∈ es, P d
theorem g_of_mono : ∀ es P P', (∀ d, P d → P' d) → g_of es P → g_of es P' := fun es P P' h ⟨m, e, h1, h2, q⟩ => ⟨m, e, h1, h2, fun x a => h _ (q x a)⟩
def g_draw : List D → Prop := fun ds => ∃ (ns : List Int) (s : Int), ds = [.list (ns.map PyData.int), .int s] ∧ ns.length ≤ 63 ∧ 0 ≤ s ∧ s < 1000
theorem fm_map {α β γ : Type} {g : α → β} {h : β → Option γ} {k : α → γ} (hk : ∀ x, h (g x) = some (k x)) : ∀ xs : List α, (xs.map g).filterMap h = xs.map k
  | [] => rfl
  | x :: xs => by rw [List.map_cons, List.filterMap_cons_some (hk x), fm_map hk xs, List.map_cons]
theorem cut48 (ns : List Int) : ∃ ms : List Int, cutD (ns.map PyData.int) none (some 48) = ms.map PyData.int ∧ ms.length ≤ 48 := by
  refine ⟨ns.take 48, ?_, List.length_take_le ..⟩
  unfold cutD
  rw [HT.sIx_none, List.drop_zero, Nat.sub_zero, List.length_map, List.map_take]
  rw [show HT.sIx ns.length ns.length (some 48) = min 48 ns.length from HT.sIx_nat ns.length ns.length 48]
  by_cases h : 48 ≤ ns.length
  · rw [Nat.min_eq_left h]
  · rw [Nat.min_eq_right (by omega), List.take_of_length_le (by rw [List.length_map]; omega), List.take_of_length_le (by rw [List.length_map]; omega)]
/-! ### the source of draws, on the heap -/
structure DX (H H' : Hp) (a l : Addr) (ns : List Int) (b : Int) : Prop where
  keep : ∀ c o, H c = some o → c ≠ a → c ≠ l → H' c = some o
  dom : ∀ c, H c ≠ none → H' c ≠ none
  nal : a ≠ l
  at_a : H' a = some (.lst [.ref l, .int b])
  at_l : H' l = some (.lst (ns.map V.int))
theorem DX.new {H H' : Hp} {a l p : Addr} {o : HO} {ns : List Int} {b : Int} (d : DX H H' a l ns b) (hp : H' p = none) : DX H (upd H' p o) a l ns b :=
  ⟨fun c x e n1 n2 => same_upd hp c x (d.keep c x e n1 n2), fun c e => by
    cases q : H' c with
    | none => exact absurd q (d.dom c e)
    | some x => rw [same_upd hp c x q]; simp, d.nal, same_upd hp _ _ d.at_a, same_upd hp _ _ d.at_l⟩
theorem DX.setL {H H' : Hp} {a l : Addr} {ns ms : List Int} {b : Int} (d : DX H H' a l ns b) : DX H (upd H' l (.lst (ms.map V.int))) a l ms b :=
  ⟨fun c x e n1 n2 => by rw [upd_ne n2]; exact d.keep c x e n1 n2, fun c e => by
    by_cases hc : c = l
    · rw [hc, upd_same]; simp
    · rw [upd_ne hc]; exact d.dom c e, d.nal, by rw [upd_ne d.nal]; exact d.at_a, upd_same⟩
theorem DX.setA {H H' : Hp} {a l : Addr} {ns : List Int} {b c : Int} (d : DX H H' a l ns b) : DX H (upd H' a (.lst [.ref l, .int c])) a l ns c :=
  ⟨fun c x e n1 n2 => by rw [upd_ne n1]; exact d.keep c x e n1 n2, fun c e => by
    by_cases hc : c = a
    · rw [hc, upd_same]; simp
    · rw [upd_ne hc]; exact d.dom c e, d.nal, upd_same, by rw [upd_ne (Ne.symm d.nal)]; exact d.at_l⟩
theorem canLay_ints : ∀ ns : List Int, PyData.canLayAll0 (ns.map PyData.int) = true
  | [] => rfl
  | n :: ns => by
    rw [List.map_cons]
    simp only [PyData.canLayAll0, PyData.canLay0, canLay_ints ns, Bool.and_self]
theorem depth_ints : ∀ ns : List Int, PyData.depthAll (ns.map PyData.int) = 0
  | [] => rfl
  | n :: ns => by
    rw [List.map_cons]
    simp only [PyData.depthAll, PyData.depth, depth_ints ns, Nat.max_self]
theorem sh_ints (ns : List Int) : SeqAt.shaped (.list (ns.map PyData.int)) = true := by
  unfold SeqAt.shaped
  simp only [PyData.canLay0, PyData.depth, canLay_ints, depth_ints]
  rfl
theorem eqv_nil (ns : List Int) : PyData.eqv (.list (ns.map PyData.int)) (.list []) = ns.isEmpty := by
  cases ns with
  | nil => simp [PyData.eqv, PyData.eqvAll]
  | cons x xs => simp [PyData.eqv, PyData.eqvAll]
theorem snoc_or (ns : List Int) : ns = [] ∨ ∃ ms z, ns = ms ++ [z] := by
  cases ns with
  | nil => exact .inl rfl
  | cons x xs => exact .inr ⟨(x :: xs).dropLast, (x :: xs).getLast (List.cons_ne_nil _ _), (List.dropLast_concat_getLast _).symm⟩
def rngI (lo : Int) (n : Nat) : List Int := (List.range n).map fun (k : Nat) => lo + (k : Int)
theorem rngD_I (lo : Int) (n : Nat) : rngD lo n = (rngI lo n).map PyData.int := by
  unfold rngD rngI
  rw [List.map_map]
  rfl
theorem small_log {n : Int} (h1 : -(2 ^ 200) < n) (h2 : n < 2 ^ 200) : n.natAbs.log2 < 1920 := Nat.lt_trans (PySem.Flt.log2_lt_of (k := 200) (by decide) (by omega)) (by decide)
theorem ints_all {p : Int → Prop} : ∀ {ys : List D}, (∀ y ∈ ys, ∃ i : Int, y = .int i ∧ p i) → ∃ ns : List Int, ys = ns.map PyData.int ∧ ∀ n ∈ ns, p n
  | [], _ => ⟨[], rfl, fun _ h => by cases h⟩
  | y :: ys, h => by
    obtain ⟨i, rfl, q⟩ := h y List.mem_cons_self
    obtain ⟨ns, rfl, q2⟩ := ints_all fun z hz => h z (List.mem_cons_of_mem _ hz)
    refine ⟨i :: ns, rfl, fun n hn => ?_⟩
    rcases List.mem_cons.mp hn with e | hn
    · rw [e]; exact q
    · exact q2 n hn
/-- what stands ready for the draws -/
structure TB (K : PySem.W.Frag) (mg : Str → Option Value) : Prop where
  b_int : mg "int" = none
  b_abs : mg "abs" = none
  b_len : mg "len" = none
structure TA (P : Program) (w : World) (K : PySem.W.Frag) (mg : Str → Option Value) (base : Heap) : Prop extends TB K mg where
  d_law_any : C8.Cal P w K mg base 1 "_law_any" (spW K g_any) []
/-! texts that are short -/
structure RepOk (d : D) : Prop where
  show_ : d.showable = true
  flat : d.hasDict = false
  deep : d.depth ≤ 60
  len : d.shown.length ≤ sizeLine
def Mid (n : Int) : Prop := -999999999999 ≤ n ∧ n ≤ 999999999999
theorem rep_int {i : Int} (h : Mid i) : RepOk (.int i) := by
  have h1 := h.1
  have h2 := h.2
  refine ⟨?_, rfl, Nat.zero_le _, ?_⟩
  · simp only [PyData.showable, decide_eq_true_eq]
    exact small_log (by omega) (by omega)
  · exact Nat.le_trans (PyData.shown_int_le2 h1 h2) (by rw [sizeLine_eq]; decide)
theorem ints_show : ∀ {ns : List Int}, (∀ n ∈ ns, Mid n) → PyData.showableAll (ns.map PyData.int) = true ∧ PyData.hasDictAll (ns.map PyData.int) = false ∧ PyData.leavesShortAll 13 (ns.map PyData.int) = true ∧ PyData.bulkAll (ns.map PyData.int) = ns.length
  | [], _ => ⟨rfl, rfl, rfl, rfl⟩
  | n :: ns, h => by
    obtain ⟨a, b, c, d⟩ := ints_show fun m hm => h m (List.mem_cons_of_mem _ hm)
    have hn := h n List.mem_cons_self
    have r := rep_int hn
    have l := PyData.shown_int_le2 hn.1 hn.2
    rw [List.map_cons]
    refine ⟨?_, ?_, ?_, ?_⟩
    · simp only [PyData.showableAll, r.show_, a, Bool.and_self]
    · simp only [PyData.hasDictAll, r.flat, b, Bool.or_self]
    · simp only [PyData.leavesShortAll, PyData.leavesShort, c, Bool.and_true, decide_eq_true_eq]
      exact l
    · simp only [PyData.bulkAll, PyData.bulk, d, List.length_cons]
      omega
theorem rep_tup {ns : List Int} (h : ∀ n ∈ ns, Mid n) (hl : ns.length ≤ 1000000) : RepOk (.tuple (ns.map PyData.int)) := by
  obtain ⟨a, b, c, d⟩ := ints_show h
  refine ⟨?_, ?_, ?_, PyData.shown_fits_bulk (B := 13) (by decide) (by decide) ?_ ?_⟩
  · simp only [PyData.showable, a]
  · simp only [PyData.hasDict, b]
  · simp only [PyData.depth, depth_ints]
    omega
  · simp only [PyData.leavesShort, c]
  · simp only [PyData.bulk, d]
    omega
theorem eqv_bool (a b : Bool) : PyData.eqv (.bool a) (.bool b) = (a == b) := by
  cases a <;> cases b <;> simp [PyData.eqv]
end LD

/-! LD15: dicts whose keys are tuples of ints, wherever the tuples come from: rules below the data. -/
namespace LD
open PySem PySem.Spec L2
abbrev XT := List (List Int × Addr × Value)
theorem hash_one (P : Program) (w : World) (P' : Program) (w' : World) (x : List Int × Addr × Value) : entryOfKey (tupleKind (mixKind P w)) (keyX x) = entryOfKey (tupleKind (mixKind P' w')) (keyX x) := by
  unfold entryOfKey
  congr 1
  show tupleKeyHash (mixKind P w) (x.1.map Sum.inl) = tupleKeyHash (mixKind P' w') (x.1.map Sum.inl)
  unfold tupleKeyHash
  rw [List.map_map, List.map_map]
  rfl
/-- the keys' tuples stand -/
def KeysIn (K : PySem.W.Frag) (H : Hp) (xs : XT) : Prop := ∀ x ∈ xs, SqT K H x.2.1 (x.1.map V.int)
section
variable {X : Cx} {pins : List (Addr × Obj)} {σ : L2.St} {H : Hp} {s : Shared} {a b : Addr} {xs : XT} {k : List Int}
theorem map_kV (k : List Int) : (k.map Sum.inl).map kV = k.map V.int := by
  rw [List.map_map]
  rfl
theorem keyIn (I : Inv X pins σ H s) (h : SqT X.K H b (k.map V.int)) : (tupleKind (mixKind X.prog X.w)).is s.heap (k.map Sum.inl) b := by
  obtain ⟨its, r, ⟨o, h1, h2, n, h3⟩, _⟩ := I.tuple h
  refine ⟨o, its.toArray, n, h1, h2, h3, ?_⟩
  rw [← map_kV] at r
  simpa using items_are r
theorem raw_of (I : Inv X pins σ H s) (h : H a = some (.ext (RawT a xs))) : RawT a xs s.heap := (show ObjOk X.prog X.w H s.heap a (.ext (RawT a xs)) from I.hok a _ h).1
theorem nodup_keyX {xs : XT} (h : (xs.map (·.1)).Nodup) : ((xs.map keyX).map (·.1)).Nodup := by
  rw [List.map_map]
  have e : ((fun x : List L2.Key × Addr × Value => x.1) ∘ keyX) = (fun k : List Int => k.map Sum.inl) ∘ fun x : List Int × Addr × Value => x.1 := rfl
  rw [e, ← List.map_map]
  exact List.Pairwise.map _ (fun p q hpq z => hpq (by
    have := congrArg (List.map fun k : L2.Key => match k with | .inl i => i | .inr _ => (0 : Int)) z
    rw [List.map_map, List.map_map] at this
    simpa [Function.comp_def] using this)) h
theorem dictIn (I : Inv X pins σ H s) (R : RawT a xs s.heap) (hk : KeysIn X.K H xs) : s.heap.DictOfH (tupleKind (mixKind X.prog X.w)) a (xs.map keyX) := by
  obtain ⟨o, es, ep, h1, h2, h3, h4⟩ := R.raw
  refine ⟨o, es, ep, h1, h2, h3, ?_, fun x hx => ?_, nodup_keyX R.one⟩
  · rw [h4 X.prog X.w, List.map_map]
    rfl
  · obtain ⟨y, hy, rfl⟩ := List.mem_map.mp hx
    exact keyIn I (hk y hy)
/-- what stands at the key -/
def atX (xs : XT) (k : List Int) : Option (Addr × Value) := (xs.find? fun x => decide (x.1 = k)).map (·.2)
theorem inl_inj {k l : List Int} : (k.map Sum.inl : List L2.Key) = l.map Sum.inl ↔ k = l := by
  constructor
  · intro z
    have := congrArg (List.map fun k : L2.Key => match k with | .inl i => i | .inr _ => (0 : Int)) z
    rw [List.map_map, List.map_map] at this
    simpa [Function.comp_def] using this
  · rintro rfl; rfl
theorem atKey_X (k : List Int) : ∀ xs : XT, atKey (xs.map keyX) (k.map Sum.inl) = atX xs k
  | [] => rfl
  | x :: xs => by
    have ih := atKey_X k xs
    unfold atKey atX at ih ⊢
    rw [List.map_cons, List.find?_cons, List.find?_cons]
    have e : decide ((keyX x).1 = k.map Sum.inl) = decide (x.1 = k) := decide_eq_decide.mpr inl_inj
    rw [e]
    cases decide (x.1 = k) with
    | true => rfl
    | false => exact ih
def putX (xs : XT) (k : List Int) (b : Addr) (u : Value) : XT := if (atX xs k).isSome then xs.map fun x => if x.1 = k then (x.1, x.2.1, u) else x else xs ++ [(k, b, u)]
theorem stored_X (xs : XT) (k : List Int) (b : Addr) (u : Value) : storedH (xs.map keyX) (k.map Sum.inl) b u = (putX xs k b u).map keyX := by
  unfold storedH putX
  rw [atKey_X]
  split
  · rw [List.map_map, List.map_map]
    refine List.map_congr_left fun x _ => ?_
    show putAt (k.map Sum.inl) u (keyX x) = keyX (if x.1 = k then (x.1, x.2.1, u) else x)
    unfold putAt
    by_cases h : x.1 = k
    · rw [if_pos h, if_pos (show (keyX x).1 = k.map Sum.inl from inl_inj.mpr h)]
      rfl
    · rw [if_neg h, if_neg (show ¬ (keyX x).1 = k.map Sum.inl from fun z => h (inl_inj.mp z))]
  · rw [List.map_append]
    rfl
theorem put_len (xs : XT) (k : List Int) (b : Addr) (u : Value) : (putX xs k b u).length ≤ xs.length + 1 := by
  unfold putX
  split
  · rw [List.length_map]; omega
  · rw [List.length_append]; exact Nat.le_refl _
theorem put_keys (xs : XT) (k : List Int) (b : Addr) (u : Value) : (putX xs k b u).map (·.1) = if (atX xs k).isSome then xs.map (·.1) else xs.map (·.1) ++ [k] := by
  unfold putX
  split
  · rw [List.map_map]
    refine List.map_congr_left fun x _ => ?_
    show (if x.1 = k then (x.1, x.2.1, u) else x).1 = x.1
    split <;> rfl
  · rw [List.map_append]
    rfl
theorem atX_none {xs : XT} {k : List Int} (h : (atX xs k).isSome = false) : k ∉ xs.map (·.1) := fun hk => by
  obtain ⟨x, hx, e⟩ := List.mem_map.mp hk
  unfold atX at h
  rw [Option.isSome_map] at h
  have hn : (xs.find? fun x => decide (x.1 = k)) = none := by
    cases q : xs.find? fun x => decide (x.1 = k) with
    | none => rfl
    | some y => rw [q] at h; cases h
  exact List.find?_eq_none.mp hn x hx (decide_eq_true e)
theorem put_one {xs : XT} {k : List Int} {b : Addr} {u : Value} (h : (xs.map (·.1)).Nodup) : ((putX xs k b u).map (·.1)).Nodup := by
  rw [put_keys]
  cases q : (atX xs k).isSome with
  | true => exact h
  | false =>
    rw [if_neg (by decide)]
    exact List.nodup_append.mpr ⟨h, List.nodup_cons.mpr ⟨by simp, List.nodup_nil⟩, fun x hx y hy e => atX_none q (by
      have : y = k := by simpa using hy
      rw [← this, ← e]; exact hx)⟩
end
/-! ### the rules -/
theorem rawT_local {a : Addr} {xs : XT} (h1 h2 : Heap) (R : RawT a xs h1) (k : ∀ o, h1.get? a = some o → h2.get? a = some o) : RawT a xs h2 := by
  obtain ⟨⟨o, es, ep, e1, e2⟩, r1, r2, r3⟩ := R
  exact ⟨⟨o, es, ep, k o e1, e2⟩, r1, r2, r3⟩
/-- {} -/
def tNewX : TE := fun _ H Q => ∀ p, H p = none → Q (.ref p) (upd H p (.ext (RawT p [])))
theorem pe_newX {X : Cx} {pos : Pos} : PE X (.Dict [] [] pos) tNewX := ⟨fun pins s σ H Q I h => by
  refine wpAny_Dict_empty ⟨.ref s.heap.objs.size, _, I.laid (a := s.heap.objs.size) (o := .ext (RawT s.heap.objs.size [])) (t' := s.toks) (fun _ _ q => Heap.get?_push_of_some _ q) (Nat.le_refl _) ?_, rfl, h _ (I.hok.fresh (Nat.le_refl _))⟩
  refine ⟨⟨⟨_, #[], 0, Heap.get?_push_size _ rfl, ⟨rfl, rfl, rfl⟩, rfl, fun _ _ => rfl⟩, List.nodup_nil, Nat.zero_le _, beq_eq_false_iff_ne.mpr (Ne.symm (Nat.ne_of_lt I.big))⟩, ⟨_, Heap.get?_push_size _ rfl⟩, fun h1 h2 R k => rawT_local h1 h2 R k⟩⟩
/-- d[k], there -/
def rIxX (K : PySem.W.Frag) : R2 := fun x y H Q => ∃ a xs b k c u v, x = .ref a ∧ y = .ref b ∧ H a = some (.ext (RawT a xs)) ∧ KeysIn K H xs ∧ SqT K H b (k.map V.int) ∧ atX xs k = some (c, u) ∧ RelV v u ∧ Q v H
section
variable {X : Cx} {o i e f value : Expr} {pos pos' apos cpos : Pos} {td ty tv tx : TE}
theorem pe_ixX (hu : X.A.units + 1 < cLine) (ho : PE X o td) (hi : PE X i ty) (hs : NoSl i) : PE X (.Subscript o i pos) (tOp (rIxX X.K) td ty) := by
  refine ⟨fun pins s σ H Q I h => ?_⟩
  refine subD_of PySem.F.slot_dict_getitem.lookup hs (thn (ho.run pins s σ H _ I h) fun u s1 ⟨x, H1, I1, rx, q1⟩ => thn (hi.run pins s1 σ H1 _ I1 q1) fun iv s2 ⟨y, H2, I2, ry, q2⟩ => ?_)
  obtain ⟨a, xs, b, k, c, w, v, ex, ey, ha, hk, hb, hat, rv, q⟩ := q2
  subst ex ey
  obtain rfl : u = Value.ref a := rx
  obtain rfl : iv = Value.ref b := ry
  have D := dictIn I2 (raw_of I2 ha) hk
  refine ⟨D.typeIs, wpAny_getItem_heap (p := (c, w)) (tupleKind_room_in1 hu) (keyIn I2 hb) D (by rw [atKey_X]; exact hat) ⟨v, H2, I2.tok _, rv, q⟩⟩
/-- d[k] = v -/
def rSetX (K : PySem.W.Frag) : TSet := fun o i v H Q => ∃ a xs b k, o = .ref a ∧ i = .ref b ∧ H a = some (.ext (RawT a xs)) ∧ KeysIn K H xs ∧ SqT K H b (k.map V.int) ∧ xs.length < sizeLine ∧ ∀ u, RelV v u → Q (upd H a (.ext (RawT a (putX xs k b u))))
theorem set_X (hu : X.A.units + 1 < cLine) : PSet X (rSetX X.K) := by
  intro pins s σ H o i v ov iv u Q I ro ri rv h
  obtain ⟨a, xs, b, k, rfl, rfl, ha, hk, hb, hz, q⟩ := h
  obtain rfl : ov = Value.ref a := ro
  obtain rfl : iv = Value.ref b := ri
  have R := raw_of I ha
  have D := dictIn I R hk
  refine wpAny_setItem_heap (hsz := by rw [List.length_map]; exact R.few) (tupleKind_room_in1 hu) (keyIn I hb) D fun h' dd hs => ?_
  rw [stored_X] at dd
  obtain ⟨ob, es, ep, g1, g2, g3, g4, _, g5⟩ := dd
  have R' : RawT a (putX xs k b u) h' := ⟨⟨ob, es, ep, g1, g2, g3, fun P w => by
    rw [g4, List.map_map]
    refine List.map_congr_left fun x _ => hash_one _ _ _ _ x⟩, put_one R.one, by have := put_len xs k b u; omega, R.own⟩
  exact ⟨_, d_write I (by rw [ha]; exact True.intro) hs ⟨ob, g1⟩ (show ObjOk X.prog X.w (upd H a (.ext (RawT a (putX xs k b u)))) h' a (.ext (RawT a (putX xs k b u))) from ⟨R', ⟨ob, g1⟩, fun h1 h2 => rawT_local h1 h2⟩), q u rv⟩
/-- d.get(k, x) -/
def tGetX (K : PySem.W.Frag) (td ty tx : TE) : TE := fun σ H Q => td σ H fun x H1 => (∃ a xs, x = .ref a ∧ H1 a = some (.ext (RawT a xs)) ∧ KeysIn K H1 xs) ∧ ty σ H1 fun y H2 => tx σ H2 fun z H3 =>
  ∃ a xs b k, x = .ref a ∧ y = .ref b ∧ H3 a = some (.ext (RawT a xs)) ∧ KeysIn K H3 xs ∧ SqT K H3 b (k.map V.int) ∧ (∀ c u, atX xs k = some (c, u) → ∃ v, RelV v u ∧ Q v H3) ∧ (atX xs k = none → Q z H3)
theorem pe_getX (hu : X.A.units + 1 < cLine) (ho : PE X o td) (he : PE X e ty) (hf : PE X f tx) (m : M2 X o "get" apos e f cpos) : PE X (.Call (.Attribute o "get" apos) [e, f] [] cpos) (tGetX X.K td ty tx) := by
  refine ⟨fun pins s σ H Q I h => ?_⟩
  refine wpAny_Call_method m.base m.few m.line PySem.F.plainAttrs_dict PySem.F.slot_dict_get PySem.F.type_dict_get (thn (ho.run pins s σ H _ I h) fun u s1 ⟨x, H1, I1, rx, q0, q1⟩ => ?_)
  obtain ⟨a, xs, ex, ha, hk⟩ := q0
  subst ex
  obtain rfl : u = Value.ref a := rx
  have D1 := dictIn I1 (raw_of I1 ha) hk
  refine ⟨D1.typeIs, fun c z => ?_, ?_⟩
  · cases z
    obtain ⟨ob, _, _, h1, h2, _⟩ := D1
    exact ⟨ob, h1, h2.2.1⟩
  rw [m.trees]
  refine Calls.callWith_builtin rfl (Calls.evalArgs_plain (Calls.spliced_cons (thn (he.run pins s1 σ H1 _ I1 q1) fun iv s2 ⟨y, H2, I2, ry, q2⟩ =>
    Calls.spliced_cons (thn (hf.run pins s2 σ H2 _ I2 q2) fun fv s3 ⟨z, H3, I3, rz, q3⟩ => Calls.spliced_nil ?_))))
  obtain ⟨a', ys, b, k, ex, ey, ha', hk', hb, q4, q5⟩ := q3
  cases ex
  subst ey
  obtain rfl : iv = Value.ref b := ry
  have R := raw_of I3 ha'
  have D := dictIn I3 R hk'
  refine call_meetsIn PySem.F.slot_dict_get D.typeIs PySem.F.entry_dict_get (PySem.F.args_dict_get_3 _ _ _) (meetsH_dict_get_default (tupleKind (mixKind X.prog X.w)) a b R.own fv) ⟨tupleKind_room_in1 hu, _, _, keyIn I3 hb, D, ?_⟩
  rw [atKey_X]
  cases hat : atX ys k with
  | none => exact ⟨z, H3, I3.tok _, rz, q5 hat⟩
  | some p =>
    obtain ⟨c, w⟩ := p
    obtain ⟨v, rv, q6⟩ := q4 c w hat
    exact ⟨v, H3, I3.tok _, rv, q6⟩
end
/-! ### sorted(d) -/
def keyD (xs : XT) : List D := xs.map fun x => .tuple (x.1.map PyData.int)
theorem reads_ints {h : Heap} : ∀ {k : List Int} {vs : List Value} {as : List Addr}, ReadsAll h vs (k.map PyData.int) as → as = []
  | [], _, _, r => by cases r; rfl
  | i :: k, _, _, r => by
    cases r with
    | cons a b =>
      cases a
      rw [reads_ints b]
      rfl
theorem reads_key {h : Heap} {k : List Int} {u : Value} {as : List Addr} (r : Reads h u (.tuple (k.map PyData.int)) as) : as = [] := by
  cases r with
  | tuple _ _ _ r => exact reads_ints r
theorem dpAll_keys {K : PySem.W.Frag} {H : Hp} : ∀ {xs : XT}, KeysIn K H xs → DpAll K H (xs.map fun x => V.ref x.2.1) (keyD xs)
  | [], _ => .nil
  | x :: xs, h => .cons (.tup (h x List.mem_cons_self) (dpAll_ints _)) (dpAll_keys fun y hy => h y (List.mem_cons_of_mem _ hy))
theorem vals_refsX : ∀ xs : XT, Vals (xs.map fun x => V.ref x.2.1) (xs.map fun x => Value.ref x.2.1)
  | [] => .nil
  | x :: xs => .cons rfl (vals_refsX xs)
def rSortX (K : PySem.W.Frag) : List V → Hp → VK → Prop := fun vs H Q => ∃ (a : Addr) (xs : XT), vs = [.ref a] ∧ H a = some (.ext (RawT a xs)) ∧ KeysIn K H xs ∧ PySem.W.AllAlike (keyD xs) ∧ PySem.W.Sortable (keyD xs) ∧
  ∀ (ys : List V) (p : Addr), ys.length = xs.length → (∀ Hi, DpAll K Hi (xs.map fun x => V.ref x.2.1) (keyD xs) → DpAll K Hi ys ((keyD xs).mergeSort leD)) → H p = none → Q (.ref p) (upd H p (.lst ys))
theorem depth_key {d : D} {xs : XT} (h : d ∈ keyD xs) : d.depth ≤ 1 := by
  obtain ⟨x, _, rfl⟩ := List.mem_map.mp h
  simp only [PyData.depth, depth_ints]
  exact Nat.le_refl _
open PySem.Calls PySem.W PyProof.Rows in
theorem cr_sortX {X : Cx} (hc : X.calm = true) (hu : X.A.units + 64 < cLine) : CallR X (.builtin "sorted") (rSortX X.K) := by
  intro pins s σ H vs us Q I r h
  obtain ⟨a, xs, rfl, ha, hk, hal, hso, q⟩ := h
  rw [Vals.ref1 r]
  have R := raw_of I ha
  obtain ⟨o, es, ep, h1, h2, h3, h4⟩ := R.raw
  have hes : es.size = xs.length := by
    have := congrArg List.length (h4 X.prog X.w)
    rw [Array.length_toList, List.length_map] at this
    exact this
  refine call_function_entry kind_sorted plain_sorted entry_sorted (args_sorted1 _) ?_
  unfold Builtin.«sorted»
  refine wpAny_bind (m := checkCount "sorted" 1 1 _) (wpAny_pure ?_)
  refine wpAny_bind (kdu_collect (A := X.A.in1) (KdlSrc.rawDict (es := es) (ep := ep) R.own) (I.ok.hd hc) ⟨o, h1, h2, h3⟩ (by rw [hes]; exact R.few) fun h' tk acc hkp hacc => ?_)
  have el : acc.toList.length = xs.length := by rw [Array.length_toList, ← hes]; exact hacc.1
  have ea : acc.toList = xs.map fun x => Value.ref x.2.1 := by
    refine List.ext_getElem? fun j => ?_
    rw [List.getElem?_map]
    cases hj : acc.toList[j]? with
    | none =>
      rw [List.getElem?_eq_none_iff] at hj
      rw [List.getElem?_eq_none_iff.mpr (by omega)]
      rfl
    | some v =>
      obtain ⟨hi, e⟩ := hacc.2 j v (by rw [← Array.getElem?_toList]; exact hj)
      have e2 : es.toList[j]? = some es[j] := by rw [Array.getElem?_toList, Array.getElem?_eq_getElem hi]
      rw [h4 X.prog X.w, List.getElem?_map] at e2
      cases hx : xs[j]? with
      | none => rw [hx] at e2; cases e2
      | some x =>
        rw [hx] at e2
        have e3 : entryOfKey (tupleKind (mixKind X.prog X.w)) (keyX x) = es[j] := Option.some.inj e2
        rw [e, ← e3]
        rfl
  refine wpAny_bind (wpAny_newList ?_ (by rw [el]; exact R.few))
  have I1 : Inv X pins σ H { s with heap := h', toks := tk } := I.kept (t' := tk) hkp
  have old2 : ∀ b ob, h'.get? b = some ob → (h'.push { cls := .type "list", data := .seq acc.toList.toArray }).get? b = some ob := fun b ob e => Heap.get?_push_of_some _ e
  have D1 := dpAll_keys hk
  have edl : (keyD xs).length = xs.length := by unfold keyD; rw [List.length_map]
  have evl : (xs.map fun x => V.ref x.2.1).length = xs.length := List.length_map ..
  obtain ⟨as, hr⟩ := Dp.readsAll I1 _ _ _ D1 (vals_refsX xs)
  have em : ((xs.map fun x => V.ref x.2.1).zip (keyD xs)).map Prod.snd = keyD xs := List.map_snd_zip (by omega)
  have en : ((xs.map fun x => V.ref x.2.1).zip (keyD xs)).length = xs.length := by rw [List.length_zip]; omega
  have er : EachIs (fun v b => ∃ as, Reads (h'.push { cls := .type "list", data := .seq acc.toList.toArray }) v b.2 as ∧ h'.objs.size ∉ as) acc.toList ((xs.map fun x => V.ref x.2.1).zip (keyD xs)) := by
    have z0 := each_reads hr (show (xs.map fun x => V.ref x.2.1).length = (keyD xs).length by omega)
    rw [← ea] at z0
    refine (each_mem z0).mono fun v b z => ?_
    obtain ⟨⟨as, r⟩, hb⟩ := z
    obtain ⟨x, _, hx⟩ := List.mem_map.mp (List.of_mem_zip (a := b.1) (b := b.2) hb).2
    rw [← hx] at r ⊢
    exact ⟨as, Reads.keeps old2 r, by rw [reads_key r]; simp⟩
  have hob : (h'.push { cls := .type "list", data := .seq acc.toList.toArray }).get? h'.objs.size = some (seqObj "list" acc.toList.toArray 0) := Heap.get?_push_size _ rfl
  refine wpAny_bind (wpAny_holding (wpAny_mono (list_sort_data (A := X.A.in1) (bs := (xs.map fun x => V.ref x.2.1).zip (keyD xs)) (enc := Prod.snd) hob (by rw [ea]; exact each_vals (vals_refsX xs) (by omega)) er (by rw [em]; exact hal) (by rw [em]; exact hso) (by rw [en]; exact R.few) (fun b hb => ?_)
    (Q := fun _ s' => EP X pins σ Q (.ref h'.objs.size) s') fun out ho he => ?_) (fun _ s' x => ?_) fun _ _ e => e))
  · have := depth_key (List.of_mem_zip (a := b.1) (b := b.2) hb).2
    show X.A.units + 1 + 1 + b.2.depth < cLine
    omega
  · have hv := vals_each he
    generalize hzs : ((xs.map fun x => V.ref x.2.1).zip (keyD xs)).mergeSort (dataLe false Prod.snd) = zs at hv
    have hp : ∀ z ∈ zs, z ∈ (xs.map fun x => V.ref x.2.1).zip (keyD xs) := fun z h => by
      rw [← hzs] at h
      exact (List.mergeSort_perm _ _).mem_iff.mp h
    have hlz : zs.length = xs.length := by rw [← hzs, (List.mergeSort_perm _ _).length_eq, en]
    have es2 : zs.map Prod.snd = (keyD xs).mergeSort leD := by
      rw [← hzs, List.map_mergeSort (s := leD) (fun x _ y _ => by rw [dataLe_eq]; rfl), em]
    obtain ⟨ep2, he'⟩ := sortedHeap_at (vs := acc.toList) (out := out.toArray) hob
    have hlen : (zs.map Prod.fst).length ≤ sizeLine := by rw [List.length_map, hlz]; exact R.few
    have fresh : H h'.objs.size = none := I1.hok.fresh (Nat.le_refl _)
    refine ⟨.ref h'.objs.size, upd H h'.objs.size (.lst (zs.map Prod.fst)), I1.laid (a := h'.objs.size) (t' := tk) (fun b ob e => ?_) (Nat.le_refl _) (show ObjOk X.prog X.w _ _ _ (.lst (zs.map Prod.fst)) from ⟨hlen, out, ep2, hv, he'⟩), rfl, q _ _ (by rw [List.length_map, hlz]) (fun Hi h => ?_) fresh⟩
    · exact (sortedHeap_old (Nat.ne_of_lt (Heap.lt_size e)) (Heap.lt_size (old2 b ob e))).trans (old2 b ob e)
    · rw [← es2]
      exact dp_unzip fun z hz => dp_zip h z (hp z hz)
  · exact wpAny_pure ⟨_, rfl, x⟩
end LD

/-! LD16: readings over data: dicts that one slot keeps, keys are tuples of ints. -/
namespace LD
open PySem PySem.Spec L2
section
variable {K : PySem.W.Frag} {F : Fx} {σ : L2.St} {H : Hp} {ρ : Rho} {vs ws : List V} {ds es : List D}
/-- slot i keeps what was just laid -/
theorem Rel.keepNew {p : Addr} {i : Nat} {o : HO} {x : DV} (R : Rel K F σ H ρ vs ds) (hp : H p = none) (hi : i < ρ.length) (hx : ∀ Hi, Same Hi H → SlotOk K Hi (upd H p o) (some (.ref p)) [p] x) : Rel K F (σ.set i (some (.ref p))) (upd H p o) (ρ.set i x) vs ds := by
  obtain ⟨Hi, own, R⟩ := R
  have ne : ∀ i, ∀ a ∈ own i, a ≠ p := fun i a ha z => R.held i a ha (by rw [z]; exact hp)
  refine ⟨Hi, fun j => if j = i then [p] else own j, ⟨R.base, R.sub.trans (same_upd hp), R.new, fun b q h hn => ?_, fun b h => ?_, ?_, fun j y h => ?_, fun j a ha => ?_, fun j a ha => ?_, fun j a ha => ?_, fun j k hjk a ha hk => ?_, fun j es' h a ha => ?_, fun z hz => ?_, R.tmp⟩⟩
  · rw [upd_ne (ne_of_none (R.keep b q h hn) hp)]; exact R.keep b q h hn
  · by_cases hbp : b = p
    · rw [hbp, upd_same]; simp
    · rw [upd_ne hbp]; exact R.dom b h
  · rw [List.length_set, List.length_set]; exact R.len
  · by_cases hj : j = i
    · subst hj
      rw [List.getElem?_set_self hi] at h
      cases h
      have e1 : (σ.set j (some (V.ref p)))[j]? = some (some (.ref p)) := List.getElem?_set_self (by rw [R.len]; exact hi)
      rw [e1, if_pos rfl]
      exact hx Hi R.sub
    · rw [List.getElem?_set_ne (Ne.symm hj)] at h ⊢
      rw [if_neg hj]
      exact (R.slot j y h).grow (Same.refl _) fun a ha o q => by rw [upd_ne (ne j a ha)]; exact q
  all_goals try (by_cases hj : j = i)
  · rw [if_pos hj] at ha
    obtain rfl : a = p := by simpa using ha
    exact R.noSub hp
  · rw [if_neg hj] at ha; exact R.free j a ha
  · rw [if_pos hj] at ha
    obtain rfl : a = p := by simpa using ha
    rw [upd_same]; simp
  · rw [if_neg hj] at ha; rw [upd_ne (ne j a ha)]; exact R.held j a ha
  · rw [if_pos hj] at ha
    obtain rfl : a = p := by simpa using ha
    exact .inl (R.no0 hp)
  · rw [if_neg hj] at ha; exact R.nown j a ha
  · rw [if_pos hj] at ha
    obtain rfl : a = p := by simpa using ha
    rw [if_neg (fun z => hjk (hj.trans z.symm))] at hk
    exact ne k a hk rfl
  · rw [if_neg hj] at ha
    by_cases hki : k = i
    · rw [if_pos hki] at hk
      obtain rfl : a = p := by simpa using hk
      exact ne j a ha rfl
    · rw [if_neg hki] at hk; exact R.sep j k hjk a ha hk
  · rw [if_pos hj] at ha
    obtain rfl : a = p := by simpa using ha
    exact R.no0 hp
  · rw [if_neg hj] at ha
    rw [List.getElem?_set_ne (Ne.symm hj)] at h
    exact R.nls j es' h a ha
  · obtain ⟨z1, z2, z3⟩ := R.pin z hz
    have nz : z.1 ≠ p := ne_of_none z1 hp
    refine ⟨by rw [upd_ne nz]; exact z1, z2, fun j hj => ?_⟩
    by_cases hji : j = i
    · rw [if_pos hji] at hj
      exact nz (by simpa using hj)
    · rw [if_neg hji] at hj; exact z3 j hj
/-- the dict of slot i is turned -/
theorem Rel.turnX {i : Nat} {p : Addr} {zs zs' : List Ent} (R : Rel K F σ H ρ vs ds) (h : ρ[i]? = some (.dt p zs))
    (hz : ∀ Hi, Same Hi H → DpAll K Hi vs ds → (∀ z ∈ zs, Dp K Hi (.ref z.b) (.tuple (z.k.map PyData.int)) ∧ RelV z.v z.u ∧ Dp K Hi z.v z.d) → (∀ z ∈ zs', Dp K Hi (.ref z.b) (.tuple (z.k.map PyData.int)) ∧ RelV z.v z.u ∧ Dp K Hi z.v z.d) ∧ DpAll K Hi ws es) :
    Rel K F σ (upd H p (.ext (RawT p (zs'.map Ent.x)))) (ρ.set i (.dt p zs')) ws es := by
  obtain ⟨Hi, own, R⟩ := R
  obtain ⟨e, eo, hp, q⟩ := R.slot i _ h
  have hi : i < ρ.length := (List.getElem?_eq_some_iff.mp h).1
  obtain ⟨y1, y2⟩ := hz Hi R.sub R.tmp q
  have np : Hi p = none := R.free i p (by rw [eo]; simp)
  have no : ∀ j, j ≠ i → ∀ a ∈ own j, a ≠ p := fun j hj a ha z => R.sep j i hj a ha (by rw [eo, z]; simp)
  refine ⟨Hi, own, ⟨R.base, fun b x z => ?_, R.new, fun b o z hn => ?_, fun b z => ?_, by rw [List.length_set]; exact R.len, fun j x z => ?_, R.free, fun j a ha => ?_, R.nown, R.sep, fun j es' z => ?_, fun z hz => ?_, y2⟩⟩
  · rw [upd_ne (fun w => by rw [w, np] at z; cases z)]; exact R.sub b x z
  · have nb : b ≠ p := fun w => by
      rcases R.nown i p (by rw [eo]; simp) with q | q
      · rw [w, q] at z; cases z
      · exact hn (by rw [w]; exact q)
    rw [upd_ne nb]; exact R.keep b o z hn
  · by_cases hb : b = p
    · rw [hb, upd_same]; simp
    · rw [upd_ne hb]; exact R.dom b z
  · by_cases hj : j = i
    · subst hj
      rw [List.getElem?_set_self hi] at z
      cases z
      exact ⟨e, eo, upd_same, y1⟩
    · rw [List.getElem?_set_ne (Ne.symm hj)] at z
      exact (R.slot j x z).grow (Same.refl _) fun a ha o w => by rw [upd_ne (no j hj a ha)]; exact w
  · by_cases hap : a = p
    · rw [hap, upd_same]; simp
    · rw [upd_ne hap]; exact R.held j a ha
  · by_cases hj : j = i
    · subst hj
      rw [List.getElem?_set_self hi] at z
      cases z
    · rw [List.getElem?_set_ne (Ne.symm hj)] at z
      exact R.nls j es' z
  · obtain ⟨z1, z2, z3⟩ := R.pin z hz
    have nz : z.1 ≠ p := fun w => z3 i (by rw [eo, w]; simp)
    exact ⟨by rw [upd_ne nz]; exact z1, z2, z3⟩
theorem Rel.dtAt {i : Nat} {p : Addr} {zs : List Ent} (R : Rel K F σ H ρ vs ds) (h : ρ[i]? = some (.dt p zs)) : σ[i]? = some (some (.ref p)) ∧ H p = some (.ext (RawT p (zs.map Ent.x))) ∧ KeysIn K H (zs.map Ent.x) := by
  obtain ⟨Hi, own, R⟩ := R
  obtain ⟨e, eo, hp, q⟩ := R.slot i _ h
  have e' : σ[i]? = some (some (.ref p)) := by
    cases z : σ[i]? with
    | none => rw [z] at e; cases e
    | some y => rw [z] at e; exact congrArg some e
  refine ⟨e', hp, fun x hx => ?_⟩
  obtain ⟨z, hz, rfl⟩ := List.mem_map.mp hx
  have h1 := (q z hz).1
  cases h1 with
  | tup s g =>
    have := ints_of (K := K) z.k _ g
    subst this
    exact sqT_mono R.sub s
/-- what stands at a key -/
def lookE (zs : List Ent) (k : List Int) : Option Ent := zs.find? fun z => decide (z.k = k)
theorem look_X (zs : List Ent) (k : List Int) : atX (zs.map Ent.x) k = (lookE zs k).map fun z => (z.b, z.u) := by
  unfold atX lookE
  rw [List.find?_map]
  cases h : zs.find? ((fun x : List Int × Addr × Value => decide (x.1 = k)) ∘ Ent.x) with
  | none =>
    have : (zs.find? fun z => decide (z.k = k)) = none := h
    rw [this]; rfl
  | some z =>
    have : (zs.find? fun z => decide (z.k = k)) = some z := h
    rw [this]; rfl
def lookD (kvs : List (List Int × D)) (k : List Int) : Option D := (kvs.find? fun p => decide (p.1 = k)).map (·.2)
theorem look_D (zs : List Ent) (k : List Int) : lookD (zs.map Ent.kv) k = (lookE zs k).map (·.d) := by
  unfold lookD lookE
  rw [List.find?_map]
  cases h : zs.find? ((fun p : List Int × D => decide (p.1 = k)) ∘ Ent.kv) with
  | none =>
    have : (zs.find? fun z => decide (z.k = k)) = none := h
    rw [this]; rfl
  | some z =>
    have : (zs.find? fun z => decide (z.k = k)) = some z := h
    rw [this]; rfl
def putD (kvs : List (List Int × D)) (k : List Int) (d : D) : List (List Int × D) := if (lookD kvs k).isSome then kvs.map fun p => if p.1 = k then (p.1, d) else p else kvs ++ [(k, d)]
def putE (zs : List Ent) (k : List Int) (b : Addr) (u : Value) (v : V) (d : D) : List Ent := if (lookE zs k).isSome then zs.map fun z => if z.k = k then { z with u := u, v := v, d := d } else z else zs ++ [⟨k, b, u, v, d⟩]
theorem put_X (zs : List Ent) (k : List Int) (b : Addr) (u : Value) (v : V) (d : D) : (putE zs k b u v d).map Ent.x = putX (zs.map Ent.x) k b u := by
  unfold putE putX
  rw [look_X, Option.isSome_map]
  split
  · rw [List.map_map, List.map_map]
    refine List.map_congr_left fun z _ => ?_
    show Ent.x (if z.k = k then { z with u := u, v := v, d := d } else z) = if z.k = k then (z.k, z.b, u) else Ent.x z
    split <;> rfl
  · rw [List.map_append]; rfl
theorem put_D (zs : List Ent) (k : List Int) (b : Addr) (u : Value) (v : V) (d : D) : (putE zs k b u v d).map Ent.kv = putD (zs.map Ent.kv) k d := by
  unfold putE putD
  rw [look_D, Option.isSome_map]
  split
  · rw [List.map_map, List.map_map]
    refine List.map_congr_left fun z _ => ?_
    show Ent.kv (if z.k = k then { z with u := u, v := v, d := d } else z) = if z.k = k then (z.k, d) else Ent.kv z
    split <;> rfl
  · rw [List.map_append]; rfl
theorem lookE_mem {zs : List Ent} {k : List Int} {z : Ent} (h : lookE zs k = some z) : z ∈ zs ∧ z.k = k := ⟨List.mem_of_find?_eq_some h, of_decide_eq_true (List.find?_some (p := fun z : Ent => decide (z.k = k)) h)⟩
end
section
variable {K : PySem.W.Frag} {tb tk : TE} {b k : TD}
/-- x = {} -/
def dNewX (i : Nat) : TDS := fun dn ρ => i < ρ.length ∧ ∀ p, dn.nx (ρ.set i (.dt p []))
theorem ss_newX {i : Nat} : SS K (tAsg tNewX (gName i)) (dNewX i) := ⟨fun a b ρ h q => ⟨q.1, fun p => h.nx _ (q.2 p)⟩, fun F σ H ρ vs ds E dn G R q p hp => G.nx _ _ _ (R.keepNew (x := .dt p []) hp q.1 fun Hi s => ⟨rfl, rfl, upd_same, fun z hz => by cases hz⟩) (q.2 p)⟩
/-- x[e] -/
def dIxX (i : Nat) (b : TD) : TD := fun ρ P => (∃ p zs, ρ[i]? = some (.dt p zs)) ∧ b ρ fun r y => ∃ p zs k d, r[i]? = some (.dt p zs) ∧ y = .tuple (k.map PyData.int) ∧ lookD (zs.map Ent.kv) k = some d ∧ P r d
theorem se_ixX (i : Nat) (sb : SE K tb b) : SE K (tOp (rIxX K) (tVar i) tb) (dIxX i b) := by
  refine ⟨fun ρ P P' h ⟨q0, q⟩ => ⟨q0, sb.mono _ _ _ (fun r y ⟨p, zs, k, d, e, e1, e2, q⟩ => ⟨p, zs, k, d, e, e1, e2, h _ _ q⟩) q⟩, fun F σ H ρ vs ds Q R q => ?_⟩
  obtain ⟨⟨p, zs0, e0⟩, q⟩ := q
  obtain ⟨e1, _, _⟩ := R.dtAt e0
  refine ⟨.ref p, e1, sb.run F σ H ρ vs ds _ R (sb.mono _ _ _ (fun r y q v H1 R1 => ?_) q)⟩
  obtain ⟨p2, zs, k, d, e, ey, el, q3⟩ := q
  subst ey
  obtain ⟨e2, hp, hk⟩ := R1.dtAt e
  rw [e1] at e2
  cases e2
  rw [look_D] at el
  cases hz : lookE zs k with
  | none => rw [hz] at el; cases el
  | some z =>
    rw [hz] at el
    obtain rfl : z.d = d := Option.some.inj el
    obtain ⟨zm, zk⟩ := lookE_mem hz
    obtain ⟨Hi, own, R2⟩ := R1
    obtain ⟨_, _, _, g⟩ := R2.slot i _ e
    obtain ⟨_, g2, g3⟩ := g z zm
    have t := R2.tmp
    cases t with
    | cons t1 t2 =>
      cases t1 with
      | tup s gk =>
        have := ints_of (K := K) k _ gk
        subst this
        exact ⟨p, _, _, k, z.b, z.u, z.v, rfl, rfl, hp, hk, sqT_mono R2.sub s, by rw [look_X, hz]; rfl, g2, q3 _ _ ⟨Hi, own, R2.tmpTo (.cons g3 t2)⟩⟩
/-- x[k] = e -/
def dSetX (i : Nat) (b k : TD) : TDS := fun dn ρ => b ρ fun r d => (∃ p zs, r[i]? = some (.dt p zs)) ∧ k r fun r2 y => ∃ p zs ks, r2[i]? = some (.dt p zs) ∧ y = .tuple (ks.map PyData.int) ∧ zs.length < sizeLine ∧ ∀ zs', zs'.map Ent.kv = putD (zs.map Ent.kv) ks d → dn.nx (r2.set i (.dt p zs'))
theorem ss_setX (i : Nat) (sb : SE K tb b) (sk : SE K tk k) : SS K (tAsg tb (gSub (tVar i) tk (rSetX K))) (dSetX i b k) := by
  refine ⟨fun a b ρ h q => sb.mono _ _ _ (fun r d ⟨q0, q⟩ => ⟨q0, sk.mono _ _ _ (fun r2 y ⟨p, zs, ks, e, e1, e2, q⟩ => ⟨p, zs, ks, e, e1, e2, fun zs' hz => h.nx _ (q zs' hz)⟩) q⟩) q, fun F σ H ρ vs ds E dn G R q => ?_⟩
  refine sb.run F σ H ρ vs ds _ R (sb.mono _ _ _ (fun r d q v H1 R1 => ?_) q)
  obtain ⟨⟨p, zs0, e0⟩, q⟩ := q
  obtain ⟨e1, _, _⟩ := R1.dtAt e0
  refine ⟨.ref p, e1, sk.run F σ H1 r _ _ _ R1 (sk.mono _ _ _ (fun r2 y q w H2 R2 => ?_) q)⟩
  obtain ⟨p2, zs, ks, e, ey, ez, q3⟩ := q
  subst ey
  obtain ⟨e2, hp, hk⟩ := R2.dtAt e
  rw [e1] at e2
  cases e2
  have R2' := R2
  obtain ⟨Hi, own, R4⟩ := R2'
  have t := R4.tmp
  cases t with
  | cons t1 t2 =>
    cases t1 with
    | tup s gk =>
      rename_i b' _
      have := ints_of (K := K) ks _ gk
      subst this
      refine ⟨p, _, b', ks, rfl, rfl, hp, hk, sqT_mono R4.sub s, by rw [List.length_map]; exact ez, fun u ru => ?_⟩
      rw [← put_X zs ks b' u v d]
      refine G.nx _ _ _ (R2.turnX (zs' := putE zs ks b' u v d) e fun Hi2 s2 t3 g => ?_) (q3 _ (put_D _ _ _ _ _ _))
      cases t3 with
      | cons t4 t5 =>
        cases t5 with
        | cons t6 t7 =>
          refine ⟨fun z hz => ?_, t7⟩
          unfold putE at hz
          split at hz
          · obtain ⟨z0, hz0, rfl⟩ := List.mem_map.mp hz
            by_cases hc : z0.k = ks
            · rw [if_pos hc]
              exact ⟨(g z0 hz0).1, ru, t6⟩
            · rw [if_neg hc]
              exact g z0 hz0
          · rcases List.mem_append.mp hz with hz | hz
            · exact g z hz
            · obtain rfl : z = ⟨ks, b', u, v, d⟩ := by simpa using hz
              exact ⟨t4, ru, t6⟩
/-- x.get(k, e) -/
def dGetX (i : Nat) (k b : TD) : TD := fun ρ P => (∃ p zs, ρ[i]? = some (.dt p zs)) ∧ k ρ fun r y => b r fun r2 d => ∃ p zs ks, r2[i]? = some (.dt p zs) ∧ y = .tuple (ks.map PyData.int) ∧ P r2 ((lookD (zs.map Ent.kv) ks).getD d)
theorem se_getX (i : Nat) (sk : SE K tk k) (sb : SE K tb b) : SE K (tGetX K (tVar i) tk tb) (dGetX i k b) := by
  refine ⟨fun ρ P P' h ⟨q0, q⟩ => ⟨q0, sk.mono _ _ _ (fun r y q => sb.mono _ _ _ (fun r2 d ⟨p, zs, ks, e, e1, q⟩ => ⟨p, zs, ks, e, e1, h _ _ q⟩) q) q⟩, fun F σ H ρ vs ds Q R q => ?_⟩
  obtain ⟨⟨p, zs0, e0⟩, q⟩ := q
  obtain ⟨e1, hp0, hk0⟩ := R.dtAt e0
  refine ⟨.ref p, e1, ⟨p, _, rfl, hp0, hk0⟩, sk.run F σ H ρ vs ds _ R (sk.mono _ _ _ (fun r y q w H1 R1 => ?_) q)⟩
  refine sb.run F σ H1 r _ _ _ R1 (sb.mono _ _ _ (fun r2 d q v H2 R2 => ?_) q)
  obtain ⟨p2, zs, ks, e, ey, q3⟩ := q
  subst ey
  obtain ⟨e2, hp, hk⟩ := R2.dtAt e
  rw [e1] at e2
  cases e2
  obtain ⟨Hi, own, R4⟩ := R2
  have t := R4.tmp
  cases t with
  | cons t4 t5 =>
    cases t5 with
    | cons t6 t7 =>
      cases t6 with
      | tup s gk =>
        have := ints_of (K := K) ks _ gk
        subst this
        refine ⟨p, _, _, ks, rfl, rfl, hp, hk, sqT_mono R4.sub s, fun c u hat => ?_, fun hat => ?_⟩
        · rw [look_X] at hat
          cases hz : lookE zs ks with
          | none => rw [hz] at hat; cases hat
          | some z =>
            rw [hz] at hat
            cases hat
            obtain ⟨_, _, _, g⟩ := R4.slot i _ e
            obtain ⟨_, g2, g3⟩ := g z (lookE_mem hz).1
            rw [look_D, hz] at q3
            exact ⟨z.v, g2, q3 _ _ ⟨Hi, own, R4.tmpTo (.cons g3 t7)⟩⟩
        · rw [look_X] at hat
          cases hz : lookE zs ks with
          | some z => rw [hz] at hat; cases hat
          | none =>
            rw [look_D, hz] at q3
            exact q3 _ _ ⟨Hi, own, R4.tmpTo (.cons t4 t7)⟩
/-- sorted(x) -/
def keysD (kvs : List (List Int × D)) : List D := kvs.map fun p => .tuple (p.1.map PyData.int)
def dSortX (i : Nat) : TDA := fun ρ P => ∃ p zs, ρ[i]? = some (.dt p zs) ∧ PySem.W.AllAlike (keysD (zs.map Ent.kv)) ∧ PySem.W.Sortable (keysD (zs.map Ent.kv)) ∧ P ρ ((keysD (zs.map Ent.kv)).mergeSort leD)
theorem keysD_X (zs : List Ent) : keyD (zs.map Ent.x) = keysD (zs.map Ent.kv) := by
  unfold keyD keysD
  rw [List.map_map, List.map_map]
  rfl
theorem sf_sortX (i : Nat) : SF K (tCB (rSortX K) (tCons (tVar i) tNil)) (dSortX i) := by
  refine ⟨fun ρ P P' h ⟨p, zs, e, h1, h2, q⟩ => ⟨p, zs, e, h1, h2, h _ _ q⟩, fun F σ H ρ vs ds Q R q => ?_⟩
  obtain ⟨p, zs, e, h1, h2, q⟩ := q
  obtain ⟨e1, hp, hk⟩ := R.dtAt e
  refine ⟨.ref p, e1, p, _, rfl, hp, hk, by rw [keysD_X]; exact h1, by rw [keysD_X]; exact h2, fun ys l hl hy hn => ?_⟩
  rw [keysD_X] at hy
  have el : ys.length = ((keysD (zs.map Ent.kv)).mergeSort leD).length := by
    rw [hl, (List.mergeSort_perm _ _).length_eq, List.length_map]
    unfold keysD
    rw [List.length_map, List.length_map]
  obtain ⟨Hi, own, R4⟩ := R
  obtain ⟨_, _, _, g⟩ := R4.slot i _ e
  have dk : DpAll K Hi ((zs.map Ent.x).map fun x => V.ref x.2.1) (keysD (zs.map Ent.kv)) := by
    have : ∀ zs : List Ent, (∀ z ∈ zs, Dp K Hi (.ref z.b) (.tuple (z.k.map PyData.int))) → DpAll K Hi ((zs.map Ent.x).map fun x => V.ref x.2.1) (keysD (zs.map Ent.kv)) := by
      intro zs
      induction zs with
      | nil => intro _; exact .nil
      | cons z zs ih => intro h; exact .cons (h z List.mem_cons_self) (ih fun y hy => h y (List.mem_cons_of_mem _ hy))
    exact this zs fun z hz => (g z hz).1
  exact q _ _ _ el ⟨Hi, own, R4.tmpTo (dpAll_app (hy Hi dk) R4.tmp)⟩ hn
end
end LD

/-! LD17: defs that are given a value and a dict, and only read the dict. -/
namespace LD
open PySem PySem.Spec L2
abbrev CT := D → List (List Int × D) → (D → Prop) → Prop
def EntsOk (K : PySem.W.Frag) (Hi : Hp) (zs : List Ent) : Prop := ∀ z ∈ zs, Dp K Hi (.ref z.b) (.tuple (z.k.map PyData.int)) ∧ RelV z.v z.u ∧ Dp K Hi z.v z.d
def spT (K : PySem.W.Frag) (g : CT) : Sp := fun vs H Q _ => ∃ (Hi : Hp) (a : Addr) (zs : List Ent) (v : V) (d : D), vs = [v, .ref a] ∧ Same Hi H ∧ Hi a = none ∧ H a = some (.ext (RawT a (zs.map Ent.x))) ∧ EntsOk K Hi zs ∧ Dp K Hi v d ∧
  g d (zs.map Ent.kv) fun r => ∀ v' H' Hi', Same Hi Hi' → Same Hi' H' → Same H H' → Fresh Hi Hi' H → Dp K Hi' v' r → Q v' H'
section
variable {K : PySem.W.Frag} {te : TE} {e : TD} {E : XK}
/-- f(e, x), x the dict of slot i -/
def dCallT (i : Nat) (g : CT) (e : TD) : TD := fun ρ P => e ρ fun r d => ∃ p zs, r[i]? = some (.dt p zs) ∧ g d (zs.map Ent.kv) (P r)
theorem se_callT {i : Nat} {g : CT} (hg : ∀ d kvs P P', (∀ r, P r → P' r) → g d kvs P → g d kvs P') (s : SE K te e) : SE K (tCall (spT K g) [] E (tCons te (tCons (tVar i) tNil))) (dCallT i g e) := by
  refine ⟨fun ρ P P' h q => s.mono _ _ _ (fun r d ⟨p, zs, e, q⟩ => ⟨p, zs, e, hg _ _ _ _ (h _) q⟩) q, fun F σ H ρ vs ds Q R q => ?_⟩
  refine s.run F σ H ρ vs ds _ R (s.mono _ _ _ (fun r d q v H1 R1 => ?_) q)
  obtain ⟨p', zs, e, q⟩ := q
  obtain ⟨e1, hp, hk⟩ := R1.dtAt e
  refine ⟨.ref p', e1, ?_⟩
  obtain ⟨Hi, own, R2⟩ := R1
  obtain ⟨_, eo, hp', q2⟩ := R2.slot i _ e
  have t := R2.tmp
  cases t with
  | cons t1 t2 =>
    exact ⟨Hi, p', zs, v, d, rfl, R2.sub, R2.free i p' (by rw [eo]; simp), hp', q2, t1, hg _ _ _ _ (fun d' q v' H' Hi' h1 h2 h3 h4 h5 => q v' H' ⟨Hi', own, R2.after h1 h2 h3 h4 (.cons h5 (dpAll_mono h1 _ _ t2))⟩) q⟩
/-- the entry of such a def -/
theorem run_T {N : List Str} {ts : TS} {t : TDS} {Hi H : Hp} {a : Addr} {zs : List Ent} {v : V} {d : D} {Q : VK} {P : D → Prop} (s : SS K ts t) (h1 : Same Hi H) (ha : Hi a = none) (hd : H a = some (.ext (RawT a (zs.map Ent.x)))) (hz : EntsOk K Hi zs) (h2 : Dp K Hi v d)
    (hq : ∀ r, P r → ∀ v' H' Hi', Same Hi Hi' → Same Hi' H' → Same H H' → Fresh Hi Hi' H → Dp K Hi' v' r → Q v' H')
    (ht : t { nx := fun r => r[1]? = some (.dt a zs) ∧ P .none, rt := fun r d => r[1]? = some (.dt a zs) ∧ P d } (.sh d :: .dt a zs :: List.replicate (N.length - 2) .no)) : ts { nx := fun _ H' => Q .non H', rt := Q } (start N [v, .ref a]) H := by
  have back : ∀ σ' H' ρ' v' d', Rel K ⟨Hi, H, [a], []⟩ σ' H' ρ' [v'] [d'] → ρ'[1]? = some (.dt a zs) ∧ P d' → Q v' H' := fun σ' H' ρ' v' d' R ⟨e, p⟩ => by
    obtain ⟨Hi', own, R⟩ := R
    have q := R.tmp
    cases q with
    | cons x _ =>
      refine hq d' p v' H' Hi' R.base R.sub (fun c o ec => ?_) (fun b hb => R.new b hb) x
      by_cases hc : c = a
      · subst hc
        obtain ⟨_, _, hp, _⟩ := R.slot 1 _ e
        rw [hd] at ec
        cases ec
        exact hp
      · exact R.keep c o ec (by simp [hc])
  refine s.run ⟨Hi, H, [a], []⟩ (start N [v, .ref a]) H (.sh d :: .dt a zs :: List.replicate (N.length - 2) .no) [] [] { nx := fun _ H' => Q .non H', rt := Q } { nx := fun r => r[1]? = some (.dt a zs) ∧ P .none, rt := fun r d => r[1]? = some (.dt a zs) ∧ P d } ⟨fun σ' H' ρ' R p => back σ' H' ρ' .non .none (R.push (v := .non) rfl) p, fun σ' H' ρ' v d R p => back σ' H' ρ' v d R p, fun _ _ _ _ z => z.elim, fun _ _ _ _ z => z.elim, fun _ _ _ _ _ _ _ _ _ _ _ _ z => z.elim, fun _ _ _ _ _ _ _ z => z.elim⟩ ⟨Hi, fun j => if j = 1 then [a] else [], ?_⟩ ht
  refine ⟨Same.refl _, h1, fun b hb => .inl hb, fun b o e _ => e, fun b e => e, ?_, fun i x e => ?_, fun i c hc => ?_, fun i c hc => ?_, fun i c hc => ?_, fun i j hij c hc hk => ?_, fun i es e c hc => ?_, fun z hz => (by cases hz), DpAll.nil⟩
  · unfold L2.start
    simp only [List.length_append, List.length_map, List.length_cons, List.length_nil, List.length_replicate]
    omega
  · match i, e with
    | 0, e => cases e; exact ⟨v, rfl, h2⟩
    | 1, e => cases e; exact ⟨rfl, rfl, hd, hz⟩
    | i + 2, e =>
      have : x = .no := (List.mem_replicate.mp (List.mem_of_getElem? (show (List.replicate (N.length - 2) DV.no)[i]? = some x from e))).2
      rw [this]
      trivial
  all_goals try (by_cases hi : i = 1)
  · rw [if_pos hi] at hc
    obtain rfl : c = a := by simpa using hc
    exact ha
  · rw [if_neg hi] at hc; cases hc
  · rw [if_pos hi] at hc
    obtain rfl : c = a := by simpa using hc
    rw [hd]; simp
  · rw [if_neg hi] at hc; cases hc
  · rw [if_pos hi] at hc; exact .inr hc
  · rw [if_neg hi] at hc; cases hc
  · rw [if_neg (fun z => hij (hi.trans z.symm))] at hk; cases hk
  · rw [if_neg hi] at hc; cases hc
  · rw [hi] at e; cases e
  · rw [if_neg hi] at hc; cases hc
end
section
variable {P : Program} {w : World} {K : PySem.W.Frag} {mg : Str → Option Value} {base : Heap}
theorem ok_T {x qual : Str} {st : Stmt} {f : Addr} {fd : FuncData} {N ps : List Str} {k : Nat} {g : CT} (F : Fun K x qual st f fd) (S : FnScope N ps (defScope st)) (hl : ps.length = 2) (hN : 2 ≤ N.length)
    (hbody : ∀ (cdv : Value) (A : Around) (outer : List Env) (s : Shared) (H : Hp) (E : XK), Room k (A.deeper (PyProof.Rows.envOfC qual (defScope st) s.heap.objs.size f cdv)) →
      ∃ ts t, PSs (cxOf CX0 P w K mg base N qual (defScope st) f cdv A outer s H E).nox (defBody st) ts ∧ SS K ts t ∧ ∀ a zs d Pd, g d (zs.map Ent.kv) Pd → t { nx := fun r => r[1]? = some (.dt a zs) ∧ Pd .none, rt := fun r d => r[1]? = some (.dt a zs) ∧ Pd d } (.sh d :: .dt a zs :: List.replicate (N.length - 2) .no)) : FnOk P w K mg base CX0 (k + 1) f fd ps (spT K g) := by
  refine F.ok S (fun vs H Q E h => ?_) (fun cdv A outer s H vs Q E hr h => ?_)
  · obtain ⟨Hi, a, zs, v, d, rfl, _⟩ := h
    exact hl.symm
  · obtain ⟨ts, t, h1, h2, h3⟩ := hbody cdv A outer s H E hr
    obtain ⟨Hi, a, zs, v, d, rfl, e1, e2, e3, e4, e5, hg⟩ := h
    exact ⟨ts, h1, run_T h2 e1 e2 e3 e4 e5 (fun r q => q) (h3 a zs d _ hg)⟩
end
end LD

/-! LD18: what the drawn fields, elements, polynomials are. -/
namespace LD
open PySem PySem.Spec L2
def fieldsL : List Int := [0, 2, 3, 5, 7, 11]
def g_law_field : CD := fun ds P => ds = [] ∧ ∀ p ∈ fieldsL, P (.int p)
theorem g_law_field_mono : ∀ es P P', (∀ d, P d → P' d) → g_law_field es P → g_law_field es P' := fun es P P' h ⟨e, q⟩ => ⟨e, fun p hp => h _ (q p hp)⟩
def elemF (p n : Int) : Int := if p = 0 then n else n % p
def g_law_element : CD := fun ds P => ∃ p n : Int, ds = [.int p, .int n] ∧ 0 ≤ p ∧ P (.int (elemF p n))
theorem g_law_element_mono : ∀ es P P', (∀ d, P d → P' d) → g_law_element es P → g_law_element es P' := fun es P P' h ⟨p, n, e, h1, q⟩ => ⟨p, n, e, h1, h _ q⟩
def g_law_some : CD := fun ds P => ∃ p : Int, ds = [.int p] ∧ 0 ≤ p ∧ p < 1000 ∧ ∀ x : Int, -6 ≤ x → x < 1000 → (0 < p → 0 ≤ x ∧ x < p) → P (.int x)
theorem g_law_some_mono : ∀ es P P', (∀ d, P d → P' d) → g_law_some es P → g_law_some es P' := fun es P P' h ⟨p, e, h1, h2, q⟩ => ⟨p, e, h1, h2, fun x a b c => h _ (q x a b c)⟩
/-! terms -/
def tupK (k : List Int) : D := .tuple (k.map PyData.int)
def termD (t : List Int × Int) : D := .tuple [tupK t.1, .int t.2]
def lookI (kis : List (List Int × Int)) (k : List Int) : Option Int := (kis.find? fun x => decide (x.1 = k)).map (·.2)
def leL (k l : List Int) : Bool := !decide (l < k)
def kisD (kis : List (List Int × Int)) : List (List Int × D) := kis.map fun x => (x.1, PyData.int x.2)
def termF (p : Int) (kis : List (List Int × Int)) (k : List Int) : Option (List Int × Int) := if elemF p ((lookI kis k).getD 0) = 0 then none else some (k, elemF p ((lookI kis k).getD 0))
def tidyF (p : Int) (kis : List (List Int × Int)) : List (List Int × Int) := ((kis.map (·.1)).mergeSort leL).filterMap (termF p kis)
def g_law_tidy : CT := fun d kvs P => ∃ (p : Int) (kis : List (List Int × Int)), d = .int p ∧ 0 ≤ p ∧ kvs = kisD kis ∧ (∀ x ∈ kis, x.1 ≠ []) ∧ kis.length ≤ 100000 ∧ P (.tuple ((tidyF p kis).map termD))
theorem g_law_tidy_mono : ∀ d kvs P P', (∀ r, P r → P' r) → g_law_tidy d kvs P → g_law_tidy d kvs P' := fun d kvs P P' h ⟨p, kis, e1, e2, e3, e4, e5, q⟩ => ⟨p, kis, e1, e2, e3, e4, e5, h _ q⟩
theorem look_kis (kis : List (List Int × Int)) (k : List Int) : lookD (kisD kis) k = (lookI kis k).map PyData.int := by
  unfold lookD lookI kisD
  induction kis with
  | nil => rfl
  | cons x kis ih =>
    rw [List.map_cons, List.find?_cons, List.find?_cons]
    cases h : decide (x.1 = k) with
    | true => rfl
    | false => exact ih
theorem look_some {kis : List (List Int × Int)} {k : List Int} (h : k ∈ kis.map (·.1)) : ∃ n, lookI kis k = some n ∧ (k, n) ∈ kis := by
  unfold lookI
  induction kis with
  | nil => cases h
  | cons x kis ih =>
    rw [List.find?_cons]
    by_cases hx : x.1 = k
    · rw [decide_eq_true hx]
      exact ⟨x.2, rfl, by rw [← hx]; exact List.mem_cons_self⟩
    · rw [decide_eq_false hx]
      rw [List.map_cons] at h
      rcases List.mem_cons.mp h with z | z
      · exact absurd z.symm hx
      · obtain ⟨n, e, m⟩ := ih z
        exact ⟨n, e, List.mem_cons_of_mem _ m⟩
theorem keys_kis (kis : List (List Int × Int)) : keysD (kisD kis) = (kis.map (·.1)).map tupK := by
  unfold keysD kisD
  rw [List.map_map, List.map_map]
  rfl
theorem lt_tupK (k l : List Int) : PySem.W.dataLt (tupK k) (tupK l) = decide (k < l) := by
  unfold tupK
  rw [PySem.W.dataLt_tuple]
  exact PySem.W.dataLt_ints k l
theorem sort_tupK (ks : List (List Int)) : (ks.map tupK).mergeSort leD = (ks.mergeSort leL).map tupK := (List.map_mergeSort (f := tupK) fun k _ l _ => by unfold leL leD; rw [lt_tupK]).symm
theorem alike_ints : ∀ k l : List Int, PySem.W.alikeAll (k.map PyData.int) (l.map PyData.int) = true
  | [], _ => by simp [PySem.W.alikeAll]
  | _ :: _, [] => by simp [PySem.W.alikeAll]
  | x :: k, y :: l => by simp [PySem.W.alikeAll, PySem.W.alike, alike_ints k l]
theorem alike_tupK (k l : List Int) : PySem.W.alike (tupK k) (tupK l) = true := by
  unfold tupK
  simp [PySem.W.alike, alike_ints]
theorem keys_ok {ks : List (List Int)} (h : ∀ k ∈ ks, k ≠ []) : PySem.W.AllAlike (ks.map tupK) ∧ PySem.W.Sortable (ks.map tupK) := by
  refine ⟨fun x hx y hy => ?_, .inl fun x hx => ?_⟩
  · obtain ⟨k, _, rfl⟩ := List.mem_map.mp hx
    obtain ⟨l, _, rfl⟩ := List.mem_map.mp hy
    exact alike_tupK k l
  · obtain ⟨k, hk, rfl⟩ := List.mem_map.mp hx
    cases k with
    | nil => exact absurd rfl (h _ hk)
    | cons i k => exact ⟨_, _, rfl⟩
def intOf : D → Int
  | .int i => i
  | _ => 0
theorem intOf_map (k : List Int) : (k.map PyData.int).map intOf = k := by
  rw [List.map_map]
  exact List.map_id k
def termO (p : Int) (kis : List (List Int × Int)) : D → Option D
  | .tuple es => (termF p kis (es.map intOf)).map termD
  | _ => none
theorem termO_tup (p : Int) (kis : List (List Int × Int)) (k : List Int) : termO p kis (tupK k) = (termF p kis k).map termD := by
  unfold termO tupK
  show (termF p kis ((k.map PyData.int).map intOf)).map termD = _
  rw [intOf_map]
theorem fm_term (p : Int) (kis : List (List Int × Int)) : ∀ ks : List (List Int), (ks.map tupK).filterMap (termO p kis) = (ks.filterMap (termF p kis)).map termD
  | [] => rfl
  | k :: ks => by
    rw [List.map_cons]
    cases h : termF p kis k with
    | none => rw [List.filterMap_cons_none (by rw [termO_tup, h]; rfl), List.filterMap_cons_none h, fm_term p kis ks]
    | some t => rw [List.filterMap_cons_some (b := termD t) (by rw [termO_tup, h]; rfl), List.filterMap_cons_some h, fm_term p kis ks, List.map_cons]
/-! drawn polynomials -/
def putI (kis : List (List Int × Int)) (k : List Int) (n : Int) : List (List Int × Int) := if (lookI kis k).isSome then kis.map fun x => if x.1 = k then (x.1, n) else x else kis ++ [(k, n)]
theorem put_kis (kis : List (List Int × Int)) (k : List Int) (n : Int) : putD (kisD kis) k (.int n) = kisD (putI kis k n) := by
  unfold putD putI
  rw [look_kis, Option.isSome_map]
  unfold kisD
  split
  · rw [List.map_map, List.map_map]
    refine List.map_congr_left fun x _ => ?_
    show (if x.1 = k then (x.1, PyData.int n) else (x.1, PyData.int x.2)) = ((if x.1 = k then (x.1, n) else x).1, PyData.int (if x.1 = k then (x.1, n) else x).2)
    split <;> rfl
  · rw [List.map_append]; rfl
theorem putI_len (kis : List (List Int × Int)) (k : List Int) (n : Int) : (putI kis k n).length ≤ kis.length + 1 := by
  unfold putI
  split
  · rw [List.length_map]; omega
  · rw [List.length_append]; exact Nat.le_refl _
theorem putI_mem {kis : List (List Int × Int)} {k : List Int} {n : Int} {x : List Int × Int} (h : x ∈ putI kis k n) : x ∈ kis ∨ x = (k, n) := by
  unfold putI at h
  split at h
  · obtain ⟨y, hy, rfl⟩ := List.mem_map.mp h
    by_cases hc : y.1 = k
    · rw [if_pos hc]; exact .inr (by rw [hc])
    · rw [if_neg hc]; exact .inl hy
  · rcases List.mem_append.mp h with h | h
    · exact .inl h
    · exact .inr (by simpa using h)
theorem putI_nodup {kis : List (List Int × Int)} {k : List Int} {n : Int} (h : (kis.map (·.1)).Nodup) : ((putI kis k n).map (·.1)).Nodup := by
  unfold putI
  cases hl : lookI kis k with
  | some m =>
    rw [if_pos (show (some m).isSome = true from rfl), List.map_map]
    have e : (fun x : List Int × Int => (if x.1 = k then (x.1, n) else x).1) = fun x => x.1 := by
      funext x
      split <;> rfl
    show (kis.map fun x : List Int × Int => (if x.1 = k then (x.1, n) else x).1).Nodup
    rw [e]
    exact h
  | none =>
    rw [if_neg (by decide), List.map_append]
    refine List.nodup_append.mpr ⟨h, List.nodup_cons.mpr ⟨by simp, List.nodup_nil⟩, fun x hx y hy e => ?_⟩
    have ey : y = k := by simpa using hy
    rw [e, ey] at hx
    obtain ⟨m, em, _⟩ := look_some hx
    rw [hl] at em
    cases em
/-- the terms of a polynomial: keys upwards, powers, factors -/
structure Poly (p : Int) (n : Nat) (power : Int) (ts : List (List Int × Int)) : Prop where
  up : (ts.map (·.1)).Pairwise (· < ·)
  at_ : ∀ t ∈ ts, t.1.length = n ∧ (∀ e ∈ t.1, 0 ≤ e ∧ e ≤ power) ∧ t.2 ≠ 0 ∧ (0 < p → 0 ≤ t.2 ∧ t.2 < p) ∧ -1000 < t.2 ∧ t.2 < 1000
structure KisOk (p : Int) (n : Nat) (power : Int) (kis : List (List Int × Int)) : Prop where
  one : (kis.map (·.1)).Nodup
  at_ : ∀ x ∈ kis, x.1.length = n ∧ (∀ e ∈ x.1, 0 ≤ e ∧ e ≤ power) ∧ (0 < p → 0 ≤ x.2 ∧ x.2 < p) ∧ -1000 < x.2 ∧ x.2 < 1000
theorem sort_up {ks : List (List Int)} (h : ks.Nodup) : (ks.mergeSort leL).Pairwise (· < ·) := by
  have h1 : (ks.mergeSort leL).Pairwise (fun a b => leL a b = true) := List.pairwise_mergeSort (fun a b c h1 h2 => by
    unfold leL at *
    simp only [Bool.not_eq_true', decide_eq_false_iff_not] at *
    exact List.not_lt.mpr (List.le_trans (List.not_lt.mp h1) (List.not_lt.mp h2))) (fun a b => by
    unfold leL
    simp only [Bool.or_eq_true, Bool.not_eq_true', decide_eq_false_iff_not]
    rcases List.le_total a b with h | h
    · exact .inl (List.not_lt.mpr h)
    · exact .inr (List.not_lt.mpr h)) ks
  have h2 : (ks.mergeSort leL).Nodup := (List.mergeSort_perm _ _).nodup_iff.mpr h
  refine (h1.and h2).imp fun {a b} ⟨x, y⟩ => ?_
  unfold leL at x
  simp only [Bool.not_eq_true', decide_eq_false_iff_not] at x
  rcases Classical.em (a < b) with z | z
  · exact z
  · exact absurd (List.le_antisymm (List.not_lt.mp x) (List.not_lt.mp z)) y
theorem tidy_fst {p : Int} {kis : List (List Int × Int)} : ∀ ks : List (List Int), ((ks.filterMap (termF p kis)).map (·.1)).Sublist ks
  | [] => .slnil
  | k :: ks => by
    have ih := tidy_fst (p := p) (kis := kis) ks
    cases h : termF p kis k with
    | none =>
      rw [List.filterMap_cons_none h]
      exact ih.cons _
    | some t =>
      rw [List.filterMap_cons_some h, List.map_cons]
      have e : t.1 = k := by
        unfold termF at h
        split at h
        · cases h
        · cases h; rfl
      rw [e]
      exact ih.cons₂ _
theorem tidy_poly {p : Int} {n : Nat} {power : Int} {kis : List (List Int × Int)} (hp : 0 ≤ p) (hp2 : p < 1000) (h : KisOk p n power kis) : Poly p n power (tidyF p kis) ∧ (tidyF p kis).length ≤ kis.length := by
  refine ⟨⟨(sort_up h.one).sublist (tidy_fst _), fun t ht => ?_⟩, ?_⟩
  · obtain ⟨k, hk, e⟩ := List.mem_filterMap.mp ht
    have hk2 : k ∈ kis.map (·.1) := (List.mergeSort_perm _ _).mem_iff.mp hk
    obtain ⟨m, em, mem⟩ := look_some hk2
    unfold termF at e
    rw [em] at e
    have e' : (if elemF p m = 0 then none else some (k, elemF p m)) = some t := e
    obtain ⟨a, b, c, d, f⟩ := h.at_ _ mem
    by_cases hz : elemF p m = 0
    · rw [if_pos hz] at e'; cases e'
    · rw [if_neg hz] at e'
      cases e'
      refine ⟨a, b, hz, fun h0 => ?_, ?_⟩
      · unfold elemF
        rw [if_neg (by omega)]
        exact ⟨Int.emod_nonneg _ (by omega), Int.emod_lt_of_pos _ h0⟩
      · show -1000 < elemF p m ∧ elemF p m < 1000
        unfold elemF
        split
        · exact ⟨d, f⟩
        · have := Int.emod_nonneg m (show p ≠ 0 by omega)
          have := Int.emod_lt_of_pos m (show 0 < p by omega)
          omega
  · unfold tidyF
    refine Nat.le_trans (List.length_filterMap_le _ _) ?_
    rw [(List.mergeSort_perm _ _).length_eq, List.length_map]
    exact Nat.le_refl _
def g_law_polynomial : CD := fun ds P => ∃ p n terms power : Int, ds = [.int p, .int n, .int terms, .int power] ∧ (0 ≤ p ∧ p < 1000) ∧ (1 ≤ n ∧ n ≤ 1000) ∧ (0 ≤ terms ∧ terms ≤ 10000) ∧ (0 ≤ power ∧ power ≤ 1000) ∧
  ∀ ts, Poly p n.toNat power ts → (ts.length : Int) ≤ terms → P (.tuple (ts.map termD))
theorem g_law_polynomial_mono : ∀ es P P', (∀ d, P d → P' d) → g_law_polynomial es P → g_law_polynomial es P' := fun es P P' h ⟨p, n, t, w, e, h1, h2, h3, h4, q⟩ => ⟨p, n, t, w, e, h1, h2, h3, h4, fun ts a b => h _ (q ts a b)⟩
structure TC (P : Program) (w : World) (K : PySem.W.Frag) (mg : Str → Option Value) (base : Heap) : Prop extends TA P w K mg base where
  d_law_of : C8.Cal P w K mg base 2 "_law_of" (spW K g_of) []
  b_sorted : mg "sorted" = none
  b_tuple : mg "tuple" = none
  b_range : mg "range" = none
  d_law_element : C8.Cal P w K mg base 1 "_law_element" (spD K g_law_element) []
structure TPl (P : Program) (w : World) (K : PySem.W.Frag) (mg : Str → Option Value) (base : Heap) : Prop extends TC P w K mg base where
  d_law_some : C8.Cal P w K mg base 2 "_law_some" (spW K g_law_some) []
  d_law_tidy : C8.Cal P w K mg base 2 "_law_tidy" (spT K g_law_tidy) []
end LD

/-! LD19: two lists made at once; mixed lists, rows of lists. -/
namespace LD
open PySem PySem.Spec L2
section
variable {K : PySem.W.Frag} {tf tg : TE} {f g : TDA}
/-- a, b = [..], [..], each kept in its slot alone -/
def dParO (i j : Nat) (f g : TDA) : TDS := fun dn ρ => f ρ fun r es => g r fun r2 fs => i < r2.length ∧ j < r2.length ∧ dn.nx ((r2.set i (.ls es)).set j (.ls fs))
theorem ss_parO {i j : Nat} (sf : SF K tf f) (sg : SF K tg g) : SS K (tPar i j (tCons tf (tCons tg tNil))) (dParO i j f g) := by
  refine ⟨fun a b ρ h q => sf.mono _ _ _ (fun _ es q => sg.mono _ _ _ (fun _ fs ⟨h1, h2, q⟩ => ⟨h1, h2, h.nx _ q⟩) q) q, fun F σ H ρ vs ds E dn G R q => ?_⟩
  refine sf.run F σ H ρ vs ds _ R (sf.mono _ _ _ (fun r es q xs H1 p el R1 hp => ?_) q)
  have f0 := R1.pinFree hp
  refine sg.run (F.mk1 p (.lst xs)) σ _ r _ _ _ (R1.pinNew hp) (sg.mono _ _ _ (fun r2 fs q4 ys H2 p2 el2 R2 hp2 => ?_) q)
  obtain ⟨h1, h2, q5⟩ := q4
  obtain ⟨u1, u2, u3⟩ := R2.unpin f0.1 f0.2
  refine ⟨_, _, rfl, G.nx _ _ _ ?_ q5⟩
  have R3 : Rel K F σ (hide H2 p) r2 (xs ++ (ys ++ vs)) (es ++ (fs ++ ds)) := u3.swap fun Hi h => by
    obtain ⟨a1, a2⟩ := dpAll_split el2 h
    obtain ⟨a3, a4⟩ := dpAll_split el a2
    exact dpAll_app a3 (dpAll_app a1 a4)
  have R4 := R3.keepOwn el u1 h1
  rw [← u2] at R4
  exact R4.keepOwn el2 hp2 (by rw [List.length_set]; exact h2)
end
def g_law_mixed : CD := fun ds P => ∃ ns : List Int, ds = [.list (ns.map PyData.int)] ∧ ns.length ≤ 1000 ∧ ∀ ms : List Int, ms.Perm ns → P (.list (ms.map PyData.int))
theorem g_law_mixed_mono : ∀ es P P', (∀ d, P d → P' d) → g_law_mixed es P → g_law_mixed es P' := fun es P P' h ⟨ns, e, h1, q⟩ => ⟨ns, e, h1, fun ms a => h _ (q ms a)⟩
theorem ixN_nat' {n j : Nat} (h : j < n) : ixN n (j : Int) = some j := by
  unfold ixN
  rw [if_pos (by omega), if_pos (by omega)]
  rfl
theorem seq_nat {n j : Nat} (h : j < n) : seqIndex? (j : Int) n = some j := (ixN_seq (ixN_nat' h)).1
theorem erase_perm {α : Type} {xs : List α} {j : Nat} (h : j < xs.length) : (xs[j] :: xs.eraseIdx j).Perm xs := by
  have e : xs = xs.take j ++ xs[j] :: xs.drop (j + 1) := by rw [← List.drop_eq_getElem_cons h, List.take_append_drop]
  have p : (xs.take j ++ xs[j] :: xs.drop (j + 1)).Perm (xs[j] :: (xs.take j ++ xs.drop (j + 1))) := List.perm_middle
  rw [List.eraseIdx_eq_take_drop_succ]
  rw [← e] at p
  exact p.symm
theorem erase_map {α β : Type} (f : α → β) (xs : List α) (j : Nat) : (xs.map f).eraseIdx j = (xs.eraseIdx j).map f := by
  rw [List.eraseIdx_eq_take_drop_succ, List.eraseIdx_eq_take_drop_succ, List.map_append, List.map_take, List.map_drop]
theorem cut_to (ns : List Int) (k : Nat) : cutD (ns.map PyData.int) none (some (k : Int)) = (ns.take k).map PyData.int := by
  unfold cutD
  rw [HT.sIx_none, List.drop_zero, Nat.sub_zero, List.length_map, List.map_take]
  rw [show HT.sIx ns.length ns.length (some (k : Int)) = min k ns.length from HT.sIx_nat ns.length ns.length k]
  by_cases h : k ≤ ns.length
  · rw [Nat.min_eq_left h]
  · rw [Nat.min_eq_right (by omega), List.take_of_length_le (by rw [List.length_map]; omega), List.take_of_length_le (by rw [List.length_map]; omega)]
def leI (a b : Int) : Bool := !decide (b < a)
theorem sort_ints (ks : List Int) : (ks.map PyData.int).mergeSort leD = (ks.mergeSort leI).map PyData.int := (List.map_mergeSort (f := PyData.int) fun k _ l _ => by unfold leI leD; rw [PySem.W.dataLt_int]).symm
theorem sortI_up {ks : List Int} (h : ks.Nodup) : (ks.mergeSort leI).Pairwise (· < ·) := by
  have h1 : (ks.mergeSort leI).Pairwise (fun a b => leI a b = true) := List.pairwise_mergeSort (fun a b c h1 h2 => by
    unfold leI at *
    simp only [Bool.not_eq_true', decide_eq_false_iff_not] at *
    omega) (fun a b => by
    unfold leI
    simp only [Bool.or_eq_true, Bool.not_eq_true', decide_eq_false_iff_not]
    omega) ks
  have h2 : (ks.mergeSort leI).Nodup := (List.mergeSort_perm _ _).nodup_iff.mpr h
  refine (h1.and h2).imp fun {a b} ⟨x, y⟩ => ?_
  unfold leI at x
  simp only [Bool.not_eq_true', decide_eq_false_iff_not] at x
  omega
theorem alike_ii (ks : List Int) : PySem.W.AllAlike (ks.map PyData.int) ∧ PySem.W.Sortable (ks.map PyData.int) ∧ PyData.depthAll (ks.map PyData.int) ≤ 50 := by
  refine ⟨fun x hx y hy => ?_, .inr fun x hx => ?_, by rw [depth_ints]; decide⟩
  · obtain ⟨i, rfl, _⟩ := mem_int hx
    obtain ⟨j, rfl, _⟩ := mem_int hy
    rfl
  · obtain ⟨i, rfl, _⟩ := mem_int hx
    exact ⟨(fun z => by cases z), (fun es z => by cases z)⟩
theorem rngI_nodup (lo : Int) (n : Nat) : (rngI lo n).Nodup := by
  unfold rngI
  refine List.Pairwise.map _ (fun a b h z => h ?_) List.nodup_range
  omega
theorem rngI_mem' {lo x : Int} {n : Nat} (h : x ∈ rngI lo n) : lo ≤ x ∧ x < lo + n := by
  unfold rngI at h
  obtain ⟨i, hi, rfl⟩ := List.mem_map.mp h
  have := List.mem_range.mp hi
  omega
theorem rngI_len' (lo : Int) (n : Nat) : (rngI lo n).length = n := by unfold rngI; rw [List.length_map, List.length_range]
structure TL (P : Program) (w : World) (K : PySem.W.Frag) (mg : Str → Option Value) (base : Heap) : Prop extends TA P w K mg base where
  b_list : mg "list" = none
/-- rows of a list of lists -/
structure RowOk (p : Int) (r : List Int) : Prop where
  ne : r ≠ []
  up : r.Pairwise (· < ·)
  at_ : ∀ x ∈ r, (p = 0 → -5 ≤ x ∧ x ≤ 5) ∧ (0 < p → 0 ≤ x ∧ x < p)
def rowD (r : List Int) : D := .tuple (r.map PyData.int)
def g_law_lists : CD := fun ds P => ∃ p n most : Int, ds = [.int p, .int n, .int most] ∧ (0 ≤ p ∧ p < 1000 ∧ p ≠ 1) ∧ (0 ≤ n ∧ n ≤ 1000) ∧ (1 ≤ most ∧ most ≤ 1000) ∧
  ∀ rows : List (List Int), (rows.length : Int) = n → (∀ r ∈ rows, RowOk p r ∧ (r.length : Int) ≤ most) → P (.tuple (rows.map rowD))
theorem g_law_lists_mono : ∀ es P P', (∀ d, P d → P' d) → g_law_lists es P → g_law_lists es P' := fun es P P' h ⟨p, n, m, e, h1, h2, h3, q⟩ => ⟨p, n, m, e, h1, h2, h3, fun rs a b => h _ (q rs a b)⟩
structure TM (P : Program) (w : World) (K : PySem.W.Frag) (mg : Str → Option Value) (base : Heap) : Prop extends TPl P w K mg base where
  b_list : mg "list" = none
  b_min : mg "min" = none
  d_law_mixed : C8.Cal P w K mg base 2 "_law_mixed" (spW K g_law_mixed) []
end LD

/-! LD20: zip of two tuples. -/
namespace LD
open PySem PySem.Spec L2
/-- the tuples at a and b, of n and m items, item by item in new pairs -/
def ItZ (K : PySem.W.Frag) (a b : Addr) (n m : Nat) : It where
  go i H := ∃ xs ys x y, SqT K H a xs ∧ SqT K H b ys ∧ xs.length = n ∧ ys.length = m ∧ xs[i]? = some x ∧ ys[i]? = some y
  yld i H v H' := ∃ T x y, v = .ref T ∧ H T = none ∧ H' = upd H T (.tup [x, y]) ∧ (∀ xs, SqT K H a xs → xs[i]? = some x) ∧ ∀ ys, SqT K H b ys → ys[i]? = some y
  stop i H := ∃ xs ys, SqT K H a xs ∧ SqT K H b ys ∧ xs.length = n ∧ ys.length = m ∧ (n ≤ i ∨ m ≤ i)
theorem turn_zipT {P : Program} {w : World} {K : PySem.W.Frag} {es : List Expr} {j : Nat} {tp : Pos} {a b z TI TO i1 i2 : Addr} {n m : Nat} (S : ZipSep2 z TI TO i1 i2 [i1, a] [i2, b]) :
    Turn P w K (.Tuple es j tp) (ItZ K a b n m) [z, TI, TO, i1, i2] z fun i h => IsZip h z TI TO .none ∧ IsTupOf2 h TI (.ref i1) (.ref i2) ∧ (∃ x y, IsTupOf2 h TO x y) ∧ h.IsTupleIter i1 a i ∧ h.IsTupleIter i2 b i ∧ i ≤ n ∧ i ≤ m where
  mem := by simp
  obj i h st c hc := by
    obtain ⟨hz, hTI, ⟨x, y, hTO⟩, ⟨o1, e1, _, d1⟩, ⟨o2, e2, _, d2⟩, _⟩ := st
    rcases (by simpa using hc : c = z ∨ c = TI ∨ c = TO ∨ c = i1 ∨ c = i2) with q | q | q | q | q
    · exact q ▸ ⟨_, hz, fun v q => nomatch q⟩
    · exact q ▸ ⟨_, hTI, fun v q => nomatch q⟩
    · exact q ▸ ⟨_, hTO, fun v q => nomatch q⟩
    · exact q ▸ ⟨o1, e1, fun v q => by rw [d1] at q; cases q⟩
    · exact q ▸ ⟨o2, e2, fun v q => by rw [d2] at q; cases q⟩
  keep i h h' st k := by
    obtain ⟨hz, hTI, ⟨x, y, hTO⟩, h1, h2, l⟩ := st
    exact ⟨k z (by simp) _ hz, k TI (by simp) _ hTI, ⟨x, y, k TO (by simp) _ hTO⟩, h1.at fun o q => k i1 (by simp) o q, h2.at fun o q => k i2 (by simp) o q, l⟩
  item := by
    intro X hP hw hK hc i pins s σ H E I hf st hg
    subst hP hw hK
    obtain ⟨hz, hTI, ⟨x0, y0, hTO⟩, h1, h2, l1, l2⟩ := st
    obtain ⟨xs, ys, x, y, hqx, hqy, nx, ny, hx, hy⟩ := hg
    obtain ⟨its, rv, p, _⟩ := I.tuple hqx
    obtain ⟨its2, rv2, p2, _⟩ := I.tuple hqy
    have p' : s.heap.IsTuple a its.toArray := p
    have p2' : s.heap.IsTuple b its2.toArray := p2
    obtain ⟨u, hu, ru⟩ := rv.get hx
    obtain ⟨u2, hu2, ru2⟩ := rv2.get hy
    have hzl : z < s.heap.objs.size := Heap.lt_size hz
    have hs1 : its.toArray.size = n := by rw [List.size_toArray, ← rv.length, nx]
    have hs2 : its2.toArray.size = m := by rw [List.size_toArray, ← rv2.length, ny]
    have li1 : i < its.toArray.size := by rw [List.size_toArray]; exact (List.getElem?_eq_some_iff.mp hu).1
    have li2 : i < its2.toArray.size := by rw [List.size_toArray]; exact (List.getElem?_eq_some_iff.mp hu2).1
    have ne1 : a ≠ i1 := fun e => by
      obtain ⟨o, q, c, _⟩ := p'
      obtain ⟨o2, q2, c2, _⟩ := h1
      rw [e] at q
      rw [q] at q2
      cases q2
      rw [c] at c2
      exact absurd (Value.type.inj c2) (by decide)
    have ne2 : b ≠ i2 := fun e => by
      obtain ⟨o, q, c, _⟩ := p2'
      obtain ⟨o2, q2, c2, _⟩ := h2
      rw [e] at q
      rw [q] at q2
      cases q2
      rw [c] at c2
      exact absurd (Value.type.inj c2) (by decide)
    refine wpAny_pyNext_zipD2_item S (Draws.tuple (A := X.A.in1) (I.ok.hd hc) i1 a ne1 its.toArray) (Draws.tuple (A := X.A.in1) (I.ok.hd hc) i2 b ne2 its2.toArray) hz hTI hTO ⟨h1, p'⟩ ⟨h2, p2'⟩ li1 li2 fun v1 v2 h' tk y1 y2 b1 b2 d1 d2 b5 b6 hk => ?_
    have e1 : v1 = u := by
      have q : its[i]? = some v1 := by simpa using y1
      rw [hu] at q
      exact (Option.some.inj q).symm
    have e2 : v2 = u2 := by
      have q : its2[i]? = some v2 := by simpa using y2
      rw [hu2] at q
      exact (Option.some.inj q).symm
    subst e1 e2
    refine ⟨_, rfl, wpAny_letOwnedTupleGo_zip (s := { s with heap := h', toks := tk }) b1 fun h2' z'' sb => ?_⟩
    have hT2 : h2'.get? s.heap.objs.size = some { cls := .type "tuple", data := .seq #[v1, v2] } := (sb.2 _ (Nat.ne_of_gt hzl)).trans b5
    have new : ObjOk X.prog X.w (upd H s.heap.objs.size (.tup [x, y])) h2' s.heap.objs.size (.tup [x, y]) :=
      ⟨by show 2 ≤ sizeLine; decide, [v1, v2], .cons ru (.cons ru2 .nil), ⟨_, hT2, rfl, _, rfl⟩⟩
    have I1 : Inv X pins σ (upd H s.heap.objs.size (.tup [x, y])) { s with heap := h2', toks := tk } :=
      I.turnedNew (t' := tk) (ch := [z, TI, TO, i1, i2]) (fun c o hb q => (sb.2 c fun w => hb (by simp [w])).trans (hk c o (fun w => hb (by simp [w])) (fun w => hb (by simp [w])) (fun w => hb (by simp [w])) (fun w => hb (by simp [w])) q)) hf (Nat.le_refl _) new
    refine ⟨.ref s.heap.objs.size, _, I1, rfl, ⟨_, x, y, rfl, I.hok.fresh (Nat.le_refl _), rfl, fun l hl => by rw [I.tuple_inj hl hqx]; exact hx, fun l hl => by rw [I.tuple_inj hl hqy]; exact hy⟩, ⟨z'', ?_, ⟨v1, v2, ?_⟩, ?_, ?_, by omega, by omega⟩, fun c hcm => ?_⟩
    · exact (sb.2 _ S.TIz).trans (hk _ _ S.TIz S.TITO S.TIi1 S.TIi2 hTI)
    · exact (sb.2 _ S.TOz).trans b2
    · exact d1.1.at fun o q => (sb.2 _ (Ne.symm S.zi1)).trans q
    · exact d2.1.at fun o q => (sb.2 _ (Ne.symm S.zi2)).trans q
    · have hlt : c < s.heap.objs.size := by
        rcases (by simpa using hcm : c = z ∨ c = TI ∨ c = TO ∨ c = i1 ∨ c = i2) with q | q | q | q | q
        · exact q ▸ hzl
        · exact q ▸ Heap.lt_size hTI
        · exact q ▸ Heap.lt_size hTO
        · obtain ⟨_, e, _⟩ := h1
          exact q ▸ Heap.lt_size e
        · obtain ⟨_, e, _⟩ := h2
          exact q ▸ Heap.lt_size e
      rw [upd_ne (Nat.ne_of_lt hlt)]
      exact (hf c hcm).1
  done := by
    intro X hP hw hK hc i pins s σ H E I hf st hg
    subst hP hw hK
    obtain ⟨hz, hTI, ⟨x0, y0, hTO⟩, h1, h2, l1, l2⟩ := st
    obtain ⟨xs, ys, hqx, hqy, nx, ny, hend⟩ := hg
    obtain ⟨its, rv, p, _⟩ := I.tuple hqx
    obtain ⟨its2, rv2, p2, _⟩ := I.tuple hqy
    have p' : s.heap.IsTuple a its.toArray := p
    have p2' : s.heap.IsTuple b its2.toArray := p2
    have hs1 : its.toArray.size = n := by rw [List.size_toArray, ← rv.length, nx]
    have hs2 : its2.toArray.size = m := by rw [List.size_toArray, ← rv2.length, ny]
    have ne1 : a ≠ i1 := fun e => by
      obtain ⟨o, q, c, _⟩ := p'
      obtain ⟨o2, q2, c2, _⟩ := h1
      rw [e] at q
      rw [q] at q2
      cases q2
      rw [c] at c2
      exact absurd (Value.type.inj c2) (by decide)
    have ne2 : b ≠ i2 := fun e => by
      obtain ⟨o, q, c, _⟩ := p2'
      obtain ⟨o2, q2, c2, _⟩ := h2
      rw [e] at q
      rw [q] at q2
      cases q2
      rw [c] at c2
      exact absurd (Value.type.inj c2) (by decide)
    refine wpAny_pyNext_zipD2_end S (Draws.tuple (A := X.A.in1) (I.ok.hd hc) i1 a ne1 its.toArray) (Draws.tuple (A := X.A.in1) (I.ok.hd hc) i2 b ne2 its2.toArray) hz hTI hTO ⟨h1, p'⟩ ⟨h2, p2'⟩ (by omega) (by omega) (by omega) fun h' tk hk => ⟨rfl, I.turnedL (t' := tk) (ch := [z, TI, TO, i1, i2]) (fun c o hb q =>
      hk c o (fun w => hb (by simp [w])) (fun w => hb (by simp [w])) (fun w => hb (by simp [w])) (fun w => hb (by simp [w])) q) hf⟩
  self A i s Q E st h := wpAny_pyIter_zip st.1 h
def iZipTT (K : PySem.W.Frag) (ta : L2.TA) : TI := fun σ H R => ta σ H fun vs H1 => ∃ a b xs ys, vs = [.ref a, .ref b] ∧ SqT K H1 a xs ∧ SqT K H1 b ys ∧ R (ItZ K a b xs.length ys.length) H1
theorem pi_zipT {X : Cx} {e e2 : Expr} {ta : L2.TA} {p pos tp : Pos} {es : List Expr} {j : Nat} (hg : Gl X "zip") (hm : X.mg "zip" = none) (ha : PA X [e, e2] ta)
    (hs : starEach [e, e2] X.env = (false, eval e X.env) :: starEach [e2] X.env := by rfl) (hpl : (backTo pos (starEach [e2] X.env)).any (·.1) = false := by rfl) :
    PI X (.Tuple es j tp) (.Call (.Name "zip" p) [e, e2] [] pos) (iZipTT X.K ta) := by
  refine ⟨fun pins s σ H R I h => PyProof.Rows.Call_ (ld_blt I hg hm PyProof.Rows.boot_zip (PyProof.Rows.callWith_type1 (thn (ha.run pos pins s σ H _ I h) fun us s1 ⟨vs, H1, I1, r1, q1⟩ => ?_) hs hpl))⟩
  obtain ⟨a, b, xs, ys, ex, hqx, hqy, q⟩ := q1
  subst ex
  obtain ⟨u, u2, rfl, ru, ru2⟩ := vals2 r1
  obtain rfl : u = Value.ref a := ru
  obtain rfl : u2 = Value.ref b := ru2
  obtain ⟨its, rv, p1, _⟩ := I1.tuple hqx
  obtain ⟨its2, rv2, p2, _⟩ := I1.tuple hqy
  have p1' : s1.heap.IsTuple a its.toArray := p1
  have p2' : s1.heap.IsTuple b its2.toArray := p2
  have la : a < s1.heap.objs.size := by
    obtain ⟨_, q, _⟩ := p1'
    exact Heap.lt_size q
  have lb : b < s1.heap.objs.size := by
    obtain ⟨_, q, _⟩ := p2'
    exact Heap.lt_size q
  refine zip_begins2 (begins_tuple a its.toArray) (begins_tuple b its2.toArray) p1' p2' fun h' hz hTI hTO g1 g2 hsz hk => wpAny_pyIter_zip hz ?_
  have I2 : Inv X pins σ H1 { s1 with heap := h' } := I1.kept (t' := s1.toks) hk
  have S := zip_sep2 (N := s1.heap.objs.size) (fp1 := [a]) (fp2 := [b]) (fun c hc => by
    obtain rfl : c = a := by simpa using hc
    exact la) (fun c hc => by
    obtain rfl : c = b := by simpa using hc
    exact lb)
  refine ⟨s1.heap.objs.size + 4, [s1.heap.objs.size + 4, s1.heap.objs.size + 2, s1.heap.objs.size + 3, s1.heap.objs.size, s1.heap.objs.size + 1], _, _, H1, rfl, I2, turn_zipT S, ⟨hz, hTI, ⟨_, _, hTO⟩, ⟨_, g1, rfl, rfl⟩, ⟨_, g2, rfl, rfl⟩, Nat.zero_le _, Nat.zero_le _⟩, fun c hcm => ?_, q⟩
  have hle : s1.heap.objs.size ≤ c := by
    rcases (by simpa using hcm : c = s1.heap.objs.size + 4 ∨ c = s1.heap.objs.size + 2 ∨ c = s1.heap.objs.size + 3 ∨ c = s1.heap.objs.size ∨ c = s1.heap.objs.size + 1) with w | w | w | w | w
    · rw [w]; exact Nat.le_add_right _ _
    · rw [w]; exact Nat.le_add_right _ _
    · rw [w]; exact Nat.le_add_right _ _
    · rw [w]; exact Nat.le_refl _
    · rw [w]; exact Nat.le_add_right _ _
  exact I1.fpOk hle (I1.hok.fresh hle)
/-! over data -/
section
variable {K : PySem.W.Frag}
def zipD (es fs : List D) : List D := (es.zip fs).map fun p => .tuple [p.1, p.2]
theorem zipD_at {es fs : List D} {i : Nat} {d : D} (h : (zipD es fs)[i]? = some d) : ∃ x y, es[i]? = some x ∧ fs[i]? = some y ∧ d = .tuple [x, y] := by
  unfold zipD at h
  rw [List.getElem?_map] at h
  cases hz : (es.zip fs)[i]? with
  | none => rw [hz] at h; cases h
  | some p =>
    rw [hz] at h
    have := List.getElem?_zip_eq_some.mp hz
    exact ⟨p.1, p.2, this.1, this.2, (Option.some.inj h).symm⟩
theorem walks_zip {p r : Addr} {es fs : List D} : Walks K (ItZ K p r es.length fs.length) (zipD es fs) [.ref p, .ref r] [.tuple es, .tuple fs] := by
  intro F σ H ρ vs ds i R
  obtain ⟨p', xs, e, e2, s, R1⟩ := Rel.asTup (vs := .ref r :: vs) (ds := .tuple fs :: ds) R
  cases e
  have R' : Rel K F σ H ρ (.ref r :: vs) (.tuple fs :: ds) := Rel.drop R
  obtain ⟨r', ys, e', e2', s', R2⟩ := Rel.asTup R'
  cases e'
  refine ⟨fun d hd => ?_, fun h => ⟨xs, ys, s, s', e2, e2', ?_⟩⟩
  · obtain ⟨x, y, hx, hy, rfl⟩ := zipD_at hd
    obtain ⟨v, e3, _⟩ := R1.pick e2 hx
    obtain ⟨u, e4, _⟩ := R2.pick e2' hy
    refine ⟨⟨xs, ys, v, u, s, s', e2, e2', e3, e4⟩, fun q H' hq => ?_⟩
    obtain ⟨T, v', u', rfl, hT, rfl, h1, h2⟩ := hq
    have := (h1 xs s).symm.trans e3
    cases this
    have := (h2 ys s').symm.trans e4
    cases this
    refine Rel.tup (xs := [v, u]) (es := [x, y]) ?_ rfl hT
    obtain ⟨Hi, own, R3⟩ := R
    have t := R3.tmp
    cases t with
    | cons t1 t2 =>
      cases t2 with
      | cons t3 t4 =>
        cases t1 with
        | tup s1 g1 =>
          cases t3 with
          | tup s2 g2 =>
            obtain ⟨w1, k1, d1⟩ := dpAll_at g1 hx
            obtain ⟨w2, k2, d2⟩ := dpAll_at g2 hy
            have z1 := (h1 _ (sqT_mono R3.sub s1)).symm.trans k1
            have z2 := (h2 _ (sqT_mono R3.sub s2)).symm.trans k2
            cases z1
            cases z2
            exact ⟨Hi, own, R3.tmpTo (.cons d1 (.cons d2 (.cons (.tup s1 g1) (.cons (.tup s2 g2) t4))))⟩
  · unfold zipD at h
    rw [List.length_map, List.length_zip] at h
    omega
def iZ (t : TDA) : TDI := fun ρ P => t ρ fun r es => ∃ fs gs, es = [.tuple fs, .tuple gs] ∧ P r (zipD fs gs)
theorem si_zipT {ta : L2.TA} {t : TDA} (sa : SA K ta t) : SI K (iZipTT K ta) (iZ t) := by
  refine ⟨fun ρ P P' h q => sa.mono _ _ _ (fun _ es ⟨fs, gs, e, q⟩ => ⟨fs, gs, e, h _ _ q⟩) q, fun F σ H ρ vs ds Q R q => ?_⟩
  refine sa.run F σ H ρ vs ds _ R (sa.mono _ _ _ (fun r es q xs H1 e R1 => ?_) q)
  obtain ⟨fs, gs, e1, q⟩ := q
  subst e1
  obtain ⟨x, xr, rfl, e2⟩ := len_cons e
  obtain ⟨y, yr, rfl, e3⟩ := len_cons e2
  obtain rfl := len_nil e3
  obtain ⟨p, ys, rfl, el, s, _⟩ := Rel.asTup R1
  obtain ⟨p2, zs, rfl, el2, s2, _⟩ := Rel.asTup (Rel.drop R1)
  refine ⟨p, p2, ys, zs, rfl, s, s2, ?_⟩
  rw [el, el2]
  exact q _ _ [.ref p, .ref p2] [.tuple fs, .tuple gs] rfl walks_zip R1
end
end LD

/-! LD21: max with default. -/
namespace LD
open PySem PySem.Spec L2
def MaxQ (K : PySem.W.Frag) (Q : VK) (x y : V) (H : Hp) : Prop := ∃ (a : Addr) (xs : List V) (ds : List D), x = .ref a ∧ SqL K H a xs ∧ DpAll K H xs ds ∧ PySem.W.AlikeAll ds ∧ PyData.depthAll ds ≤ 50 ∧ (ds = [] → Q y H) ∧
  ∀ (d : D) (fs : List D) (i : Nat) (v : V), ds = d :: fs → xs[i]? = some v → ds[i]? = some (PySem.W.maxD d fs) → Q v H
def tMaxD (K : PySem.W.Frag) (te td : TE) : TE := fun σ H Q => te σ H fun x H1 => td σ H1 fun y H2 => MaxQ K Q x y H2
theorem callMaxD {X : Cx} {pins : List (Addr × Obj)} {σ : L2.St} {H : Hp} {s : Shared} {a : Addr} {xs : List V} {ds : List D} {dv : Value} {Q : Value → Shared → Prop} (hc : X.calm = true) (hu : X.A.units + 64 < cLine) (I : Inv X pins σ H s) (hs : SqL X.K H a xs) (hd : DpAll X.K H xs ds) (ha : PySem.W.AlikeAll ds) (hz : PyData.depthAll ds ≤ 50)
    (h0 : ds = [] → ∀ s', Inv X pins σ H s' → Q dv s') (h1 : ∀ (d : D) (fs : List D) (i : Nat) (x : V) (u : Value) (s' : Shared), ds = d :: fs → xs[i]? = some x → ds[i]? = some (PySem.W.maxD d fs) → RelV x u → Inv X pins σ H s' → Q u s') :
    wpAny (model X.prog X.w) X.A (call (.builtin "max") [.ref a] [(Str.ofString "default", dv)]) Q X.xe s := by
  obtain ⟨its, rv, hl, _⟩ := I.list hs
  obtain ⟨as, hr⟩ := Dp.readsAll I _ xs its hd rv
  have hn : its.length = ds.length := by rw [← rv.length, dpAll_len hd]
  have hr' : ReadsAll s.heap its.toArray.toList ds as := hr
  refine PySem.call_max_walkD (PySem.W.iter_listW (A := X.A.in1) (I.ok.hd hc) hl.isList fun s₂ e W st hfp hw hk => ?_)
  refine ⟨_, _, _, _, _, _, _, s.heap, (fun i j => PySem.W.dataLt (ds.getD j .none) (ds.getD i .none)), rfl, W, st, hfp, hw, hk, fun hz s' m => ?_, fun hp => ⟨PySem.W.cmpIn_gt (A := X.A.in1) hr' ha (by show X.A.units + 1 + _ < _; omega), fun v s' hP m => ?_⟩⟩
  · obtain ⟨h', tk, rfl, hk'⟩ := PySem.W.moved_old e rfl m
    refine h0 (List.eq_nil_of_length_eq_zero ?_) _ (I.kept hk')
    rw [List.size_toArray] at hz
    omega
  · obtain ⟨h', tk, rfl, hk'⟩ := PySem.W.moved_old e rfl m
    cases ds with
    | nil =>
      rw [List.size_toArray, hn] at hp
      exact absurd hp (Nat.lt_irrefl 0)
    | cons d fs =>
      have e1 : its.toArray.size - 1 = fs.length := by rw [List.size_toArray, hn]; rfl
      obtain ⟨e3, e2⟩ := PySem.W.argBest_fold (fun a b => PySem.W.dataLt b a) PyData.none d fs fs.length (Nat.le_refl _)
      rw [List.take_length] at e2
      rw [e1, List.getElem?_toArray] at hP
      obtain ⟨x, hx, rx⟩ := vals_back rv hP
      exact h1 d fs _ x v _ rfl hx (getD_some (Nat.lt_succ_of_le e3) e2) rx (I.kept hk')
theorem pe_maxD {X : Cx} {e d : Expr} {te td : TE} {p pos kpos : Pos} (hc : X.calm = true) (hu : X.A.units + 64 < cLine) (hg : Gl X "max") (hm : X.mg "max" = none) (he : PE X e te) (hd : PE X d td)
    (hs : starEach [e] X.env = (false, eval e X.env) :: starEach [] X.env := by rfl) (hb : backTo pos (starEach [e] X.env) = (false, eval e X.env) :: backTo pos (starEach [] X.env) := by rfl) (hpl : (backTo pos (starEach [e] X.env)).any (·.1) = false := by rfl)
    (hall : (backToKw pos (keywordEach [⟨some "default", d, kpos⟩] X.env)).all (·.1.isSome) = true := by rfl) (hkw : (backToKw pos (keywordEach [⟨some "default", d, kpos⟩] X.env)).any (·.1.isNone) = false := by rfl)
    (hks : (backToKw pos (keywordEach [⟨some "default", d, kpos⟩] X.env)).filterMap (·.1) = [Str.ofString "default"] := by rfl) : PE X (.Call (.Name "max" p) [e] [⟨some "default", d, kpos⟩] pos) (tMaxD X.K te td) := by
  refine ⟨fun pins s σ H Q I h => wpAny_Call_Name_kw (ld_blt I hg hm (by decide +kernel : bootBuiltins "max" = some (.builtin "max")) ?_)⟩
  refine PyProof.Rows.callWith_kw ?_ hb hpl hall hkw
  have pk := pk_cons (X := X) (nm := some "default") (kpos := kpos) hd pk_nil
  refine thn ((pa_cons he pa_nil hs).run pos pins s σ H (fun vs H1 => match vs with | [x] => td σ H1 fun y H2 => MaxQ X.K Q x y H2 | _ => False) I h) fun us s1 ⟨vs, H1, I1, r1, q1⟩ => ?_
  match vs, r1, q1 with
  | [x], r1, q1 =>
    obtain ⟨u, rfl, ru⟩ := vals1 r1
    refine thn (pk.run pos pins s1 σ H1 (fun vs H2 => match vs with | [y] => MaxQ X.K Q x y H2 | _ => False) I1 q1) fun ks s2 ⟨ws, H2, I2, r2, q2⟩ => ?_
    match ws, r2, q2 with
    | [y], r2, q2 =>
      obtain ⟨k, rfl, rk⟩ := vals1 r2
      obtain ⟨a, xs, ds, ex, h1, h2, h3, h4, h5, h6⟩ := q2
      subst ex
      obtain rfl : u = Value.ref a := ru
      rw [hks]
      exact callMaxD hc hu I2 h1 h2 h3 h4 (fun z s' I3 => ⟨y, H2, I3, rk, h5 z⟩) fun d fs i v w s' e1 e2 e3 rw' I3 => ⟨v, H2, I3, rw', h6 d fs i v e1 e2 e3⟩
section
variable {K : PySem.W.Frag} {te td : TE} {e d : TD}
/-- max(e, default=d) -/
def dMaxD (e d : TD) : TD := fun ρ P => e ρ fun r x => d r fun r2 y => ∃ ds, x = .list ds ∧ PySem.W.AlikeAll ds ∧ PyData.depthAll ds ≤ 50 ∧ match ds with | [] => P r2 y | z :: zs => P r2 (PySem.W.maxD z zs)
theorem se_maxD (se : SE K te e) (sd : SE K td d) : SE K (tMaxD K te td) (dMaxD e d) := by
  refine ⟨fun ρ P P' h q => se.mono _ _ _ (fun _ x q => sd.mono _ _ _ (fun _ y ⟨ds, e1, e2, e3, q⟩ => ⟨ds, e1, e2, e3, match ds, q with | [], q => h _ _ q | _ :: _, q => h _ _ q⟩) q) q, fun F σ H ρ vs es Q R q => ?_⟩
  refine se.run F σ H ρ vs es _ R (se.mono _ _ _ (fun r x q v H1 R1 => ?_) q)
  refine sd.run F σ H1 r _ _ _ R1 (sd.mono _ _ _ (fun r2 y q u H2 R2 => ?_) q)
  obtain ⟨ds, e1, e2, e3, q3⟩ := q
  subst e1
  obtain ⟨p, xs, ev, el, s, R3⟩ := Rel.asList R2.drop
  refine ⟨p, xs, ds, ev, s, (dpAll_split el R3.dpAll).1, e2, e3, fun z => ?_, fun z zs i w hz hw hd => ?_⟩
  · subst z
    exact q3 _ _ R2.drop2
  · subst hz
    obtain ⟨w', hw', R4⟩ := R3.pick el hd
    rw [hw] at hw'
    cases hw'
    exact q3 _ _ R4.drop2
end
end LD

/-! LD22: a text that is a tuple of numbers' own is nobody else's. -/
namespace LD
open PySem PySem.Spec L2
def tx (d : D) : List Nat := d.shown.cps.toList
def Dg (c : Nat) : Prop := 48 ≤ c ∧ c ≤ 57
theorem tx_nat (m : Nat) : tx (.int (m : Int)) = (Nat.toDigits 10 m).map Char.toNat := PySem.W.KIN.signs_num m
theorem dg_nat (m : Nat) : ∀ c ∈ tx (.int (m : Int)), Dg c := fun c hc => by
  rw [tx_nat] at hc
  obtain ⟨ch, hch, e⟩ := List.mem_map.mp hc
  have r := Nat.isDigit_of_mem_toDigits (by decide) (by decide) hch
  rw [← e]
  unfold Char.isDigit at r
  simp only [Bool.and_eq_true, decide_eq_true_eq] at r
  exact ⟨r.1, r.2⟩
theorem ne_nat (m : Nat) : tx (.int (m : Int)) ≠ [] := by
  rw [tx_nat]
  intro h
  exact Nat.toDigits_ne_nil (List.map_eq_nil_iff.mp h)
theorem inj_nat {m n : Nat} (h : tx (.int (m : Int)) = tx (.int (n : Int))) : m = n := by
  rw [tx_nat, tx_nat] at h
  rw [← PySem.W.KIN.val_back m, h, PySem.W.KIN.val_back]
theorem cut_dg : ∀ {xs ys r r' : List Nat}, (∀ c ∈ xs, Dg c) → (∀ c ∈ ys, Dg c) → (∀ c ∈ r.head?, ¬ Dg c) → (∀ c ∈ r'.head?, ¬ Dg c) → xs ++ r = ys ++ r' → xs = ys ∧ r = r'
  | [], [], _, _, _, _, _, _, h => ⟨rfl, h⟩
  | [], y :: ys, r, r', _, hy, hr, _, h => by
    have h' : r = y :: (ys ++ r') := h
    exact absurd (hy y List.mem_cons_self) (hr y (by rw [h']; rfl))
  | x :: xs, [], r, r', hx, _, _, hr, h => by
    have h' : x :: (xs ++ r) = r' := h
    exact absurd (hx x List.mem_cons_self) (hr x (by rw [← h']; rfl))
  | x :: xs, y :: ys, r, r', hx, hy, h1, h2, h => by
    obtain ⟨e, h'⟩ := List.cons.inj h
    obtain ⟨a, b⟩ := cut_dg (fun c hc => hx c (List.mem_cons_of_mem _ hc)) (fun c hc => hy c (List.mem_cons_of_mem _ hc)) h1 h2 h'
    exact ⟨by rw [e, a], b⟩
theorem app_list (a b : Str) : (a ++ b).cps.toList = a.cps.toList ++ b.cps.toList := by
  show (a.cps ++ b.cps).toList = _
  rw [Array.toList_append]
/-- the first sign of any other text is no digit -/
theorem from_head : ∀ (ts : List Str) (k : Nat) (acc : Str), ∃ r, (textFrom k acc ts).cps.toList = acc.cps.toList ++ r
  | [], k, acc => ⟨[], (List.append_nil _).symm⟩
  | t :: ts, k, acc => by
    obtain ⟨r, e⟩ := from_head ts (k + 1) (acc ++ (if k > 0 then ", " else "" : String) ++ t)
    refine ⟨(Str.ofString (if k > 0 then ", " else "" : String)).cps.toList ++ (t.cps.toList ++ r), ?_⟩
    · show (textFrom (k + 1) (acc ++ (if k > 0 then ", " else "" : String) ++ t) ts).cps.toList = _
      rw [e, app_list, app_list, List.append_assoc, List.append_assoc]
theorem fold_head (f : Nat → Array Nat) (x : Array Nat) (q : Nat) : ∃ r, ((x.foldl (fun out c => out ++ f c) #[q]).push q).toList = q :: r := by
  have h : ∀ (l : List Nat) (acc : Array Nat), ∃ r, (l.foldl (fun out c => out ++ f c) acc).toList = acc.toList ++ r := by
    intro l
    induction l with
    | nil => intro acc; exact ⟨[], (List.append_nil _).symm⟩
    | cons c l ih =>
      intro acc
      obtain ⟨r, e⟩ := ih (acc ++ f c)
      exact ⟨(f c).toList ++ r, by rw [List.foldl_cons, e, Array.toList_append, List.append_assoc]⟩
  obtain ⟨r, e⟩ := h x.toList #[q]
  refine ⟨r ++ [q], ?_⟩
  rw [Array.toList_push, ← Array.foldl_toList, e]
  rfl
theorem str_head (x : Str) : ∃ r, (reprText x).cps.toList = reprQuote x :: r := by
  unfold reprText
  exact fold_head _ _ _
theorem head_other (d : D) : (∃ m : Nat, d = .int (m : Int)) ∨ ∃ c r, tx d = c :: r ∧ ¬ Dg c := by
  cases d with
  | none => exact .inr ⟨78, _, rfl, by unfold Dg; omega⟩
  | bool b =>
    cases b with
    | true => exact .inr ⟨84, _, rfl, by unfold Dg; omega⟩
    | false => exact .inr ⟨70, _, rfl, by unfold Dg; omega⟩
  | int i =>
    cases i with
    | ofNat m => exact .inl ⟨m, rfl⟩
    | negSucc m =>
      refine .inr ⟨45, (toString (m + 1)).toList.map Char.toNat, ?_, by unfold Dg; omega⟩
      unfold tx
      show (Str.ofString ("-" ++ (m + 1).repr)).cps.toList = _
      rw [PyProof.Rows.signs_ofString, String.toList_append, List.map_append]
      rfl
  | str x =>
    obtain ⟨r, e⟩ := str_head x
    refine .inr ⟨_, r, e, ?_⟩
    unfold reprQuote Dg
    split <;> omega
  | list xs =>
    obtain ⟨r, e⟩ := from_head (PyData.shownAll xs) 0 "["
    refine .inr ⟨91, r ++ [93], ?_, by unfold Dg; omega⟩
    unfold tx
    show (textFrom 0 "[" (PyData.shownAll xs) ++ ("]" : Str)).cps.toList = _
    rw [app_list, e]
    rfl
  | tuple xs =>
    refine .inr ⟨40, (Str.join ", " (PyData.shownAll xs)).cps.toList ++ (Str.ofString (if (PyData.shownAll xs).length == 1 then ",)" else ")")).cps.toList, ?_, by unfold Dg; omega⟩
    unfold tx
    show (("(" : Str) ++ Str.join ", " (PyData.shownAll xs) ++ (if (PyData.shownAll xs).length == 1 then ",)" else ")" : String)).cps.toList = _
    rw [app_list, app_list]
    rfl
  | dict kvs =>
    refine .inr ⟨123, (Str.join ", " (PyData.shownKv kvs)).cps.toList ++ [125], ?_, by unfold Dg; omega⟩
    unfold tx
    show (("{" : Str) ++ Str.join ", " (PyData.shownKv kvs) ++ ("}" : Str)).cps.toList = _
    rw [app_list, app_list]
    rfl
/-- a number's text, and what follows -/
theorem cut_nat {d : D} {m : Nat} {r r' : List Nat} (h1 : ∀ c ∈ r.head?, ¬ Dg c) (h2 : ∀ c ∈ r'.head?, ¬ Dg c) (h : tx d ++ r = tx (.int (m : Int)) ++ r') : d = .int (m : Int) ∧ r = r' := by
  rcases head_other d with ⟨n, rfl⟩ | ⟨c, q, e, hc⟩
  · obtain ⟨a, b⟩ := cut_dg (dg_nat n) (dg_nat m) h1 h2 h
    rw [inj_nat a]
    exact ⟨rfl, b⟩
  · cases hm : tx (.int (m : Int)) with
    | nil => exact absurd hm (ne_nat m)
    | cons x xs =>
      rw [e, hm] at h
      have := (List.cons.inj h).1
      have hx := dg_nat m x (by rw [hm]; exact List.mem_cons_self)
      rw [← this] at hx
      exact absurd hx hc
def jd (es : List D) : List Nat := (Str.join ", " (PyData.shownAll es)).cps.toList
theorem jd_one (e : D) : jd [e] = tx e := rfl
theorem jd_more (e f : D) (r : List D) : jd (e :: f :: r) = tx e ++ (44 :: 32 :: jd (f :: r)) := by
  unfold jd
  show (PyData.shown e ++ (", " : Str) ++ Str.join ", " (PyData.shownAll (f :: r))).cps.toList = _
  rw [app_list, app_list, List.append_assoc]
  rfl
theorem shownAll_len (es : List D) : (PyData.shownAll es).length = es.length := by
  induction es with
  | nil => rfl
  | cons e es ih => simp only [PyData.shownAll, List.length_cons, ih]
theorem tx_tup (es : List D) : tx (.tuple es) = 40 :: (jd es ++ if es.length = 1 then [44, 41] else [41]) := by
  unfold tx
  show (("(" : Str) ++ Str.join ", " (PyData.shownAll es) ++ (if (PyData.shownAll es).length == 1 then ",)" else ")" : String)).cps.toList = _
  rw [app_list, app_list, shownAll_len]
  by_cases h : es.length = 1
  · rw [if_pos (beq_iff_eq.mpr h), if_pos h]
    rfl
  · rw [if_neg (by simpa using h), if_neg h]
    rfl
def natD (k : List Nat) : List D := k.map fun m : Nat => PyData.int (m : Int)
theorem jd_nat (m n : Nat) (k : List Nat) : jd (natD (m :: n :: k)) = tx (.int (m : Int)) ++ (44 :: 32 :: jd (natD (n :: k))) := jd_more _ _ _
theorem nd41 : ∀ c ∈ ([41] : List Nat).head?, ¬ Dg c := fun c hc => by
  obtain rfl : 41 = c := by simpa using hc
  unfold Dg
  omega
theorem nd44 (r : List Nat) : ∀ c ∈ (44 :: r).head?, ¬ Dg c := fun c hc => by
  obtain rfl : 44 = c := by simpa using hc
  unfold Dg
  omega
theorem jd_inj : ∀ {es : List D} {k : List Nat}, es ≠ [] → k ≠ [] → jd es ++ [41] = jd (natD k) ++ [41] → es = natD k
  | [], _, h, _, _ => absurd rfl h
  | _, [], _, h, _ => absurd rfl h
  | [e], [m], _, _, h => by
    have := cut_nat (d := e) (m := m) nd41 nd41 h
    rw [this.1]
    rfl
  | [e], m :: n :: k, _, _, h => by
    have h2 : tx e ++ [41] = tx (.int (m : Int)) ++ (44 :: 32 :: jd (natD (n :: k)) ++ [41]) := by
      rw [jd_nat, List.append_assoc] at h
      exact h
    have := (cut_nat nd41 (nd44 _) h2).2
    cases this
  | e :: f :: r, [m], _, _, h => by
    have h2 : tx e ++ (44 :: 32 :: jd (f :: r) ++ [41]) = tx (.int (m : Int)) ++ [41] := by
      rw [jd_more, List.append_assoc] at h
      exact h
    have := (cut_nat (nd44 _) nd41 h2).2
    cases this
  | e :: f :: r, m :: n :: k, _, _, h => by
    have h2 : tx e ++ (44 :: 32 :: jd (f :: r) ++ [41]) = tx (.int (m : Int)) ++ (44 :: 32 :: jd (natD (n :: k)) ++ [41]) := by
      rw [jd_more, jd_nat, List.append_assoc, List.append_assoc] at h
      exact h
    obtain ⟨a, b⟩ := cut_nat (nd44 _) (nd44 _) h2
    have b2 : jd (f :: r) ++ [41] = jd (natD (n :: k)) ++ [41] := (List.cons.inj (List.cons.inj b).2).2
    rw [a, jd_inj (List.cons_ne_nil _ _) (List.cons_ne_nil _ _) b2]
    rfl
theorem tup_inj : ∀ {es : List D} {k : List Nat}, tx (.tuple es) = tx (.tuple (natD k)) → es = natD k
  | [], [], _ => rfl
  | [], m :: k, h => by
    rw [tx_tup, tx_tup] at h
    have h2 := (List.cons.inj h).2
    have h3 := congrArg List.length h2
    have hl : 1 ≤ (tx (.int (m : Int))).length := List.length_pos_iff.mpr (ne_nat m)
    cases k with
    | nil =>
      have e : jd (natD [m]) = tx (.int (m : Int)) := rfl
      rw [e] at h3
      have z : (jd []).length = 0 := rfl
      rw [List.length_append, List.length_append, z, if_neg (show ¬ ([] : List D).length = 1 by decide), if_pos (show (natD [m]).length = 1 from rfl)] at h3
      simp only [List.length_cons, List.length_nil] at h3
      omega
    | cons n k =>
      rw [jd_nat] at h3
      have z : (jd []).length = 0 := rfl
      rw [List.length_append, List.length_append, List.length_append, z] at h3
      simp only [List.length_cons, List.length_nil] at h3
      split at h3 <;> split at h3 <;> simp only [List.length_cons, List.length_nil] at h3 <;> omega
  | [e], [], h => by
    rw [tx_tup, tx_tup] at h
    have h3 := congrArg List.length (List.cons.inj h).2
    have z : (jd (natD [])).length = 0 := rfl
    rw [List.length_append, List.length_append, z, if_pos (show [e].length = 1 from rfl), if_neg (show ¬ (natD []).length = 1 by decide)] at h3
    simp only [List.length_cons, List.length_nil] at h3
    omega
  | [e], [m], h => by
    rw [tx_tup, tx_tup] at h
    have h2 : tx e ++ [44, 41] = tx (.int (m : Int)) ++ [44, 41] := (List.cons.inj h).2
    rw [(cut_nat (nd44 _) (nd44 _) h2).1]
    rfl
  | [e], m :: n :: k, h => by
    rw [tx_tup, tx_tup] at h
    have h2 : tx e ++ [44, 41] = jd (natD (m :: n :: k)) ++ [41] := (List.cons.inj h).2
    have h3 : tx e ++ [44, 41] = tx (.int (m : Int)) ++ (44 :: 32 :: jd (natD (n :: k)) ++ [41]) := by
      rw [h2, jd_nat, List.append_assoc]
    have := (cut_nat (nd44 _) (nd44 _) h3).2
    cases this
  | e :: f :: r, [], h => by
    rw [tx_tup, tx_tup, jd_more] at h
    have h3 := congrArg List.length (List.cons.inj h).2
    have z : (jd (natD [])).length = 0 := rfl
    rw [List.length_append, List.length_append, List.length_append, z, if_neg (show ¬ (natD []).length = 1 by decide)] at h3
    simp only [List.length_cons, List.length_nil] at h3
    omega
  | e :: f :: r, [m], h => by
    rw [tx_tup, tx_tup] at h
    have h2 : jd (e :: f :: r) ++ [41] = tx (.int (m : Int)) ++ [44, 41] := by
      have := (List.cons.inj h).2
      rw [if_neg (show ¬ (e :: f :: r).length = 1 by simp)] at this
      exact this
    rw [jd_more, List.append_assoc] at h2
    have := (cut_nat (nd44 _) (nd44 _) h2).2
    cases this
  | e :: f :: r, m :: n :: k, h => by
    rw [tx_tup, tx_tup] at h
    have h2 := (List.cons.inj h).2
    rw [if_neg (show ¬ (e :: f :: r).length = 1 by simp), if_neg (show ¬ (natD (m :: n :: k)).length = 1 by simp [natD])] at h2
    exact jd_inj (List.cons_ne_nil _ _) (List.cons_ne_nil _ _) h2
theorem tupK_nat {k : List Int} (h : ∀ x ∈ k, 0 ≤ x) : tupK k = .tuple (natD (k.map Int.toNat)) := by
  unfold tupK natD
  rw [List.map_map]
  congr 1
  refine List.map_congr_left fun x hx => ?_
  show PyData.int x = .int ((x.toNat : Nat) : Int)
  rw [Int.toNat_of_nonneg (h x hx)]
/-- the text of a tuple of numbers is its own alone -/
theorem shown_inj {d : D} {k : List Int} (hk : ∀ x ∈ k, 0 ≤ x) (h : PyData.shown d = PyData.shown (tupK k)) : d = tupK k := by
  have ht : tx d = tx (tupK k) := congrArg (fun s : Str => s.cps.toList) h
  rw [tupK_nat hk] at ht ⊢
  cases d with
  | tuple es => rw [tup_inj ht]
  | int i =>
    exfalso
    rcases head_other (.int i) with ⟨m, e⟩ | ⟨c, r, e, _⟩
    · rw [e, tx_tup] at ht
      cases hm : tx (.int (m : Int)) with
      | nil => exact ne_nat m hm
      | cons x xs =>
        rw [hm] at ht
        have := (List.cons.inj ht).1
        have hx := dg_nat m x (by rw [hm]; exact List.mem_cons_self)
        rw [this] at hx
        unfold Dg at hx
        omega
    · cases i with
      | ofNat m =>
        rw [tx_tup] at ht
        have hx := dg_nat m 40 (by show 40 ∈ tx (.int (Int.ofNat m)); rw [ht]; exact List.mem_cons_self)
        unfold Dg at hx
        omega
      | negSucc m =>
        have e2 : tx (.int (Int.negSucc m)) = 45 :: (toString (m + 1)).toList.map Char.toNat := by
          unfold tx
          show (Str.ofString ("-" ++ (m + 1).repr)).cps.toList = _
          rw [PyProof.Rows.signs_ofString, String.toList_append, List.map_append]
          rfl
        rw [e2, tx_tup] at ht
        cases (List.cons.inj ht).1
  | none => rw [tx_tup] at ht; cases (List.cons.inj (show (78 :: _ : List Nat) = 40 :: _ from ht)).1
  | bool b =>
    rw [tx_tup] at ht
    cases b with
    | true => cases (List.cons.inj (show (84 :: _ : List Nat) = 40 :: _ from ht)).1
    | false => cases (List.cons.inj (show (70 :: _ : List Nat) = 40 :: _ from ht)).1
  | str x =>
    obtain ⟨r, e⟩ := str_head x
    rw [tx_tup] at ht
    have ht2 : (reprText x).cps.toList = _ := ht
    rw [e] at ht2
    have := (List.cons.inj ht2).1
    unfold reprQuote at this
    split at this <;> cases this
  | list xs =>
    obtain ⟨r, e⟩ := from_head (PyData.shownAll xs) 0 "["
    rw [tx_tup] at ht
    have ht2 : (textFrom 0 "[" (PyData.shownAll xs) ++ ("]" : Str)).cps.toList = _ := ht
    rw [app_list, e] at ht2
    cases (List.cons.inj (show (91 :: _ : List Nat) = 40 :: _ from ht2)).1
  | dict kvs =>
    rw [tx_tup] at ht
    have ht2 : (("{" : Str) ++ Str.join ", " (PyData.shownKv kvs) ++ ("}" : Str)).cps.toList = _ := ht
    rw [app_list, app_list] at ht2
    cases (List.cons.inj (show (123 :: _ : List Nat) = 40 :: _ from ht2)).1
end LD

/-! LD23: t[::-1] of a tuple, a new list times a number. -/
namespace LD
open PySem PySem.Spec L2 PyProof.Rows HT
section
variable {prog : Program} {w : World} {A : Around} {E : Value → Shared → Prop} {s : Shared}
theorem sliceApplied_rev {sl : Addr} {vl vu vs : Value} {n : Nat} {Q : Int × Int × Nat → Shared → Prop} (hs : s.heap.IsSliceOf sl vl vu vs) (pl : IsPart vl none) (pu : IsPart vu none) (ps : IsPart vs (some (-1)))
    (h : Q ((n : Int) - 1, -1, n) s) : wpAny (model prog w) A (Builtin.Slice.sliceApplied (.ref sl) (pure (n : Int))) Q E s := by
  obtain ⟨os, hos, hcs, hds⟩ := id hs
  unfold Builtin.Slice.sliceApplied Builtin.Slice.sliceFields
  refine wpAny_bind (wpAny_bind (wpAny_field hos hds (x := vl) rfl (wpAny_bind (wpAny_field hos hds (x := vu) rfl (wpAny_bind (wpAny_field hos hds (x := vs) rfl (wpAny_pure ?_)))))))
  refine wpAny_bind (slicePart_ ps ?_)
  show wpAny _ _ (if ((-1 : Int) == 0) = true then _ else _) _ _ s
  rw [if_neg (by decide)]
  refine wpAny_bind (slicePart_ pl (wpAny_bind (slicePart_ pu (wpAny_bind (wpAny_pure ?_)))))
  show wpAny _ _ (match Builtin.Slice.sliceAdjust none none (-1) (n : Int) with | (lo, hi) => pure (lo, (-1 : Int), Builtin.Slice.slicePlaces lo hi (-1))) _ _ s
  show wpAny _ _ (pure ((n : Int) - 1, (-1 : Int), Builtin.Slice.slicePlaces ((n : Int) - 1) (-1) (-1))) _ _ s
  have e : Builtin.Slice.slicePlaces ((n : Int) - 1) (-1) (-1) = n := by
    unfold Builtin.Slice.slicePlaces
    have h1 : ¬ ((-1 : Int) > 0) := by decide
    simp only [h1, if_false]
    by_cases h2 : (n : Int) - 1 > -1
    · simp only [h2, if_true]
      rw [show (- -1 : Int) = 1 by decide, Int.ediv_one]
      omega
    · simp only [h2, if_false]
      omega
  rw [e]
  exact wpAny_pure h
theorem fm_congr {α β : Type} {f g : α → Option β} : ∀ {l : List α}, (∀ x ∈ l, f x = g x) → l.filterMap f = l.filterMap g
  | [], _ => rfl
  | x :: l, h => by
    rw [List.filterMap_cons, List.filterMap_cons, h x List.mem_cons_self, fm_congr fun y hy => h y (List.mem_cons_of_mem _ hy)]
theorem pick_rev (xs : Array Value) : ((List.range xs.size).filterMap fun (m : Nat) => xs[(((xs.size : Nat) : Int) - 1 + (m : Int) * -1).toNat]?).toArray = xs.toList.reverse.toArray := by
  have e : ∀ m ∈ List.range xs.size, (fun (m : Nat) => xs[(((xs.size : Nat) : Int) - 1 + (m : Int) * -1).toNat]?) m = (fun k : Nat => xs[k]?) (xs.size - 1 - m) := fun m hm => by
    have := List.mem_range.mp hm
    show xs[_]? = xs[_]?
    congr 1
    omega
  have e2 : (List.range xs.size).filterMap (fun (m : Nat) => xs[(((xs.size : Nat) : Int) - 1 + (m : Int) * -1).toNat]?) = ((List.range xs.size).map fun k => xs.size - 1 - k).filterMap (fun k : Nat => xs[k]?) := by
    rw [List.filterMap_map]
    exact fm_congr e
  rw [e2, PySem.W.krv_range, List.filterMap_reverse, PySem.W.krv_all]
theorem getItem_tuple_rev {t sl : Addr} {items : Array Value} {vl vu vs : Value} {Q : Value → Shared → Prop} (ht : IsTup s.heap t items) (hs : s.heap.IsSliceOf sl vl vu vs) (pl : IsPart vl none) (pu : IsPart vu none) (ps : IsPart vs (some (-1)))
    (h : Q (.ref s.heap.objs.size) { s with heap := s.heap.push { cls := .type "tuple", data := .seq items.toList.reverse.toArray } })
    (hsz : items.size ≤ sizeLine) : wpAny (model prog w) A (getItem (.ref t) (.ref sl)) Q E s := by
  have htake : sizeOk (.seq items.toList.reverse.toArray) := by
    show items.toList.reverse.toArray.size ≤ sizeLine
    rw [List.size_toArray, List.length_reverse, Array.length_toList]
    exact hsz
  obtain ⟨os, hos, hcs, hds⟩ := id hs
  have hTs : s.TypeIs (.ref sl) "slice" := ⟨os, hos, hcs⟩
  unfold getItem
  try with_reducible refine wpAny_holding ?_
  first | refine wpAny_bind (wpAny_pure ?_) | skip
  refine wpAny_bind (wpAny_sequenceKey ht.typeIs (by decide) ?_)
  refine wpAny_bind (wpAny_callSpecial?_slot (name := Str.ofString "__getitem__") ht.typeIs PyProof.Rows.slot_tuple_getitem
    (wpAny_call_entry PyProof.Rows.slot_tuple_getitem ht.typeIs entry_tuple_getitem ?_ (args_tuple_getitem _ _)))
  show wpAny _ _ (Builtin.Tuple.tupleItemsOf (.ref t) >>= _) _ _ s
  refine wpAny_bind (tupleItemsOf_ ht ?_)
  refine wpAny_bind (wpAny_typeOf hTs ?_)
  rw [if_pos (by decide)]
  refine wpAny_bind (sliceApplied_rev hs pl pu ps ?_)
  have hno : ¬ ((((items.size : Nat) : Int) - 1 == 0 && (-1 : Int) == 1 && items.size == items.size) = true) := by
    intro q
    rw [Bool.and_eq_true, Bool.and_eq_true] at q
    exact absurd q.1.2 (by decide)
  show wpAny _ _ (if (((items.size : Nat) : Int) - 1 == 0 && (-1 : Int) == 1 && items.size == items.size) = true then _ else _) _ _ s
  rw [if_neg hno, pick_rev]
  first
    | exact wpAny_bind (m := Builtin.Tuple.tupleExact _) (wpAny_newObj_type (wpAny_pure ⟨_, rfl, wpAny_pure h⟩) htake)
    | exact wpAny_bind (m := Builtin.Tuple.tupleExact _) (wpAny_newObj_type (wpAny_bind (wpAny_pure (wpAny_pure ⟨_, rfl, wpAny_pure h⟩))) htake)
    | exact wpAny_bind (wpAny_bind (m := Builtin.Tuple.tupleExact _) (wpAny_newObj_type (wpAny_pure (wpAny_pure ⟨_, rfl, wpAny_pure h⟩)) htake))
    | exact wpAny_bind (wpAny_bind (m := Builtin.Tuple.tupleExact _) (wpAny_newObj_type (wpAny_pure ⟨_, rfl, wpAny_pure h⟩) htake))
end
section
variable {X : Cx}
/-- t[::-1] of a tuple -/
def tRevT (K : PySem.W.Frag) (te : TE) : TE := fun σ H Q => te σ H fun x H1 => ∃ a xs, x = .ref a ∧ SqT K H1 a xs ∧ ∀ p, H1 p = none → Q (.ref p) (upd H1 p (.tup xs.reverse))
theorem pe_revT {e : Expr} {te : TE} {k : Nat} {p1 p2 p3 pos : Pos} (he : PE X e te) : PE X (.Subscript e (.Slice none none (some (.UnaryOp .USub (.Constant (.int 1) k p1) p2)) p3) pos) (tRevT X.K te) := by
  refine ⟨fun pins s σ H Q I h => ?_⟩
  refine Subscript_ (thn (he.run pins s σ H _ I h) fun v s1 ⟨x, H1, I1, r1, q1⟩ => ?_)
  obtain ⟨a, xs, ex, hx, q⟩ := q1
  subst ex
  cases r1
  have hst : PO X (some (.UnaryOp .USub (.Constant (.int 1) k p1) p2)) (tPart (tUn (rU fun i => .int (-i)) (tC (.int 1)))) := po_some (pe_un un_neg pe_int)
  refine wpAny_Slice (thn (po_none.run pins s1 σ H1 (fun o H2 => o = none ∧ H2 = H1) I1 ⟨rfl, rfl⟩) fun vl s2 ⟨l, H2, I2, pl, el, e2⟩ => ?_)
  subst el e2
  refine thn (po_none.run pins s2 σ H2 (fun o H3 => o = none ∧ H3 = H2) I2 ⟨rfl, rfl⟩) fun vu s3 ⟨u, H3, I3, pu, eu, e3⟩ => ?_
  subst eu e3
  refine thn (hst.run pins s3 σ H3 (fun o H4 => o = some (-1) ∧ H4 = H3) I3 ⟨1, rfl, -1, rfl, rfl, rfl⟩) fun vs s4 ⟨o, H4, I4, ps, eo, e4⟩ => ?_
  subst eo e4
  have I5 : Inv X pins σ H4 { s4 with heap := s4.heap.push { cls := .type "slice", data := .fields #[vl, vu, vs] } } := I4.kept (t' := s4.toks) fun b ob q => Heap.get?_push_of_some _ q
  obtain ⟨its, r, ht, hz⟩ := I5.tuple hx
  have hlen := r.length
  show wpAny (model X.prog X.w) X.A (subscriptTail e (.Slice none none (some (.UnaryOp .USub (.Constant (.int 1) k p1) p2)) p3) (.ref a) (.ref s4.heap.objs.size)) (EP X pins σ Q) X.xe { s4 with heap := s4.heap.push { cls := .type "slice", data := .fields #[vl, vu, vs] } }
  refine tail_any (ops := [.ref a, .ref s4.heap.objs.size]) ht.typeIs (PyProof.Rows.slot_tuple_getitem.lookup) ?_ (by with_unfolding_all rfl)
  refine getItem_tuple_rev ht (Heap.IsSliceOf.new _ vl vu vs) pl pu ps ?_ (by rw [List.size_toArray]; omega)
  refine ⟨.ref _, _, I5.laid (t' := s4.toks) (o := .tup xs.reverse) (fun b ob q => Heap.get?_push_of_some _ q) (Nat.le_refl _) ?_, rfl, q _ (I5.hok.fresh (Nat.le_refl _))⟩
  exact ⟨by rw [List.length_reverse]; exact hz, _, r.reverse, IsTup.new _ _⟩
end
section
variable {K : PySem.W.Frag} {te : TE} {a : TD} {t : TDA}
def dRevT (a : TD) : TD := fun ρ P => a ρ fun r x => ∃ es, x = .tuple es ∧ P r (.tuple es.reverse)
theorem se_revT (sa : SE K te a) : SE K (tRevT K te) (dRevT a) := by
  refine ⟨fun ρ P P' h q => sa.mono _ _ _ (fun _ x ⟨es, e, q⟩ => ⟨es, e, h _ _ q⟩) q, fun F σ H ρ vs ds Q R q => ?_⟩
  refine sa.run F σ H ρ vs ds _ R (sa.mono _ _ _ (fun r1 x q v H1 R1 => ?_) q)
  obtain ⟨es, rfl, q⟩ := q
  obtain ⟨p, xs, rfl, e, s, R4⟩ := R1.asTup
  have e' : xs.reverse.length = es.reverse.length := by rw [List.length_reverse, List.length_reverse]; exact e
  exact ⟨p, xs, rfl, s, fun p' hp => q _ _ ((R4.swap (ws := xs.reverse ++ vs) (es := es.reverse ++ ds) fun _ h => by
    obtain ⟨h1, h2⟩ := dpAll_split e h
    cases h2 with | cons _ h2 => exact dpAll_app (dpAll_rev h1) h2).tup e' hp)⟩
/-- a new list times a number that stands there -/
def dRepL (k : Int) (t : TDA) : TDA := fun ρ P => t ρ fun r es => es.length * k.toNat ≤ sizeLine ∧ P r (List.replicate k.toNat es).flatten
theorem sf_repL {k : Int} (h1 : -(2 ^ 63) ≤ k) (h2 : k < 2 ^ 63) (s : SF K te t) : SF K (tOp rRep te (tC (.int k))) (dRepL k t) := by
  refine ⟨fun ρ P P' h q => s.mono _ _ _ (fun _ es q => ⟨q.1, h _ _ q.2⟩) q, fun F σ H ρ vs ds Q R q => ?_⟩
  refine s.run F σ H ρ vs ds _ R (s.mono _ _ _ (fun r es q xs H' p e R1 hp => ?_) q)
  obtain ⟨z, q⟩ := q
  refine ⟨p, k, xs, rfl, rfl, upd_same, h1, h2, by rw [e]; exact z, fun p' hp' => ?_⟩
  obtain ⟨Hi, own, R⟩ := R1
  obtain ⟨d1, d2⟩ := dpAll_split e R.tmp
  have s1 : Same Hi (upd Hi p (.lst xs)) := same_upd (R.noSub hp)
  have d3 := dpAll_rep (dpAll_mono s1 _ _ d1) k.toNat
  exact q _ _ _ (dpAll_len d3) ⟨_, own, R.lay hp (dpAll_app d3 (dpAll_mono s1 _ _ d2))⟩ hp'
end
end LD

/-! LD24: small values: what stands in them, how much of it, how deep; all that is asked of them follows. -/
namespace LD
open PySem PySem.Spec L2
mutual
def lvs (M : Nat) : D → Bool
  | .none => true
  | .bool _ => true
  | .int i => decide (i.natAbs ≤ M)
  | .str x => PyData.strOk x
  | .list xs => lvsAll M xs
  | .tuple xs => lvsAll M xs
  | .dict _ => false
def lvsAll (M : Nat) : List D → Bool
  | [] => true
  | x :: xs => lvs M x && lvsAll M xs
end
theorem and2 {a b : Bool} (h : (a && b) = true) : a = true ∧ b = true := by cases a <;> cases b <;> first | exact ⟨rfl, rfl⟩ | cases h
mutual
theorem lvs_mono {M N : Nat} (h : M ≤ N) : ∀ d : D, lvs M d = true → lvs N d = true
  | .none, _ => rfl
  | .bool _, _ => rfl
  | .int i, k => by
    simp only [lvs, decide_eq_true_eq] at k ⊢
    omega
  | .str x, k => by simp only [lvs] at k ⊢; exact k
  | .list xs, k => by simp only [lvs] at k ⊢; exact lvsAll_mono h xs k
  | .tuple xs, k => by simp only [lvs] at k ⊢; exact lvsAll_mono h xs k
  | .dict _, k => by simp only [lvs] at k; cases k
theorem lvsAll_mono {M N : Nat} (h : M ≤ N) : ∀ ds : List D, lvsAll M ds = true → lvsAll N ds = true
  | [], _ => by simp only [lvsAll]
  | x :: xs, k => by
    simp only [lvsAll] at k ⊢
    obtain ⟨a, b⟩ := and2 k
    rw [lvs_mono h x a, lvsAll_mono h xs b]
    rfl
end
mutual
theorem lvs_facts {M : Nat} (h : M ≤ 999999999999) : ∀ d : D, lvs M d = true → d.showable = true ∧ d.hasDict = false ∧ d.leavesShort 13 = true ∧ d.canLay0 = true
  | .none, _ => ⟨rfl, rfl, by simp only [PyData.leavesShort], rfl⟩
  | .bool _, _ => ⟨rfl, rfl, by simp only [PyData.leavesShort], rfl⟩
  | .int i, k => by
    simp only [lvs, decide_eq_true_eq] at k
    have h1 : Mid i := ⟨by omega, by omega⟩
    have r := rep_int h1
    exact ⟨r.show_, rfl, by simp only [PyData.leavesShort, decide_eq_true_eq]; exact PyData.shown_int_le2 h1.1 h1.2, rfl⟩
  | .str x, k => by
    simp only [lvs] at k
    refine ⟨rfl, rfl, ?_, k⟩
    simp only [PyData.leavesShort, List.all_eq_true, decide_eq_true_eq]
    intro c hc
    have k' : x.cps.all (· < 0x110000) = true := k
    rw [← Array.all_toList, List.all_eq_true] at k'
    have := of_decide_eq_true (k' c hc)
    have e : (0x110000 : Nat) < 16 ^ 8 := by decide
    omega
  | .list xs, k => by
    simp only [lvs] at k
    obtain ⟨a, b, c, e⟩ := lvsAll_facts h xs k
    exact ⟨by simp only [PyData.showable, a], by simp only [PyData.hasDict, b], by simp only [PyData.leavesShort, c], by simp only [PyData.canLay0, e]⟩
  | .tuple xs, k => by
    simp only [lvs] at k
    obtain ⟨a, b, c, e⟩ := lvsAll_facts h xs k
    exact ⟨by simp only [PyData.showable, a], by simp only [PyData.hasDict, b], by simp only [PyData.leavesShort, c], by simp only [PyData.canLay0, e]⟩
  | .dict _, k => by simp only [lvs] at k; cases k
theorem lvsAll_facts {M : Nat} (h : M ≤ 999999999999) : ∀ ds : List D, lvsAll M ds = true → PyData.showableAll ds = true ∧ PyData.hasDictAll ds = false ∧ PyData.leavesShortAll 13 ds = true ∧ PyData.canLayAll0 ds = true
  | [], _ => ⟨rfl, rfl, rfl, rfl⟩
  | x :: xs, k => by
    simp only [lvsAll] at k
    obtain ⟨k1, k2⟩ := and2 k
    obtain ⟨a, b, c, e⟩ := lvs_facts h x k1
    obtain ⟨a2, b2, c2, e2⟩ := lvsAll_facts h xs k2
    exact ⟨by simp only [PyData.showableAll, a, a2, Bool.and_self], by simp only [PyData.hasDictAll, b, b2, Bool.or_self], by simp only [PyData.leavesShortAll, c, c2, Bool.and_self], by simp only [PyData.canLayAll0, e, e2, Bool.and_self]⟩
end
/-- leaves up to M, at most b items and signs, at most k deep -/
structure Nt (M b k : Nat) (d : D) : Prop where
  lv : lvs M d = true
  bk : d.bulk ≤ b
  dp : d.depth ≤ k
structure NtL (M b k : Nat) (ds : List D) : Prop where
  lv : lvsAll M ds = true
  bk : PyData.bulkAll ds ≤ b
  dp : PyData.depthAll ds ≤ k
section
variable {M N b c k j : Nat} {d : D} {ds es : List D}
theorem Nt.mono (h : Nt M b k d) (h1 : M ≤ N) (h2 : b ≤ c) (h3 : k ≤ j) : Nt N c j d := ⟨lvs_mono h1 d h.lv, Nat.le_trans h.bk h2, Nat.le_trans h.dp h3⟩
theorem NtL.mono (h : NtL M b k ds) (h1 : M ≤ N) (h2 : b ≤ c) (h3 : k ≤ j) : NtL N c j ds := ⟨lvsAll_mono h1 ds h.lv, Nat.le_trans h.bk h2, Nat.le_trans h.dp h3⟩
theorem Nt.rep (h : Nt M b k d) (h1 : M ≤ 999999999999) (h2 : b ≤ 1000000) (h3 : k ≤ 60) : RepOk d := by
  obtain ⟨a1, a2, a3, a4⟩ := lvs_facts h1 d h.lv
  have h4 := h.bk
  exact ⟨a1, a2, Nat.le_trans h.dp h3, PyData.shown_fits_bulk (B := 13) (by decide) (by decide) a3 (by omega)⟩
theorem Nt.shp (h : Nt M b k d) (h1 : M ≤ 999999999999) (h3 : k ≤ 60) : SeqAt.shaped d = true := by
  obtain ⟨a1, a2, a3, a4⟩ := lvs_facts h1 d h.lv
  unfold SeqAt.shaped
  have h5 := h.dp
  rw [a4, decide_eq_true (show d.depth ≤ 64 by omega)]
  rfl
theorem ntL_nil : NtL M b k [] := ⟨rfl, Nat.zero_le _, Nat.zero_le _⟩
theorem ntL_cons (h : Nt M b k d) (h' : NtL M c k ds) : NtL M (b + 1 + c) k (d :: ds) := ⟨by simp only [lvsAll, h.lv, h'.lv, Bool.and_self], by
  have := h.bk
  have := h'.bk
  simp only [PyData.bulkAll]
  omega, by
  have := h.dp
  have := h'.dp
  simp only [PyData.depthAll]
  omega⟩
theorem ntL_app : ∀ {ds : List D} {b : Nat}, NtL M b k ds → NtL M c k es → NtL M (b + c) k (ds ++ es)
  | [], b, _, h => h.mono (Nat.le_refl _) (Nat.le_add_left _ _) (Nat.le_refl _)
  | d :: ds, b, h, h' => by
    have h1 := h.lv
    have h2 := h.bk
    have h3 := h.dp
    simp only [lvsAll] at h1
    simp only [PyData.bulkAll] at h2
    simp only [PyData.depthAll] at h3
    obtain ⟨k1, k2⟩ := and2 h1
    have ih := ntL_app (b := PyData.bulkAll ds) ⟨k2, Nat.le_refl _, by omega⟩ h'
    exact (ntL_cons (b := d.bulk) ⟨k1, Nat.le_refl _, by omega⟩ ih).mono (Nat.le_refl _) (by omega) (Nat.le_refl _)
theorem ntL_split : ∀ {ds es : List D} {b : Nat}, NtL M b k (ds ++ es) → NtL M (PyData.bulkAll ds) k ds ∧ NtL M (PyData.bulkAll es) k es ∧ PyData.bulkAll ds + PyData.bulkAll es ≤ b
  | [], es, _, h => ⟨⟨rfl, Nat.le_refl _, Nat.zero_le _⟩, ⟨h.lv, Nat.le_refl _, h.dp⟩, by simp only [PyData.bulkAll]; have := h.bk; simp only [List.nil_append] at this; omega⟩
  | d :: ds, es, _, h => by
    have h1 := h.lv
    have h2 := h.bk
    have h3 := h.dp
    simp only [List.cons_append, lvsAll] at h1
    simp only [List.cons_append, PyData.bulkAll] at h2
    simp only [List.cons_append, PyData.depthAll] at h3
    obtain ⟨k1, k2⟩ := and2 h1
    obtain ⟨a, c, e⟩ := ntL_split (b := PyData.bulkAll (ds ++ es)) (ds := ds) (es := es) ⟨k2, Nat.le_refl _, by omega⟩
    refine ⟨⟨by simp only [lvsAll, k1, a.lv, Bool.and_self], Nat.le_refl _, ?_⟩, c, ?_⟩
    · have := a.dp
      simp only [PyData.depthAll]
      omega
    · simp only [PyData.bulkAll]
      omega
theorem ntL_take (n : Nat) (h : NtL M b k ds) : NtL M b k (ds.take n) := by
  have := List.take_append_drop n ds
  rw [← this] at h
  obtain ⟨a, _, c⟩ := ntL_split h
  exact a.mono (Nat.le_refl _) (by omega) (Nat.le_refl _)
theorem ntL_drop (n : Nat) (h : NtL M b k ds) : NtL M b k (ds.drop n) := by
  have := List.take_append_drop n ds
  rw [← this] at h
  obtain ⟨_, a, c⟩ := ntL_split h
  exact a.mono (Nat.le_refl _) (by omega) (Nat.le_refl _)
theorem ntL_cut (lo hi : Option Int) (h : NtL M b k ds) : NtL M b k (cutD ds lo hi) := ntL_take _ (ntL_drop _ h)
theorem bulk_app : ∀ (ds es : List D), PyData.bulkAll (ds ++ es) = PyData.bulkAll ds + PyData.bulkAll es
  | [], es => by simp only [List.nil_append, PyData.bulkAll, Nat.zero_add]
  | d :: ds, es => by
    simp only [List.cons_append, PyData.bulkAll, bulk_app ds es]
    omega
theorem bulk_rev : ∀ ds : List D, PyData.bulkAll ds.reverse = PyData.bulkAll ds
  | [] => rfl
  | d :: ds => by
    rw [List.reverse_cons, bulk_app, bulk_rev ds]
    simp only [PyData.bulkAll]
    omega
theorem ntL_all : ∀ {ds : List D}, (lvsAll M ds = true ∧ PyData.depthAll ds ≤ k) ↔ ∀ d ∈ ds, lvs M d = true ∧ d.depth ≤ k
  | [] => ⟨fun _ _ h => (by cases h), fun _ => ⟨rfl, Nat.zero_le _⟩⟩
  | d :: ds => by
    simp only [lvsAll, PyData.depthAll]
    constructor
    · intro h e he
      obtain ⟨k1, k2⟩ := and2 h.1
      rcases List.mem_cons.mp he with rfl | he
      · exact ⟨k1, by omega⟩
      · exact ntL_all.mp ⟨k2, by omega⟩ e he
    · intro h
      have h1 := h d List.mem_cons_self
      obtain ⟨h2, h3⟩ := ntL_all.mpr fun e he => h e (List.mem_cons_of_mem _ he)
      exact ⟨by rw [h1.1, h2]; rfl, by omega⟩
theorem ntL_rev (h : NtL M b k ds) : NtL M b k ds.reverse := by
  obtain ⟨a, c⟩ := ntL_all.mpr fun d hd => ntL_all.mp ⟨h.lv, h.dp⟩ d (List.mem_reverse.mp hd)
  exact ⟨a, by rw [bulk_rev]; exact h.bk, c⟩
theorem bulk_mem : ∀ {ds : List D} {d : D}, d ∈ ds → d.bulk + 1 ≤ PyData.bulkAll ds
  | [], _, h => by cases h
  | e :: ds, d, h => by
    simp only [PyData.bulkAll]
    rcases List.mem_cons.mp h with rfl | h
    · omega
    · have := bulk_mem h
      omega
theorem bulk_len : ∀ ds : List D, ds.length ≤ PyData.bulkAll ds
  | [] => Nat.le_refl _
  | e :: ds => by
    have := bulk_len ds
    simp only [PyData.bulkAll, List.length_cons]
    omega
theorem ntL_at (h : NtL M b k ds) (hd : d ∈ ds) : Nt M (b - 1) k d := by
  obtain ⟨a, c⟩ := ntL_all.mp ⟨h.lv, h.dp⟩ d hd
  have := bulk_mem hd
  have := h.bk
  exact ⟨a, by omega, c⟩
theorem Nt.items (h : Nt M b k (.tuple ds)) : NtL M b (k - 1) ds ∧ 1 ≤ k := by
  have h1 := h.lv
  have h2 := h.bk
  have h3 := h.dp
  simp only [lvs] at h1
  simp only [PyData.bulk] at h2
  simp only [PyData.depth] at h3
  exact ⟨⟨h1, h2, by omega⟩, by omega⟩
theorem NtL.tup (h : NtL M b k ds) : Nt M b (k + 1) (.tuple ds) := ⟨by simp only [lvs, h.lv], by simp only [PyData.bulk]; exact h.bk, by simp only [PyData.depth]; have := h.dp; omega⟩
theorem NtL.lst (h : NtL M b k ds) : Nt M b (k + 1) (.list ds) := ⟨by simp only [lvs, h.lv], by simp only [PyData.bulk]; exact h.bk, by simp only [PyData.depth]; have := h.dp; omega⟩
theorem nt_int {i : Int} (h : i.natAbs ≤ M) : Nt M b k (.int i) := ⟨by simp only [lvs, decide_eq_true h], by simp only [PyData.bulk]; exact Nat.zero_le _, by simp only [PyData.depth]; exact Nat.zero_le _⟩
theorem nt_none : Nt M b k (PyData.none) := ⟨rfl, Nat.zero_le _, Nat.zero_le _⟩
theorem nt_bool {x : Bool} : Nt M b k (.bool x) := ⟨rfl, Nat.zero_le _, Nat.zero_le _⟩
theorem ntL_ints {ns : List Int} (h : ∀ n ∈ ns, n.natAbs ≤ M) : NtL M ns.length 0 (ns.map PyData.int) := by
  induction ns with
  | nil => exact ntL_nil
  | cons n ns ih =>
    have h1 := ih fun m hm => h m (List.mem_cons_of_mem _ hm)
    exact (ntL_cons (nt_int (b := 0) (h n List.mem_cons_self)) h1).mono (Nat.le_refl _) (by rw [List.length_cons]; omega) (Nat.le_refl _)
end
theorem cutD_to (es : List D) (k : Nat) : cutD es none (some (k : Int)) = es.take k := by
  unfold cutD
  have h1 : HT.sIx es.length 0 none = 0 := rfl
  have h2 : HT.sIx es.length es.length (some (k : Int)) = min k es.length := by
    exact HT.sIx_nat es.length es.length k
  rw [h1, h2, Nat.sub_zero, List.drop_zero]
  by_cases h : k ≤ es.length
  · rw [Nat.min_eq_left h]
  · rw [Nat.min_eq_right (by omega), List.take_of_length_le (Nat.le_refl _), List.take_of_length_le (by omega)]
theorem cutD_from (es : List D) (k : Nat) : cutD es (some (k : Int)) none = es.drop k := by
  unfold cutD
  have h1 : HT.sIx es.length es.length none = es.length := rfl
  have h2 : HT.sIx es.length 0 (some (k : Int)) = min k es.length := by
    exact HT.sIx_nat es.length 0 k
  rw [h1, h2]
  by_cases h : k ≤ es.length
  · rw [Nat.min_eq_left h, List.take_of_length_le (by rw [List.length_drop]; exact Nat.le_refl _)]
  · rw [Nat.min_eq_right (by omega), Nat.sub_self, List.take_zero, List.drop_eq_nil_of_le (by omega)]
theorem mem_rep {α : Type} {x : α} {xs : List α} : ∀ {k : Nat}, x ∈ (List.replicate k xs).flatten → x ∈ xs
  | 0, h => by cases h
  | k + 1, h => by
    rw [List.replicate_succ, List.flatten_cons] at h
    rcases List.mem_append.mp h with h | h
    · exact h
    · exact mem_rep h
theorem eqv_tnil (es : List D) : PyData.eqv (.tuple es) (.tuple []) = es.isEmpty := by
  cases es with
  | nil => simp [PyData.eqv, PyData.eqvAll]
  | cons x xs => simp [PyData.eqv, PyData.eqvAll]
theorem sh_tnil : SeqAt.shaped (.tuple []) = true := rfl
/-- an item put in the place of another one -/
theorem nt_put {M N b j k : Nat} {es : List D} {x : Nat} {d : D} (h : NtL M b j es) (hx : x < es.length) (hd : Nt N (2 * (es[x]).bulk + 1) k d) (h1 : M ≤ N) (h2 : j ≤ k) : Nt N (2 * b) (k + 1) (.tuple (es.take x ++ [d] ++ es.drop (x + 1))) := by
  have e0 : es = es.take x ++ es[x] :: es.drop (x + 1) := by
    have := List.take_append_drop x es
    rw [List.drop_eq_getElem_cons hx] at this
    exact this.symm
  have hb := h.bk
  have l1 := ntL_take x h
  have l2 := ntL_drop (x + 1) h
  generalize es[x] = e at e0 hd
  have eb : PyData.bulkAll es = PyData.bulkAll (es.take x) + (e.bulk + 1 + PyData.bulkAll (es.drop (x + 1))) := by
    rw [e0, bulk_app]
    simp only [PyData.bulkAll]
    rw [← e0]
  have a1 : NtL N (PyData.bulkAll (es.take x)) k (es.take x) := ⟨lvsAll_mono h1 _ l1.lv, Nat.le_refl _, Nat.le_trans l1.dp h2⟩
  have a2 : NtL N (PyData.bulkAll (es.drop (x + 1))) k (es.drop (x + 1)) := ⟨lvsAll_mono h1 _ l2.lv, Nat.le_refl _, Nat.le_trans l2.dp h2⟩
  have a3 := ntL_app (ntL_app a1 (ntL_cons hd (ntL_nil (b := 0)))) a2
  exact (a3.mono (Nat.le_refl _) (by omega) (Nat.le_refl _)).tup
/-- what an odd part comes to: by the depth of the value -/
def g_odd (k : Nat) : CD := fun ds P => ∃ d M b, ds = [d] ∧ Nt M b k d ∧ 41 ≤ M ∧ M ≤ 999999999000 ∧ b ≤ 100000 ∧ k ≤ 40 ∧ ∀ d', Nt (M + 7) (2 * b + 1) (k + 1) d' → P d'
theorem g_odd_mono (k : Nat) : ∀ es P P', (∀ d, P d → P' d) → g_odd k es P → g_odd k es P' := fun es P P' h ⟨d, M, b, e, h1, h2, h3, h4, h5, q⟩ => ⟨d, M, b, e, h1, h2, h3, h4, h5, fun d' hd => h _ (q d' hd)⟩
def g_oddP : Nat → CD
  | 0 => fun _ _ => False
  | k + 1 => g_odd k
theorem g_oddP_mono (k : Nat) : ∀ es P P', (∀ d, P d → P' d) → g_oddP k es P → g_oddP k es P' := by
  cases k with
  | zero => exact fun es P P' h z => z.elim
  | succ k => exact g_odd_mono k
theorem isTuple_b {d : D} : (typD d == "tuple") = true ↔ ∃ es, d = .tuple es := by
  cases d <;> simp [typD]
section
variable {P : Program} {w : World} {K : PySem.W.Frag} {mg : Str → Option Value} {base : Heap}
theorem fn_none {x qual : Str} {st : Stmt} {f : Addr} {fd : FuncData} {k : Nat} {N ps : List Str} (F : Fun K x qual st f fd) (S : FnScope N ps (defScope st)) (h : ∀ H : Hp, True) : FnOk P w K mg base CX0 (k + 1) f fd ps (spW K fun _ _ => False) :=
  F.ok S (fun vs H Q E h => by
    obtain ⟨_, _, _, _, _, _, _, _, _, _, _, _, z⟩ := h
    exact z.elim) (fun cdv A outer s H vs Q E hr h => by
    obtain ⟨_, _, _, _, _, _, _, _, _, _, _, _, z⟩ := h
    exact z.elim)
end
end LD

/-! LD25: a tuple any number of times; whether something stands in a list or a tuple. -/
namespace LD
open PySem PySem.Spec L2 PyProof.Rows
theorem units1 {k : Nat} {A : Around} (r : Room k A) : A.units + 65 < cLine := by have := r.un; omega
set_option maxHeartbeats 4000000 in
theorem tuple_mul1 (l : Addr) (items : Array Value) (n : Nat) (dd : Option Addr) (sl : Array (Option Value)) (x : Int) (u : Tok) (c0 : (decide (x < -(2 ^ 63)) || decide (x ≥ 2 ^ 63)) = false) (c1 : (items.isEmpty || x == 1) = true) :
    Meets (Builtin.«tuple.__mul__» ⟨[.ref l, .int x u], []⟩) (fun _ R s => s.heap.get? l = some { cls := .type "tuple", dict := dd, data := .seq items n, slots := sl } ∧ R (.ok (.ret (Value.ref l))) s) :=
  .of_wp fun prog w A R s h => by
    obtain ⟨hp, g, d, tk, os⟩ := s
    obtain ⟨hl, h⟩ := h
    have f1 := AutoSeq1.idx_int
    wp_walk using wpAny_loadPart' hl
    repeat (first
      | (refine wpAny_ite_false (decide_eq_false (by rw [c0]; exact Bool.false_ne_true)) ?_; wp_walk using wpAny_loadPart' hl)
      | (refine wpAny_ite_true (decide_eq_true c1) ?_; wp_walk using wpAny_loadPart' hl))
    exact ⟨_, rfl, h⟩
set_option maxHeartbeats 4000000 in
theorem tuple_mul0 (l : Addr) (items : Array Value) (n : Nat) (dd : Option Addr) (sl : Array (Option Value)) (x : Int) (u : Tok) (c0 : (decide (x < -(2 ^ 63)) || decide (x ≥ 2 ^ 63)) = false) (c1 : (items.isEmpty || x == 1) = false) (c2 : (decide (x ≤ 0) || items.isEmpty) = true) :
    Meets (Builtin.«tuple.__mul__» ⟨[.ref l, .int x u], []⟩) (fun _ R s => s.heap.get? l = some { cls := .type "tuple", dict := dd, data := .seq items n, slots := sl } ∧
      R (.ok (.ret (Value.ref s.heap.objs.size))) { s with heap := s.heap.push { cls := Value.type "tuple", data := Data.seq #[] }, toks := s.toks }) :=
  .of_wp fun prog w A R s h => by
    obtain ⟨hp, g, d, tk, os⟩ := s
    obtain ⟨hl, h⟩ := h
    have f1 := AutoSeq1.idx_int
    wp_walk using wpAny_loadPart' hl
    repeat (first
      | (refine wpAny_ite_false (decide_eq_false (by rw [c0]; exact Bool.false_ne_true)) ?_; wp_walk using wpAny_loadPart' hl)
      | (refine wpAny_ite_false (decide_eq_false (by rw [c1]; exact Bool.false_ne_true)) ?_; wp_walk using wpAny_loadPart' hl)
      | (refine wpAny_ite_true (decide_eq_true c2) ?_; wp_walk using wpAny_loadPart' hl))
    exact ⟨_, rfl, h⟩
/-- a tuple that isn't empty, k times -/
def rRepA (K : PySem.W.Frag) : R2 := fun x y H Q => ∃ l k xs, x = .ref l ∧ y = .int k ∧ SqT K H l xs ∧ xs ≠ [] ∧ -1000 ≤ k ∧ k ≤ 1000 ∧ xs.length ≤ 1000 ∧ (k = 1 → Q (.ref l) H) ∧ (k ≠ 1 → ∀ p, H p = none → Q (.ref p) (upd H p (.tup (List.replicate k.toNat xs).flatten)))
section
variable {X : Cx}
theorem op_repA : OpR X (binaryOp .Mult) (rRepA X.K) := by
  intro pins s σ H x y v u Q I rx ry h
  obtain ⟨l, k, xs, rfl, rfl, hT, hne, h1, h2, hz, q1, q2⟩ := h
  by_cases hk : 2 ≤ k
  · exact op_repT pins s σ H _ _ v u Q I rx ry ⟨l, k, xs, rfl, rfl, hT, hne, hk, h2, hz, q2 (by omega)⟩
  cases rx
  obtain ⟨t, rfl⟩ := ry
  obtain ⟨its, r, ⟨⟨cls, dd, data, sl⟩, ho, hc, n, hd⟩, hs⟩ := I.tuple hT
  simp only at hc hd
  subst hc hd
  have hle : its.length = xs.length := r.length.symm
  have hn : its ≠ [] := fun e => hne (by
    rw [e] at hle
    exact List.eq_nil_of_length_eq_zero hle.symm)
  have hi : its.toArray.isEmpty = false := by
    cases its with
    | nil => exact absurd rfl hn
    | cons a b => rfl
  have c0 : (decide (k < -(2 ^ 63)) || decide (k ≥ 2 ^ 63)) = false := by
    rw [decide_eq_false (by omega), decide_eq_false (by omega)] <;> rfl
  by_cases hk1 : k = 1
  · have c1 : (its.toArray.isEmpty || k == 1) = true := by rw [hk1, hi]; rfl
    exact wpAny_binaryOp_repeat_ref (T := "tuple") (U := "int") (by decide) ⟨_, ho, rfl⟩ (fun s' => typeIs_int s' k t) noFill_tuple_mul F.fills_int_mul F.slot_int_rmul repeat_tuple F.slot_int_index.lookup
      (call_meets F.slot_int_rmul (typeIs_int s k t) F.entry_int_rmul (F.args_int_rmul_2 _ _) (int_rmul_tuple k t l its.toArray n dd sl)
        ⟨ho, rfl, ⟨_, ho, rfl⟩, call_meets F.slot_tuple_mul ⟨_, ho, rfl⟩ F.entry_tuple_mul (F.args_tuple_mul_2 _ _) (tuple_mul1 l its.toArray n dd sl k t c0 c1) ⟨ho, .ref l, H, I, rfl, q1 hk1⟩⟩)
  · have c1 : (its.toArray.isEmpty || k == 1) = false := by
      rw [hi, Bool.false_or]
      exact beq_eq_false_iff_ne.mpr hk1
    have c2 : (decide (k ≤ 0) || its.toArray.isEmpty) = true := by rw [decide_eq_true (by omega)]; rfl
    refine wpAny_binaryOp_repeat_ref (T := "tuple") (U := "int") (by decide) ⟨_, ho, rfl⟩ (fun s' => typeIs_int s' k t) noFill_tuple_mul F.fills_int_mul F.slot_int_rmul repeat_tuple F.slot_int_index.lookup
      (call_meets F.slot_int_rmul (typeIs_int s k t) F.entry_int_rmul (F.args_int_rmul_2 _ _) (int_rmul_tuple k t l its.toArray n dd sl)
        ⟨ho, rfl, ⟨_, ho, rfl⟩, call_meets F.slot_tuple_mul ⟨_, ho, rfl⟩ F.entry_tuple_mul (F.args_tuple_mul_2 _ _) (tuple_mul0 l its.toArray n dd sl k t c0 c1 c2) ⟨ho, ?_⟩⟩)
    have q := q2 hk1
    rw [show k.toNat = 0 by omega] at q
    refine ⟨.ref s.heap.objs.size, _, I.laid (t' := s.toks) (o := .tup []) (fun b ob q => Heap.get?_push_of_some _ q) (Nat.le_refl _) ?_, rfl, q _ (I.hok.fresh (Nat.le_refl _))⟩
    exact ⟨Nat.zero_le _, [], .nil, IsTup.new _ _⟩
end
section
variable {K : PySem.W.Frag} {ta tb : TE} {a b : TD}
def oRepA : OD := fun a b P => ∃ es k, a = .tuple es ∧ b = .int k ∧ es ≠ [] ∧ -1000 ≤ k ∧ k ≤ 1000 ∧ es.length ≤ 1000 ∧ P (.tuple (List.replicate k.toNat es).flatten)
theorem so_repA : SO K (rRepA K) oRepA := by
  refine ⟨fun a b P P' h ⟨es, k, e1, e2, h1, h2, h3, h4, q⟩ => ⟨es, k, e1, e2, h1, h2, h3, h4, h _ q⟩, fun F σ H ρ vs ds x y a b Q R q => ?_⟩
  obtain ⟨es, k, e1, e2, h1, h2, h3, h4, q⟩ := q
  subst e1 e2
  obtain rfl := R.int
  obtain ⟨p, xs, rfl, e, s, R1⟩ := R.drop.asTup
  refine ⟨p, k, xs, rfl, rfl, s, fun z => h1 ?_, h2, h3, by rw [e]; exact h4, fun hk => ?_, fun _ t ht => q _ _ ?_⟩
  · rw [z] at e
    exact List.length_eq_zero_iff.mp e.symm
  · subst hk
    rw [show (1 : Int).toNat = 1 from rfl, List.replicate_one, List.flatten_cons, List.flatten_nil, List.append_nil] at q
    exact q _ _ R.drop
  · have R2 : Rel K F σ H ρ ((List.replicate k.toNat xs).flatten ++ vs) ((List.replicate k.toNat es).flatten ++ ds) := R1.swap fun Hi h => by
      obtain ⟨g1, g2⟩ := dpAll_split e h
      cases g2 with | cons _ g2 => exact dpAll_app (dpAll_rep g1 _) g2
    exact R2.tup (by rw [List.length_flatten, List.length_flatten, List.map_replicate, List.map_replicate, e]) ht
/-- x in l, a list -/
def inB (d : D) (ds : List D) : Bool := ds.any fun z => PyData.eqv z d
def oInL (n : Bool) : OD := fun a b P => ∃ ds, b = .list ds ∧ SeqAt.shaped a = true ∧ SeqAt.shaped (.list ds) = true ∧ P (.bool (if n = true then !inB a ds else inB a ds))
theorem so_inL : SO K (rInD K) (oInL false) := ⟨fun a b P P' h ⟨ds, e, h1, h2, q⟩ => ⟨ds, e, h1, h2, h _ q⟩, fun F σ H ρ vs ds x y a b Q R ⟨es, e, h1, h2, q⟩ => by
  subst e
  exact ⟨a, es, R.drop.dp, R.dp, h1, h2, q _ _ (R.drop.drop.push (v := .bl (inB a es)) rfl)⟩⟩
theorem so_notInL : SO K (rNotInD K) (oInL true) := ⟨fun a b P P' h ⟨ds, e, h1, h2, q⟩ => ⟨ds, e, h1, h2, h _ q⟩, fun F σ H ρ vs ds x y a b Q R ⟨es, e, h1, h2, q⟩ => by
  subst e
  exact ⟨a, es, R.drop.dp, R.dp, h1, h2, q _ _ (R.drop.drop.push (v := .bl (!inB a es)) rfl)⟩⟩
/-- i in l, a list or a tuple of ints -/
theorem inV_ints (i : Int) : ∀ ns : List Int, inV (.int i) (ns.map V.int) = decide (i ∈ ns)
  | [] => rfl
  | n :: ns => by
    have ih := inV_ints i ns
    unfold inV at ih ⊢
    rw [List.map_cons, List.any_cons, ih]
    have e : eqV (.int n) (.int i) = decide (n = i) := rfl
    rw [e]
    by_cases h : n = i
    · subst h; simp
    · have h' : ¬ i = n := fun z => h z.symm
      simp [h, h']
theorem flat_ints : ∀ ns : List Int, (ns.map V.int).all flatV = true
  | [] => rfl
  | n :: ns => by rw [List.map_cons, List.all_cons, flat_ints ns]; rfl
def oInI (n : Bool) : OD := fun a b P => ∃ (i : Int) (ns : List Int), a = .int i ∧ (b = .list (ns.map PyData.int) ∨ b = .tuple (ns.map PyData.int)) ∧ P (.bool (if n = true then !decide (i ∈ ns) else decide (i ∈ ns)))
theorem so_inI (n : Bool) : SO K (rIn K n) (oInI n) := ⟨fun a b P P' h ⟨i, ns, e, h1, q⟩ => ⟨i, ns, e, h1, h _ q⟩, fun F σ H ρ vs ds x y a b Q R ⟨i, ns, e, h1, q⟩ => by
  subst e
  obtain rfl := R.drop.int
  rcases h1 with rfl | rfl
  · obtain ⟨p, xs, rfl, e, s, R1⟩ := R.asList
    obtain rfl := ints_of (K := K) ns xs (dpAll_split e R1.dpAll).1
    refine ⟨p, _, rfl, .inl s, rfl, flat_ints ns, ?_⟩
    rw [inV_ints]
    cases n with
    | true => exact q _ _ (R.drop.drop.push (v := .bl (!decide (i ∈ ns))) rfl)
    | false => exact q _ _ (R.drop.drop.push (v := .bl (decide (i ∈ ns))) rfl)
  · obtain ⟨p, xs, rfl, e, s, R1⟩ := R.asTup
    obtain rfl := ints_of (K := K) ns xs (dpAll_split e R1.dpAll).1
    refine ⟨p, _, rfl, .inr s, rfl, flat_ints ns, ?_⟩
    rw [inV_ints]
    cases n with
    | true => exact q _ _ (R.drop.drop.push (v := .bl (!decide (i ∈ ns))) rfl)
    | false => exact q _ _ (R.drop.drop.push (v := .bl (decide (i ∈ ns))) rfl)⟩
end
/-! a conditional expression as a test -/
def tIfT (t ta tb : TT) : TT := fun σ H Q => t σ H fun c H1 => if c = true then ta σ H1 Q else tb σ H1 Q
theorem pt_ifExp {X : Cx} {c a b : Expr} {pos : Pos} {t ta tb : TT} (hc : PT X c t) (ha : PT X a ta) (hb : PT X b tb) : PT X (.IfExp c a b pos) (tIfT t ta tb) := by
  refine ⟨fun pins s σ H Q I h => ?_⟩
  refine PyProof.Rows.isTrue_IfExp (thn (hc.run pins s σ H _ I h) fun d s1 ⟨H1, I1, q1⟩ => ?_)
  cases d with
  | true => exact ha.run pins s1 σ H1 Q I1 q1
  | false => exact hb.run pins s1 σ H1 Q I1 q1
def dIfT (t a b : TDT) : TDT := fun ρ P => t ρ fun r k => if k = true then a r P else b r P
theorem st_ifExp {K : PySem.W.Frag} {tt ta tb : TT} {t a b : TDT} (st : ST K tt t) (sa : ST K ta a) (sb : ST K tb b) : ST K (tIfT tt ta tb) (dIfT t a b) := by
  refine ⟨fun ρ P P' h q => st.mono _ _ _ (fun _ k q => ?_) q, fun F σ H ρ vs ds Q R q => ?_⟩
  · cases k with
    | true => exact sa.mono _ _ _ h q
    | false => exact sb.mono _ _ _ h q
  · refine st.run F σ H ρ vs ds _ R (st.mono _ _ _ (fun ρ1 k q H1 R1 => ?_) q)
    cases k with
    | true => exact sa.run F σ H1 ρ1 vs ds Q R1 q
    | false => exact sb.run F σ H1 ρ1 vs ds Q R1 q
end LD

/-! LD26: zip of three tuples; the greatest of a tuple; whether a key stands in a dict. -/
namespace LD
open PySem PySem.Spec L2
/-- the tuples at a, b and c, item by item in new triples -/
def ItZ3 (K : PySem.W.Frag) (a b c : Addr) (n m l : Nat) : It where
  go i H := ∃ xs ys zs x y z, SqT K H a xs ∧ SqT K H b ys ∧ SqT K H c zs ∧ xs.length = n ∧ ys.length = m ∧ zs.length = l ∧ xs[i]? = some x ∧ ys[i]? = some y ∧ zs[i]? = some z
  yld i H v H' := ∃ T x y z, v = .ref T ∧ H T = none ∧ H' = upd H T (.tup [x, y, z]) ∧ (∀ xs, SqT K H a xs → xs[i]? = some x) ∧ (∀ ys, SqT K H b ys → ys[i]? = some y) ∧ ∀ zs, SqT K H c zs → zs[i]? = some z
  stop i H := ∃ xs ys zs, SqT K H a xs ∧ SqT K H b ys ∧ SqT K H c zs ∧ xs.length = n ∧ ys.length = m ∧ zs.length = l ∧ (n ≤ i ∨ m ≤ i ∨ l ≤ i)
theorem tup_ne_it {h : Heap} {a i : Addr} {its : Array Value} {j : Nat} {b : Addr} (p : h.IsTuple a its) (q : h.IsTupleIter i b j) : a ≠ i := fun e => by
  obtain ⟨o, q1, c, _⟩ := p
  obtain ⟨o2, q2, c2, _⟩ := q
  rw [e] at q1
  rw [q1] at q2
  cases q2
  rw [c] at c2
  exact absurd (Value.type.inj c2) (by decide)
theorem turn_zip3 {P : Program} {w : World} {K : PySem.W.Frag} {es : List Expr} {j : Nat} {tp : Pos} {a b c z TI TO i1 i2 i3 : Addr} {n m l : Nat} (S : ZipSep3 z TI TO i1 i2 i3 [i1, a] [i2, b] [i3, c]) :
    Turn P w K (.Tuple es j tp) (ItZ3 K a b c n m l) [z, TI, TO, i1, i2, i3] z fun i h => IsZip h z TI TO .none ∧ IsTupOf3 h TI (.ref i1) (.ref i2) (.ref i3) ∧ (∃ x y z, IsTupOf3 h TO x y z) ∧ h.IsTupleIter i1 a i ∧ h.IsTupleIter i2 b i ∧ h.IsTupleIter i3 c i ∧ i ≤ n ∧ i ≤ m ∧ i ≤ l where
  mem := by simp
  obj i h st c hc := by
    obtain ⟨hz, hTI, ⟨x, y, z', hTO⟩, ⟨o1, e1, _, d1⟩, ⟨o2, e2, _, d2⟩, ⟨o3, e3, _, d3⟩, _⟩ := st
    rcases (by simpa using hc : c = z ∨ c = TI ∨ c = TO ∨ c = i1 ∨ c = i2 ∨ c = i3) with q | q | q | q | q | q
    · exact q ▸ ⟨_, hz, fun v q => nomatch q⟩
    · exact q ▸ ⟨_, hTI, fun v q => nomatch q⟩
    · exact q ▸ ⟨_, hTO, fun v q => nomatch q⟩
    · exact q ▸ ⟨o1, e1, fun v q => by rw [d1] at q; cases q⟩
    · exact q ▸ ⟨o2, e2, fun v q => by rw [d2] at q; cases q⟩
    · exact q ▸ ⟨o3, e3, fun v q => by rw [d3] at q; cases q⟩
  keep i h h' st k := by
    obtain ⟨hz, hTI, ⟨x, y, z', hTO⟩, h1, h2, h3, l⟩ := st
    exact ⟨k z (by simp) _ hz, k TI (by simp) _ hTI, ⟨x, y, z', k TO (by simp) _ hTO⟩, h1.at fun o q => k i1 (by simp) o q, h2.at fun o q => k i2 (by simp) o q, h3.at fun o q => k i3 (by simp) o q, l⟩
  item := by
    intro X hP hw hK hc i pins s σ H E I hf st hg
    subst hP hw hK
    obtain ⟨hz, hTI, ⟨x0, y0, z0, hTO⟩, h1, h2, h3, l1, l2, l3⟩ := st
    obtain ⟨xs, ys, zs, x, y, zv, hqx, hqy, hqz, nx, ny, nz, hx, hy, hzv⟩ := hg
    obtain ⟨its, rv, p, _⟩ := I.tuple hqx
    obtain ⟨its2, rv2, p2, _⟩ := I.tuple hqy
    obtain ⟨its3, rv3, p3, _⟩ := I.tuple hqz
    have p' : s.heap.IsTuple a its.toArray := p
    have p2' : s.heap.IsTuple b its2.toArray := p2
    have p3' : s.heap.IsTuple c its3.toArray := p3
    obtain ⟨u, hu, ru⟩ := rv.get hx
    obtain ⟨u2, hu2, ru2⟩ := rv2.get hy
    obtain ⟨u3, hu3, ru3⟩ := rv3.get hzv
    have hzl : z < s.heap.objs.size := Heap.lt_size hz
    have li1 : i < its.toArray.size := by rw [List.size_toArray]; exact (List.getElem?_eq_some_iff.mp hu).1
    have li2 : i < its2.toArray.size := by rw [List.size_toArray]; exact (List.getElem?_eq_some_iff.mp hu2).1
    have li3 : i < its3.toArray.size := by rw [List.size_toArray]; exact (List.getElem?_eq_some_iff.mp hu3).1
    have hs1 : its.toArray.size = n := by rw [List.size_toArray, ← rv.length, nx]
    have hs2 : its2.toArray.size = m := by rw [List.size_toArray, ← rv2.length, ny]
    have hs3 : its3.toArray.size = l := by rw [List.size_toArray, ← rv3.length, nz]
    refine wpAny_pyNext_zipD3_item S (Draws.tuple (A := X.A.in1) (I.ok.hd hc) i1 a (tup_ne_it p' h1) its.toArray) (Draws.tuple (A := X.A.in1) (I.ok.hd hc) i2 b (tup_ne_it p2' h2) its2.toArray) (Draws.tuple (A := X.A.in1) (I.ok.hd hc) i3 c (tup_ne_it p3' h3) its3.toArray) hz hTI hTO ⟨h1, p'⟩ ⟨h2, p2'⟩ ⟨h3, p3'⟩ li1 li2 li3 fun v1 v2 v3 h' tk y1 y2 y3 b1 b2 d1 d2 d3 b5 b6 hk => ?_
    have e1 : v1 = u := by
      have q : its[i]? = some v1 := by simpa using y1
      rw [hu] at q
      exact (Option.some.inj q).symm
    have e2 : v2 = u2 := by
      have q : its2[i]? = some v2 := by simpa using y2
      rw [hu2] at q
      exact (Option.some.inj q).symm
    have e3 : v3 = u3 := by
      have q : its3[i]? = some v3 := by simpa using y3
      rw [hu3] at q
      exact (Option.some.inj q).symm
    subst e1 e2 e3
    refine ⟨_, rfl, wpAny_letOwnedTupleGo_zip (s := { s with heap := h', toks := tk }) b1 fun h2' z'' sb => ?_⟩
    have hT2 : h2'.get? s.heap.objs.size = some { cls := .type "tuple", data := .seq #[v1, v2, v3] } := (sb.2 _ (Nat.ne_of_gt hzl)).trans b5
    have new : ObjOk X.prog X.w (upd H s.heap.objs.size (.tup [x, y, zv])) h2' s.heap.objs.size (.tup [x, y, zv]) :=
      ⟨by show 3 ≤ sizeLine; decide, [v1, v2, v3], .cons ru (.cons ru2 (.cons ru3 .nil)), ⟨_, hT2, rfl, _, rfl⟩⟩
    have I1 : Inv X pins σ (upd H s.heap.objs.size (.tup [x, y, zv])) { s with heap := h2', toks := tk } :=
      I.turnedNew (t' := tk) (ch := [z, TI, TO, i1, i2, i3]) (fun c o hb q => (sb.2 c fun w => hb (by simp [w])).trans (hk c o (fun w => hb (by simp [w])) (fun w => hb (by simp [w])) (fun w => hb (by simp [w])) (fun w => hb (by simp [w])) (fun w => hb (by simp [w])) q)) hf (Nat.le_refl _) new
    refine ⟨.ref s.heap.objs.size, _, I1, rfl, ⟨_, x, y, zv, rfl, I.hok.fresh (Nat.le_refl _), rfl, fun l hl => by rw [I.tuple_inj hl hqx]; exact hx, fun l hl => by rw [I.tuple_inj hl hqy]; exact hy, fun l hl => by rw [I.tuple_inj hl hqz]; exact hzv⟩, ⟨z'', ?_, ⟨v1, v2, v3, ?_⟩, ?_, ?_, ?_, by omega, by omega, by omega⟩, fun c hcm => ?_⟩
    · exact (sb.2 _ S.TIz).trans (hk _ _ S.TIz S.TITO S.TIi1 S.TIi2 S.TIi3 hTI)
    · exact (sb.2 _ S.TOz).trans b2
    · exact d1.1.at fun o q => (sb.2 _ (Ne.symm S.zi1)).trans q
    · exact d2.1.at fun o q => (sb.2 _ (Ne.symm S.zi2)).trans q
    · exact d3.1.at fun o q => (sb.2 _ (Ne.symm S.zi3)).trans q
    · have hlt : c < s.heap.objs.size := by
        rcases (by simpa using hcm : c = z ∨ c = TI ∨ c = TO ∨ c = i1 ∨ c = i2 ∨ c = i3) with q | q | q | q | q | q
        · exact q ▸ hzl
        · exact q ▸ Heap.lt_size hTI
        · exact q ▸ Heap.lt_size hTO
        · obtain ⟨_, e, _⟩ := h1
          exact q ▸ Heap.lt_size e
        · obtain ⟨_, e, _⟩ := h2
          exact q ▸ Heap.lt_size e
        · obtain ⟨_, e, _⟩ := h3
          exact q ▸ Heap.lt_size e
      rw [upd_ne (Nat.ne_of_lt hlt)]
      exact (hf c hcm).1
  done := by
    intro X hP hw hK hc i pins s σ H E I hf st hg
    subst hP hw hK
    obtain ⟨hz, hTI, ⟨x0, y0, z0, hTO⟩, h1, h2, h3, l1, l2, l3⟩ := st
    obtain ⟨xs, ys, zs, hqx, hqy, hqz, nx, ny, nz, hend⟩ := hg
    obtain ⟨its, rv, p, _⟩ := I.tuple hqx
    obtain ⟨its2, rv2, p2, _⟩ := I.tuple hqy
    obtain ⟨its3, rv3, p3, _⟩ := I.tuple hqz
    have p' : s.heap.IsTuple a its.toArray := p
    have p2' : s.heap.IsTuple b its2.toArray := p2
    have p3' : s.heap.IsTuple c its3.toArray := p3
    have hs1 : its.toArray.size = n := by rw [List.size_toArray, ← rv.length, nx]
    have hs2 : its2.toArray.size = m := by rw [List.size_toArray, ← rv2.length, ny]
    have hs3 : its3.toArray.size = l := by rw [List.size_toArray, ← rv3.length, nz]
    refine wpAny_pyNext_zipD3_end S (Draws.tuple (A := X.A.in1) (I.ok.hd hc) i1 a (tup_ne_it p' h1) its.toArray) (Draws.tuple (A := X.A.in1) (I.ok.hd hc) i2 b (tup_ne_it p2' h2) its2.toArray) (Draws.tuple (A := X.A.in1) (I.ok.hd hc) i3 c (tup_ne_it p3' h3) its3.toArray) hz hTI hTO ⟨h1, p'⟩ ⟨h2, p2'⟩ ⟨h3, p3'⟩ (by omega) (by omega) (by omega) (by omega) fun h' tk hk => ⟨rfl, I.turnedL (t' := tk) (ch := [z, TI, TO, i1, i2, i3]) (fun c o hb q =>
      hk c o (fun w => hb (by simp [w])) (fun w => hb (by simp [w])) (fun w => hb (by simp [w])) (fun w => hb (by simp [w])) (fun w => hb (by simp [w])) q) hf⟩
  self A i s Q E st h := wpAny_pyIter_zip st.1 h
def iZip3 (K : PySem.W.Frag) (ta : L2.TA) : TI := fun σ H R => ta σ H fun vs H1 => ∃ a b c xs ys zs, vs = [.ref a, .ref b, .ref c] ∧ SqT K H1 a xs ∧ SqT K H1 b ys ∧ SqT K H1 c zs ∧ R (ItZ3 K a b c xs.length ys.length zs.length) H1
theorem pi_zip3 {X : Cx} {e e2 e3 : Expr} {ta : L2.TA} {p pos tp : Pos} {es : List Expr} {j : Nat} (hg : Gl X "zip") (hm : X.mg "zip" = none) (ha : PA X [e, e2, e3] ta)
    (hs : starEach [e, e2, e3] X.env = (false, eval e X.env) :: starEach [e2, e3] X.env := by rfl) (hpl : (backTo pos (starEach [e2, e3] X.env)).any (·.1) = false := by rfl) :
    PI X (.Tuple es j tp) (.Call (.Name "zip" p) [e, e2, e3] [] pos) (iZip3 X.K ta) := by
  refine ⟨fun pins s σ H R I h => PyProof.Rows.Call_ (ld_blt I hg hm PyProof.Rows.boot_zip (PyProof.Rows.callWith_type1 (thn (ha.run pos pins s σ H _ I h) fun us s1 ⟨vs, H1, I1, r1, q1⟩ => ?_) hs hpl))⟩
  obtain ⟨a, b, c, xs, ys, zs, ex, hqx, hqy, hqz, q⟩ := q1
  subst ex
  obtain ⟨u, u2, u3, rfl, ru, ru2, ru3⟩ : ∃ u1 u2 u3, us = [u1, u2, u3] ∧ RelV (.ref a) u1 ∧ RelV (.ref b) u2 ∧ RelV (.ref c) u3 := by
    cases r1 with
    | cons p q =>
      cases q with
      | cons p' q' =>
        cases q' with
        | cons p'' q'' =>
          cases q''
          exact ⟨_, _, _, rfl, p, p', p''⟩
  obtain rfl : u = Value.ref a := ru
  obtain rfl : u2 = Value.ref b := ru2
  obtain rfl : u3 = Value.ref c := ru3
  obtain ⟨its, rv, p1, _⟩ := I1.tuple hqx
  obtain ⟨its2, rv2, p2, _⟩ := I1.tuple hqy
  obtain ⟨its3, rv3, p3, _⟩ := I1.tuple hqz
  have p1' : s1.heap.IsTuple a its.toArray := p1
  have p2' : s1.heap.IsTuple b its2.toArray := p2
  have p3' : s1.heap.IsTuple c its3.toArray := p3
  have la : a < s1.heap.objs.size := by
    obtain ⟨_, q, _⟩ := p1'
    exact Heap.lt_size q
  have lb : b < s1.heap.objs.size := by
    obtain ⟨_, q, _⟩ := p2'
    exact Heap.lt_size q
  have lc : c < s1.heap.objs.size := by
    obtain ⟨_, q, _⟩ := p3'
    exact Heap.lt_size q
  refine zip_begins3 (begins_tuple a its.toArray) (begins_tuple b its2.toArray) (begins_tuple c its3.toArray) p1' p2' p3' fun h' hz hTI hTO g1 g2 g3 hsz hk => wpAny_pyIter_zip hz ?_
  have I2 : Inv X pins σ H1 { s1 with heap := h' } := I1.kept (t' := s1.toks) hk
  have S := zip_sep3 (N := s1.heap.objs.size) (fp1 := [a]) (fp2 := [b]) (fp3 := [c]) (fun d hd => by
    obtain rfl : d = a := by simpa using hd
    exact la) (fun d hd => by
    obtain rfl : d = b := by simpa using hd
    exact lb) (fun d hd => by
    obtain rfl : d = c := by simpa using hd
    exact lc)
  refine ⟨s1.heap.objs.size + 5, [s1.heap.objs.size + 5, s1.heap.objs.size + 3, s1.heap.objs.size + 4, s1.heap.objs.size, s1.heap.objs.size + 1, s1.heap.objs.size + 2], _, _, H1, rfl, I2, turn_zip3 S, ⟨hz, hTI, ⟨_, _, _, hTO⟩, ⟨_, g1, rfl, rfl⟩, ⟨_, g2, rfl, rfl⟩, ⟨_, g3, rfl, rfl⟩, Nat.zero_le _, Nat.zero_le _, Nat.zero_le _⟩, fun c hcm => ?_, q⟩
  have hle : s1.heap.objs.size ≤ c := by
    rcases (by simpa using hcm : c = s1.heap.objs.size + 5 ∨ c = s1.heap.objs.size + 3 ∨ c = s1.heap.objs.size + 4 ∨ c = s1.heap.objs.size ∨ c = s1.heap.objs.size + 1 ∨ c = s1.heap.objs.size + 2) with w | w | w | w | w | w
    · rw [w]; exact Nat.le_add_right _ _
    · rw [w]; exact Nat.le_add_right _ _
    · rw [w]; exact Nat.le_add_right _ _
    · rw [w]; exact Nat.le_refl _
    · rw [w]; exact Nat.le_add_right _ _
    · rw [w]; exact Nat.le_add_right _ _
  exact I1.fpOk hle (I1.hok.fresh hle)
/-! over data -/
section
variable {K : PySem.W.Frag}
def zip3D (es fs gs : List D) : List D := (es.zip (fs.zip gs)).map fun p => .tuple [p.1, p.2.1, p.2.2]
theorem zip3D_at {es fs gs : List D} {i : Nat} {d : D} (h : (zip3D es fs gs)[i]? = some d) : ∃ x y z, es[i]? = some x ∧ fs[i]? = some y ∧ gs[i]? = some z ∧ d = .tuple [x, y, z] := by
  unfold zip3D at h
  rw [List.getElem?_map] at h
  cases hz : (es.zip (fs.zip gs))[i]? with
  | none => rw [hz] at h; cases h
  | some p =>
    rw [hz] at h
    have h1 := List.getElem?_zip_eq_some.mp hz
    have h2 := List.getElem?_zip_eq_some.mp h1.2
    exact ⟨p.1, p.2.1, p.2.2, h1.1, h2.1, h2.2, (Option.some.inj h).symm⟩
theorem walks_zip3 {p r t : Addr} {es fs gs : List D} : Walks K (ItZ3 K p r t es.length fs.length gs.length) (zip3D es fs gs) [.ref p, .ref r, .ref t] [.tuple es, .tuple fs, .tuple gs] := by
  intro F σ H ρ vs ds i R
  obtain ⟨p', xs, e, e2, s, R1⟩ := Rel.asTup (vs := .ref r :: .ref t :: vs) (ds := .tuple fs :: .tuple gs :: ds) R
  cases e
  have R' : Rel K F σ H ρ (.ref r :: .ref t :: vs) (.tuple fs :: .tuple gs :: ds) := Rel.drop R
  obtain ⟨r', ys, e', e2', s', R2⟩ := Rel.asTup R'
  cases e'
  have R'' : Rel K F σ H ρ (.ref t :: vs) (.tuple gs :: ds) := Rel.drop R'
  obtain ⟨t', zs, e'', e2'', s'', R3⟩ := Rel.asTup R''
  cases e''
  refine ⟨fun d hd => ?_, fun h => ⟨xs, ys, zs, s, s', s'', e2, e2', e2'', ?_⟩⟩
  · obtain ⟨x, y, z, hx, hy, hz, rfl⟩ := zip3D_at hd
    obtain ⟨v, e3, _⟩ := R1.pick e2 hx
    obtain ⟨u, e4, _⟩ := R2.pick e2' hy
    obtain ⟨u2, e5, _⟩ := R3.pick e2'' hz
    refine ⟨⟨xs, ys, zs, v, u, u2, s, s', s'', e2, e2', e2'', e3, e4, e5⟩, fun q H' hq => ?_⟩
    obtain ⟨T, v', u', w', rfl, hT, rfl, h1, h2, h3⟩ := hq
    have := (h1 xs s).symm.trans e3
    cases this
    have := (h2 ys s').symm.trans e4
    cases this
    have := (h3 zs s'').symm.trans e5
    cases this
    refine Rel.tup (xs := [v, u, u2]) (es := [x, y, z]) ?_ rfl hT
    obtain ⟨Hi, own, R4⟩ := R
    have t := R4.tmp
    cases t with
    | cons t1 t2 =>
      cases t2 with
      | cons t3 t4 =>
        cases t4 with
        | cons t5 t6 =>
          cases t1 with
          | tup s1 g1 =>
            cases t3 with
            | tup s2 g2 =>
              cases t5 with
              | tup s3 g3 =>
                obtain ⟨w1, k1, d1⟩ := dpAll_at g1 hx
                obtain ⟨w2, k2, d2⟩ := dpAll_at g2 hy
                obtain ⟨w3, k3, d3⟩ := dpAll_at g3 hz
                have z1 := (h1 _ (sqT_mono R4.sub s1)).symm.trans k1
                have z2 := (h2 _ (sqT_mono R4.sub s2)).symm.trans k2
                have z3 := (h3 _ (sqT_mono R4.sub s3)).symm.trans k3
                cases z1
                cases z2
                cases z3
                exact ⟨Hi, own, R4.tmpTo (.cons d1 (.cons d2 (.cons d3 (.cons (.tup s1 g1) (.cons (.tup s2 g2) (.cons (.tup s3 g3) t6))))))⟩
  · unfold zip3D at h
    rw [List.length_map, List.length_zip, List.length_zip] at h
    omega
def iZ3 (t : TDA) : TDI := fun ρ P => t ρ fun r es => ∃ fs gs ks, es = [.tuple fs, .tuple gs, .tuple ks] ∧ P r (zip3D fs gs ks)
theorem si_zip3 {ta : L2.TA} {t : TDA} (sa : SA K ta t) : SI K (iZip3 K ta) (iZ3 t) := by
  refine ⟨fun ρ P P' h q => sa.mono _ _ _ (fun _ es ⟨fs, gs, ks, e, q⟩ => ⟨fs, gs, ks, e, h _ _ q⟩) q, fun F σ H ρ vs ds Q R q => ?_⟩
  refine sa.run F σ H ρ vs ds _ R (sa.mono _ _ _ (fun r es q xs H1 e R1 => ?_) q)
  obtain ⟨fs, gs, ks, e1, q⟩ := q
  subst e1
  obtain ⟨x, xr, rfl, e2⟩ := len_cons e
  obtain ⟨y, yr, rfl, e3⟩ := len_cons e2
  obtain ⟨z, zr, rfl, e4⟩ := len_cons e3
  obtain rfl := len_nil e4
  obtain ⟨p, ys, rfl, el, s, _⟩ := Rel.asTup R1
  obtain ⟨p2, zs, rfl, el2, s2, _⟩ := Rel.asTup (Rel.drop R1)
  obtain ⟨p3, us, rfl, el3, s3, _⟩ := Rel.asTup (Rel.drop (Rel.drop R1))
  refine ⟨p, p2, p3, ys, zs, us, rfl, s, s2, s3, ?_⟩
  rw [el, el2, el3]
  exact q _ _ [.ref p, .ref p2, .ref p3] [.tuple fs, .tuple gs, .tuple ks] rfl walks_zip3 R1
end
/-! max of a tuple -/
def rMaxT (K : PySem.W.Frag) : List V → Hp → VK → Prop := fun vs H Q => ∃ (a : Addr) (xs : List V) (d : D) (ds : List D), vs = [.ref a] ∧ SqT K H a xs ∧ DpAll K H xs (d :: ds) ∧ PySem.W.AlikeAll (d :: ds) ∧ PyData.depthAll (d :: ds) ≤ 50 ∧
  ∀ (i : Nat) (v : V), xs[i]? = some v → (d :: ds)[i]? = some (PySem.W.maxD d ds) → Q v H
theorem cr_maxT {X : Cx} (hc : X.calm = true) (hu : X.A.units + 64 < cLine) : CallR X (.builtin "max") (rMaxT X.K) := by
  intro pins s σ H vs us Q I r h
  obtain ⟨a, xs, d, ds, rfl, hs, hd, ha, hz, q⟩ := h
  obtain ⟨its, rv, hl, _⟩ := I.tuple hs
  rw [Vals.ref1 r]
  obtain ⟨as, hr⟩ := Dp.readsAll I _ xs its hd rv
  have hn : its.length = ds.length + 1 := by rw [← rv.length, dpAll_len hd]; rfl
  have hr' : ReadsAll s.heap its.toArray.toList (d :: ds) as := hr
  refine PySem.call_max_walkH (PySem.W.iter_tupleW (A := X.A.in1) (I.ok.hd hc) hl fun s₂ e W st hfp hw hk => ?_)
  refine ⟨_, _, _, _, _, _, _, s.heap, _, rfl, W, st, hfp, by rw [List.size_toArray]; omega, hw, hk, PySem.W.cmpIn_gt (A := X.A.in1) hr' ha (by show X.A.units + 1 + _ < _; omega), fun v s' hP m => ?_⟩
  obtain ⟨h', tk, rfl, hk'⟩ := PySem.W.moved_old e rfl m
  have e1 : its.toArray.size - 1 = ds.length := by rw [List.size_toArray]; omega
  obtain ⟨e3, e2⟩ := PySem.W.argBest_fold (fun a b => PySem.W.dataLt b a) PyData.none d ds ds.length (Nat.le_refl _)
  rw [List.take_length] at e2
  rw [e1] at hP
  rw [List.getElem?_toArray] at hP
  obtain ⟨x, hx, rx⟩ := vals_back rv hP
  exact ⟨x, H, I.kept hk', rx, q _ x hx (getD_some (Nat.lt_succ_of_le e3) e2)⟩
section
variable {K : PySem.W.Frag}
def cMaxT : CD := fun es P => ∃ d ds, es = [.tuple (d :: ds)] ∧ PySem.W.AlikeAll (d :: ds) ∧ PyData.depthAll (d :: ds) ≤ 50 ∧ P (PySem.W.maxD d ds)
theorem sc_maxT : SC K (rMaxT K) cMaxT := ⟨fun a P P' h ⟨d, ds, e, h1, h2, q⟩ => ⟨d, ds, e, h1, h2, h _ q⟩, fun F σ H ρ vs ds xs es Q e R ⟨d, fs, h, h1, h2, q⟩ => by
  subst h
  obtain ⟨x, r, rfl, e1⟩ := len_cons e
  obtain rfl := len_nil e1
  obtain ⟨p, ys, rfl, e2, s, R1⟩ := Rel.asTup R
  refine ⟨p, ys, d, fs, rfl, s, (dpAll_split e2 R1.dpAll).1, h1, h2, fun i v hv hd => ?_⟩
  obtain ⟨w, hw, R2⟩ := R1.pick e2 hd
  rw [hv] at hw
  cases hw
  exact q _ _ R2.drop2⟩
end
/-! k in d, k not in d -/
def rInX (K : PySem.W.Frag) (neg : Bool) : R2 := fun x y H Q => ∃ a xs b k, y = .ref a ∧ x = .ref b ∧ H a = some (.ext (RawT a xs)) ∧ KeysIn K H xs ∧ SqT K H b (k.map V.int) ∧ Q (.bl (if neg = true then !(atX xs k).isSome else (atX xs k).isSome)) H
section
variable {X : Cx}
theorem op_inX (hu : X.A.units + 1 < cLine) : OpR X (compareOp .In) (rInX X.K false) := by
  intro pins s σ H x y v u Q I rx ry h
  obtain ⟨a, xs, b, k, rfl, rfl, ha, hk, hb, q⟩ := h
  cases rx
  cases ry
  have R := raw_of I ha
  refine wpAny_in_heap (tupleKind_room_in1 hu) (keyIn I hb) R.own (dictIn I R hk) ?_
  rw [atKey_X]
  exact ⟨.bl _, H, I.tok _, rfl, q⟩
theorem op_notInX (hu : X.A.units + 1 < cLine) : OpR X (compareOp .NotIn) (rInX X.K true) := by
  intro pins s σ H x y v u Q I rx ry h
  obtain ⟨a, xs, b, k, rfl, rfl, ha, hk, hb, q⟩ := h
  cases rx
  cases ry
  have R := raw_of I ha
  show wpAny _ _ (do return Value.bool (!(← contains (.ref a) (.ref b)))) _ _ s
  refine wpAny_bind (wpAny_contains_heap (tupleKind_room_in1 hu) (keyIn I hb) R.own (dictIn I R hk) (wpAny_pure ?_))
  rw [atKey_X]
  exact ⟨.bl _, H, I.tok _, rfl, q⟩
end
section
variable {K : PySem.W.Frag} {tb : TE} {b : TD}
def dInX (n : Bool) (i : Nat) (b : TD) : TD := fun ρ P => b ρ fun r y => ∃ p zs k, r[i]? = some (.dt p zs) ∧ y = .tuple (k.map PyData.int) ∧ P r (.bool (if n = true then !(lookD (zs.map Ent.kv) k).isSome else (lookD (zs.map Ent.kv) k).isSome))
theorem se_inX (n : Bool) (i : Nat) (sb : SE K tb b) : SE K (tOp (rInX K n) tb (tVar i)) (dInX n i b) := by
  refine ⟨fun ρ P P' h q => sb.mono _ _ _ (fun r y ⟨p, zs, k, e, e1, q⟩ => ⟨p, zs, k, e, e1, h _ _ q⟩) q, fun F σ H ρ vs ds Q R q => ?_⟩
  refine sb.run F σ H ρ vs ds _ R (sb.mono _ _ _ (fun r y q v H1 R1 => ?_) q)
  obtain ⟨p, zs, k, e, ey, q3⟩ := q
  subst ey
  obtain ⟨e2, hp, hk⟩ := R1.dtAt e
  refine ⟨.ref p, e2, ?_⟩
  obtain ⟨Hi, own, R2⟩ := R1
  have t := R2.tmp
  cases t with
  | cons t1 t2 =>
    cases t1 with
    | tup s gk =>
      have := ints_of (K := K) k _ gk
      subst this
      refine ⟨p, _, _, k, rfl, rfl, hp, hk, sqT_mono R2.sub s, ?_⟩
      rw [look_X, Option.isSome_map]
      rw [look_D, Option.isSome_map] at q3
      cases n with
      | true => exact q3 (.bl (!(lookE zs k).isSome)) _ ⟨Hi, own, R2.tmpTo (.cons (.bl _) t2)⟩
      | false => exact q3 (.bl (lookE zs k).isSome) _ ⟨Hi, own, R2.tmpTo (.cons (.bl _) t2)⟩
end
end LD

/-! LD27: {k: v}; list(d.items()) and sorted(d.items()) of dicts whose keys are tuples of ints. -/
namespace LD
open PySem PySem.Spec L2 PyProof.Rows
section
variable {K : PySem.W.Frag} {F : Fx} {σ : L2.St} {H : Hp} {ρ : Rho} {vs ws : List V} {ds es : List D}
/-- slot i keeps what was just laid -/
theorem Rel.keepNew2 {p : Addr} {i : Nat} {o : HO} {x : DV} (R : Rel K F σ H ρ vs ds) (hp : H p = none) (hi : i < ρ.length) (hx : ∀ Hi, Same Hi H → DpAll K Hi vs ds → SlotOk K Hi (upd H p o) (some (.ref p)) [p] x ∧ DpAll K Hi ws es) : Rel K F (σ.set i (some (.ref p))) (upd H p o) (ρ.set i x) ws es := by
  obtain ⟨Hi, own, R⟩ := R
  have ne : ∀ i, ∀ a ∈ own i, a ≠ p := fun i a ha z => R.held i a ha (by rw [z]; exact hp)
  refine ⟨Hi, fun j => if j = i then [p] else own j, ⟨R.base, R.sub.trans (same_upd hp), R.new, fun b q h hn => ?_, fun b h => ?_, ?_, fun j y h => ?_, fun j a ha => ?_, fun j a ha => ?_, fun j a ha => ?_, fun j k hjk a ha hk => ?_, fun j es' h a ha => ?_, fun z hz => ?_, (hx Hi R.sub R.tmp).2⟩⟩
  · rw [upd_ne (ne_of_none (R.keep b q h hn) hp)]; exact R.keep b q h hn
  · by_cases hbp : b = p
    · rw [hbp, upd_same]; simp
    · rw [upd_ne hbp]; exact R.dom b h
  · rw [List.length_set, List.length_set]; exact R.len
  · by_cases hj : j = i
    · subst hj
      rw [List.getElem?_set_self hi] at h
      cases h
      have e1 : (σ.set j (some (V.ref p)))[j]? = some (some (.ref p)) := List.getElem?_set_self (by rw [R.len]; exact hi)
      rw [e1, if_pos rfl]
      exact (hx Hi R.sub R.tmp).1
    · rw [List.getElem?_set_ne (Ne.symm hj)] at h ⊢
      rw [if_neg hj]
      exact (R.slot j y h).grow (Same.refl _) fun a ha o q => by rw [upd_ne (ne j a ha)]; exact q
  all_goals try (by_cases hj : j = i)
  · rw [if_pos hj] at ha
    obtain rfl : a = p := by simpa using ha
    exact R.noSub hp
  · rw [if_neg hj] at ha; exact R.free j a ha
  · rw [if_pos hj] at ha
    obtain rfl : a = p := by simpa using ha
    rw [upd_same]; simp
  · rw [if_neg hj] at ha; rw [upd_ne (ne j a ha)]; exact R.held j a ha
  · rw [if_pos hj] at ha
    obtain rfl : a = p := by simpa using ha
    exact .inl (R.no0 hp)
  · rw [if_neg hj] at ha; exact R.nown j a ha
  · rw [if_pos hj] at ha
    obtain rfl : a = p := by simpa using ha
    rw [if_neg (fun z => hjk (hj.trans z.symm))] at hk
    exact ne k a hk rfl
  · rw [if_neg hj] at ha
    by_cases hki : k = i
    · rw [if_pos hki] at hk
      obtain rfl : a = p := by simpa using hk
      exact ne j a ha rfl
    · rw [if_neg hki] at hk; exact R.sep j k hjk a ha hk
  · rw [if_pos hj] at ha
    obtain rfl : a = p := by simpa using ha
    exact R.no0 hp
  · rw [if_neg hj] at ha
    rw [List.getElem?_set_ne (Ne.symm hj)] at h
    exact R.nls j es' h a ha
  · obtain ⟨z1, z2, z3⟩ := R.pin z hz
    have nz : z.1 ≠ p := ne_of_none z1 hp
    refine ⟨by rw [upd_ne nz]; exact z1, z2, fun j hj => ?_⟩
    by_cases hji : j = i
    · rw [if_pos hji] at hj
      exact nz (by simpa using hj)
    · rw [if_neg hji] at hj; exact z3 j hj
end
/-- {k: v} -/
def tDict1 (K : PySem.W.Frag) (tk tv : TE) : TE := fun σ H Q => ∀ p, H p = none → tk σ (upd H p (.ext (RawT p []))) fun y H1 => tv σ H1 fun v H2 => H2 p = some (.ext (RawT p [])) ∧ ∃ b k, y = .ref b ∧ SqT K H2 b (k.map V.int) ∧
  ∀ u, RelV v u → Q (.ref p) (upd H2 p (.ext (RawT p [(k, b, u)])))
section
variable {X : Cx} {ke ve : Expr} {pos : Pos} {tk tv : TE}
theorem rawT_of {P : Program} {w : World} {a : Addr} {xs : XT} {h : Heap} (dd : h.DictOfH (tupleKind (mixKind P w)) a (xs.map keyX)) (h1 : (xs.map (·.1)).Nodup) (h2 : xs.length ≤ sizeLine) (h3 : (a == sysModules) = false) : RawT a xs h := by
  obtain ⟨ob, es, ep, g1, g2, g3, g4, _, g5⟩ := dd
  exact ⟨⟨ob, es, ep, g1, g2, g3, fun P w => by
    rw [g4, List.map_map]
    refine List.map_congr_left fun x _ => hash_one _ _ _ _ x⟩, h1, h2, h3⟩
theorem pe_dict1 (hu : X.A.units < cLine) (hk : PE X ke tk) (hv : PE X ve tv) : PE X (.Dict [some ke] [ve] pos) (tDict1 X.K tk tv) := by
  refine ⟨fun pins s σ H Q I h => ?_⟩
  rw [arm_eval_Dict]
  have hshape : (evalEachOpt [some ke] X.env).zip ((evalEach [ve] X.env).map fun v => do let x ← v; standAt pos; pure x) = [(eval ke X.env, do let x ← eval ve X.env; standAt pos; pure x)].map fun p => (some p.1, p.2) := rfl
  rw [hshape, dictDisplay_pairs _ (List.cons_ne_nil _ _) (by show 1 < 17; decide)]
  have fresh : H s.heap.objs.size = none := I.hok.fresh (Nat.le_refl _)
  have own : (s.heap.objs.size == sysModules) = false := beq_eq_false_iff_ne.mpr (Ne.symm (Nat.ne_of_lt I.big))
  have I0 : Inv X pins σ (upd H s.heap.objs.size (.ext (RawT s.heap.objs.size []))) { s with heap := s.heap.push { cls := .type "dict", data := .dict #[] } } := by
    refine I.laid (a := s.heap.objs.size) (o := .ext (RawT s.heap.objs.size [])) (t' := s.toks) (fun _ _ q => Heap.get?_push_of_some _ q) (Nat.le_refl _) ?_
    exact ⟨⟨⟨_, #[], 0, Heap.get?_push_size _ rfl, ⟨rfl, rfl, rfl⟩, rfl, fun _ _ => rfl⟩, List.nodup_nil, Nat.zero_le _, own⟩, ⟨_, Heap.get?_push_size _ rfl⟩, fun h1 h2 R k => rawT_local h1 h2 R k⟩
  refine wpAny_bind (wpAny_standAt (wpAny_bind (wpAny_subDictH (knd := tupleKind (mixKind X.prog X.w)) hu (by show 1 ≤ 15; decide) ?_)))
  show wpAny _ _ (do let kv ← eval ke X.env; let vv ← holding [kv] (do let x ← eval ve X.env; standAt pos; pure x); return (kv, vv) :: (← holding [kv, vv] (evalPairs []))) _ _ _
  refine wpAny_bind (thn (hk.run pins _ σ _ _ I0 (h s.heap.objs.size fresh)) fun kv s1 ⟨y, H1, I1, ry, q1⟩ => ?_)
  refine wpAny_bind (wpAny_holding (wpAny_bind (thn (hv.run pins s1 σ H1 _ I1 q1) fun vv s2 ⟨v, H2, I2, rv, hp, b, k, ey, hb, q2⟩ => wpAny_bind (wpAny_standAt (wpAny_pure ?_)))))
  refine wpAny_bind (wpAny_holding ?_)
  show wpAny _ _ (pure []) _ _ _
  refine wpAny_pure (wpAny_pure ?_)
  subst ey
  obtain rfl : kv = Value.ref b := ry
  have R := raw_of I2 hp
  have D := dictIn I2 R (fun x hx => by cases hx)
  refine ⟨[(k.map Sum.inl, b, vv)], ⟨rfl, rfl, keyIn I2 hb, trivial⟩, D, fun h' tk dd hs => ?_⟩
  have dd' : h'.DictOfH (tupleKind (mixKind X.prog X.w)) s.heap.objs.size ([(k, b, vv)].map keyX) := dd
  have R' : RawT s.heap.objs.size [(k, b, vv)] h' := rawT_of dd' (by simp) (by show 1 ≤ sizeLine; decide) own
  obtain ⟨ob, es, ep, g1, _⟩ := R'.raw
  refine wpAny_pure ⟨.ref s.heap.objs.size, _, d_write I2 (by rw [hp]; exact True.intro) hs ⟨ob, g1⟩ (show ObjOk X.prog X.w (upd H2 s.heap.objs.size (.ext (RawT s.heap.objs.size [(k, b, vv)]))) h' s.heap.objs.size (.ext (RawT s.heap.objs.size [(k, b, vv)])) from ⟨R', ⟨ob, g1⟩, fun h1 h2 => rawT_local h1 h2⟩), rfl, q2 vv rv⟩
end
section
variable {K : PySem.W.Frag} {tb tk : TE} {b k : TD}
/-- x = {k: v} -/
def dDict1 (i : Nat) (k b : TD) : TDS := fun dn ρ => k ρ fun r y => b r fun r2 d => i < r2.length ∧ ∃ ks : List Int, y = .tuple (ks.map PyData.int) ∧ ∀ p zs, zs.map Ent.kv = [(ks, d)] → dn.nx (r2.set i (.dt p zs))
theorem ss_dict1 {i : Nat} (sk : SE K tk k) (sb : SE K tb b) : SS K (tAsg (tDict1 K tk tb) (gName i)) (dDict1 i k b) := by
  refine ⟨fun a b ρ h q => sk.mono _ _ _ (fun r y q => sb.mono _ _ _ (fun r2 d ⟨h1, ks, e, q⟩ => ⟨h1, ks, e, fun p zs hz => h.nx _ (q p zs hz)⟩) q) q, fun F σ H ρ vs ds E dn G R q p hp => ?_⟩
  have f0 := R.pinFree hp
  refine sk.run (F.mk1 p _) σ _ ρ _ _ _ (R.pinNew hp) (sk.mono _ _ _ (fun r y q v H1 R1 => ?_) q)
  refine sb.run _ σ H1 r _ _ _ R1 (sb.mono _ _ _ (fun r2 d q w H2 R2 => ?_) q)
  obtain ⟨hi, ks, ey, q3⟩ := q
  subst ey
  refine ⟨R2.pinAt, ?_⟩
  obtain ⟨u1, u2, u3⟩ := R2.unpin f0.1 f0.2
  have R2' := R2
  obtain ⟨Hi, own, R4⟩ := R2'
  have t := R4.tmp
  cases t with
  | cons t1 t2 =>
    cases t2 with
    | cons t3 t4 =>
      cases t3 with
      | tup s gk =>
        rename_i b' _
        have := ints_of (K := K) ks _ gk
        subst this
        refine ⟨b', ks, rfl, sqT_mono R4.sub s, fun u ru => ?_⟩
        have e2 : upd H2 p (.ext (RawT p [(ks, b', u)])) = upd (hide H2 p) p (.ext (RawT p [(ks, b', u)])) := by
          conv => lhs; rw [u2]
          funext c
          by_cases hc : c = p
          · rw [hc, upd_same, upd_same]
          · rw [upd_ne hc, upd_ne hc, upd_ne hc]
        rw [e2]
        refine G.nx _ _ _ (Rel.keepNew2 (x := .dt p [⟨ks, b', u, w, d⟩]) (ws := vs) (es := ds) u3 u1 hi fun Hi2 s2 t' => ?_) (q3 p [⟨ks, b', u, w, d⟩] rfl)
        cases t' with
        | cons t1' t2' =>
          cases t2' with
          | cons t3' t4' =>
            refine ⟨⟨rfl, rfl, upd_same, fun z hz => ?_⟩, t4'⟩
            obtain rfl : z = ⟨ks, b', u, w, d⟩ := by simpa using hz
            exact ⟨t3', ru, t1'⟩
end
/-! ### list(d.items()) -/
def layT : Hp → List Addr → List (V × V) → Hp
  | H, t :: ts, p :: ps => layT (upd H t (.tup [p.1, p.2])) ts ps
  | H, _, _ => H
theorem layT_off {b : Addr} : ∀ (ts : List Addr) (ps : List (V × V)) (H : Hp), b ∉ ts → layT H ts ps b = H b
  | [], _, _, _ => rfl
  | _ :: _, [], _, _ => rfl
  | a :: as, p :: kvs, H, h => by
    show layT (upd H a (.tup [p.1, p.2])) as kvs b = H b
    rw [layT_off as kvs _ (fun z => h (List.mem_cons_of_mem _ z)), upd_ne (fun z => h (by rw [z]; exact List.mem_cons_self))]
theorem upd_comm {H : Hp} {a b : Addr} {x y : HO} (h : a ≠ b) : upd (upd H a x) b y = upd (upd H b y) a x := by
  funext c
  by_cases h1 : c = a
  · subst h1
    rw [upd_ne h, upd_same, upd_same]
  · by_cases h2 : c = b
    · subst h2
      rw [upd_same, upd_ne h1, upd_same]
    · rw [upd_ne h2, upd_ne h1, upd_ne h1, upd_ne h2]
theorem layT_upd {b : Addr} {o : HO} : ∀ (ts : List Addr) (ps : List (V × V)) (H : Hp), b ∉ ts → layT (upd H b o) ts ps = upd (layT H ts ps) b o
  | [], _, _, _ => rfl
  | _ :: _, [], _, _ => rfl
  | a :: as, p :: kvs, H, h => by
    show layT (upd (upd H b o) a (.tup [p.1, p.2])) as kvs = upd (layT (upd H a (.tup [p.1, p.2])) as kvs) b o
    rw [upd_comm (fun z => h (by rw [z]; exact List.mem_cons_self)), layT_upd as kvs _ fun z => h (List.mem_cons_of_mem _ z)]
theorem layT_at : ∀ (as : List Addr) (ps : List (V × V)) (H : Hp), as.length = ps.length → as.Nodup → ∀ (j : Nat) (t : Addr), as[j]? = some t → ∃ p, ps[j]? = some p ∧ layT H as ps t = some (.tup [p.1, p.2])
  | [], _, _, _, _, _, _, h => by cases h
  | _ :: _, [], _, h, _, _, _, _ => by cases h
  | a :: as, p :: ps, H, h, hn, 0, t, e => by
    have hn' := List.nodup_cons.mp hn
    obtain rfl : a = t := Option.some.inj e
    refine ⟨p, rfl, ?_⟩
    show layT (upd H a (.tup [p.1, p.2])) as ps a = _
    rw [layT_off as ps _ hn'.1, upd_same]
  | a :: as, p :: ps, H, h, hn, j + 1, t, e => by
    obtain ⟨q, e1, e2⟩ := layT_at as ps (upd H a (.tup [p.1, p.2])) (Nat.succ.inj h) (List.nodup_cons.mp hn).2 j t e
    exact ⟨q, e1, e2⟩
section
variable {X : Cx}
theorem itemsX_laid {pins : List (Addr × Obj)} {σ : L2.St} {H : Hp} {s : Shared} {h' : Heap} {tk : Nat} {es : Array DictEntry} {ps : List (V × V)} {acc : Array Value} {c : Nat} {as : List Addr} (I : Inv X pins σ H s) (hz : es.size ≤ sizeLine)
    (hps : ps.length = es.size) (hp : ∀ (j : Nat) (hj : j < es.size) (p : V × V), ps[j]? = some p → RelV p.1 es[j].key ∧ RelV p.2 es[j].val)
    (hk : ∀ b o, s.heap.get? b = some o → h'.get? b = some o) (hS : h'.get? s.heap.objs.size = some { cls := .type "list", dict := none, data := .seq acc c, slots := #[] }) (hl : as.length = es.size) (hG : PySem.W.DilG es s.heap.objs.size h' as) (hacc : acc.toList = as.map Value.ref) :
    H s.heap.objs.size = none ∧ (∀ t ∈ as, H t = none) ∧ s.heap.objs.size ∉ as ∧ as.Nodup ∧ Inv X pins σ (upd (layT H as ps) s.heap.objs.size (.lst (as.map V.ref))) { s with heap := h', toks := tk } := by
  have hSn : s.heap.objs.size ∉ as := fun z => Nat.lt_irrefl _ (hG.above _ z)
  have nd : as.Nodup := List.Pairwise.imp (fun {a b} (h : a < b) => Nat.ne_of_lt h) hG.rise
  have new : ∀ t ∈ as, H t = none := fun t ht => I.hok.fresh (Nat.le_of_lt (hG.above t ht))
  have newS : H s.heap.objs.size = none := I.hok.fresh (Nat.le_refl _)
  have atP := layT_at as ps (upd H s.heap.objs.size (.lst (as.map V.ref))) (by omega) nd
  have off : ∀ b, b ∉ as → b ≠ s.heap.objs.size → layT (upd H s.heap.objs.size (.lst (as.map V.ref))) as ps b = H b := fun b h1 h2 => by rw [layT_off as ps _ h1, upd_ne h2]
  have low : ∀ b o, s.heap.get? b = some o → b ∉ as ∧ b ≠ s.heap.objs.size := fun b o e => ⟨fun z => absurd (Heap.lt_size e) (Nat.not_lt.mpr (Nat.le_of_lt (hG.above b z))), Nat.ne_of_lt (Heap.lt_size e)⟩
  have kp : ∀ b u, H b = some u → (layT (upd H s.heap.objs.size (.lst (as.map V.ref))) as ps) b = some u := fun b u e => by
    rw [off b (fun z => by rw [new b z] at e; cases e) (fun z => by rw [z, newS] at e; cases e)]
    exact e
  have eS : layT (upd H s.heap.objs.size (.lst (as.map V.ref))) as ps s.heap.objs.size = some (.lst (as.map V.ref)) := by rw [layT_off as ps _ hSn, upd_same]
  refine ⟨newS, new, hSn, nd, ?_⟩
  rw [← layT_upd as ps H hSn]
  refine I.call' (ch := []) rfl ⟨fun b o q _ _ _ => hk b o q, fun b o q _ _ _ => ⟨o.slots, hk b o q⟩, fun b o q n _ => ?_, fun b o q _ => ⟨o, hk b o q⟩, fun b xs q => kp b _ q, fun b o u q => kp b _ q, fun b ps q => ⟨#[], by rw [kp b _ q]; simp⟩⟩ (fun b u q => ?_) I.bare fun b z => by simp at z
  · obtain ⟨z1, z2⟩ := low b o q
    rw [off b z1 z2]
    exact n
  · by_cases hb : b ∈ as
    · obtain ⟨j, hj⟩ := List.mem_iff_getElem?.mp hb
      obtain ⟨p, e2, e3⟩ := atP j b hj
      rw [e3] at q
      cases q
      obtain ⟨hj', f3⟩ := hG.pairs j b hj
      obtain ⟨r1, r2⟩ := hp j hj' p e2
      exact ⟨by show 2 ≤ sizeLine; decide, [es[j].key, es[j].val], .cons r1 (.cons r2 .nil), ⟨_, f3, rfl, _, rfl⟩⟩
    · by_cases hb2 : b = s.heap.objs.size
      · rw [hb2] at q ⊢
        rw [eS] at q
        cases q
        refine ⟨by rw [List.length_map]; omega, acc.toList, c, by rw [hacc]; exact LiI.vals_refs as, ?_⟩
        rw [Array.toArray_toList]
        exact hS
      · rw [off b hb hb2] at q
        exact (I.hok b u q).stay (fun d v _ y => hk d v y) (fun d y => kp d _ y) fun d xs y => kp d _ y
def tListItX (K : PySem.W.Frag) (te : TE) : TE := fun σ H Q => te σ H fun x H1 => ∃ (a : Addr) (xs : XT) (vs : List V), x = .ref a ∧ H1 a = some (.ext (RawT a xs)) ∧ KeysIn K H1 xs ∧ vs.length = xs.length ∧ (∀ (j : Nat) (x : List Int × Addr × Value) (v : V), xs[j]? = some x → vs[j]? = some v → RelV v x.2.2) ∧
  ∀ (ts : List Addr) (p : Addr), ts.length = xs.length → ts.Nodup → (∀ t ∈ ts, H1 t = none) → p ∉ ts → H1 p = none → Q (.ref p) (upd (layT H1 ts ((xs.zip vs).map fun z => (V.ref z.1.2.1, z.2))) p (.lst (ts.map V.ref)))
variable {e : Expr} {te : TE} {p apos cpos pos : Pos}
/-- list(e.items()) -/
theorem pe_listItX (hc : X.calm = true) (he : PE X e te) (hg : Gl X "list") (hm : X.mg "list" = none) (hv : bootBuiltins "list" = some (.type "list")) (hbase : attributeBase e "items" X.env (eval e X.env) = eval e X.env := by rfl) (hline : (apos.endLine == cpos.line) = true := by rfl)
    (hs : starEach [.Call (.Attribute e "items" apos) [] [] cpos] X.env = (false, eval (.Call (.Attribute e "items" apos) [] [] cpos) X.env) :: starEach [] X.env := by rfl) :
    PE X (.Call (.Name "list" p) [.Call (.Attribute e "items" apos) [] [] cpos] [] pos) (tListItX X.K te) := by
  refine ⟨fun pins s σ H Q I hq => ?_⟩
  refine wpAny_Call_Name_kw (ld_blt I hg hm hv ?_)
  refine PyProof.Rows.callWith_type1 ?_ hs rfl
  rw [hs]
  show wpAny _ _ (spliced ((false, eval (.Call (.Attribute e "items" apos) [] [] cpos) X.env) :: backTo pos (starEach [] X.env))) _ _ s
  refine Calls.spliced_cons ?_
  refine wpAny_Call_method (T := "dict") (id := "dict.items") hbase rfl hline F.plainAttrs_dict F.slot_dict_items F.type_dict_items (thn (he.run pins s σ H _ I hq) fun u s1 ⟨x, H1, I1, rx, d, xs, vs, ex, hd, hki, hvl, hvr, q⟩ => ?_)
  subst ex
  obtain rfl : u = Value.ref d := rx
  have R := raw_of I1 hd
  have D := dictIn I1 R hki
  obtain ⟨o, es, ep, g1, g2, g3, g4⟩ := R.raw
  have hes : es.size = xs.length := by
    have := congrArg List.length (g4 X.prog X.w)
    rw [Array.length_toList, List.length_map] at this
    exact this
  have I2 : Inv X pins σ H1 { s1 with heap := s1.heap.push { cls := .type "dict_items", data := .fields #[.ref d] } } := I1.kept (t' := s1.toks) fun b ob q => Heap.get?_push_of_some _ q
  have hT : s1.TypeIs (.ref d) "dict" := ⟨o, g1, g2.1⟩
  refine ⟨hT, fun c z => ?_, ?_⟩
  · cases z
    exact ⟨o, g1, g2.2.1⟩
  show wpAny _ _ (callWith cpos (.builtin "dict.items") [.ref d] [] []) _ X.xe s1
  refine method_meetsIn F.slot_dict_items F.entry_dict_items rfl (PySem.evalArgs_none ⟨rfl, hT, F.args_dict_items_1 _, _, PySem.meets_dict_items_raw d R.own, ⟨⟨es, ep, o, g1, g2, g3⟩, ?_⟩⟩)
  refine Calls.spliced_nil ?_
  refine PySem.W.dil_call (es := es) (ep := ep) (I1.ok.hd hc) ⟨_, Heap.get?_push_size _ rfl, rfl, rfl⟩ ⟨o, Heap.get?_push_of_some _ g1, g2, g3⟩ (by rw [hes]; exact R.few) fun h' tk acc c as hk hS hl hG hacc => ?_
  have hps : ((xs.zip vs).map fun z => (V.ref z.1.2.1, z.2)).length = es.size := by rw [List.length_map, List.length_zip, hvl, hes, Nat.min_self]
  have rel : ∀ (j : Nat) (hj : j < es.size) (p : V × V), ((xs.zip vs).map fun z => (V.ref z.1.2.1, z.2))[j]? = some p → RelV p.1 es[j].key ∧ RelV p.2 es[j].val := fun j hj pv hpv => by
    rw [List.getElem?_map] at hpv
    cases hz : (xs.zip vs)[j]? with
    | none => rw [hz] at hpv; cases hpv
    | some z =>
      rw [hz] at hpv
      cases hpv
      obtain ⟨z1, z2⟩ := List.getElem?_zip_eq_some.mp hz
      have e2 : es.toList[j]? = some es[j] := by rw [Array.getElem?_toList, Array.getElem?_eq_getElem hj]
      rw [g4 X.prog X.w, List.getElem?_map, z1] at e2
      have e3 : entryOfKey (tupleKind (mixKind X.prog X.w)) (keyX z.1) = es[j] := Option.some.inj e2
      rw [← e3]
      exact ⟨rfl, hvr j z.1 z.2 z1 z2⟩
  obtain ⟨k2, k3, k4, k5, J⟩ := itemsX_laid (tk := tk) (ps := (xs.zip vs).map fun z => (V.ref z.1.2.1, z.2)) I2 (by rw [hes]; exact R.few) hps rel hk hS hl hG hacc
  exact ⟨.ref _, _, J, rfl, q as _ (by rw [hl, hes]) k5 k3 k4 k2⟩
end
section
variable {K : PySem.W.Frag} {F : Fx} {σ : L2.St} {ρ : Rho} {vs : List V} {ds : List D} {own : Nat → List Addr}
def pairD (x : List Int × D) : D := .tuple [.tuple (x.1.map PyData.int), x.2]
theorem RelI.lays : ∀ {ts : List Addr} {zs : List Ent} {H Hi : Hp} {pre : List V} {preD : List D}, RelI K F σ H ρ (pre ++ vs) (preD ++ ds) Hi own → pre.length = preD.length → ts.length = zs.length → ts.Nodup → (∀ t ∈ ts, H t = none) →
    (∀ z ∈ zs, Dp K Hi (.ref z.b) (.tuple (z.k.map PyData.int)) ∧ Dp K Hi z.v z.d) →
    ∃ Hi', RelI K F σ (layT H ts (zs.map fun z => (V.ref z.b, z.v))) ρ (pre ++ ts.map V.ref ++ vs) (preD ++ (zs.map Ent.kv).map pairD ++ ds) Hi' own
  | [], [], H, Hi, pre, preD, R, _, _, _, _, _ => ⟨Hi, by simpa [layT] using R⟩
  | [], _ :: _, _, _, _, _, _, _, h, _, _, _ => by cases h
  | _ :: _, [], _, _, _, _, _, _, h, _, _, _ => by cases h
  | t :: ts, z :: zs, H, Hi, pre, preD, R, hp, hl, nd, hn, hd => by
    have nd' := List.nodup_cons.mp nd
    have ht : H t = none := hn t List.mem_cons_self
    obtain ⟨d1, d2⟩ := hd z List.mem_cons_self
    have s1 : Same Hi (upd Hi t (.tup [V.ref z.b, z.v])) := same_upd (R.noSub ht)
    obtain ⟨g1, g2⟩ := dpAll_split hp R.tmp
    have R1 : RelI K F σ (upd H t (.tup [V.ref z.b, z.v])) ρ ((pre ++ [V.ref t]) ++ vs) ((preD ++ [pairD z.kv]) ++ ds) (upd Hi t (.tup [V.ref z.b, z.v])) own := by
      refine R.lay ht (dpAll_app (dpAll_app (dpAll_mono s1 _ _ g1) (.cons ?_ .nil)) (dpAll_mono s1 _ _ g2))
      exact .tup (.inl (.inl upd_same)) (.cons (dp_mono s1 _ _ d1) (.cons (dp_mono s1 _ _ d2) .nil))
    obtain ⟨Hi', R2⟩ := RelI.lays R1 (by rw [List.length_append, List.length_append, hp]; rfl) (Nat.succ.inj hl) nd'.2 (fun u hu => by
      rw [upd_ne (fun e => nd'.1 (by rw [← e]; exact hu))]
      exact hn u (List.mem_cons_of_mem _ hu)) (fun y hy => ⟨dp_mono s1 _ _ (hd y (List.mem_cons_of_mem _ hy)).1, dp_mono s1 _ _ (hd y (List.mem_cons_of_mem _ hy)).2⟩)
    refine ⟨Hi', ?_⟩
    have e1 : pre ++ (t :: ts).map V.ref ++ vs = (pre ++ [V.ref t]) ++ ts.map V.ref ++ vs := by simp
    have e2 : preD ++ ((z :: zs).map Ent.kv).map pairD ++ ds = (preD ++ [pairD z.kv]) ++ (zs.map Ent.kv).map pairD ++ ds := by simp
    rw [e1, e2]
    exact R2
def dListItX (i : Nat) : TDA := fun ρ P => ∃ p zs, ρ[i]? = some (.dt p zs) ∧ P ρ ((zs.map Ent.kv).map pairD)
theorem sf_listItX (i : Nat) : SF K (tListItX K (tVar i)) (dListItX i) := by
  refine ⟨fun ρ P P' h ⟨p, zs, e, q⟩ => ⟨p, zs, e, h _ _ q⟩, fun F σ H ρ vs ds Q R q => ?_⟩
  obtain ⟨p, zs, e, q⟩ := q
  obtain ⟨e1, hp, hk⟩ := R.dtAt e
  obtain ⟨Hi, own, R4⟩ := R
  obtain ⟨_, _, _, g⟩ := R4.slot i _ e
  refine ⟨.ref p, e1, p, _, zs.map Ent.v, rfl, hp, hk, by rw [List.length_map, List.length_map], fun j x v hx hv => ?_, fun ts l hl nd hn hnl hl0 => ?_⟩
  · rw [List.getElem?_map] at hx hv
    cases hz : zs[j]? with
    | none => rw [hz] at hx; cases hx
    | some z =>
      rw [hz] at hx hv
      cases hx
      cases hv
      exact (g z (List.mem_of_getElem? hz)).2.1
  · rw [List.length_map] at hl
    have ep : (((zs.map Ent.x).zip (zs.map Ent.v)).map fun z => (V.ref z.1.2.1, z.2)) = zs.map fun z => (V.ref z.b, z.v) := by
      rw [List.zip_map', List.map_map]
      rfl
    rw [ep]
    obtain ⟨Hi', R5⟩ := RelI.lays (pre := []) (preD := []) (zs := zs) (ts := ts) R4 rfl hl nd hn fun z hz => ⟨(g z hz).1, (g z hz).2.2⟩
    exact q _ _ _ (by rw [List.length_map, List.length_map, List.length_map]; exact hl) ⟨Hi', own, R5⟩ (by rw [layT_off _ _ _ hnl]; exact hl0)
end
end LD

/-! LD28: sorted(set(t)) of a tuple of ints. -/
namespace LD
open PySem PySem.Spec L2 PyProof.Rows
/-- set(t) -/
def rSetT (K : PySem.W.Frag) (w : World) : List V → Hp → VK → Prop := fun xs H Q => ∃ (p : Addr) (ns : List Int), xs = [.ref p] ∧ SqT K H p (ns.map V.int) ∧ ns.length ≤ 1000 ∧
  ∀ (q : Addr) (c : Nat), H q = none → c ≤ ns.length → Q (.ref q) (upd H q (SetO w q (fun j => decide (j ∈ ns)) c))
section
variable {X : Cx}
theorem cr_setT (hc : X.calm = true) : CallR X (.type "set") (rSetT X.K X.w) := by
  intro pins s σ H xs us Q I r h
  obtain ⟨p, ns, rfl, hs, hl, q⟩ := h
  rw [Vals.ref1 r]
  obtain ⟨its, rv, hp, _⟩ := I.tuple hs
  have hi : IntsAre its ns := intsAre_of rv
  refine call_set_tupI ns (I.ok.hd hc) hp (by simpa using hi) ?_ fun h' tk c R hcl hk => ?_
  · have : (1001 : Nat) < scanBound := by decide
    omega
  · have fresh : H s.heap.objs.size = none := I.hok.fresh (Nat.le_refl _)
    exact ⟨.ref _, upd H s.heap.objs.size (SetO X.w s.heap.objs.size (fun j => decide (j ∈ ns)) c), I.laid (t' := tk) hk (Nat.le_refl _) (setO_new R), rfl, q _ c fresh hcl⟩
end
section
variable {K : PySem.W.Frag} {F : Fx} {σ : L2.St} {H : Hp} {ρ : Rho} {vs : List V} {ds : List D} {w : World}
theorem Rel.unZ {p : Addr} {o : HO} (R : Rel K (F.mk1 p o) σ H ρ vs ds) : Rel K F σ H ρ vs ds := by
  obtain ⟨Hi, own, R⟩ := R
  exact ⟨Hi, own, ⟨R.base, R.sub, R.new, R.keep, R.dom, R.len, R.slot, R.free, R.held, R.nown, R.sep, R.nls, fun z hz => R.pin z (List.mem_cons_of_mem _ hz), R.tmp⟩⟩
def dSortSet (a : TD) : TDA := fun ρ P => a ρ fun r d => ∃ ns : List Int, d = .tuple (ns.map PyData.int) ∧ ns.length < 64 ∧ ∀ ms : List Int, ms.Pairwise (· < ·) → (∀ k, k ∈ ms ↔ k ∈ ns) → P r (ms.map PyData.int)
theorem sf_sortSet {te : TE} {a : TD} (sa : SE K te a) : SF K (tCB (rSortedSet w) (tCons (tCB (rSetT K w) (tCons te tNil)) tNil)) (dSortSet a) := by
  refine ⟨fun ρ P P' h q => sa.mono _ _ _ (fun _ x ⟨ns, e, h1, q⟩ => ⟨ns, e, h1, fun ms a b => h _ _ (q ms a b)⟩) q, fun F σ H ρ vs ds Q R q => ?_⟩
  refine sa.run F σ H ρ vs ds _ R (sa.mono _ _ _ (fun r1 x q v H1 R1 => ?_) q)
  obtain ⟨ns, rfl, hl, q⟩ := q
  obtain ⟨p, xs, rfl, e, s, R4⟩ := R1.asTup
  obtain rfl := ints_of (K := K) ns xs (dpAll_split e R4.dpAll).1
  refine ⟨p, ns, rfl, s, by omega, fun t c ht hc => ?_⟩
  have R5 : Rel K F σ (upd H1 t (SetO w t (fun j => decide (j ∈ ns)) c)) r1 vs ds := (R1.drop.pinNew ht).unZ
  refine ⟨t, _, c, rfl, upd_same, by omega, fun ms l hms hmem hml hfree => ?_⟩
  refine q ms hms (fun k => by rw [hmem k]; exact decide_eq_true_iff) _ _ l (by rw [List.length_map, List.length_map]) (R5.swap fun Hi h => dpAll_app (dpAll_ints ms) h) hfree
end
end LD

/-! LD29: d.get(k); drawn orders of data. -/
namespace LD
open PySem PySem.Spec L2 PyProof.Rows
/-- d.get(k) -/
def tGet1X (K : PySem.W.Frag) (td ty : TE) : TE := fun σ H Q => td σ H fun x H1 => (∃ a xs, x = .ref a ∧ H1 a = some (.ext (RawT a xs)) ∧ KeysIn K H1 xs) ∧ ty σ H1 fun y H3 =>
  ∃ a xs b k, x = .ref a ∧ y = .ref b ∧ H3 a = some (.ext (RawT a xs)) ∧ KeysIn K H3 xs ∧ SqT K H3 b (k.map V.int) ∧ (∀ c u, atX xs k = some (c, u) → ∃ v, RelV v u ∧ Q v H3) ∧ (atX xs k = none → Q .non H3)
section
variable {X : Cx} {o e : Expr} {td ty : TE} {apos cpos : Pos}
theorem pe_get1X (hu : X.A.units + 1 < cLine) (ho : PE X o td) (he : PE X e ty) (m : M1 X o "get" apos e cpos) : PE X (.Call (.Attribute o "get" apos) [e] [] cpos) (tGet1X X.K td ty) := by
  refine ⟨fun pins s σ H Q I h => ?_⟩
  refine wpAny_Call_method m.base m.few m.line PySem.F.plainAttrs_dict PySem.F.slot_dict_get PySem.F.type_dict_get (thn (ho.run pins s σ H _ I h) fun u s1 ⟨x, H1, I1, rx, q0, q1⟩ => ?_)
  obtain ⟨a, xs, ex, ha, hk⟩ := q0
  subst ex
  obtain rfl : u = Value.ref a := rx
  have D1 := dictIn I1 (raw_of I1 ha) hk
  refine ⟨D1.typeIs, fun c z => ?_, ?_⟩
  · cases z
    obtain ⟨ob, _, _, h1, h2, _⟩ := D1
    exact ⟨ob, h1, h2.2.1⟩
  rw [m.trees]
  refine Calls.callWith_builtin rfl (Calls.evalArgs_plain (Calls.spliced_cons (thn (he.run pins s1 σ H1 _ I1 q1) fun iv s3 ⟨y, H3, I3, ry, q3⟩ => Calls.spliced_nil ?_)))
  obtain ⟨a', ys, b, k, ex, ey, ha', hk', hb, q4, q5⟩ := q3
  cases ex
  subst ey
  obtain rfl : iv = Value.ref b := ry
  have R := raw_of I3 ha'
  have D := dictIn I3 R hk'
  refine call_meetsIn PySem.F.slot_dict_get D.typeIs PySem.F.entry_dict_get (PySem.F.args_dict_get_2 _ _) (meetsH_dict_get (tupleKind (mixKind X.prog X.w)) a b R.own) ⟨tupleKind_room_in1 hu, _, _, keyIn I3 hb, D, ?_⟩
  rw [atKey_X]
  cases hat : atX ys k with
  | none => exact ⟨.non, H3, I3.tok _, rfl, q5 hat⟩
  | some p =>
    obtain ⟨c, w⟩ := p
    obtain ⟨v, rv, q6⟩ := q4 c w hat
    exact ⟨v, H3, I3.tok _, rv, q6⟩
end
section
variable {K : PySem.W.Frag} {tk : TE} {k : TD}
def dGet1X (i : Nat) (k : TD) : TD := fun ρ P => (∃ p zs, ρ[i]? = some (.dt p zs)) ∧ k ρ fun r2 y => ∃ p zs ks, r2[i]? = some (.dt p zs) ∧ y = .tuple (ks.map PyData.int) ∧ P r2 ((lookD (zs.map Ent.kv) ks).getD .none)
theorem se_get1X (i : Nat) (sk : SE K tk k) : SE K (tGet1X K (tVar i) tk) (dGet1X i k) := by
  refine ⟨fun ρ P P' h ⟨q0, q⟩ => ⟨q0, sk.mono _ _ _ (fun r y ⟨p, zs, ks, e, e1, q⟩ => ⟨p, zs, ks, e, e1, h _ _ q⟩) q⟩, fun F σ H ρ vs ds Q R q => ?_⟩
  obtain ⟨⟨p, zs0, e0⟩, q⟩ := q
  obtain ⟨e1, hp0, hk0⟩ := R.dtAt e0
  refine ⟨.ref p, e1, ⟨p, _, rfl, hp0, hk0⟩, sk.run F σ H ρ vs ds _ R (sk.mono _ _ _ (fun r2 y q w H2 R2 => ?_) q)⟩
  obtain ⟨p2, zs, ks, e, ey, q3⟩ := q
  subst ey
  obtain ⟨e2, hp, hk⟩ := R2.dtAt e
  rw [e1] at e2
  cases e2
  obtain ⟨Hi, own, R4⟩ := R2
  have t := R4.tmp
  cases t with
  | cons t6 t7 =>
    cases t6 with
    | tup s gk =>
      have := ints_of (K := K) ks _ gk
      subst this
      refine ⟨p, _, _, ks, rfl, rfl, hp, hk, sqT_mono R4.sub s, fun c u hat => ?_, fun hat => ?_⟩
      · rw [look_X] at hat
        cases hz : lookE zs ks with
        | none => rw [hz] at hat; cases hat
        | some z =>
          rw [hz] at hat
          cases hat
          obtain ⟨_, _, _, g⟩ := R4.slot i _ e
          obtain ⟨_, g2, g3⟩ := g z (lookE_mem hz).1
          rw [look_D, hz] at q3
          exact ⟨z.v, g2, q3 _ _ ⟨Hi, own, R4.tmpTo (.cons g3 t7)⟩⟩
      · rw [look_X] at hat
        cases hz : lookE zs ks with
        | some z => rw [hz] at hat; cases hat
        | none =>
          rw [look_D, hz] at q3
          exact q3 _ _ ⟨Hi, own, R4.tmpTo (.cons .non t7)⟩
end
/-- some data in a drawn order -/
def g_mixD : CD := fun ds P => ∃ (es : List D) (M b k : Nat), ds = [.list es] ∧ NtL M b k es ∧ M ≤ 999999999999 ∧ k ≤ 50 ∧ es.length ≤ 1000 ∧ ∀ fs : List D, fs.Perm es → P (.list fs)
theorem g_mixD_mono : ∀ es P P', (∀ d, P d → P' d) → g_mixD es P → g_mixD es P' := fun es P P' h ⟨e, m, b, k, e1, h1, h2, h3, h4, q⟩ => ⟨e, m, b, k, e1, h1, h2, h3, h4, fun f z => h _ (q f z)⟩
theorem eqv_lnil (es : List D) : PyData.eqv (.list es) (.list []) = es.isEmpty := by
  cases es with
  | nil => simp [PyData.eqv, PyData.eqvAll]
  | cons x xs => simp [PyData.eqv, PyData.eqvAll]
end LD

/-! LD30: for k, v in d.items(): the dict is locked while it is walked. -/
namespace LD
open PySem PySem.Spec L2 PyProof.Rows
section
variable {X : Cx} {pins : List (Addr × Obj)} {σ : L2.St} {H : Hp} {s : Shared} {d : Addr} {o : Obj} {xs : XT}
/-- what is known of a locked dict -/
theorem frzX (I : Inv X pins σ H s) (h : H d = some (.frz o (.ext (RawT d xs)))) : s.heap.get? d = some o ∧ RawT d xs s.heap := by
  obtain ⟨h1, h2, _⟩ := (show ObjOk X.prog X.w H s.heap d (.frz o (.ext (RawT d xs))) from I.hok d _ h)
  exact ⟨h1, h2⟩
theorem frzX_at (P : Program) (w : World) {h : Heap} (h1 : h.get? d = some o) (R : RawT d xs h) : ∃ es ep, o.ExactDict ∧ o.data = .dict es ep ∧ h.DictRaw d es ep ∧ es.size = xs.length ∧ ∀ (i : Nat) (hi : i < es.size) x, xs[i]? = some x → es[i].key = .ref x.2.1 ∧ es[i].val = x.2.2 := by
  obtain ⟨o', es, ep, g1, g2, g3, g4⟩ := R.raw
  rw [h1] at g1
  cases g1
  have hl : es.size = xs.length := by
    have := congrArg List.length (g4 P w)
    rw [Array.length_toList, List.length_map] at this
    exact this
  refine ⟨es, ep, g2, g3, ⟨o, h1, g2, g3⟩, hl, fun i hi x hx => ?_⟩
  have e2 : es.toList[i]? = some es[i] := by rw [Array.getElem?_toList, Array.getElem?_eq_getElem hi]
  rw [g4 P w, List.getElem?_map, hx] at e2
  have e3 := Option.some.inj e2
  rw [← e3]
  exact ⟨rfl, rfl⟩
end
/-- the pairs of a locked dict, each a new tuple; vs tells the values -/
def ItX (d : Addr) (o : Obj) (xs : XT) (vs : List V) : It where
  go i H := H d = some (.frz o (.ext (RawT d xs))) ∧ ∃ x v, xs[i]? = some x ∧ vs[i]? = some v ∧ RelV v x.2.2
  yld i H w H' := ∃ T x v, xs[i]? = some x ∧ vs[i]? = some v ∧ w = .ref T ∧ H T = none ∧ H' = upd H T (.tup [.ref x.2.1, v])
  stop i H := H d = some (.frz o (.ext (RawT d xs))) ∧ xs.length ≤ i
section
variable {P : Program} {w : World} {K : PySem.W.Frag} {d : Addr} {o : Obj} {xs : XT} {vs : List V}
theorem turn_itemsX {elts : List Expr} {kk : Nat} {tpos : Pos} {n ep : Nat} {es : Array DictEntry} (it : Addr) (hod : o.data = .dict es ep) (hn : es.size = n) :
    Turn P w K (.Tuple elts kk tpos) (ItX d o xs vs) [it] it (fun i h => ∃ ok ov, IsItemIter h it d i n ep ok ov) where
  mem := List.mem_singleton.mpr rfl
  obj := fun i h st b hb => by
    obtain rfl : b = it := List.mem_singleton.mp hb
    obtain ⟨ok, ov, e⟩ := st
    exact ⟨_, e, fun v z => nomatch z⟩
  keep := fun i h h' st k => by
    obtain ⟨ok, ov, e⟩ := st
    exact ⟨ok, ov, k it (List.mem_singleton.mpr rfl) _ e⟩
  item := by
    intro X hP hw hK hc i pins s σ H E I hf st hg
    subst hP hw hK
    obtain ⟨hd, x, v, hx, hv, rv⟩ := hg
    obtain ⟨g1, R⟩ := frzX I hd
    obtain ⟨es', ep', q1, q2, q3, q4, q5⟩ := frzX_at X.prog X.w g1 R
    rw [hod] at q2
    cases q2
    obtain ⟨ok, ov, he⟩ := st
    subst hn
    have hi : i < es.size := by rw [q4]; exact (List.getElem?_eq_some_iff.mp hx).1
    obtain ⟨k1, k2⟩ := q5 i hi x hx
    have hlt : it < s.heap.objs.size := Heap.lt_size he
    refine wpAny_pyNext_items_item_raw he q3 hi fun h' ho hT _ hk => ⟨_, rfl, wpAny_letOwnedTupleGo_items (s := { s with heap := h' }) ho fun h2 he2 sb => ?_⟩
    have hT2 := (sb.2 _ (Nat.ne_of_gt hlt)).trans hT
    have rk : RelV (.ref x.2.1) es[i].key := k1
    have ru : RelV v es[i].val := by rw [k2]; exact rv
    have new : ObjOk X.prog X.w (upd H s.heap.objs.size (.tup [.ref x.2.1, v])) h2 s.heap.objs.size (.tup [.ref x.2.1, v]) :=
      ⟨by show 2 ≤ sizeLine; decide, [es[i].key, es[i].val], .cons rk (.cons ru .nil), ⟨_, hT2, rfl, _, rfl⟩⟩
    refine ⟨.ref s.heap.objs.size, _, I.turnedNew (t' := s.toks) (ch := [it]) (fun b ob hb e => (sb.2 b fun z => hb (by rw [z]; exact List.mem_singleton.mpr rfl)).trans (hk b ob (fun z => hb (by rw [z]; exact List.mem_singleton.mpr rfl)) e)) hf (Nat.le_refl _) new, rfl, ⟨_, x, v, hx, hv, rfl, I.hok.fresh (Nat.le_refl _), rfl⟩, ⟨_, _, he2⟩, fun b hb => ?_⟩
    obtain rfl : b = it := List.mem_singleton.mp hb
    rw [upd_ne (Nat.ne_of_lt hlt)]
    exact (hf b (List.mem_singleton.mpr rfl)).1
  done := by
    intro X hP hw hK hc i pins s σ H E I hf st hg
    subst hP hw hK
    obtain ⟨hd, hi⟩ := hg
    obtain ⟨f0, f1, f2, f3, f4, f5⟩ := hf it (List.mem_singleton.mpr rfl)
    obtain ⟨g1, R⟩ := frzX I hd
    obtain ⟨es', ep', q1, q2, q3, q4, q5⟩ := frzX_at X.prog X.w g1 R
    rw [hod] at q2
    cases q2
    obtain ⟨ok, ov, he⟩ := st
    subst hn
    exact wpAny_pyNext_items_end_raw (I.ok.hd hc) he q3 (by omega) fun h' eb => ⟨rfl, I.turned (t' := s.toks) (fun b ob hb e => eb b ob hb e) f0 f1 f3 f4 f5⟩
  self := fun A i s Q E st h => by
    obtain ⟨_, _, e⟩ := st
    exact PySem.W.kcp_self e h
end
/-- e.items(), e locked -/
def iItemsX (td : TE) : TI := fun σ H R => td σ H fun x H1 => ∃ d o xs vs, x = .ref d ∧ H1 d = some (.frz o (.ext (RawT d xs))) ∧ R (ItX d o xs vs) H1
theorem pi_itemsX {X : Cx} {e : Expr} {td : TE} {apos cpos tpos : Pos} {elts : List Expr} {kk : Nat} (he : PE X e td) (hbase : attributeBase e "items" X.env (eval e X.env) = eval e X.env := by rfl) (hline : (apos.endLine == cpos.line) = true := by rfl) :
    PI X (.Tuple elts kk tpos) (.Call (.Attribute e "items" apos) [] [] cpos) (iItemsX td) := by
  refine ⟨fun pins s σ H R I h => ?_⟩
  refine wpAny_Call_method (T := "dict") (id := "dict.items") hbase rfl hline F.plainAttrs_dict F.slot_dict_items F.type_dict_items (thn (he.run pins s σ H _ I h) fun u s1 ⟨x, H1, I1, rx, d, o, xs, vs, ex, hd, q⟩ => ?_)
  subst ex
  obtain rfl : u = Value.ref d := rx
  obtain ⟨g1, RR⟩ := frzX I1 hd
  obtain ⟨es, ep, q1, q2, q3, q4, q5⟩ := frzX_at X.prog X.w g1 RR
  have hT : s1.TypeIs (.ref d) "dict" := ⟨o, g1, q1.1⟩
  have I2 : Inv X pins σ H1 { s1 with heap := s1.heap.push { cls := .type "dict_items", data := .fields #[.ref d] } } := I1.kept (t' := s1.toks) fun b ob q => Heap.get?_push_of_some _ q
  refine ⟨hT, fun c z => ?_, ?_⟩
  · cases z
    exact ⟨o, g1, q1.2.1⟩
  have fin : wpAny (model X.prog X.w) X.A (pyIter (.ref s1.heap.objs.size)) (PIE X pins σ (.Tuple elts kk tpos) R) X.xe { s1 with heap := s1.heap.push { cls := .type "dict_items", data := .fields #[.ref d] } } :=
    wpAny_pyIter_items_raw (d := d) ⟨_, Heap.get?_push_size _ rfl, rfl, rfl⟩ ⟨o, Heap.get?_push_of_some _ g1, q1, q2⟩ (pi_one (tk := s1.toks) I2 _ (turn_itemsX _ q2 rfl) ⟨.none, .none, Heap.get?_push_size _ rfl⟩ q)
  show wpAny _ _ (callWith cpos (.builtin "dict.items") [.ref d] [] []) _ X.xe s1
  exact method_meetsIn F.slot_dict_items F.entry_dict_items rfl (PySem.evalArgs_none ⟨rfl, hT, F.args_dict_items_1 _, _, PySem.meets_dict_items_raw d RR.own, ⟨⟨es, ep, q3⟩, fin⟩⟩)
section
variable {K : PySem.W.Frag} {F : Fx} {σ : L2.St} {H : Hp} {ρ : Rho} {vs ws : List V} {ds es : List D}
/-- what stands at the one object of slot i is told otherwise -/
theorem Rel.reslot {i : Nat} {p : Addr} {ob : HO} {x y : DV} (R : Rel K F σ H ρ vs ds) (h : ρ[i]? = some x)
    (hx : ∀ Hi os, SlotOk K Hi H (σ[i]?.join) os x → os = [p] ∧ ∀ H', H' p = some ob → SlotOk K Hi H' (σ[i]?.join) os y) (hy : ∀ es, y ≠ .ls es) : Rel K F σ (upd H p ob) (ρ.set i y) vs ds := by
  obtain ⟨Hi, own, R⟩ := R
  obtain ⟨eo, nw⟩ := hx Hi (own i) (R.slot i x h)
  have hi : i < ρ.length := (List.getElem?_eq_some_iff.mp h).1
  have pi_ : p ∈ own i := by rw [eo]; exact List.mem_singleton.mpr rfl
  have np : Hi p = none := R.free i p pi_
  have no : ∀ j, j ≠ i → ∀ a ∈ own j, a ≠ p := fun j hj a ha z => R.sep j i hj a ha (by rw [z]; exact pi_)
  refine ⟨Hi, own, ⟨R.base, fun b x z => ?_, R.new, fun b o z hn => ?_, fun b z => ?_, by rw [List.length_set]; exact R.len, fun j x' z => ?_, R.free, fun j a ha => ?_, R.nown, R.sep, fun j es' z => ?_, fun z hz => ?_, R.tmp⟩⟩
  · rw [upd_ne (fun w => by rw [w, np] at z; cases z)]; exact R.sub b x z
  · have nb : b ≠ p := fun w => by
      rcases R.nown i p pi_ with q | q
      · rw [w, q] at z; cases z
      · exact hn (by rw [w]; exact q)
    rw [upd_ne nb]; exact R.keep b o z hn
  · by_cases hb : b = p
    · rw [hb, upd_same]; simp
    · rw [upd_ne hb]; exact R.dom b z
  · by_cases hj : j = i
    · subst hj
      rw [List.getElem?_set_self hi] at z
      cases z
      exact nw _ upd_same
    · rw [List.getElem?_set_ne (Ne.symm hj)] at z
      exact (R.slot j x' z).grow (Same.refl _) fun a ha o w => by rw [upd_ne (no j hj a ha)]; exact w
  · by_cases hap : a = p
    · rw [hap, upd_same]; simp
    · rw [upd_ne hap]; exact R.held j a ha
  · by_cases hj : j = i
    · subst hj
      rw [List.getElem?_set_self hi] at z
      exact absurd (Option.some.inj z) (hy es')
    · rw [List.getElem?_set_ne (Ne.symm hj)] at z
      exact R.nls j es' z
  · obtain ⟨z1, z2, z3⟩ := R.pin z hz
    have nz : z.1 ≠ p := fun w => z3 i (by rw [w]; exact pi_)
    exact ⟨by rw [upd_ne nz]; exact z1, z2, z3⟩
theorem Rel.lockX {i : Nat} {a : Addr} {zs : List Ent} {o : Obj} (R : Rel K F σ H ρ vs ds) (h : ρ[i]? = some (.dt a zs)) : Rel K F σ (upd H a (.frz o (.ext (RawT a (zs.map Ent.x))))) (ρ.set i (.dz a zs o)) vs ds :=
  R.reslot h (fun _ _ ⟨e1, e2, _, q⟩ => ⟨e2, fun _ hn => ⟨e1, e2, hn, q⟩⟩) fun _ z => nomatch z
theorem Rel.unlockX {i : Nat} {a : Addr} {zs : List Ent} {o : Obj} (R : Rel K F σ H ρ vs ds) (h : ρ[i]? = some (.dz a zs o)) : Rel K F σ (upd H a (.ext (RawT a (zs.map Ent.x)))) (ρ.set i (.dt a zs)) vs ds :=
  R.reslot h (fun _ _ ⟨e1, e2, _, q⟩ => ⟨e2, fun _ hn => ⟨e1, e2, hn, q⟩⟩) fun _ z => nomatch z
theorem Rel.dzAt {i : Nat} {a : Addr} {zs : List Ent} {o : Obj} (R : Rel K F σ H ρ vs ds) (h : ρ[i]? = some (.dz a zs o)) : σ[i]? = some (some (.ref a)) ∧ H a = some (.frz o (.ext (RawT a (zs.map Ent.x)))) ∧ ∀ z ∈ zs, RelV z.v z.u := by
  obtain ⟨Hi, own, R⟩ := R
  obtain ⟨e, eo, hp, q⟩ := R.slot i _ h
  refine ⟨?_, hp, fun z hz => (q z hz).2.1⟩
  cases z : σ[i]? with
  | none => rw [z] at e; cases e
  | some y => rw [z] at e; exact congrArg some e
/-- an entry's key and value are at hand -/
theorem Rel.pushZ {i : Nat} {a : Addr} {zs : List Ent} {o : Obj} {z : Ent} (R : Rel K F σ H ρ vs ds) (h : ρ[i]? = some (.dz a zs o)) (hz : z ∈ zs) : Rel K F σ H ρ ([.ref z.b, z.v] ++ vs) ([.tuple (z.k.map PyData.int), z.d] ++ ds) := by
  obtain ⟨Hi, own, R⟩ := R
  obtain ⟨_, _, _, q⟩ := R.slot i _ h
  exact ⟨Hi, own, R.tmpTo (.cons (q z hz).1 (.cons (q z hz).2.2 R.tmp))⟩
variable {g : TG} {dg : DG} {ts : TS} {t : TDS}
/-- for .. in d.items(), d the dict of slot i -/
def dForX (i : Nat) (dg : DG) (tb : TDS) : TDS := fun dn ρ => ∃ a zs, ρ[i]? = some (.dt a zs) ∧ ∀ o, ∃ I : Nat → Rho → Prop, I 0 (ρ.set i (.dz a zs o)) ∧ (∀ j r, I j r → r[i]? = some (.dz a zs o)) ∧
  (∀ j z r, zs[j]? = some z → I j r → dg (pairD z.kv) r fun r1 => tb { nx := I (j + 1), rt := fun r d => r[i]? = some (.dz a zs o) ∧ dn.rt (r.set i (.dt a zs)) d, bk := fun r => r[i]? = some (.dz a zs o) ∧ dn.nx (r.set i (.dt a zs)), ct := I (j + 1) } r1) ∧
  ∀ r, I zs.length r → dn.nx (r.set i (.dt a zs))
theorem ss_forX {js : List Nat} (i : Nat) (sg : SG K js g dg) (s : SS K ts t) : SS K (tLock (tFor (iItemsX (tVar i)) g ts)) (dForX i dg t) := by
  refine ⟨fun a b ρ h ⟨p, zs, e, q⟩ => ⟨p, zs, e, fun o => ?_⟩, fun F σ H ρ vs ds E dn G R q => ?_⟩
  · obtain ⟨I, q1, q2, q3, q4⟩ := q o
    exact ⟨I, q1, q2, fun j z r e hI => sg.mono _ _ _ _ (fun r q => s.mono { nx := I (j + 1), rt := fun r d => r[i]? = some (.dz p zs o) ∧ a.rt (r.set i (.dt p zs)) d, bk := fun r => r[i]? = some (.dz p zs o) ∧ a.nx (r.set i (.dt p zs)), ct := I (j + 1) } { nx := I (j + 1), rt := fun r d => r[i]? = some (.dz p zs o) ∧ b.rt (r.set i (.dt p zs)) d, bk := fun r => r[i]? = some (.dz p zs o) ∧ b.nx (r.set i (.dt p zs)), ct := I (j + 1) } _ ⟨fun _ z => z, fun _ _ z => ⟨z.1, h.rt _ _ z.2⟩, fun _ z => ⟨z.1, h.nx _ z.2⟩, fun _ z => z, fun _ z => z, fun _ _ z => z⟩ q) (q3 j z r e hI), fun r z => h.nx _ (q4 r z)⟩
  obtain ⟨p, zs, e, q⟩ := q
  obtain ⟨e1, hp, hk⟩ := R.dtAt e
  refine ⟨p, .ext (RawT p (zs.map Ent.x)), hp, True.intro, fun o => ?_⟩
  obtain ⟨I, q1, q2, q3, q4⟩ := q o
  refine ⟨.ref p, e1, p, o, zs.map Ent.x, zs.map Ent.v, rfl, upd_same, ?_⟩
  refine ⟨fun j m σ H => ∃ r, j + m = zs.length ∧ Rel K F σ H r vs ds ∧ I j r, ⟨zs.length, _, Nat.zero_add _, R.lockX e, q1⟩, fun j m σ H hW => ?_⟩
  obtain ⟨r, em, R2, hI⟩ := hW
  obtain ⟨e2, hp2, hv2⟩ := R2.dzAt (q2 j r hI)
  by_cases hj : j < zs.length
  · right
    have hz : zs[j]? = some zs[j] := List.getElem?_eq_getElem hj
    have hzm : zs[j] ∈ zs := List.getElem_mem hj
    have hx : (zs.map Ent.x)[j]? = some zs[j].x := by rw [List.getElem?_map, hz]; rfl
    have hv : (zs.map Ent.v)[j]? = some zs[j].v := by rw [List.getElem?_map, hz]; rfl
    refine ⟨⟨hp2, _, _, hx, hv, hv2 _ hzm⟩, fun σ H => ∃ r, Rel K F σ H r vs ds ∧ I (j + 1) r, fun σ' H' ⟨r, R3, h3⟩ => ⟨m - 1, by omega, r, by omega, R3, h3⟩, fun x H' hy => ?_⟩
    obtain ⟨T, x', v', hx', hv', rfl, hT, rfl⟩ := hy
    rw [hx] at hx'
    rw [hv] at hv'
    cases hx'
    cases hv'
    have R3 : Rel K F σ (upd H T (.tup [.ref zs[j].b, zs[j].v])) r (.ref T :: vs) (pairD zs[j].kv :: ds) := (R2.pushZ (q2 j r hI) hzm).tup rfl hT
    refine sg.run F σ _ r vs ds _ _ _ R3 (sg.mono _ _ _ _ (fun r1 q σ2 H2 R4 _ => ?_) (q3 j _ r hz hI))
    refine s.run F σ2 H2 r1 vs ds _ { nx := I (j + 1), rt := fun r d => r[i]? = some (.dz p zs o) ∧ dn.rt (r.set i (.dt p zs)) d, bk := fun r => r[i]? = some (.dz p zs o) ∧ dn.nx (r.set i (.dt p zs)), ct := I (j + 1) } ⟨fun σ H ρ R q => ⟨ρ, R, q⟩, fun σ H ρ v d R q => ?_, fun σ H ρ R q => ?_, fun σ H ρ R q => ⟨ρ, R, q⟩, fun σ H ρ a l ns b R n h1 h2 ok q => q.elim, fun _ _ _ _ _ _ _ q => q.elim⟩ R4 q
    · exact ⟨(R.dzAt q.1).2.1, G.rt _ _ _ _ _ (R.unlockX q.1) q.2⟩
    · exact ⟨(R.dzAt q.1).2.1, G.nx _ _ _ (R.unlockX q.1) q.2⟩
  · left
    have ej : j = zs.length := by omega
    exact ⟨⟨hp2, by rw [List.length_map]; omega⟩, hp2, G.nx _ _ _ (R2.unlockX (q2 j r hI)) (q4 r (ej ▸ hI))⟩
end
end LD

/-! LD31: {k: v for .. in d.items()} whose keys are tuples of ints. -/
namespace LD
open PySem PySem.Spec L2 PyProof.Rows
section
variable {X : Cx}
theorem dictSetX (hu : X.A.units < cLine) {pins : List (Addr × Obj)} {s : Shared} {σ : L2.St} {H : Hp} {E : Value → Shared → Prop} {a b : Addr} {xs : XT} {k : List Int} {u : Value} {Q : Unit → Shared → Prop} (I : Inv X pins σ H s) (ha : H a = some (.ext (RawT a xs))) (hk : KeysIn X.K H xs)
    (hb : SqT X.K H b (k.map V.int)) (hz : xs.length < sizeLine) (q : ∀ s', Inv X pins σ (upd H a (.ext (RawT a (putX xs k b u)))) s' → Q () s') : wpAny (model X.prog X.w) X.A (dictSet a (.ref b) u) Q E s := by
  have R := raw_of I ha
  refine wpAny_dictSet_heap (hsz := by rw [List.length_map]; exact R.few) hu (keyIn I hb) (dictIn I R hk) fun h' dd hs => q _ ?_
  rw [stored_X] at dd
  have own := R.own
  have R' : RawT a (putX xs k b u) h' := rawT_of dd (put_one R.one) (by have := put_len xs k b u; omega) own
  obtain ⟨ob, es, ep, g1, _⟩ := R'.raw
  exact d_write I (by rw [ha]; exact True.intro) hs ⟨ob, g1⟩ (show ObjOk X.prog X.w (upd H a (.ext (RawT a (putX xs k b u)))) h' a (.ext (RawT a (putX xs k b u))) from ⟨R', ⟨ob, g1⟩, fun h1 h2 => rawT_local h1 h2⟩)
/-- {k: v for target in iter}, the new dict at D -/
def tDcX (K : PySem.W.Frag) (wi : TI) (g : TG) (tk tv : TE) (js : List Nat) : TE := fun σ H Q => wi σ H fun J H1 => ∀ D, H1 D = none → ∃ W : Nat → Nat → Hp → Prop, (∃ m, W 0 m (upd H1 D (.ext (RawT D [])))) ∧ ∀ i m H, W i m H →
  (J.stop i H ∧ Q (.ref D) H) ∨ (J.go i H ∧ ∃ Nx : Hp → Prop, (∀ H', Nx H' → ∃ m', m' < m ∧ W (i + 1) m' H') ∧ ∀ x H', J.yld i H x H' → g x (L2.wipe σ js) H' fun σ2 H2 => L2.wipe σ2 js = L2.wipe σ js ∧
    tk σ2 H2 fun y H4 => tv σ2 H4 fun z H5 => ∃ xs b k, y = .ref b ∧ H5 D = some (.ext (RawT D xs)) ∧ KeysIn K H5 xs ∧ SqT K H5 b (k.map V.int) ∧ xs.length < sizeLine ∧ ∀ u, RelV z u → Nx (upd H5 D (.ext (RawT D (putX xs k b u)))))
/-- the new dict -/
theorem newX_ok {P : Program} {w : World} {H : Hp} {h : Heap} (hb : sysModules < h.objs.size) : ObjOk P w H (h.push { cls := .type "dict", data := .dict #[] }) h.objs.size (.ext (RawT h.objs.size [])) :=
  ⟨⟨⟨_, #[], 0, Heap.get?_push_size _ rfl, ⟨rfl, rfl, rfl⟩, rfl, fun _ _ => rfl⟩, List.nodup_nil, Nat.zero_le _, beq_eq_false_iff_ne.mpr (Ne.symm (Nat.ne_of_lt hb))⟩, ⟨_, Heap.get?_push_size _ rfl⟩, fun h1 h2 R k => rawT_local h1 h2 R k⟩
/-- the block's loop: τ is what the block's own names are wiped to -/
theorem dcX_loop {Y : Cx} (hxe : Y.xe = fun _ _ => False) (hu : Y.A.units < cLine) (hc : Y.calm = true) {kx vx tg iter : Expr} {scope : Scope} {pos : Pos} {g : TG} {tk tv : TE} {js : List Nat} {σ : L2.St} {H3 : Hp} {s4 : Shared} {D it : Addr} {fp : List Addr} {tn : Nat → Heap → Prop} {J : It}
    {R : Result → Shared → Prop} {Qh : Hp → Prop} (pg : PG Y tg g) (pk : PE Y kx tk) (pe : PE Y vx tv) (T : Turn Y.prog Y.w Y.K tg J fp it tn) (I4 : Inv Y [] (L2.wipe σ js) H3 s4) (st4 : tn 0 s4.heap) (n4 : ∀ b ∈ fp, H3 b = none)
    (stat : ∀ (σ' : L2.St) (H' : Hp) (s' : Shared), Inv Y [] σ' H' s' → (∀ b ∈ fp, H' b = none) → ∀ b ∈ fp, FpOk Y [] H' b) (W : Nat → Nat → Hp → Prop) (m0 : Nat) (w0 : W 0 m0 H3)
    (turn : ∀ i m H, W i m H → (J.stop i H ∧ Qh H) ∨ (J.go i H ∧ ∃ Nx : Hp → Prop, (∀ H', Nx H' → ∃ m', m' < m ∧ W (i + 1) m' H') ∧ ∀ x H', J.yld i H x H' → g x (L2.wipe σ js) H' fun σ2 H2 => L2.wipe σ2 js = L2.wipe σ js ∧
      tk σ2 H2 fun y H4 => tv σ2 H4 fun z H5 => ∃ xs b k, y = .ref b ∧ H5 D = some (.ext (RawT D xs)) ∧ KeysIn Y.K H5 xs ∧ SqT Y.K H5 b (k.map V.int) ∧ xs.length < sizeLine ∧ ∀ u, RelV z u → Nx (upd H5 D (.ext (RawT D (putX xs k b u))))))
    (fin : ∀ s' H', Inv Y [] (L2.wipe σ js) H' s' → Qh H' → R (.ok .next) s') : codeAny (model Y.prog Y.w) Y.A (.compLoop (.DictComp kx vx [⟨tg, iter, [], 0⟩] scope pos) 0 (.ref it) (.ref D) Y.env) R s4 := by
  have hF : ∀ {α : Type} {t : Sem α} {P Q : α → Shared → Prop} {E : Value → Shared → Prop} {s : Shared}, wpAny (model Y.prog Y.w) Y.A t P Y.xe s → (∀ a s, P a s → Q a s) → wpAny (model Y.prog Y.w) Y.A t Q E s := fun h k => thnF (by rw [← hxe]; exact h) k
  refine compLoop_anyD (fun n s' => ∃ i H', Inv Y [] (L2.wipe σ js) H' s' ∧ tn i s'.heap ∧ (∀ b ∈ fp, H' b = none) ∧ W i n H') (fun n s5 ⟨i, H5, I5, st5, n5, w5⟩ => ?_) m0 ⟨0, H3, I4, st4, n4, w0⟩
  rcases turn i n H5 w5 with ⟨stop, qq⟩ | ⟨go, Nx, hNx, step⟩
  · refine thnF (T.done Y rfl rfl rfl hc i [] s5 _ H5 (fun _ _ => False) I5 (stat _ _ _ I5 n5) st5 stop) fun r s6 ⟨hr, I6⟩ => ?_
    subst hr
    exact fin s6 H5 I6 qq
  refine thnF (T.item Y rfl rfl rfl hc i [] s5 _ H5 (fun _ _ => False) I5 (stat _ _ _ I5 n5) st5 go) fun r s6 ⟨u, hr, h6⟩ => ?_
  subst hr
  refine thnF h6 fun _ s7 ⟨x, H7, I7, r7, y7, st7, n7⟩ => ?_
  refine hF (pg.run _ s7 _ H7 x u _ (I7.pinned (stat _ _ _ I7 n7) (T.obj _ _ st7)) r7 (step x H7 y7)) fun _ s8 ⟨σ8, H8, I8, hw8, q8⟩ => ?_
  refine wpAny_pure ?_
  rw [if_pos rfl]
  refine hF (pk.run _ s8 σ8 H8 _ I8 q8) fun kv s9 ⟨yk, H9, I9, r9, q9⟩ => ?_
  refine hF (pe.run _ s9 σ8 H9 _ I9 q9) fun vv s10 ⟨yv, H10, I10, r10, xs, b, k, ey, hD, hk, hb, hz, nx⟩ => ?_
  subst ey
  obtain rfl : kv = Value.ref b := r9
  refine dictSetX hu I10 hD hk hb hz fun s11 I11 => ?_
  obtain ⟨m', hm, w'⟩ := hNx _ (nx vv r10)
  have old : ∀ c ∈ fp, ∀ o, s7.heap.get? c = some o → s11.heap.get? c = some o ∧ upd H10 D (.ext (RawT D (putX xs k b vv))) c = none := fun c hc o e => by
    have := I11.pin (c, o) (List.mem_append_right _ (List.mem_append_right _ (mem_pinsAt hc e)))
    exact ⟨this.1, this.2.1⟩
  refine ⟨m', hm, i + 1, _, (I11.unpinned (pins := [])).weak (by rw [← hw8, wipe_length]) (fun j v e => ?_), T.keep _ _ _ st7 fun c hc o e => (old c hc o e).1, fun c hc => ?_, w'⟩
  · rw [← hw8] at e
    exact (wipe_some e).1
  · obtain ⟨o, e, _⟩ := T.obj _ _ st7 c hc
    exact (old c hc o e).2
theorem dcX_core (hu : X.A.units < cLine) {kx vx tg iter : Expr} {scope : Scope} {own : List (Str × Nat)} {pos pos' : Pos} {wi : TI} {g : TG} {tk tv : TE} (hc : X.calm = true) (hN : X.N.Nodup) (hi : PI X tg iter wi) (ok : BlkOk X.N X.env.scope scope own)
    (hg : ∀ (s : Shared) (H : Hp) (C : Addr) (cl : List (Str × Addr)) (fp : List Addr), PG (X.blk s H scope (compEnvC scope cl C X.env) fp) tg g)
    (hk : ∀ (s : Shared) (H : Hp) (C : Addr) (cl : List (Str × Addr)) (fp : List Addr), PE (X.blk s H scope (compEnvC scope cl C X.env) fp) kx tk)
    (he : ∀ (s : Shared) (H : Hp) (C : Addr) (cl : List (Str × Addr)) (fp : List Addr), PE (X.blk s H scope (compEnvC scope cl C X.env) fp) vx tv) (hs : ∀ x, foldedSetIterable iter X.env x = pure x)
    {pins : List (Addr × Obj)} {s : Shared} {σ : L2.St} {H : Hp} {Q : VK} {use : Option (Value → Sem Unit)} {Qf : Value → Shared → Prop} (I : Inv X pins σ H s) (h : tDcX X.K wi g tk tv (own.map (·.2)) σ H Q)
    (hRR : ∀ D C s' m H', Inv X pins σ H' s' → Q (.ref D) H' → s'.heap.Ns C m → FpOk X pins H' C → compPost (model X.prog X.w) X.A X.xe use Qf (.ref D) C (.ok .next) s') :
    wpAny (model X.prog X.w) X.A (comprehension (.DictComp kx vx [⟨tg, iter, [], 0⟩] scope pos) scope X.env pos' newDict false (eval iter X.env) use) Qf X.xe s := by
  have hfree : ∀ y ∈ scope.names, y.2 = .free → ∃ c, X.env.cells.lookup y.1 = some c := fun y hy e => (ok.free y hy e).elim (fun k => I.ok.has _ (.inl k)) fun k => I.ok.has _ (.inr k)
  refine wpAny_comprehension_free (use := use) rfl hs (closure_ok hfree) ok.kind (fun y hy e => by rw [ok.uniq y hy, e]) (thn (hi.run pins s σ H _ I h) fun _ _ hx => thn hx fun _ s2 ⟨it, fp, tn, J, H2, e, I2, T, st2, f2, q⟩ => ?_)
  subst e
  refine wpAny_newObj_type (newEnv_comp ?_)
  obtain ⟨W, ⟨m0, w0⟩, turn⟩ := q _ (I2.hok.fresh (Nat.le_refl _))
  have nw := newX_ok (P := X.prog) (w := X.w) (H := upd H2 s2.heap.objs.size (.ext (RawT s2.heap.objs.size []))) I2.big
  have lt2 : ∀ b ∈ fp, b < s2.heap.objs.size := fun b hb => by
    obtain ⟨_, e, _⟩ := T.obj _ _ st2 b hb
    exact Heap.lt_size e
  have z2 : ∀ b ∈ fp, upd H2 s2.heap.objs.size (.ext (RawT s2.heap.objs.size [])) b = none := fun b hb => by
    rw [upd_ne (Nat.ne_of_lt (lt2 b hb))]
    exact (f2 b hb).1
  have I3 : Inv X pins σ (upd H2 s2.heap.objs.size (.ext (RawT s2.heap.objs.size []))) { s2 with heap := s2.heap.push { cls := .type "dict", data := .dict #[] } } := I2.laid (t' := s2.toks) (fun b o e => Heap.get?_push_of_some _ e) (Nat.le_refl _) nw
  have sz3 : ∀ b ∈ fp, b < (s2.heap.push { cls := .type "dict", data := .dict #[] }).objs.size := fun b hb => by
    rw [Heap.size_push]
    exact Nat.lt_succ_of_lt (lt2 b hb)
  have st3 : tn 0 (s2.heap.push { cls := .type "dict", data := .dict #[] }) := T.keep _ _ _ st2 fun b _ o e => Heap.get?_push_of_some _ e
  generalize s2.heap.objs.size = D at w0 turn z2 I3 ⊢
  have f3 : ∀ b ∈ fp, FpOk X pins (upd H2 D (.ext (RawT D []))) b ∧ b < (s2.heap.push { cls := .type "dict", data := .dict #[] }).objs.size := fun b hb => ⟨⟨z2 b hb, (f2 b hb).2⟩, sz3 b hb⟩
  have I4 := block_start I3 ok hN f3
  have st4 : tn 0 (pushCells ((s2.heap.push { cls := .type "dict", data := .dict #[] }).push { cls := .type "dict", data := .dict #[] }) scope.names) := T.keep _ _ _ st3 fun b _ o e => pushCells_keeps _ _ _ _ (Heap.get?_push_of_some _ e)
  have loop := dcX_loop (Y := X.blk { s2 with heap := s2.heap.push { cls := .type "dict", data := .dict #[] } } (upd H2 D (.ext (RawT D []))) scope (compEnvC scope (cellsFrom ((s2.heap.push { cls := .type "dict", data := .dict #[] }).objs.size + 1) scope.names (cloFrom X.env.cells scope.names [])) (s2.heap.push { cls := .type "dict", data := .dict #[] }).objs.size X.env) fp)
    (scope := scope) (pos := pos) (iter := iter) (Qh := fun H' => Q (.ref D) H')
    (R := compPost (model X.prog X.w) X.A X.xe use Qf (.ref D) (s2.heap.push { cls := .type "dict", data := .dict #[] }).objs.size)
    rfl hu hc (hg _ _ _ _ _) (hk _ _ _ _ _) (he _ _ _ _ _) T I4 st4 z2
    (fun σ' H' s' I' hn b hb => ⟨hn b hb, (I'.ok.exf b hb).1, I'.ok.exfs b hb, .inl hb, fun x c e => (I'.ok.exf b hb).2 x c e, fun p hp => absurd (show p ∈ ([] : List (Addr × Obj)) ++ [] from hp) (by simp)⟩)
    W m0 w0 turn (fun s' H' I6 qq => ?_)
  · exact codeAny_compStart_dict loop (T.self X.A 0 _ _ _ st4 loop)
  have I7 : Inv X pins σ H' s' := I3.call' (ch := fp) I6.os I6.base I6.hok I6.bare fun b hb => ⟨(f3 b hb).1.2.2.2.1, (f3 b hb).1.2.1, (f3 b hb).1.2.2.2.2.1, (f3 b hb).1.2.2.2.2.2⟩
  have nC : H' (s2.heap.push { cls := .type "dict", data := .dict #[] }).objs.size = none := I6.free
  obtain ⟨m, hn, _⟩ := I6.loc
  exact hRR D _ s' m H' I7 qq hn (I3.fpOk (Nat.le_refl _) nC)
theorem pe_dcX (hu : X.A.units < cLine) {kx vx tg iter : Expr} {scope : Scope} {own : List (Str × Nat)} {pos : Pos} {wi : TI} {g : TG} {tk tv : TE} (hc : X.calm = true) (hN : X.N.Nodup) (hi : PI X tg iter wi) (ok : BlkOk X.N X.env.scope scope own)
    (hg : ∀ (s : Shared) (H : Hp) (C : Addr) (cl : List (Str × Addr)) (fp : List Addr), PG (X.blk s H scope (compEnvC scope cl C X.env) fp) tg g)
    (hk : ∀ (s : Shared) (H : Hp) (C : Addr) (cl : List (Str × Addr)) (fp : List Addr), PE (X.blk s H scope (compEnvC scope cl C X.env) fp) kx tk)
    (he : ∀ (s : Shared) (H : Hp) (C : Addr) (cl : List (Str × Addr)) (fp : List Addr), PE (X.blk s H scope (compEnvC scope cl C X.env) fp) vx tv) (hs : ∀ x, foldedSetIterable iter X.env x = pure x := by intro _; rfl) :
    PE X (.DictComp kx vx [⟨tg, iter, [], 0⟩] scope pos) (tDcX X.K wi g tk tv (own.map (·.2))) := by
  refine ⟨fun pins s σ H Q I h => ?_⟩
  rw [arm_eval_DictComp]
  refine dcX_core hu hc hN hi ok hg hk he hs I h fun D C s' m H' I' q hn f => ?_
  obtain ⟨e0, e1, e2, e3, e4, e5⟩ := f
  exact ⟨m, hn, fun h'' sb => ⟨.ref D, H', I'.turned (t' := s'.toks) (fun b o hb e => (sb.2 b hb).trans e) e0 e1 e3 e4 e5, rfl, q⟩⟩
/-- name = {..} on one line, the name a local -/
theorem ps_setDcX (hu : X.A.units < cLine) {i : Nat} {y : Str} {py spos : Pos} {kx vx tg iter : Expr} {scope : Scope} {own : List (Str × Nat)} {pos : Pos} {wi : TI} {g : TG} {tk tv : TE} (hc : X.calm = true) (hN : X.N.Nodup) (hy : X.N[i]? = some y) (hyl : X.env.scope.names.lookup y = some .local) (hsw : swapsWith (.DictComp kx vx [⟨tg, iter, [], 0⟩] scope pos) (some (.Name y py)) spos.line X.env = pure true) (hi : PI X tg iter wi) (ok : BlkOk X.N X.env.scope scope own)
    (hg : ∀ (s : Shared) (H : Hp) (C : Addr) (cl : List (Str × Addr)) (fp : List Addr), PG (X.blk s H scope (compEnvC scope cl C X.env) fp) tg g)
    (hk : ∀ (s : Shared) (H : Hp) (C : Addr) (cl : List (Str × Addr)) (fp : List Addr), PE (X.blk s H scope (compEnvC scope cl C X.env) fp) kx tk)
    (he : ∀ (s : Shared) (H : Hp) (C : Addr) (cl : List (Str × Addr)) (fp : List Addr), PE (X.blk s H scope (compEnvC scope cl C X.env) fp) vx tv) (hs : ∀ x, foldedSetIterable iter X.env x = pure x := by intro _; rfl) :
    PS X (.Assign [.Name y py] (.DictComp kx vx [⟨tg, iter, [], 0⟩] scope pos) spos) (tAsg (tDcX X.K wi g tk tv (own.map (·.2))) (gName i)) := by
  refine ⟨fun pins s σ H D I h => ?_⟩
  rw [exec_Assign_Name_used _ _ _ _ hsw]
  refine wpAny_bind (wpAny_standAt (wpAny_bind ?_))
  show wpAny _ X.A (do let _ ← comprehension (.DictComp kx vx [⟨tg, iter, [], 0⟩] scope pos) scope X.env (firstIterPos [⟨tg, iter, [], 0⟩] pos) newDict false (eval iter X.env) (some (assign (.Name y py) X.env))) _ _ s
  have h : tDcX X.K wi g tk tv (own.map (·.2)) σ H (fun x H1 => gName i x σ H1 D.nx) := h
  refine wpAny_bind (thn (dcX_core (Qf := fun _ s' => SP X pins D .next s') hu hc hN hi ok hg hk he hs I h fun L C s' m H' I' q hn f => ?_) fun _ s' hq => wpAny_pure (wpAny_pure hq))
  show wpAny _ _ (assign (.Name y py) X.env (.ref L)) _ _ _
  refine wpAny_assign_Name (store_ok2 (v := V.ref L) I' hN hy (.inl hyl) rfl (fun s2 I2 ⟨a, sb, ha⟩ => ?_) (.inr hyl))
  obtain ⟨f0, f1, f2, f3, f4, f5⟩ := f
  have haC : C ≠ a := by
    rcases ha with z | z
    · rw [z]; exact f1
    · exact fun e => f4 y a z e.symm
  exact ⟨m, hn.sameBut sb haC, fun h3 sb3 => ⟨_, H', I2.turned (t' := s2.toks) (fun b o hb e => (sb3.2 b hb).trans e) f0 f1 f3 f4 f5, q⟩⟩
theorem swD_true {kx vx : Expr} {gs : List Comprehension} {scope : Scope} {pos py : Pos} {y : Str} {l : Nat} {env : Env} (hk : env.scope.kind = .function) (hy : env.scope.names.lookup y = some .local) (hl : (py.line == pos.line) = true)
    (ha : (scope.names.any fun (n, k) => n == y && (k == .local || k == .cell)) = false) : swapsWith (.DictComp kx vx gs scope pos) (some (.Name y py)) l env = pure true := by
  have ky : env.kindOf y = some .local := hy
  have hb : env.blockKind = .function := by unfold Env.blockKind; rw [hk]; rfl
  unfold swapsWith
  simp only [hb, ky, ha, Expr.pos, hl]
  rfl
end
/-! over data -/
section
variable {K : PySem.W.Frag} {F : Fx} {σ : L2.St} {H : Hp} {ρ : Rho} {vs : List V} {ds : List D}
def tmpV (zs : List Ent) : List V := zs.flatMap fun z => [.ref z.b, z.v]
def tmpD (zs : List Ent) : List D := zs.flatMap fun z => [.tuple (z.k.map PyData.int), z.d]
theorem tmp_len (zs : List Ent) : (tmpV zs).length = (tmpD zs).length := by
  induction zs with
  | nil => rfl
  | cons z zs ih =>
    show (tmpV zs).length + 1 + 1 = (tmpD zs).length + 1 + 1
    rw [ih]
theorem tmp_of {H : Hp} : ∀ {zs : List Ent}, DpAll K H (tmpV zs) (tmpD zs) → ∀ z ∈ zs, Dp K H (.ref z.b) (.tuple (z.k.map PyData.int)) ∧ Dp K H z.v z.d
  | [], _, _, h => by cases h
  | z :: zs, h, y, hy => by
    have h : DpAll K H (.ref z.b :: z.v :: tmpV zs) (.tuple (z.k.map PyData.int) :: z.d :: tmpD zs) := h
    cases h with
    | cons a h =>
      cases h with
      | cons b h =>
        rcases List.mem_cons.mp hy with rfl | hy
        · exact ⟨a, b⟩
        · exact tmp_of h y hy
theorem tmp_mk {H : Hp} : ∀ {zs : List Ent}, (∀ z ∈ zs, Dp K H (.ref z.b) (.tuple (z.k.map PyData.int)) ∧ Dp K H z.v z.d) → DpAll K H (tmpV zs) (tmpD zs)
  | [], _ => .nil
  | z :: zs, h => .cons (h z List.mem_cons_self).1 (.cons (h z List.mem_cons_self).2 (tmp_mk fun y hy => h y (List.mem_cons_of_mem _ hy)))
theorem putE_mem {zs : List Ent} {k : List Int} {b : Addr} {u : Value} {v : V} {d : D} {z : Ent} (hz : z ∈ putE zs k b u v d) : z ∈ zs ∨ ((z.k = k) ∧ (z.b = b ∨ ∃ z0 ∈ zs, z0.k = k ∧ z.b = z0.b) ∧ z.u = u ∧ z.v = v ∧ z.d = d) := by
  unfold putE at hz
  split at hz
  · obtain ⟨z0, hz0, rfl⟩ := List.mem_map.mp hz
    by_cases hc : z0.k = k
    · rw [if_pos hc]
      exact .inr ⟨hc, .inr ⟨z0, hz0, hc, rfl⟩, rfl, rfl, rfl⟩
    · rw [if_neg hc]
      exact .inl hz0
  · rcases List.mem_append.mp hz with hz | hz
    · exact .inl hz
    · obtain rfl : z = ⟨k, b, u, v, d⟩ := by simpa using hz
      exact .inr ⟨rfl, .inl rfl, rfl, rfl, rfl⟩
theorem putE_len (zs : List Ent) (k : List Int) (b : Addr) (u : Value) (v : V) (d : D) : (putE zs k b u v d).length ≤ zs.length + 1 := by
  unfold putE
  split
  · rw [List.length_map]; omega
  · rw [List.length_append]; exact Nat.le_refl _
/-- pairs are walked, a dict is made -/
def dcW (Kp : Rho → Prop) (f : D → Rho → (Rho → List Int → D → Prop) → Prop) (js : List Nat) : List D → Rho → List (List Int × D) → (Rho → List (List Int × D) → Prop) → Prop
  | [], ρ, acc, P => Kp ρ ∧ P ρ acc
  | d :: r, ρ, acc, P => Kp ρ ∧ f d ρ fun ρ1 ks x => dcW Kp f js r (wipeR ρ1 js) (putD acc ks x) P
theorem dcW_mono {Kp : Rho → Prop} {f : D → Rho → (Rho → List Int → D → Prop) → Prop} {js : List Nat} (hf : ∀ d ρ k k', (∀ r y x, k r y x → k' r y x) → f d ρ k → f d ρ k') : ∀ {items : List D} {ρ : Rho} {acc : List (List Int × D)} {P P' : Rho → List (List Int × D) → Prop}, (∀ r d, P r d → P' r d) → dcW Kp f js items ρ acc P → dcW Kp f js items ρ acc P'
  | [], _, _, _, _, h, q => ⟨q.1, h _ _ q.2⟩
  | d :: r, ρ, acc, P, P', h, q => ⟨q.1, hf _ _ _ _ (fun r1 y x q => dcW_mono hf h q) q.2⟩
theorem dcW_kp {Kp : Rho → Prop} {f : D → Rho → (Rho → List Int → D → Prop) → Prop} {js : List Nat} {items : List D} {ρ : Rho} {acc : List (List Int × D)} {P : Rho → List (List Int × D) → Prop} (h : dcW Kp f js items ρ acc P) : Kp ρ := by
  cases items with
  | nil => exact h.1
  | cons d r => exact h.1
/-- each pair tells one entry -/
theorem dcW_det {Kp : Rho → Prop} {f : D → Rho → (Rho → List Int → D → Prop) → Prop} {js : List Nat} {ρ : Rho} (key : D → List Int) (val : D → D) (hkp : Kp ρ) : ∀ {items : List D} {acc : List (List Int × D)} {P : Rho → List (List Int × D) → Prop}, (∀ d ∈ items, ∀ k : Rho → List Int → D → Prop, (∀ r, wipeR r js = ρ → k r (key d) (val d)) → f d ρ k) →
    P ρ (items.foldl (fun a d => putD a (key d) (val d)) acc) → dcW Kp f js items ρ acc P
  | [], acc, P, _, q => ⟨hkp, q⟩
  | d :: r, acc, P, hf, q => ⟨hkp, hf d List.mem_cons_self _ fun r1 e => by
    rw [e]
    exact dcW_det key val hkp (fun d hd => hf d (List.mem_cons_of_mem _ hd)) q⟩
def dcF (dg : DG) (dk dv : TD) : D → Rho → (Rho → List Int → D → Prop) → Prop := fun d r k => dg d r fun r1 => dk r1 fun r2 y => dv r2 fun r3 x => ∃ ks, y = .tuple (ks.map PyData.int) ∧ k r3 ks x
variable {g : TG} {dg : DG} {tk tv : TE} {dk dv : TD}
/-- x = {k: v for .. in d.items()}: x slot i, d the dict of slot j -/
def dDcX (i j : Nat) (dg : DG) (dk dv : TD) (js : List Nat) : TDS := fun dn ρ => ∃ a zs, ρ[j]? = some (.dt a zs) ∧ i < ρ.length ∧ (∀ x ∈ js, ρ[x]? = some .no) ∧ zs.length ≤ sizeLine ∧ ∀ o,
  dcW (fun r => r[j]? = some (.dz a zs o)) (dcF dg dk dv) js (zs.map fun z => pairD z.kv) (ρ.set j (.dz a zs o)) [] fun r kvs => i < r.length ∧ ∀ p zs', zs'.map Ent.kv = kvs → dn.nx ((r.set j (.dt a zs)).set i (.dt p zs'))
theorem wipe_no {js : List Nat} {ρ : Rho} (h : ∀ j ∈ js, ρ[j]? = some .no) : wipeR ρ js = ρ := by
  refine List.ext_getElem? fun j => ?_
  by_cases hj : j ∈ js
  · rw [h j hj]
    cases e : (wipeR ρ js)[j]? with
    | none =>
      have h1 := List.getElem?_eq_none_iff.mp e
      rw [wipeR_len] at h1
      have h2 := (List.getElem?_eq_some_iff.mp (h j hj)).1
      omega
    | some x => rw [wipeR_in hj e]
  · exact wipeR_out hj
theorem dcF_mono {jg : List Nat} (sg : SG K jg g dg) (sk : SE K tk dk) (sv : SE K tv dv) : ∀ d ρ k k', (∀ r y x, k r y x → k' r y x) → dcF dg dk dv d ρ k → dcF dg dk dv d ρ k' := by
  intro d ρ k k' hk q
  refine sg.mono _ _ _ _ (fun r1 q => sk.mono _ _ _ (fun r2 y q => sv.mono _ _ _ (fun r3 x q => ?_) q) q) q
  obtain ⟨ks, e, q⟩ := q
  exact ⟨ks, e, hk _ _ _ q⟩
theorem ss_dcX {i j : Nat} {js jg : List Nat} (sg : SG K jg g dg) (sk : SE K tk dk) (sv : SE K tv dv) (hj : ∀ j ∈ jg, j ∈ js := by decide) : SS K (tLock (tAsg (tDcX K (iItemsX (tVar j)) g tk tv js) (gName i))) (dDcX i j dg dk dv js) := by
  refine ⟨fun a b ρ h ⟨p, zs, e, h1, h2, h3, q⟩ => ⟨p, zs, e, h1, h2, h3, fun o => dcW_mono (dcF_mono sg sk sv) (fun r d q => ⟨q.1, fun p zs' hz => h.nx _ (q.2 p zs' hz)⟩) (q o)⟩, fun F σ H ρ vs ds E dn G R q => ?_⟩
  obtain ⟨a, zs, e, hi, hno, hzl, qo⟩ := q
  obtain ⟨e1, hp, hk⟩ := R.dtAt e
  refine ⟨a, .ext (RawT a (zs.map Ent.x)), hp, True.intro, fun o => ?_⟩
  have q := qo o
  have R1 := R.lockX (o := o) e
  have nj : ∀ x ∈ js, x ≠ j := fun x hx z => by
    have := hno x hx
    rw [z, e] at this
    cases this
  have hno1 : ∀ x ∈ js, (ρ.set j (.dz a zs o))[x]? = some .no := fun x hx => by
    rw [List.getElem?_set_ne (Ne.symm (nj x hx))]
    exact hno x hx
  refine ⟨.ref a, e1, a, o, zs.map Ent.x, zs.map Ent.v, rfl, upd_same, fun D hD => ?_⟩
  have f0 := R1.pinFree hD
  have hlen : (zs.map fun z : Ent => pairD z.kv).length = zs.length := List.length_map ..
  refine ⟨fun n m H2 => ∃ (ρ1 : Rho) (acc : List Ent), n + m = zs.length ∧ acc.length ≤ n ∧ (∀ z ∈ acc, RelV z.v z.u) ∧ (∀ x y, x ∈ js → ρ1[x]? = some y → y = .no) ∧ Rel K (F.mk1 D (.ext (RawT D (acc.map Ent.x)))) (L2.wipe σ js) H2 ρ1 (tmpV acc ++ vs) (tmpD acc ++ ds) ∧
    dcW (fun r => r[j]? = some (.dz a zs o)) (dcF dg dk dv) js ((zs.map fun z : Ent => pairD z.kv).drop n) ρ1 (acc.map Ent.kv) fun r kvs => i < r.length ∧ ∀ (p : Addr) (zs' : List Ent), zs'.map Ent.kv = kvs → dn.nx ((r.set j (.dt a zs)).set i (.dt p zs')), ⟨zs.length, ρ.set j (.dz a zs o), [], Nat.zero_add _, Nat.zero_le _, (fun z hz => by cases hz), fun x y hx hy => ?_, ?_, q⟩, fun n m H2 hW => ?_⟩
  · rw [hno1 x hx] at hy
    exact (Option.some.inj hy).symm
  · have R2 := (R1.pinNew (o := .ext (RawT D [])) hD).wipe (js := js)
    rw [wipe_no hno1] at R2
    exact R2
  obtain ⟨ρ1, acc, em, hl, hrv, hn, R2, q4⟩ := hW
  have kp := dcW_kp q4
  obtain ⟨e2, hp2, hv2⟩ := R2.dzAt kp
  by_cases hlt : n < zs.length
  · right
    have hz : zs[n]? = some zs[n] := List.getElem?_eq_getElem hlt
    have hzm : zs[n] ∈ zs := List.getElem_mem hlt
    have hx : (zs.map Ent.x)[n]? = some zs[n].x := by rw [List.getElem?_map, hz]; rfl
    have hv : (zs.map Ent.v)[n]? = some zs[n].v := by rw [List.getElem?_map, hz]; rfl
    rw [List.drop_eq_getElem_cons (by rw [hlen]; exact hlt), List.getElem_map] at q4
    obtain ⟨_, q4⟩ := q4
    refine ⟨⟨hp2, _, _, hx, hv, hv2 _ hzm⟩, fun H2 => ∃ (ρ1 : Rho) (acc : List Ent), (n + 1) + (m - 1) = zs.length ∧ acc.length ≤ n + 1 ∧ (∀ z ∈ acc, RelV z.v z.u) ∧ (∀ x y, x ∈ js → ρ1[x]? = some y → y = .no) ∧ Rel K (F.mk1 D (.ext (RawT D (acc.map Ent.x)))) (L2.wipe σ js) H2 ρ1 (tmpV acc ++ vs) (tmpD acc ++ ds) ∧
      dcW (fun r => r[j]? = some (.dz a zs o)) (dcF dg dk dv) js ((zs.map fun z : Ent => pairD z.kv).drop (n + 1)) ρ1 (acc.map Ent.kv) fun r kvs => i < r.length ∧ ∀ (p : Addr) (zs' : List Ent), zs'.map Ent.kv = kvs → dn.nx ((r.set j (.dt a zs)).set i (.dt p zs')), fun H' h' => ⟨m - 1, by omega, h'⟩, fun x H' hy => ?_⟩
    obtain ⟨T, x', v', hx', hv', rfl, hT, rfl⟩ := hy
    rw [hx] at hx'
    rw [hv] at hv'
    cases hx'
    cases hv'
    have R3 : Rel K (F.mk1 D (.ext (RawT D (acc.map Ent.x)))) (L2.wipe σ js) (upd H2 T (.tup [.ref zs[n].b, zs[n].v])) ρ1 (.ref T :: (tmpV acc ++ vs)) (pairD zs[n].kv :: (tmpD acc ++ ds)) := (R2.pushZ kp hzm).tup rfl hT
    refine sg.run _ _ _ ρ1 _ _ _ _ _ R3 (sg.mono _ _ _ _ (fun r1 q σ2 H3 R4 A => ?_) q4)
    have ew2 : L2.wipe σ2 js = L2.wipe σ js := by
      have e1 : L2.wipe σ2 js = L2.wipe (L2.wipe σ js) js := wipe_eq A.1 fun j hjn => A.2.1 j fun z => hjn (hj j z)
      rw [e1]
      exact wipe_eq (wipe_length ..) fun j hjn => wipe_out hjn
    refine ⟨ew2, sk.run _ σ2 H3 r1 _ _ _ R4 (sk.mono _ _ _ (fun r2 y q yv H4 R5 => ?_) q)⟩
    refine sv.run _ σ2 H4 r2 _ _ _ R5 (sv.mono _ _ _ (fun r3 x q xv H5 R6 => ?_) q)
    obtain ⟨ks, ey, q7⟩ := q
    subst ey
    obtain ⟨b, rfl, hb, hkeys⟩ : ∃ b, yv = .ref b ∧ SqT K H5 b (ks.map V.int) ∧ KeysIn K H5 (acc.map Ent.x) := by
      obtain ⟨Hi, own, R7⟩ := R6
      have t := R7.tmp
      cases t with
      | cons t1 t2 =>
        cases t2 with
        | cons t3 t4 =>
          cases t3 with
          | tup s gk =>
            have := ints_of (K := K) ks _ gk
            subst this
            refine ⟨_, rfl, sqT_mono R7.sub s, fun x hx => ?_⟩
            obtain ⟨z, hz, rfl⟩ := List.mem_map.mp hx
            have h1 := (tmp_of (dpAll_split (tmp_len acc) t4).1 z hz).1
            cases h1 with
            | tup s2 g2 =>
              have := ints_of (K := K) z.k _ g2
              subst this
              exact sqT_mono R7.sub s2
    refine ⟨acc.map Ent.x, b, ks, rfl, R6.pinAt, hkeys, hb, by rw [List.length_map]; omega, fun u ru => ?_⟩
    rw [← put_X acc ks b u xv x]
    have pl := putE_len acc ks b u xv x
    refine ⟨wipeR r3 js, putE acc ks b u xv x, by omega, by omega, fun z hz => ?_, fun x y hx hy => wipeR_in hx hy, ?_, ?_⟩
    · rcases putE_mem hz with h | ⟨_, _, h3, h4, _⟩
      · exact hrv z h
      · rw [h3, h4]; exact ru
    · have R8 := (R6.repin (o' := .ext (RawT D ((putE acc ks b u xv x).map Ent.x))) f0.1 f0.2).wipe (js := js)
      rw [ew2] at R8
      refine R8.swap fun Hi t => ?_
      cases t with
      | cons t1 t2 =>
        cases t2 with
        | cons t3 t4 =>
          obtain ⟨t5, t6⟩ := dpAll_split (tmp_len acc) t4
          refine dpAll_app (tmp_mk fun z hz => ?_) t6
          rcases putE_mem hz with h | ⟨h1, h2, _, h4, h5⟩
          · exact tmp_of t5 z h
          · rw [h4, h5]
            refine ⟨?_, t1⟩
            rcases h2 with h2 | ⟨z0, hz0, k0, h2⟩
            · rw [h1, h2]; exact t3
            · have := (tmp_of t5 z0 hz0).1
              rw [h1, h2, ← k0]
              exact this
    · rw [put_D]
      exact q7
  · left
    refine ⟨⟨hp2, by rw [List.length_map]; omega⟩, hp2, ?_⟩
    rw [List.drop_eq_nil_iff.mpr (by rw [hlen]; omega)] at q4
    obtain ⟨_, hi1, q5⟩ := q4
    obtain ⟨u1, u2, u3⟩ := R2.unpin f0.1 f0.2
    have R9 : Rel K F σ (hide H2 D) ρ1 (tmpV acc ++ vs) (tmpD acc ++ ds) := u3.resig (wipe_length ..).symm fun x y ex => by
      by_cases hjs : x ∈ js
      · exact .inl (hn x y hjs ex)
      · exact .inr (wipe_out hjs).symm
    obtain ⟨_, h9, _⟩ := R9.dzAt kp
    have nD : D ≠ a := fun z => by rw [← z, u1] at h9; cases h9
    have R10 := R9.unlockX kp
    have R11 := R10.keepNew2 (p := D) (i := i) (o := .ext (RawT D (acc.map Ent.x))) (x := .dt D acc) (ws := vs) (es := ds) (by rw [upd_ne nD]; exact u1) (by rw [List.length_set]; exact hi1) fun Hi s t => by
      obtain ⟨t5, t6⟩ := dpAll_split (tmp_len acc) t
      exact ⟨⟨rfl, rfl, upd_same, fun z hz => ⟨(tmp_of t5 z hz).1, hrv z hz, (tmp_of t5 z hz).2⟩⟩, t6⟩
    have eh : upd H2 a (.ext (RawT a (zs.map Ent.x))) = upd (upd (hide H2 D) a (.ext (RawT a (zs.map Ent.x)))) D (.ext (RawT D (acc.map Ent.x))) := by
      conv => lhs; rw [u2]
      exact upd_comm nD
    rw [← eh] at R11
    exact G.nx _ _ _ R11 (q5 D acc rfl)
end
end LD

/-! LD32: a dict goes to another name; any of a tuple of ints; what max of some data is. -/
namespace LD
open PySem PySem.Spec L2 PyProof.Rows
section
variable {K : PySem.W.Frag} {F : Fx} {σ : L2.St} {H : Hp} {ρ : Rho} {vs : List V} {ds : List D}
/-- the dict of slot j is slot i's from now on -/
theorem Rel.moveX {i j : Nat} {a : Addr} {zs : List Ent} (R : Rel K F σ H ρ vs ds) (h : ρ[j]? = some (.dt a zs)) (hi : i < ρ.length) (hij : i ≠ j) : Rel K F (σ.set i (some (.ref a))) H ((ρ.set j .no).set i (.dt a zs)) vs ds := by
  obtain ⟨Hi, own, R⟩ := R
  obtain ⟨e, eo, hp, q⟩ := R.slot j _ h
  have hj : j < ρ.length := (List.getElem?_eq_some_iff.mp h).1
  have aj : a ∈ own j := by rw [eo]; exact List.mem_singleton.mpr rfl
  have sep' : ∀ k, k ≠ j → a ∉ own k := fun k hk hz => R.sep k j hk a hz aj
  have own_of : ∀ k b, b ∈ (if k = i then [a] else if k = j then [] else own k) → ∃ l, b ∈ own l ∧ (k = i → l = j) ∧ (k ≠ i → l = k ∧ k ≠ j) := fun k b hb => by
    by_cases h1 : k = i
    · rw [if_pos h1] at hb
      obtain rfl := List.mem_singleton.mp hb
      exact ⟨j, aj, fun _ => rfl, fun z => absurd h1 z⟩
    · rw [if_neg h1] at hb
      by_cases h2 : k = j
      · rw [if_pos h2] at hb; cases hb
      · rw [if_neg h2] at hb
        exact ⟨k, hb, fun z => absurd z h1, fun _ => ⟨rfl, h2⟩⟩
  refine ⟨Hi, fun k => if k = i then [a] else if k = j then [] else own k, ⟨R.base, R.sub, R.new, R.keep, R.dom, ?_, fun k x hk => ?_, fun k b hb => ?_, fun k b hb => ?_, fun k b hb => ?_, fun k l hkl b hb hl => ?_, fun k es hk b hb => ?_, fun z hz => ?_, R.tmp⟩⟩
  · rw [List.length_set, List.length_set, List.length_set]; exact R.len
  · by_cases h1 : k = i
    · subst h1
      rw [List.getElem?_set_self (by rw [List.length_set]; exact hi)] at hk
      cases hk
      rw [if_pos rfl, List.getElem?_set_self (by rw [R.len]; exact hi)]
      exact ⟨rfl, rfl, hp, q⟩
    · rw [List.getElem?_set_ne (Ne.symm h1)] at hk ⊢
      rw [if_neg h1]
      by_cases h2 : k = j
      · subst h2
        rw [List.getElem?_set_self hj] at hk
        cases hk
        trivial
      · rw [List.getElem?_set_ne (Ne.symm h2)] at hk
        rw [if_neg h2]
        exact R.slot k x hk
  · obtain ⟨l, hl, _⟩ := own_of k b hb
    exact R.free l b hl
  · obtain ⟨l, hl, _⟩ := own_of k b hb
    exact R.held l b hl
  · obtain ⟨l, hl, _⟩ := own_of k b hb
    exact R.nown l b hl
  · obtain ⟨k', hk', k1, k2⟩ := own_of k b hb
    obtain ⟨l', hl', l1, l2⟩ := own_of l b hl
    refine R.sep k' l' (fun z => ?_) b hk' hl'
    by_cases h1 : k = i
    · have e1 := k1 h1
      by_cases h2 : l = i
      · exact hkl (h1.trans h2.symm)
      · obtain ⟨e2, e3⟩ := l2 h2
        exact e3 (by rw [← e2, ← z, e1])
    · obtain ⟨e1, e3⟩ := k2 h1
      by_cases h2 : l = i
      · have e2 := l1 h2
        exact e3 (by rw [← e1, z, e2])
      · obtain ⟨e2, e4⟩ := l2 h2
        exact hkl (by rw [← e1, z, e2])
  · have h1 : k ≠ i := fun z => by
      subst z
      rw [List.getElem?_set_self (by rw [List.length_set]; exact hi)] at hk
      cases hk
    rw [List.getElem?_set_ne (Ne.symm h1)] at hk
    have h2 : k ≠ j := fun z => by
      subst z
      rw [List.getElem?_set_self hj] at hk
      cases hk
    rw [List.getElem?_set_ne (Ne.symm h2)] at hk
    rw [if_neg h1, if_neg h2] at hb
    exact R.nls k es hk b hb
  · obtain ⟨z1, z2, z3⟩ := R.pin z hz
    refine ⟨z1, z2, fun k hk => ?_⟩
    obtain ⟨l, hl, _⟩ := own_of k z.1 hk
    exact z3 l hl
/-- x = y, y a dict's name that is not used any more -/
def dMovX (i j : Nat) : TDS := fun dn ρ => ∃ a zs, ρ[j]? = some (.dt a zs) ∧ i < ρ.length ∧ i ≠ j ∧ dn.nx ((ρ.set j .no).set i (.dt a zs))
theorem ss_movX {i j : Nat} : SS K (tAsg (tVar j) (gName i)) (dMovX i j) := ⟨fun a b ρ h ⟨p, zs, e, h1, h2, q⟩ => ⟨p, zs, e, h1, h2, h.nx _ q⟩, fun F σ H ρ vs ds E dn G R q => by
  obtain ⟨a, zs, e, h1, h2, q⟩ := q
  obtain ⟨e1, _, _⟩ := R.dtAt e
  exact ⟨.ref a, e1, G.nx _ _ _ (R.moveX e h1 h2) q⟩⟩
/-! any of a tuple -/
def rAnyT (K : PySem.W.Frag) : List V → Hp → VK → Prop := fun vs H Q => ∃ (a : Addr) (ns : List Int), vs = [.ref a] ∧ SqT K H a (ns.map V.int) ∧ Q (.bl (ns.any fun n => decide (n ≠ 0))) H
theorem plain_ints : ∀ ns : List Int, PyData.plainAll (ns.map PyData.int) = true
  | [] => rfl
  | n :: ns => by
    rw [List.map_cons]
    simp only [PyData.plainAll, PyData.plain, plain_ints ns, Bool.and_self]
theorem cr_anyT {X : Cx} (hc : X.calm = true) : CallR X (.builtin "any") (rAnyT X.K) := by
  intro pins s σ H vs us Q I r h
  obtain ⟨a, ns, rfl, hs, q⟩ := h
  obtain ⟨its, rv, hl, _⟩ := I.tuple hs
  rw [Vals.ref1 r]
  obtain ⟨as, hr⟩ := Dp.readsAll I _ _ its (dpAll_ints (K := X.K) (H := H) ns) rv
  refine PySem.W.any_tuple_data (I.ok.hd hc) hl (vs := its.toArray) (by simpa using hr) (plain_ints ns) (fun x hx => ?_) fun h' tk hk => ⟨.bl _, H, I.kept (t' := tk) hk, ?_, q⟩
  · obtain ⟨n, _, rfl⟩ := List.mem_map.mp hx
    trivial
  · show Value.bool _ = Value.bool _
    rw [List.any_map, show (PyData.truthy ∘ PyData.int) = fun n : Int => decide (n ≠ 0) from funext fun n => by
      show (n != 0) = decide (n ≠ 0)
      by_cases h : n = 0 <;> simp [h]]
def cAnyT : CD := fun es P => ∃ ns : List Int, es = [.tuple (ns.map PyData.int)] ∧ P (.bool (ns.any fun n => decide (n ≠ 0)))
theorem sc_anyT : SC K (rAnyT K) cAnyT := ⟨fun a P P' h ⟨bs, e, q⟩ => ⟨bs, e, h _ q⟩, fun F σ H ρ vs ds xs es Q e R ⟨bs, h, q⟩ => by
  subst h
  obtain ⟨x, r, rfl, e1⟩ := len_cons e
  obtain rfl := len_nil e1
  obtain ⟨p, ys, rfl, e2, s, R1⟩ := Rel.asTup R
  have ey := ints_of (K := K) bs ys (dpAll_split e2 R1.dpAll).1
  subst ey
  exact ⟨p, bs, rfl, s, q _ _ (Rel.push (v := .bl (bs.any fun n => decide (n ≠ 0))) (Rel.drop R) rfl)⟩⟩
theorem maxD_mem : ∀ (ds : List D) (d : D), PySem.W.maxD d ds ∈ d :: ds
  | [], d => List.mem_singleton.mpr rfl
  | e :: ds, d => by
    have h : PySem.W.maxD d (e :: ds) = PySem.W.maxD (if PySem.W.dataLt d e then e else d) ds := rfl
    rw [h]
    rcases List.mem_cons.mp (maxD_mem ds (if PySem.W.dataLt d e then e else d)) with z | z
    · rw [z]
      split
      · exact List.mem_cons_of_mem _ List.mem_cons_self
      · exact List.mem_cons_self
    · exact List.mem_cons_of_mem _ (List.mem_cons_of_mem _ z)
end
end LD

/-! LD33: a list any number of times; name[k] += e; three names from a triple. -/
namespace LD
open PySem PySem.Spec L2 PyProof.Rows
section
variable {X : Cx}
def rGetI (K : PySem.W.Frag) : V → V → Hp → VK → Prop := fun o i H Q => ∃ (p : Addr) (xs : List V) (k : Int) (v : V), o = .ref p ∧ i = .int k ∧ SqL K H p xs ∧ 0 ≤ k ∧ k < 2 ^ 62 ∧ xs[k.toNat]? = some v ∧ Q v H
theorem get_list : PGet X (rGetI X.K) := by
  intro pins s σ H o i ov iv Q I ro ri h
  obtain ⟨p, xs, k, z, rfl, rfl, hq, h0, h1, he, q⟩ := h
  cases ro
  obtain ⟨t, rfl⟩ := ri
  obtain ⟨its, r, pl, hz⟩ := I.list hq
  obtain ⟨w, ew, rw'⟩ := r.get he
  exact wpAny_getItem_list pl.isList h0 (by omega) (by simpa using ew) ⟨z, H, I, rw', q⟩
/-- a list times an int -/
def rRepL (K : PySem.W.Frag) : R2 := fun x y H Q => ∃ l k xs, x = .ref l ∧ y = .int k ∧ SqL K H l xs ∧ -(2 ^ 62) ≤ k ∧ k < 2 ^ 62 ∧ xs.length * k.toNat ≤ sizeLine ∧ ∀ p, H p = none → Q (.ref p) (upd H p (.lst (List.replicate k.toNat xs).flatten))
theorem op_repL : OpR X (binaryOp .Mult) (rRepL X.K) := by
  intro pins s σ H x y v u Q I rx ry h
  obtain ⟨l, k, xs, rfl, rfl, hH, h1, h2, hz, q⟩ := h
  cases rx
  obtain ⟨t, rfl⟩ := ry
  obtain ⟨its, r, ⟨⟨cls, dd, data, sl⟩, n, ho, hc, hd, hs⟩, hz2⟩ := I.list hH
  simp only at hc hd hs
  subst hc hd hs
  have hl := r.length
  have hlen : its.toArray.size * k.toNat ≤ sizeLine := by rw [List.size_toArray, ← hl]; exact hz
  have hcap : ¬ its.toArray.size * k.toNat > (2 ^ 63 - 1) / 8 := by
    have : (sizeLine : Nat) ≤ (2 ^ 63 - 1) / 8 := by decide
    omega
  have hfit : ¬ (!Builtin.List.listFitsIndex k) = true := by
    rw [fitsIndex_both (by omega) (by omega)]
    exact Bool.false_ne_true
  have hlong : ¬ Builtin.List.listTooLong (its.toArray.size * k.toNat) = true := by
    rw [notLongL hlen]
    exact Bool.false_ne_true
  have hnew : List.foldl (fun x1 x2 => x1 ++ x2) #[] (List.replicate (if its.toArray.isEmpty = true then 0 else k.toNat) its.toArray) = (List.replicate k.toNat its).flatten.toArray := by
    have f0 : ∀ m : Nat, List.foldl (fun x1 x2 => x1 ++ x2) #[] (List.replicate m its.toArray) = (List.replicate m its).flatten.toArray := fun m => by
      have := foldl_rep its m []
      rw [List.nil_append] at this
      exact this
    rw [f0]
    cases its with
    | nil => simp
    | cons a r' => rw [if_neg (by simp)]
  refine wpAny_binaryOp_repeat_ref (T := "list") (U := "int") (by decide) ⟨_, ho, rfl⟩ (fun s' => typeIs_int s' k t) noFill_list_mul F.fills_int_mul F.slot_int_rmul repeat_list F.slot_int_index.lookup
    (call_meets F.slot_int_rmul (typeIs_int s k t) F.entry_int_rmul (F.args_int_rmul_2 _ _) (lm_int_rmul_list_any k t l its.toArray n none sl)
      ⟨ho, rfl, ⟨_, ho, rfl⟩, call_meets F.slot_list_mul ⟨_, ho, rfl⟩ F.entry_list_mul (F.args_list_mul_2 _ _) (lm_list_mul_any l its.toArray n none sl k t hfit hcap hlong) ⟨ho, ?_⟩⟩)
  rw [hnew]
  exact ⟨.ref _, _, I.lnew (t' := s.toks) (r.rep k.toNat) (by rw [PyProof.Rows.lm_len_rep_flat, Nat.mul_comm]; exact hz), rfl, q _ I.fresh⟩
end
section
variable {K : PySem.W.Frag} {te tk : TE} {a k e : TD} {t : TDA}
/-- a list so many times: a new one -/
def dRepN (a k : TD) : TDA := fun ρ P => a ρ fun r x => k r fun r2 d => ∃ (es : List D) (n : Int), x = .list es ∧ d = .int n ∧ -(2 ^ 62) ≤ n ∧ n < 2 ^ 62 ∧ es.length * n.toNat ≤ sizeLine ∧ P r2 (List.replicate n.toNat es).flatten
theorem sf_repN (s : SE K te a) (sk : SE K tk k) : SF K (tOp (rRepL K) te tk) (dRepN a k) := by
  refine ⟨fun ρ P P' h q => s.mono _ _ _ (fun _ es q => sk.mono _ _ _ (fun _ d ⟨es, n, e, e2, h1, h2, h3, q⟩ => ⟨es, n, e, e2, h1, h2, h3, h _ _ q⟩) q) q, fun F σ H ρ vs ds Q R q => ?_⟩
  refine s.run F σ H ρ vs ds _ R (s.mono _ _ _ (fun r x q1 u H1 R1 => ?_) q)
  refine sk.run F σ _ r _ _ _ R1 (sk.mono _ _ _ (fun r2 d q2 v H2 R2 => ?_) q1)
  obtain ⟨es, n, rfl, rfl, h1, h2, h3, q⟩ := q2
  obtain rfl := R2.int
  obtain ⟨Hj, own2, R5⟩ := R2.drop
  have tm := R5.tmp
  cases tm with
  | cons t1 t2 =>
    cases t1 with
    | lst w1 g1 =>
      have g3 := dpAll_rep g1 n.toNat
      exact ⟨_, n, _, rfl, rfl, R5.sub.seq w1, h1, h2, by rw [dpAll_len g1]; exact h3, fun p hp => q _ _ p (dpAll_len g3) ⟨Hj, own2, R5.tmpTo (dpAll_app g3 t2)⟩ hp⟩
/-- name[k] += e, of ints -/
def dAugI (i : Nat) (k e : TD) : TDS := fun dn ρ => (∃ es, ρ[i]? = some (.ls es)) ∧ k ρ fun r z => ∃ (es : List D) (n m : Int), r[i]? = some (.ls es) ∧ z = .int n ∧ 0 ≤ n ∧ n < 2 ^ 62 ∧ es[n.toNat]? = some (.int m) ∧
  e r fun r2 d => ∃ (j : Int) (es2 : List D), d = .int j ∧ r2[i]? = some (.ls es2) ∧ n.toNat < es2.length ∧ dn.nx (r2.set i (.ls (es2.set n.toNat (.int (m + j)))))
theorem ss_augI (i : Nat) (sk : SE K tk k) (se : SE K te e) : SS K (tAugS (tVar i) tk te (rGetI K) (ipI fun i j => i + j) rSetL) (dAugI i k e) := by
  refine ⟨fun a b ρ h ⟨q0, q⟩ => ⟨q0, sk.mono _ _ _ (fun r y ⟨es, n, m, e1, e2, h0, h1, e3, q⟩ => ⟨es, n, m, e1, e2, h0, h1, e3, se.mono _ _ _ (fun r2 d ⟨j, es2, e4, e5, h2, q⟩ => ⟨j, es2, e4, e5, h2, h.nx _ q⟩) q⟩) q⟩, fun F σ H ρ vs ds E dn G R q => ?_⟩
  obtain ⟨⟨es0, e0⟩, q⟩ := q
  obtain ⟨p, xs, e1, hp, el, _⟩ := R.ownAt e0
  refine ⟨.ref p, e1, sk.run F σ H ρ vs ds _ R (sk.mono _ _ _ (fun r z q w H1 R1 => ?_) q)⟩
  obtain ⟨es, n, m, e2, rfl, h0, h1, em, q⟩ := q
  obtain rfl := R1.int
  obtain ⟨Hi, own, R2⟩ := R1.drop
  obtain ⟨p2, xs2, e3, eo, hp2, q2⟩ := R2.slot i _ e2
  have e4 : p2 = p := by rw [e1] at e3; cases e3; rfl
  subst e4
  obtain ⟨v, ev, hv⟩ := dpAll_at q2 em
  cases hv
  refine ⟨p2, xs2, n, _, rfl, rfl, .inl (.inl hp2), h0, h1, ev, ?_⟩
  refine se.run F σ H1 r vs ds _ ⟨Hi, own, R2⟩ (se.mono _ _ _ (fun r2 d q w H2 R3 => ?_) q)
  obtain ⟨j, es2, rfl, e5, h2, q⟩ := q
  obtain rfl := R3.int
  refine ⟨m, j, rfl, rfl, ?_⟩
  obtain ⟨p3, xs3, e6, hp3, el3, hd⟩ := R3.ownAt e5
  rw [e1] at e6
  cases e6
  have ix : ixN xs3.length n = some n.toNat := by
    unfold ixN
    rw [el3, if_pos h0, if_pos (by omega)]
  refine ⟨p2, xs3, n, n.toNat, rfl, rfl, hp3, ix, G.nx _ _ _ (R3.drop.turn e5 e1 hp3 fun Hi h1 h2 => ?_) q⟩
  exact ⟨dpAll_set (.int _) _ h1, h2⟩
/-- three names from a triple -/
def dPar3 (i j l : Nat) (t : TDA) : TDS := fun dn ρ => t ρ fun r es => ∃ d e f, es = [d, e, f] ∧ i < r.length ∧ j < r.length ∧ l < r.length ∧ dn.nx (((r.set i (.sh d)).set j (.sh e)).set l (.sh f))
theorem ss_par3 {i j l : Nat} {ta : L2.TA} {a : TDA} (s : SA K ta a) : SS K (tPar3 i j l ta) (dPar3 i j l a) := ⟨fun a b ρ h q => s.mono _ _ _ (fun r es ⟨d, e, f, e1, h1, h2, h3, q⟩ => ⟨d, e, f, e1, h1, h2, h3, h.nx _ q⟩) q, fun F σ H ρ vs ds E dn G R q =>
  s.run F σ H ρ vs ds _ R (s.mono _ _ _ (fun r es q xs H' el R' => by
    obtain ⟨d, e, f, e1, h1, h2, h3, q⟩ := q
    subst e1
    obtain ⟨x, xr, rfl, e2⟩ := len_cons el
    obtain ⟨y, yr, rfl, e3⟩ := len_cons e2
    obtain ⟨z, zr, rfl, e4⟩ := len_cons e3
    obtain rfl := len_nil e4
    refine ⟨x, y, z, rfl, G.nx _ _ _ ?_ q⟩
    have R2 : Rel K F σ H' r (x :: y :: z :: vs) (d :: e :: f :: ds) := R'
    exact ((R2.store h1).store (by rw [List.length_set]; exact h2)).store (by rw [List.length_set, List.length_set]; exact h3)) q)⟩
end
end LD

/-! LD34: comprehensions over what is told; webs. -/
namespace LD
open PySem PySem.Spec L2 PyProof.Rows
section
variable {α : Type} {f : D → Rho → (Rho → Option D → Prop) → Prop} {js : List Nat} {ρ : Rho}
theorem compW_map (g : α → D) (h : α → Option D) : ∀ {xs : List α} {acc : List D} {P : KL}, (∀ x ∈ xs, ∀ k : Rho → Option D → Prop, (∀ r, wipeR r js = ρ → k r (h x)) → f (g x) ρ k) → P ρ (acc ++ xs.filterMap h) → compW f js (xs.map g) ρ acc P
  | [], acc, P, _, q => by
    rw [List.filterMap_nil, List.append_nil] at q
    exact q
  | x :: xs, acc, P, H, q => by
    show f (g x) ρ _
    refine H x List.mem_cons_self _ fun r hr => ?_
    rw [hr]
    cases hx : h x with
    | none =>
      rw [List.filterMap_cons_none hx] at q
      exact compW_map g h (fun y hy => H y (List.mem_cons_of_mem _ hy)) q
    | some y =>
      rw [List.filterMap_cons_some hx] at q
      exact compW_map g h (acc := acc ++ [y]) (fun y hy => H y (List.mem_cons_of_mem _ hy)) (by rw [List.append_assoc]; exact q)
/-- each gives one thing -/
theorem compW_all (g v : α → D) {xs : List α} {P : KL} (H : ∀ x ∈ xs, ∀ k : Rho → Option D → Prop, (∀ r, wipeR r js = ρ → k r (some (v x))) → f (g x) ρ k) (q : P ρ (xs.map v)) : compW f js (xs.map g) ρ [] P := by
  refine compW_map g (fun x => some (v x)) H ?_
  rw [List.nil_append, List.filterMap_eq_map']
  exact q
/-- those for which p -/
theorem compW_fil (g v : α → D) (p : α → Bool) {xs : List α} {P : KL} (H : ∀ x ∈ xs, ∀ k : Rho → Option D → Prop, (∀ r, wipeR r js = ρ → k r (if p x = true then some (v x) else none)) → f (g x) ρ k) (q : P ρ ((xs.filter p).map v)) : compW f js (xs.map g) ρ [] P := by
  refine compW_map g (fun x => if p x = true then some (v x) else none) H ?_
  have : xs.filterMap (fun x => if p x = true then some (v x) else none) = (xs.filter p).map v := by
    clear H q
    induction xs with
    | nil => rfl
    | cons x xs ih =>
      by_cases hx : p x = true
      · rw [List.filterMap_cons_some (b := v x) (by rw [if_pos hx]), List.filter_cons_of_pos hx, List.map_cons, ih]
      · rw [List.filterMap_cons_none (by rw [if_neg hx]), List.filter_cons_of_neg hx, ih]
  rw [List.nil_append, this]
  exact q
theorem compW_allD (v : D → D) {xs : List D} {P : KL} (H : ∀ x ∈ xs, ∀ k : Rho → Option D → Prop, (∀ r, wipeR r js = ρ → k r (some (v x))) → f x ρ k) (q : P ρ (xs.map v)) : compW f js xs ρ [] P := by
  have := compW_all (f := f) (js := js) (ρ := ρ) id v (xs := xs) (P := P) H q
  rw [List.map_id] at this
  exact this
theorem compW_filD (p : D → Bool) {xs : List D} {P : KL} (H : ∀ x ∈ xs, ∀ k : Rho → Option D → Prop, (∀ r, wipeR r js = ρ → k r (if p x = true then some x else none)) → f x ρ k) (q : P ρ (xs.filter p)) : compW f js xs ρ [] P := by
  have := compW_fil (f := f) (js := js) (ρ := ρ) id id p (xs := xs) (P := P) H (by rw [List.map_id]; exact q)
  rw [List.map_id] at this
  exact this
end
theorem zipD_map {α β : Type} (f : α → D) (g : β → D) (xs : List α) (ys : List β) : zipD (xs.map f) (ys.map g) = (xs.zip ys).map fun p => .tuple [f p.1, g p.2] := by
  unfold zipD
  rw [List.zip_map, List.map_map]
  rfl
theorem numD_map {α : Type} (f : α → D) (xs : List α) : numD (xs.map f) = xs.zipIdx.map fun p => .tuple [.int (p.2 : Nat), f p.1] := by
  refine List.ext_getElem? fun i => ?_
  unfold numD
  rw [List.getElem?_map, List.getElem?_map, List.length_map, List.getElem?_zipIdx]
  by_cases h : i < xs.length
  · rw [List.getElem?_range h, List.getElem?_eq_getElem h]
    show some (PyData.tuple [.int ((i : Nat) : Int), (xs.map f).getD i .none]) = some (PyData.tuple [.int ((0 + i : Nat) : Int), f xs[i]])
    rw [List.getD_eq_getElem?_getD, List.getElem?_map, List.getElem?_eq_getElem h, Nat.zero_add]
    rfl
  · rw [List.getElem?_eq_none (by rw [List.length_range]; omega), List.getElem?_eq_none (by omega)]
    rfl
theorem rngD_map (lo : Int) (n : Nat) : rngD lo n = (List.range n).map fun (k : Nat) => PyData.int (lo + (k : Int)) := rfl
/-- what is drawn from a map is one -/
theorem perm_map {α : Type} {f : α → D} (g : D → α) (hg : ∀ x, g (f x) = x) {xs : List α} {ds : List D} (h : ds.Perm (xs.map f)) : ∃ ys : List α, ds = ys.map f ∧ ys.Perm xs := by
  refine ⟨ds.map g, ?_, ?_⟩
  · rw [List.map_map]
    refine (List.map_id' ds).symm.trans (List.map_congr_left fun d hd => ?_)
    obtain ⟨x, _, rfl⟩ := List.mem_map.mp (h.mem_iff.mp hd)
    show f x = f (g (f x))
    rw [hg]
  · have := h.map g
    rw [List.map_map] at this
    refine this.trans ?_
    rw [show (g ∘ f) = id from funext hg, List.map_id]
/-! ### webs -/
def tieK (t : Int × Int) : D := tupK [t.1, t.2]
def tieOf : D → Int × Int
  | .tuple [.int a, .int b] => (a, b)
  | _ => (0, 0)
theorem tieOf_K (t : Int × Int) : tieOf (tieK t) = t := rfl
def webD (n : Int) (ts : List (Int × Int)) : D := .tuple [.int n, .tuple (ts.map tieK)]
structure WebOk (n : Int) (ts : List (Int × Int)) : Prop where
  in_ : ∀ t ∈ ts, 0 ≤ t.1 ∧ t.1 < t.2 ∧ t.2 < n
  up : (ts.map fun t => [t.1, t.2]).Pairwise (· < ·)
def g_law_web : CD := fun ds P => ∃ most ties : Int, ds = [.int most, .int ties] ∧ 1 ≤ most ∧ most ≤ 20 ∧ 0 ≤ ties ∧ ties ≤ 100 ∧ ∀ n ts, 1 ≤ n → n ≤ most → (ts.length : Int) ≤ ties → WebOk n ts → P (webD n ts)
theorem g_law_web_mono : ∀ es P P', (∀ d, P d → P' d) → g_law_web es P → g_law_web es P' := fun es P P' h ⟨a, b, e, h1, h2, h3, h4, q⟩ => ⟨a, b, e, h1, h2, h3, h4, fun n ts x1 x2 x3 x4 => h _ (q n ts x1 x2 x3 x4)⟩
/-- ties picked from some are in order -/
theorem ties_sorted {n : Int} {us : List (Int × Int)} (h : ∀ t ∈ us, 0 ≤ t.1 ∧ t.1 < t.2 ∧ t.2 < n) (nd : us.Nodup) : ∃ ts, (us.map tieK).mergeSort leD = ts.map tieK ∧ WebOk n ts ∧ ts.length = us.length ∧ ts.Perm us := by
  let key : Int × Int → List Int := fun t => [t.1, t.2]
  have inj : ∀ a b : Int × Int, key a = key b → a = b := fun a b h => by
    obtain ⟨x, y⟩ := a
    obtain ⟨z, w⟩ := b
    simp only [key, List.cons.injEq, and_true] at h
    rw [h.1, h.2]
  have e1 : us.map tieK = (us.map key).map tupK := by rw [List.map_map]; rfl
  have nd2 : (us.map key).Nodup := List.nodup_iff_pairwise_ne.mpr (List.pairwise_map.mpr (nd.imp fun {a b} hab z => hab (inj _ _ z)))
  have up := sort_up nd2
  obtain ⟨ts, e2⟩ : ∃ ts : List (Int × Int), (us.map key).mergeSort leL = ts.map key := by
    refine ⟨((us.map key).mergeSort leL).map fun k => (k.getD 0 0, k.getD 1 0), ?_⟩
    rw [List.map_map]
    refine (List.map_id' _).symm.trans (List.map_congr_left fun k hk => ?_)
    obtain ⟨t, _, rfl⟩ := List.mem_map.mp ((List.mergeSort_perm _ _).mem_iff.mp hk)
    rfl
  have pk : (ts.map key).Perm (us.map key) := by rw [← e2]; exact List.mergeSort_perm _ _
  have pm : ts.Perm us := by
    have h1 := pk.map fun k => (k.getD 0 0, k.getD 1 0)
    rw [List.map_map, List.map_map] at h1
    have e : ((fun k : List Int => (k.getD 0 0, k.getD 1 0)) ∘ key) = id := funext fun t => rfl
    rw [e, List.map_id, List.map_id] at h1
    exact h1
  refine ⟨ts, ?_, ⟨fun t ht => h t (pm.mem_iff.mp ht), ?_⟩, pm.length_eq, pm⟩
  · rw [e1, sort_tupK, e2, List.map_map]
    rfl
  · rw [e2] at up
    exact up
end LD
namespace LD
theorem lgM {m : Int} (h0 : 0 ≤ m) (h1 : m < 2 ^ 40) : m.natAbs.log2 < 9000 := by
  refine Nat.lt_of_le_of_lt (m := 40) ?_ (by decide)
  rcases Nat.eq_zero_or_pos m.natAbs with h | h
  · rw [h]; decide
  · exact Nat.le_of_lt_succ (Nat.lt_of_lt_of_le ((Nat.log2_lt (by omega)).mpr (by omega)) (Nat.le_refl _))
end LD
namespace LD
open PySem PySem.Spec L2 PyProof.Rows
theorem eqvT {a b : Int} (h : a = b) : PyData.eqv (.int a) (.int b) = true := (eqv_int a b).trans (decide_eq_true h)
theorem eqvF {a b : Int} (h : a ≠ b) : PyData.eqv (.int a) (.int b) = false := (eqv_int a b).trans (decide_eq_false h)
end LD

/-! LD35: sorted of tuples, the first one empty. -/
namespace LDS
open PySem PySem.W PySem.Calls PyProof.Rows PySem.SeqAt
section
variable {A : Around} {s : Shared}
theorem call_tuple_lt {prog : Program} {w : World} {E : Value → Shared → Prop} {Q : Value → Shared → Prop} {l b : Addr} {items items2 : Array Value} {e r : Nat → Bool} (hl : s.heap.IsTuple l items) (hb : s.heap.IsTuple b items2)
    (he : ∀ j (h1 : j < items.size) (h2 : j < items2.size), EqAt A.in1 s items[j] items2[j] (e j)) (hr : ∀ j (h1 : j < items.size) (h2 : j < items2.size), e j = false → RcLt A.in1 s items[j] items2[j] (r j))
    (h : Q (.bool (firstLt e r (decide (items.size < items2.size)) (List.range (min items.size items2.size)))) s) : wpAny (model prog w) A (call (.builtin "tuple.__lt__") [.ref l, .ref b]) Q E s := by
  obtain ⟨⟨cls, dd, data, sl⟩, ho, hc, n, hd⟩ := id hl
  obtain ⟨⟨cls2, dd2, data2, sl2⟩, ho2, hc2, n2, hd2⟩ := id hb
  simp only at hc hd hc2 hd2
  subst hc hd hc2 hd2
  exact call_meets F.slot_tuple_lt ⟨_, ho, rfl⟩ F.entry_tuple_lt (F.args_tuple_lt_2 _ _) (tuple_ltAt l b items items2 n n2 dd dd2 sl sl2 e r) ⟨ho, ho2, he, hr, h⟩
theorem oneLt_tup {prog : Program} {w : World} {E : Value → Shared → Prop} {xs ys : List PyData} {a b : Value} {as bs : List Addr} {Q : Bool → Shared → Prop} (ra : Reads s.heap a (.tuple xs) as) (rb : Reads s.heap b (.tuple ys) bs) (h : alike (.tuple xs) (.tuple ys) = true)
    (hu : A.units + min (PyData.tuple xs).depth (PyData.tuple ys).depth < cLine) (hq : Q (dataLt (.tuple xs) (.tuple ys)) s) : wpAny (model prog w) A (oneLt' true a b) Q E s := by
  have hal : alikeAll xs ys = true := by simpa [alike] using h
  cases ra with
  | @tuple l o vs n _ as₁ h1 h2 h3 h4 =>
    cases rb with
    | @tuple l' o' vs' n' _ bs₁ k1 k2 k3 k4 =>
      have n1 : vs.size = xs.length := by simpa using ReadsAll.length _ _ _ h4
      have n2 : vs'.size = ys.length := by simpa using ReadsAll.length _ _ _ k4
      rw [dataLt_tuple, ← firstLt_toks xs ys hal, ← n1, ← n2] at hq
      rw [oneLt'_eq]
      simp only [if_true]
      refine wpAny_bind (wpAny_cRoomFor (room_here hu) ?_)
      refine wpAny_bind (wpAny_callSpecialIfBound?_slot (T := "tuple") ⟨_, h1, h2⟩ F.slot_tuple_lt (call_tuple_lt (e := pairEq xs ys) (r := fun j => dataLt (xs.getD j .none) (ys.getD j .none)) ⟨_, h1, h2, _, h3⟩ ⟨_, k1, k2, _, k3⟩ (fun j j1 j2 => ?_) (fun j j1 j2 hj => ?_) ?_))
      · have := eqAt_alikeAll xs ys A.in1 s vs.toList vs'.toList _ _ h4 k4 hal (room_in hu) j (by simpa using j1) (by simpa using j2)
        simpa using this
      · have := rcLt_alikeAll xs ys A.in1 s vs.toList vs'.toList _ _ h4 k4 hal (room_in hu) j (by simpa using j1) (by simpa using j2) hj
        simpa using this
      · exact wpAny_truthy_bool hq
end
section
variable {M : Model} {A : Around} {E : Value → Shared → Prop} {s : Shared}
theorem mapM_each {α β : Type} {f : α → Sem β} : ∀ (l : List α) {Q : List β → Shared → Prop}, (∀ v ∈ l, ∃ r, ∀ (Q' : β → Shared → Prop), Q' r s → wpAny M A (f v) Q' E s) → (∀ os : List β, os.length = l.length → Q os s) → wpAny M A (l.mapM f) Q E s
  | [], _, _, h => by rw [List.mapM_nil]; exact wpAny_pure (h [] rfl)
  | x :: l, Q, hf, h => by
    rw [List.mapM_cons]
    obtain ⟨r, hr⟩ := hf x (.head _)
    exact wpAny_bind (hr _ (wpAny_bind (mapM_each l (Q := fun bs s' => wpAny M A (pure (r :: bs)) Q E s') (fun v hv => hf v (.tail _ hv)) fun os ho => wpAny_pure (h (r :: os) (by rw [List.length_cons, List.length_cons, ho])))))
/-- tuples, the first one empty -/
theorem kind_empty {v₁ : Value} {rest : List Value} {Q : SortKind → Shared → Prop} (h1 : ∃ a o n, v₁ = .ref a ∧ s.heap.get? a = some o ∧ o.cls = .type "tuple" ∧ o.data = .seq #[] n)
    (hr : ∀ v ∈ rest, ∃ a o xs n, v = .ref a ∧ s.heap.get? a = some o ∧ o.cls = .type "tuple" ∧ o.data = .seq xs n) (h : Q oneType' s) : wpAny M A (keyKind' (v₁ :: rest).toArray) Q E s := by
  have hT : ∀ v ∈ v₁ :: rest, Looks M s.heap (typeOf v) (.type "tuple") := fun v hv => by
    rcases List.mem_cons.mp hv with rfl | hv
    · obtain ⟨a, o, n, rfl, ho, hc, hd⟩ := h1
      exact hc ▸ (Looks.ld ho).andThen .now
    · obtain ⟨a, o, xs, n, rfl, ho, hc, hd⟩ := hr v hv
      exact hc ▸ (Looks.ld ho).andThen .now
  rw [kat_kind_eq, List.mapM_toArray, map_eq_pure_bind]
  refine wpAny_bind (wpAny_bind ?_)
  rw [List.mapM_cons]
  refine wpAny_bind ?_
  have first : ∀ (v : Value) (a : Addr) (o : Obj) (xs : Array Value) (n : Nat) (Q' : Option Value → Shared → Prop), v = .ref a → s.heap.get? a = some o → o.cls = .type "tuple" → o.data = .seq xs n → Q' xs[0]? s → wpAny M A (firstOfTuple' v) Q' E s := by
    intro v a o xs n Q' e ho hc hd q
    subst e
    rw [kas_first_eq]
    refine wpAny_bind (Looks.here (show Looks M s.heap (typeOf (.ref a)) o.cls from (Looks.ld ho).andThen .now) ?_)
    rw [hc, if_neg (by first | decide | simp)]
    exact wpAny_bind (listItems_at ho hd (wpAny_pure q))
  obtain ⟨a, o, n, e1, ho, hc, hd⟩ := id h1
  refine first v₁ a o #[] n _ e1 ho hc hd ?_
  refine wpAny_bind (mapM_each rest (fun v hv => ?_) fun os hos => wpAny_pure (wpAny_pure ?_))
  · obtain ⟨a, o, xs, n, e, ho, hc, hd⟩ := hr v hv
    exact ⟨_, fun Q' q => first v a o xs n Q' e ho hc hd q⟩
  · rw [if_neg (by simp), if_neg (by simp)]
    rw [oneTypeOnly'_eq, List.mapM_toArray, map_eq_pure_bind]
    refine wpAny_bind (wpAny_bind (wpAny_bind (kas_mapM (r := Value.type "tuple") _ (fun v hv Q' hq => (hT v hv).here hq) (wpAny_pure ?_))))
    have hall : ((List.map (fun _ => Value.type "tuple") (v₁ :: rest)).toArray.all fun x => x == Value.type "tuple") = true := by
      simp only [List.all_toArray, List.all_map, List.all_eq_true]
      intro _ _
      exact beq_self_eq_true _
    have h0 : (List.map (fun _ => Value.type "tuple") (v₁ :: rest)).toArray[0]? = some (Value.type "tuple") := by simp
    rw [h0]
    simp only [hall, if_true]
    exact wpAny_pure (wpAny_pure h)
end
section
variable {prog : Program} {w : World} {A : Around} {s : Shared}
theorem tup_reads {v : Value} {xs : List PyData} {as : List Addr} (r : Reads s.heap v (.tuple xs) as) : ∃ a o ys n, v = .ref a ∧ s.heap.get? a = some o ∧ o.cls = .type "tuple" ∧ o.data = .seq ys n ∧ ys.size = xs.length := by
  cases r with
  | @tuple l o vs n _ as₁ h1 h2 h3 h4 => exact ⟨l, o, vs, n, rfl, h1, h2, h3, by simpa using ReadsAll.length _ _ _ h4⟩
theorem sortsAt_empty {vs : List Value} {ds : List PyData} (e : EachIs (fun v d => ∃ as, Reads s.heap v d as) vs (.tuple [] :: ds)) (hal : AllAlike (.tuple [] :: ds)) (hk : ∀ d ∈ ds, ∃ xs, d = .tuple xs) (hu : ∀ d, d ∈ PyData.tuple [] :: ds → A.units + d.depth < cLine) : SortsAt prog w A s (dataKind s.heap (.tuple [] :: ds)) vs := by
  have tp : ∀ d ∈ PyData.tuple [] :: ds, ∃ xs, d = .tuple xs := fun d hd => by
    rcases List.mem_cons.mp hd with rfl | hd
    · exact ⟨[], rfl⟩
    · exact hk d hd
  refine ⟨fun v hv => ?_, oneType', ?_, fun h2 E Q hq => ?_⟩
  · obtain ⟨d, hd, as, r⟩ := e.left v hv
    exact ⟨_, dataKind_some hal hd r⟩
  · intro E x y a b Q ha hb hq
    obtain ⟨d, as, hd, ra, rfl⟩ := dataKind_inv ha
    obtain ⟨d', as', hd', rb, rfl⟩ := dataKind_inv hb
    obtain ⟨xs, rfl⟩ := tp d hd
    obtain ⟨ys, rfl⟩ := tp d' hd'
    rw [keyLt'_oneType]
    exact oneLt_tup ra rb (hal _ hd _ hd') (Nat.lt_of_le_of_lt (Nat.add_le_add_left (Nat.min_le_left _ _) _) (hu _ hd)) hq
  · cases e with
    | cons h t =>
      obtain ⟨as, r⟩ := h
      obtain ⟨a, o, ys, n, e1, ho, hc, hd, hz⟩ := tup_reads r
      have : ys = #[] := Array.eq_empty_of_size_eq_zero hz
      subst this
      refine kind_empty ⟨a, o, n, e1, ho, hc, hd⟩ (fun v hv => ?_) hq
      obtain ⟨d, hd2, as2, r2⟩ := t.left v hv
      obtain ⟨xs, rfl⟩ := hk d hd2
      obtain ⟨a, o, ys, n, e1, ho, hc, hd, _⟩ := tup_reads r2
      exact ⟨a, o, ys, n, e1, ho, hc, hd⟩
variable {E : Value → Shared → Prop} {β : Type} {vs : List Value} {bs : List β} {enc : β → PyData} {R : Value → β → Prop}
theorem sorted_empty {l : Addr} {Q : Value → Shared → Prop} {ds : List PyData} (hb : bs.map enc = .tuple [] :: ds) (hl : s.heap.IsList l vs.toArray) (e : EachIs R vs bs) (er : EachIs (fun v b => ∃ as, Reads s.heap v (enc b) as) vs bs) (hal : AllAlike (bs.map enc)) (hk : ∀ d ∈ ds, ∃ xs, d = .tuple xs) (hL : bs.length ≤ sizeLine)
    (hu : ∀ b, b ∈ bs → A.units + 2 + (enc b).depth < cLine) (h : ∀ out, out.length = bs.length → EachIs R out (bs.mergeSort (dataLe false enc)) → Q (.ref (s.heap.objs.size + 1)) { s with heap := sortedAll s.heap vs (List.toArray out) }) :
    wpAny (model prog w) A (call (.builtin "sorted") [.ref l]) Q E s := by
  have er' : EachIs (fun v b => ∃ as, Reads (sortingHeap (copyHeap s.heap vs) (s.heap.objs.size + 1) vs) v (enc b) as) vs bs := er.mono fun _ _ ⟨as, r⟩ => ⟨as, PyProof.Rows.Reads.keeps (fun _ _ => sorting_copy_old) r⟩
  have em := each_map (R := fun v d => ∃ as, Reads (sortingHeap (copyHeap s.heap vs) (s.heap.objs.size + 1) vs) v d as) enc er'
  have S : SortsAt prog w A.in1.in1 { s with heap := sortingHeap (copyHeap s.heap vs) (s.heap.objs.size + 1) vs } (dataKind (sortingHeap (copyHeap s.heap vs) (s.heap.objs.size + 1) vs) (bs.map enc)) vs := by
    have hu' := bound_map (A := A.in1.in1) hu
    rw [hb] at em hal hu' ⊢
    exact sortsAt_empty (s := { s with heap := sortingHeap (copyHeap s.heap vs) (s.heap.objs.size + 1) vs }) em hal hk hu'
  exact sorted_vals hl S (by rw [e.length]; exact hL) (h _ (by rw [sortVals_length false rfl]; exact e.length) (sortVals_data false e er' hal))
end
end LDS
namespace LD
open PySem PySem.Spec L2 PyProof.Rows
/-- what can be sorted: as the lower library has it, or tuples, the first one empty -/
def SortOk (ds : List D) : Prop := PySem.W.Sortable ds ∨ ∃ r, ds = .tuple [] :: r ∧ ∀ d ∈ r, ∃ xs, d = .tuple xs
def rSortE (K : PySem.W.Frag) : List V → Hp → VK → Prop := fun vs H Q => ∃ (a : Addr) (xs : List V) (ds : List D), vs = [.ref a] ∧ SqL K H a xs ∧ DpAll K H xs ds ∧ PySem.W.AllAlike ds ∧ SortOk ds ∧ PyData.depthAll ds ≤ 50 ∧
  ∀ (ys : List V) (p : Addr), ys.length = ds.length → (∀ Hi, DpAll K Hi xs ds → DpAll K Hi ys (ds.mergeSort leD)) → H p = none → Q (.ref p) (upd H p (.lst ys))
theorem cr_sortE {X : Cx} (hu : X.A.units + 64 < cLine) : CallR X (.builtin "sorted") (rSortE X.K) := by
  intro pins s σ H vs us Q I r h
  obtain ⟨a, xs, ds, rfl, hs, hd, ha, hb, hz, q⟩ := h
  rcases hb with hb | ⟨rs, hb, hk⟩
  · exact cr_sortD hu pins s σ H _ us Q I r ⟨a, xs, ds, rfl, hs, hd, ha, hb, hz, q⟩
  obtain ⟨its, rv, hl, hsz⟩ := I.list hs
  rw [Vals.ref1 r]
  obtain ⟨as, hr⟩ := Dp.readsAll I _ xs its hd rv
  have el := dpAll_len hd
  have em : (xs.zip ds).map Prod.snd = ds := List.map_snd_zip (by omega)
  have en : (xs.zip ds).length = ds.length := by rw [List.length_zip]; omega
  refine LDS.sorted_empty (bs := xs.zip ds) (enc := Prod.snd) (by rw [em]; exact hb) hl.isList (each_vals rv el) (each_reads hr el) (by rw [em]; exact ha) hk (by rw [en, ← el]; exact hsz) (fun b hb => ?_) fun out ho he => ?_
  · have := depth_mem (List.of_mem_zip (a := b.1) (b := b.2) hb).2
    omega
  have hv := vals_each he
  generalize hzs : (xs.zip ds).mergeSort (PySem.W.dataLe false Prod.snd) = zs at hv
  have hp : ∀ z ∈ zs, z ∈ xs.zip ds := fun z h => by
    rw [← hzs] at h
    exact (List.mergeSort_perm _ _).mem_iff.mp h
  have hlz : zs.length = ds.length := by rw [← hzs, (List.mergeSort_perm _ _).length_eq, en]
  have es : zs.map Prod.snd = ds.mergeSort leD := by
    rw [← hzs, List.map_mergeSort (s := leD) (fun x _ y _ => by rw [PySem.W.dataLe_eq]; rfl), em]
  obtain ⟨ep, he'⟩ := PyProof.Rows.sortedAll_at s.heap its out.toArray
  have hlen : (zs.map Prod.fst).length ≤ sizeLine := by rw [List.length_map, hlz, ← el]; exact hsz
  refine ⟨.ref _, upd H (s.heap.objs.size + 1) (.lst (zs.map Prod.fst)), I.laid (t' := s.toks) (fun _ _ => PyProof.Rows.sortedAll_old) (Nat.le_succ _) ⟨hlen, out, ep, hv, he'⟩, rfl, q _ _ (by rw [List.length_map, hlz]) (fun Hi h => ?_) (I.hok.fresh (Nat.le_succ _))⟩
  rw [← es]
  exact dp_unzip fun z hz => dp_zip h z (hp z hz)
section
variable {K : PySem.W.Frag} {ta tb : TE} {a b : TD}
def cSortE : CF := fun es P => ∃ ds, es = [.list ds] ∧ PySem.W.AllAlike ds ∧ SortOk ds ∧ PyData.depthAll ds ≤ 50 ∧ P (ds.mergeSort leD)
theorem scf_sortE : SCF K (rSortE K) cSortE := ⟨fun a P P' h ⟨ds, e, h1, h2, h3, q⟩ => ⟨ds, e, h1, h2, h3, h _ q⟩, fun F σ H ρ vs ds xs es Q e R ⟨fs, h, h1, h2, h3, q⟩ => by
  subst h
  obtain ⟨x, r, rfl, e1⟩ := len_cons e
  obtain rfl := len_nil e1
  obtain ⟨p, ys, rfl, e2, s, R1⟩ := Rel.asList R
  refine ⟨p, ys, fs, rfl, s, (dpAll_split e2 R1.dpAll).1, h1, h2, h3, fun zs l hz hd hl => q zs H l (by rw [(List.mergeSort_perm _ _).length_eq]; exact hz) (R1.swap fun Hi h => ?_) hl⟩
  obtain ⟨g1, g2⟩ := dpAll_split e2 h
  cases g2 with | cons _ g2 => exact dpAll_app (hd Hi g1) g2⟩
/-! tuple(range(..)) -/
def dTg1 (a : TD) : TD := fun ρ P => a ρ fun r d => ∃ n, d = .int n ∧ RgOk 0 n ∧ P r (.tuple (rngD 0 n.toNat))
theorem se_tg1 (sa : SE K ta a) : SE K (tTupRg (tRg1 ta)) (dTg1 a) := by
  refine ⟨fun ρ P P' h q => sa.mono _ _ _ (fun r d ⟨n, e, h1, q⟩ => ⟨n, e, h1, h _ _ q⟩) q, fun F σ H ρ vs ds Q R q => ?_⟩
  refine sa.run F σ H ρ vs ds _ R (sa.mono _ _ _ (fun r d q v H1 R1 => ?_) q)
  obtain ⟨n, rfl, h1, q⟩ := q
  obtain rfl := R1.int
  refine ⟨n, rfl, h1, fun p hp => q _ _ ?_⟩
  have R2 := R1.drop
  have e : (rgV 0 n).length = (rngD 0 n.toNat).length := by
    have := dpAll_len (rgV_dp (K := K) (Hi := H1) 0 n)
    rw [Int.sub_zero] at this
    exact this
  refine Rel.tup (xs := rgV 0 n) (es := rngD 0 n.toNat) (R2.swap fun Hi h => ?_) e hp
  have := rgV_dp (K := K) (Hi := Hi) 0 n
  rw [Int.sub_zero] at this
  exact dpAll_app this h
end
/-! texts in lists of texts -/
theorem sh_str {x : Str} (h : PyData.strOk x = true) : SeqAt.shaped (.str x) = true := by
  unfold SeqAt.shaped
  simp [PyData.canLay0, PyData.depth, h]
end LD
namespace LD
open PySem PySem.Spec L2 PyProof.Rows
/-! walks over a list or a tuple, whichever it is -/
section
variable {X : Cx} {tg : Expr}
def iSeq (K : PySem.W.Frag) (tl : TE) : TI := fun σ H R => tl σ H fun x H1 => ∃ a, x = .ref a ∧ (((∃ xs, SqL K H1 a xs) ∧ R (Itl K a) H1) ∨ ((∃ xs, SqT K H1 a xs) ∧ R (Itt K a) H1))
theorem pi_seq {l : Expr} {tl : TE} (hl : PE X l tl) : PI X tg l (iSeq X.K tl) := by
  refine ⟨fun pins s σ H R I h => ?_⟩
  refine thn (hl.run pins s σ H _ I h) fun v s1 ⟨x, H1, I1, r1, q1⟩ => ?_
  obtain ⟨a, e, q⟩ := q1
  subst e
  cases r1
  rcases q with ⟨⟨xs, hq⟩, q⟩ | ⟨⟨xs, hq⟩, q⟩
  · obtain ⟨its, rv, p, hz⟩ := I1.list hq
    refine wpAny_pyIter_list p.isList ?_
    refine ⟨s1.heap.objs.size, [s1.heap.objs.size], _, _, H1, rfl, I1.kept (t' := s1.toks) fun b o e => Heap.get?_push_of_some _ e, turn_list a _, ⟨_, Heap.get?_push_size _ rfl, rfl, rfl⟩, fun b hb => ?_, q⟩
    have e : b = s1.heap.objs.size := by simpa using hb
    subst e
    exact I1.fpOk (Nat.le_refl _) (I1.hok.fresh (Nat.le_refl _))
  · obtain ⟨its, rv, p, hz⟩ := I1.tuple hq
    refine wpAny_pyIter_tuple (show s1.heap.IsTuple a its.toArray from p) ?_
    refine ⟨s1.heap.objs.size, [s1.heap.objs.size], _, _, H1, rfl, I1.kept (t' := s1.toks) fun b o e => Heap.get?_push_of_some _ e, turn_tuple a _, ⟨_, Heap.get?_push_size _ rfl, rfl, rfl⟩, fun b hb => ?_, q⟩
    have e : b = s1.heap.objs.size := by simpa using hb
    subst e
    exact I1.fpOk (Nat.le_refl _) (I1.hok.fresh (Nat.le_refl _))
end
section
variable {K : PySem.W.Frag} {ta : TE} {a : TD}
def iS (a : TD) : TDI := fun ρ P => a ρ fun r d => ∃ es, (d = .list es ∨ d = .tuple es) ∧ P r es
theorem si_seq (sa : SE K ta a) : SI K (iSeq K ta) (iS a) := by
  refine ⟨fun ρ P P' h q => sa.mono _ _ _ (fun _ d ⟨es, e, q⟩ => ⟨es, e, h _ _ q⟩) q, fun F σ H ρ vs ds Q R q => ?_⟩
  refine sa.run F σ H ρ vs ds _ R (sa.mono _ _ _ (fun r d q v H1 R1 => ?_) q)
  obtain ⟨es, e, q⟩ := q
  rcases e with e | e
  · subst e
    obtain ⟨p, xs, rfl, e2, s, R2⟩ := R1.asList
    exact ⟨p, rfl, .inl ⟨⟨xs, s⟩, q _ _ [.ref p] [.list es] rfl walks_list R1⟩⟩
  · subst e
    obtain ⟨p, xs, rfl, e2, s, R2⟩ := R1.asTup
    exact ⟨p, rfl, .inr ⟨⟨xs, s⟩, q _ _ [.ref p] [.tuple es] rfl walks_tup R1⟩⟩
end
end LD
namespace LD
open PySem PySem.Spec L2 PyProof.Rows
section
variable {K : PySem.W.Frag}
theorem strs_of {H : Hp} : ∀ (ss : List Str) (vs : List V), DpAll K H vs (ss.map PyData.str) → vs = ss.map V.str
  | [], _, h => by cases h; rfl
  | s :: ss, _, h => by
    cases h with
    | cons a b => cases a; rw [strs_of ss _ b]; rfl
theorem inV_strs (x : Str) : ∀ ss : List Str, inV (.str x) (ss.map V.str) = decide (x ∈ ss)
  | [] => rfl
  | n :: ns => by
    have ih := inV_strs x ns
    unfold inV at ih ⊢
    rw [List.map_cons, List.any_cons, ih]
    have e : eqV (.str n) (.str x) = (n == x) := rfl
    rw [e]
    by_cases h : n = x
    · subst h; simp
    · have h' : ¬ x = n := fun z => h z.symm
      simp [h, h']
theorem flat_strs : ∀ ns : List Str, (ns.map V.str).all flatV = true
  | [] => rfl
  | n :: ns => by rw [List.map_cons, List.all_cons, flat_strs ns]; rfl
/-- a text in a list of texts -/
def oInS (n : Bool) : OD := fun a b P => ∃ (x : Str) (ss : List Str), a = .str x ∧ b = .list (ss.map PyData.str) ∧ P (.bool (if n = true then !decide (x ∈ ss) else decide (x ∈ ss)))
theorem so_inS (n : Bool) : SO K (rIn K n) (oInS n) := ⟨fun a b P P' h ⟨i, ns, e, h1, q⟩ => ⟨i, ns, e, h1, h _ q⟩, fun F σ H ρ vs ds x y a b Q R ⟨i, ns, e, h1, q⟩ => by
  subst e
  subst h1
  have ex : x = .str i := by
    obtain ⟨Hi, own, R'⟩ := R.drop
    have t := R'.tmp
    cases t with | cons a _ => cases a; rfl
  subst ex
  obtain ⟨p, xs, rfl, e, s, R1⟩ := R.asList
  obtain rfl := strs_of (K := K) ns xs (dpAll_split e R1.dpAll).1
  refine ⟨p, _, rfl, .inl s, rfl, flat_strs ns, ?_⟩
  rw [inV_strs]
  cases n with
  | true => exact q _ _ (R.drop.drop.push (v := .bl (!decide (i ∈ ns))) rfl)
  | false => exact q _ _ (R.drop.drop.push (v := .bl (decide (i ∈ ns))) rfl)⟩
end
end LD

/-! LD36: slots that know any objects of their own; dicts whose keys are ints. -/
namespace LD
open PySem PySem.Spec L2 PyProof.Rows
section
variable {K : PySem.W.Frag} {F : Fx} {σ : L2.St} {H : Hp} {ρ : Rho} {vs ws : List V} {ds es : List D}
theorem Rel.obAt {i : Nat} {p : Addr} {as : List Addr} {φ : PySem.W.Frag → Hp → Hp → Prop} (R : Rel K F σ H ρ vs ds) (h : ρ[i]? = some (.ob p as φ)) :
    σ[i]? = some (some (.ref p)) ∧ ∃ Hi own, RelI K F σ H ρ vs ds Hi own ∧ own i = as ∧ φ K Hi H := by
  obtain ⟨Hi, own, R⟩ := R
  obtain ⟨e, eo, q⟩ := R.slot i _ h
  have e' : σ[i]? = some (some (.ref p)) := by
    cases z : σ[i]? with
    | none => rw [z] at e; cases e
    | some y => rw [z] at e; exact congrArg some e
  exact ⟨e', Hi, own, R, eo, q Hi H (Same.refl _) fun _ _ _ z => z⟩
/-- one of slot i's objects is turned -/
theorem Rel.turnOb {i : Nat} {p b : Addr} {as : List Addr} {o' : HO} {φ φ' : PySem.W.Frag → Hp → Hp → Prop} (R : Rel K F σ H ρ vs ds) (h : ρ[i]? = some (.ob p as φ)) (hb : b ∈ as)
    (hz : ∀ Hi, Same Hi H → DpAll K Hi vs ds → φ K Hi H → (∀ Hi' H', Same Hi Hi' → (∀ c ∈ as, ∀ o, (upd H b o') c = some o → H' c = some o) → φ' K Hi' H') ∧ DpAll K Hi ws es) :
    Rel K F σ (upd H b o') (ρ.set i (.ob p as φ')) ws es := by
  obtain ⟨Hi, own, R⟩ := R
  obtain ⟨e, eo, q⟩ := R.slot i _ h
  have hi : i < ρ.length := (List.getElem?_eq_some_iff.mp h).1
  obtain ⟨y1, y2⟩ := hz Hi R.sub R.tmp (q Hi H (Same.refl _) fun _ _ _ z => z)
  have bo : b ∈ own i := by rw [eo]; exact hb
  have np : Hi b = none := R.free i b bo
  have no : ∀ j, j ≠ i → ∀ a ∈ own j, a ≠ b := fun j hj a ha z => R.sep j i hj a ha (by rw [z]; exact bo)
  refine ⟨Hi, own, ⟨R.base, fun c x z => ?_, R.new, fun c o z hn => ?_, fun c z => ?_, by rw [List.length_set]; exact R.len, fun j x z => ?_, R.free, fun j a ha => ?_, R.nown, R.sep, fun j es' z => ?_, fun z hz => ?_, y2⟩⟩
  · rw [upd_ne (fun w => by rw [w, np] at z; cases z)]; exact R.sub c x z
  · have nb : c ≠ b := fun w => by
      rcases R.nown i b bo with q | q
      · rw [w, q] at z; cases z
      · exact hn (by rw [w]; exact q)
    rw [upd_ne nb]; exact R.keep c o z hn
  · by_cases hc : c = b
    · rw [hc, upd_same]; simp
    · rw [upd_ne hc]; exact R.dom c z
  · by_cases hj : j = i
    · subst hj
      rw [List.getElem?_set_self hi] at z
      cases z
      exact ⟨e, eo, y1⟩
    · rw [List.getElem?_set_ne (Ne.symm hj)] at z
      exact (R.slot j x z).grow (Same.refl _) fun a ha o w => by rw [upd_ne (no j hj a ha)]; exact w
  · by_cases hap : a = b
    · rw [hap, upd_same]; simp
    · rw [upd_ne hap]; exact R.held j a ha
  · by_cases hj : j = i
    · subst hj
      rw [List.getElem?_set_self hi] at z
      cases z
    · rw [List.getElem?_set_ne (Ne.symm hj)] at z
      exact R.nls j es' z
  · obtain ⟨z1, z2, z3⟩ := R.pin z hz
    have nz : z.1 ≠ b := fun w => z3 i (by rw [w]; exact bo)
    exact ⟨by rw [upd_ne nz]; exact z1, z2, z3⟩
end
/-! ### dicts whose keys are ints -/
abbrev KI := List (Int × V × D)
def hoI (zs : KI) : List (L2.Key × V) := zs.map fun z => (Sum.inl z.1, z.2.1)
def kvI (zs : KI) : List (Int × D) := zs.map fun z => (z.1, z.2.2)
def dkφ (p : Addr) (zs : KI) : PySem.W.Frag → Hp → Hp → Prop := fun K Hi H => H p = some (.dK (hoI zs)) ∧ ∀ z ∈ zs, Dp K Hi z.2.1 z.2.2
abbrev DV.dk (p : Addr) (zs : KI) : DV := .ob p [p] (dkφ p zs)
theorem dk_grow {K : PySem.W.Frag} {p : Addr} {zs : KI} {Hi H : Hp} (h : dkφ p zs K Hi H) : ∀ Hi' H', Same Hi Hi' → (∀ b ∈ [p], ∀ o, H b = some o → H' b = some o) → dkφ p zs K Hi' H' :=
  fun Hi' H' e g => ⟨g p (List.mem_singleton.mpr rfl) _ h.1, fun z hz => dp_mono e _ _ (h.2 z hz)⟩
def lookE1 (zs : KI) (k : Int) : Option (Int × V × D) := zs.find? fun z => decide (z.1 = k)
def lookJ (kvs : List (Int × D)) (k : Int) : Option D := (kvs.find? fun p => decide (p.1 = k)).map (·.2)
def putJ (kvs : List (Int × D)) (k : Int) (d : D) : List (Int × D) := if (lookJ kvs k).isSome then kvs.map fun p => if p.1 = k then (p.1, d) else p else kvs ++ [(k, d)]
def putE1 (zs : KI) (k : Int) (v : V) (d : D) : KI := if (lookE1 zs k).isSome then zs.map fun z => if z.1 = k then (z.1, v, d) else z else zs ++ [(k, v, d)]
theorem look_V (zs : KI) (k : Int) : valV (hoI zs) (.inl k) = (lookE1 zs k).map (·.2.1) := by
  unfold valV hoI lookE1
  induction zs with
  | nil => rfl
  | cons z zs ih =>
    rw [List.map_cons, List.find?_cons, List.find?_cons]
    by_cases h : z.1 = k
    · rw [decide_eq_true (show (Sum.inl z.1 : L2.Key) = .inl k by rw [h]), decide_eq_true h]
      rfl
    · rw [decide_eq_false (show ¬ (Sum.inl z.1 : L2.Key) = .inl k from fun w => h (Sum.inl.inj w)), decide_eq_false h]
      exact ih
theorem look_J (zs : KI) (k : Int) : lookJ (kvI zs) k = (lookE1 zs k).map (·.2.2) := by
  unfold lookJ kvI lookE1
  induction zs with
  | nil => rfl
  | cons z zs ih =>
    rw [List.map_cons, List.find?_cons, List.find?_cons]
    by_cases h : z.1 = k
    · rw [decide_eq_true (show (z.1, z.2.2).1 = k from h)]
      rfl
    · rw [decide_eq_false (show ¬ (z.1, z.2.2).1 = k from h)]
      exact ih
theorem look_mem {zs : KI} {k : Int} {z : Int × V × D} (h : lookE1 zs k = some z) : z ∈ zs ∧ z.1 = k := ⟨List.mem_of_find?_eq_some h, of_decide_eq_true (show decide (z.1 = k) = true from List.find?_some (p := fun z : Int × V × D => decide (z.1 = k)) h)⟩
theorem put_V (zs : KI) (k : Int) (v : V) (d : D) : putK (hoI zs) (.inl k) v = hoI (putE1 zs k v d) := by
  have e : (hoI zs).any (fun kv => decide (kv.1 = (.inl k : L2.Key))) = (lookE1 zs k).isSome := by
    rw [valV_any, look_V, Option.isSome_map]
  unfold putK putE1
  rw [e]
  cases h : (lookE1 zs k).isSome with
  | false =>
    rw [if_neg (by decide), if_neg (by decide)]
    unfold hoI
    rw [List.map_append]
    rfl
  | true =>
    rw [if_pos rfl, if_pos rfl]
    unfold hoI
    rw [List.map_map, List.map_map]
    refine List.map_congr_left fun z _ => ?_
    show (if (Sum.inl z.1 : L2.Key) = .inl k then ((Sum.inl z.1 : L2.Key), v) else (.inl z.1, z.2.1)) = ((Sum.inl (if z.1 = k then (z.1, v, d) else z).1 : L2.Key), (if z.1 = k then (z.1, v, d) else z).2.1)
    by_cases hk : z.1 = k
    · rw [if_pos (by rw [hk]), if_pos hk]
    · rw [if_neg (fun w => hk (Sum.inl.inj w)), if_neg hk]
theorem put_J (zs : KI) (k : Int) (v : V) (d : D) : kvI (putE1 zs k v d) = putJ (kvI zs) k d := by
  unfold putE1 putJ
  rw [look_J, Option.isSome_map]
  cases h : (lookE1 zs k).isSome with
  | false =>
    rw [if_neg (by decide), if_neg (by decide)]
    unfold kvI
    rw [List.map_append]
    rfl
  | true =>
    rw [if_pos rfl, if_pos rfl]
    unfold kvI
    rw [List.map_map, List.map_map]
    refine List.map_congr_left fun z _ => ?_
    show ((if z.1 = k then (z.1, v, d) else z).1, (if z.1 = k then (z.1, v, d) else z).2.2) = if z.1 = k then (z.1, d) else (z.1, z.2.2)
    by_cases hk : z.1 = k
    · rw [if_pos hk, if_pos hk]
    · rw [if_neg hk, if_neg hk]
theorem putE1_dp {K : PySem.W.Frag} {Hi : Hp} {zs : KI} {k : Int} {v : V} {d : D} (hz : ∀ z ∈ zs, Dp K Hi z.2.1 z.2.2) (hv : Dp K Hi v d) : ∀ z ∈ putE1 zs k v d, Dp K Hi z.2.1 z.2.2 := fun z hm => by
  unfold putE1 at hm
  split at hm
  · obtain ⟨y, hy, rfl⟩ := List.mem_map.mp hm
    split
    · exact hv
    · exact hz y hy
  · rcases List.mem_append.mp hm with h | h
    · exact hz z h
    · rw [List.mem_singleton.mp h]
      exact hv
section
variable {X : Cx}
def rInK (neg : Bool) : R2 := fun x y H Q => ∃ a kvs k, y = .ref a ∧ x = .int k ∧ H a = some (.dK kvs) ∧ Q (.bl (if neg = true then !(valV kvs (.inl k)).isSome else (valV kvs (.inl k)).isSome)) H
theorem op_inK (hu : X.A.units + 1 < cLine) : OpR X (compareOp .In) (rInK false) := by
  intro pins s σ H x y v u Q I rx ry h
  obtain ⟨a, kvs, k, rfl, rfl, ha, q⟩ := h
  cases ry
  exact d_in hu I (DGet.k (k := .inl k) ha) rx fun s' I' => ⟨.bl _, H, I', rfl, q⟩
theorem op_notInK (hu : X.A.units + 1 < cLine) : OpR X (compareOp .NotIn) (rInK true) := by
  intro pins s σ H x y v u Q I rx ry h
  obtain ⟨a, kvs, k, rfl, rfl, ha, q⟩ := h
  cases ry
  exact d_notIn hu I (DGet.k (k := .inl k) ha) rx fun s' I' => ⟨.bl _, H, I', rfl, q⟩
end
section
variable {K : PySem.W.Frag} {tb tk : TE} {b k : TD}
/-- x = {} -/
def dNewK (i : Nat) : TDS := fun dn ρ => i < ρ.length ∧ ∀ p, dn.nx (ρ.set i (.dk p []))
theorem ss_newK {i : Nat} : SS K (tAsg tDNewK (gName i)) (dNewK i) := ⟨fun a b ρ h q => ⟨q.1, fun p => h.nx _ (q.2 p)⟩, fun F σ H ρ vs ds E dn G R q p hp => G.nx _ _ _ (R.keepNew (x := .dk p []) hp q.1 fun Hi s => ⟨rfl, rfl, dk_grow ⟨upd_same, fun _ h => by cases h⟩⟩) (q.2 p)⟩
/-- x[e] -/
def dIxK (i : Nat) (b : TD) : TD := fun ρ P => (∃ p zs, ρ[i]? = some (.dk p zs)) ∧ b ρ fun r y => ∃ p zs k d, r[i]? = some (.dk p zs) ∧ y = .int k ∧ lookJ (kvI zs) k = some d ∧ P r d
theorem se_ixK (i : Nat) (sb : SE K tb b) : SE K (tDGet (tVar i) tb) (dIxK i b) := by
  refine ⟨fun ρ P P' h ⟨q0, q⟩ => ⟨q0, sb.mono _ _ _ (fun r y ⟨p, zs, k, d, e, e1, e2, q⟩ => ⟨p, zs, k, d, e, e1, e2, h _ _ q⟩) q⟩, fun F σ H ρ vs ds Q R q => ?_⟩
  obtain ⟨⟨p, zs0, e0⟩, q⟩ := q
  obtain ⟨e1, _⟩ := R.obAt e0
  refine ⟨.ref p, e1, sb.run F σ H ρ vs ds _ R (sb.mono _ _ _ (fun r y q v H1 R1 => ?_) q)⟩
  obtain ⟨p2, zs, k, d, e, rfl, el, q3⟩ := q
  obtain rfl := R1.int
  obtain ⟨e2, Hi, own, R2, _, hp, hd⟩ := R1.drop.obAt e
  rw [e1] at e2
  cases e2
  rw [look_J] at el
  cases hz : lookE1 zs k with
  | none => rw [hz] at el; cases el
  | some z =>
    rw [hz] at el
    obtain rfl : z.2.2 = d := Option.some.inj el
    refine ⟨p, z.2.1, rfl, ?_, q3 _ _ ⟨Hi, own, R2.tmpTo (.cons (hd z (look_mem hz).1) R2.tmp)⟩⟩
    have := DGet.k (k := .inl k) hp
    rw [look_V, hz] at this
    exact this
/-- e in x -/
def dInK (n : Bool) (i : Nat) (b : TD) : TD := fun ρ P => b ρ fun r y => ∃ p zs k, r[i]? = some (.dk p zs) ∧ y = .int k ∧ P r (.bool (if n = true then !(lookJ (kvI zs) k).isSome else (lookJ (kvI zs) k).isSome))
theorem se_inK (n : Bool) (i : Nat) (sb : SE K tb b) : SE K (tOp (rInK n) tb (tVar i)) (dInK n i b) := by
  refine ⟨fun ρ P P' h q => sb.mono _ _ _ (fun r y ⟨p, zs, k, e, e1, q⟩ => ⟨p, zs, k, e, e1, h _ _ q⟩) q, fun F σ H ρ vs ds Q R q => ?_⟩
  refine sb.run F σ H ρ vs ds _ R (sb.mono _ _ _ (fun r y q v H1 R1 => ?_) q)
  obtain ⟨p, zs, k, e, rfl, q3⟩ := q
  obtain rfl := R1.int
  obtain ⟨e2, Hi, own, R2, _, hp, hd⟩ := R1.drop.obAt e
  refine ⟨.ref p, e2, p, _, k, rfl, rfl, hp, ?_⟩
  rw [look_V, Option.isSome_map]
  rw [look_J, Option.isSome_map] at q3
  cases n with
  | true => exact q3 (.bl (!(lookE1 zs k).isSome)) _ ⟨Hi, own, R2.tmpTo (.cons (.bl _) R2.tmp)⟩
  | false => exact q3 (.bl (lookE1 zs k).isSome) _ ⟨Hi, own, R2.tmpTo (.cons (.bl _) R2.tmp)⟩
/-- x[k] = e -/
def dSetK (i : Nat) (b k : TD) : TDS := fun dn ρ => b ρ fun r d => (∃ p zs, r[i]? = some (.dk p zs)) ∧ k r fun r2 y => ∃ p zs n, r2[i]? = some (.dk p zs) ∧ y = .int n ∧ zs.length < sizeLine ∧ ∀ zs', kvI zs' = putJ (kvI zs) n d → dn.nx (r2.set i (.dk p zs'))
theorem ss_setK (i : Nat) (sb : SE K tb b) (sk : SE K tk k) : SS K (sDPut (tVar i) tk tb) (dSetK i b k) := by
  refine ⟨fun a b ρ h q => sb.mono _ _ _ (fun r d ⟨q0, q⟩ => ⟨q0, sk.mono _ _ _ (fun r2 y ⟨p, zs, ks, e, e1, e2, q⟩ => ⟨p, zs, ks, e, e1, e2, fun zs' hz => h.nx _ (q zs' hz)⟩) q⟩) q, fun F σ H ρ vs ds E dn G R q => ?_⟩
  refine sb.run F σ H ρ vs ds _ R (sb.mono _ _ _ (fun r d q v H1 R1 => ?_) q)
  obtain ⟨⟨p, zs0, e0⟩, q⟩ := q
  obtain ⟨e1, _⟩ := R1.obAt e0
  refine ⟨.ref p, e1, sk.run F σ H1 r _ _ _ R1 (sk.mono _ _ _ (fun r2 y q w H2 R2 => ?_) q)⟩
  obtain ⟨p2, zs, n, e, rfl, ez, q3⟩ := q
  obtain rfl := R2.int
  obtain ⟨e2, Hi, own, R3, _, hp, hd⟩ := R2.drop.obAt e
  rw [e1] at e2
  cases e2
  refine ⟨p, _, rfl, DPut.k (k := .inl n) hp (by unfold hoI; rw [List.length_map]; exact ez), ?_⟩
  rw [put_V zs n v d]
  refine G.nx _ _ _ (R2.drop.turnOb (φ' := dkφ p (putE1 zs n v d)) e (List.mem_singleton.mpr rfl) fun Hi s h q => ?_) (q3 (putE1 zs n v d) (put_J zs n v d))
  cases h with
  | cons a b => exact ⟨dk_grow ⟨upd_same, putE1_dp q.2 a⟩, b⟩
/-- x.get(k, e) -/
def dGetK (i : Nat) (k b : TD) : TD := fun ρ P => (∃ p zs, ρ[i]? = some (.dk p zs)) ∧ k ρ fun r y => b r fun r2 d => ∃ p zs n, r2[i]? = some (.dk p zs) ∧ y = .int n ∧ P r2 ((lookJ (kvI zs) n).getD d)
theorem se_getK (i : Nat) (sk : SE K tk k) (sb : SE K tb b) : SE K (tDGet2 (tVar i) tk tb) (dGetK i k b) := by
  refine ⟨fun ρ P P' h ⟨q0, q⟩ => ⟨q0, sk.mono _ _ _ (fun r y q => sb.mono _ _ _ (fun r2 d ⟨p, zs, ks, e, e1, q⟩ => ⟨p, zs, ks, e, e1, h _ _ q⟩) q) q⟩, fun F σ H ρ vs ds Q R q => ?_⟩
  obtain ⟨⟨p, zs0, e0⟩, q⟩ := q
  obtain ⟨e1, Hi0, own0, R0, _, hp0, _⟩ := R.obAt e0
  refine ⟨.ref p, e1, p, rfl, .inl ⟨_, .inl hp0⟩, sk.run F σ H ρ vs ds _ R (sk.mono _ _ _ (fun r y q w H1 R1 => ?_) q)⟩
  refine sb.run F σ H1 r _ _ _ R1 (sb.mono _ _ _ (fun r2 d q v H2 R2 => ?_) q)
  obtain ⟨p2, zs, n, e, rfl, q3⟩ := q
  have ew : w = .int n := by
    obtain ⟨_, _, R3⟩ := R2.drop
    have t := R3.tmp
    cases t with | cons a _ => cases a; rfl
  subst ew
  obtain ⟨e2, Hi, own, R3, _, hp, hd⟩ := R2.obAt e
  rw [e1] at e2
  cases e2
  have tm := R3.tmp
  cases tm with
  | cons t1 t2 =>
    cases t2 with
    | cons t3 t4 =>
      refine ⟨_, DGet.k (k := .inl n) hp, ?_⟩
      rw [look_V]
      rw [look_J] at q3
      cases hz : lookE1 zs n with
      | none =>
        rw [hz] at q3
        exact q3 _ _ ⟨Hi, own, R3.tmpTo (.cons t1 t4)⟩
      | some z =>
        rw [hz] at q3
        exact q3 _ _ ⟨Hi, own, R3.tmpTo (.cons (hd z (look_mem hz).1) t4)⟩
end
end LD

/-! LD37: dicts that expressions make, that defs are given and hand back. -/
namespace LD
open PySem PySem.Spec L2 PyProof.Rows
section
variable {K : PySem.W.Frag} {F : Fx} {σ τ : L2.St} {H : Hp} {ρ θ : Rho} {vs ws : List V} {ds es : List D}
/-- one more slot behind all others -/
theorem RelI.addSlot {Hi : Hp} {own : Nat → List Addr} {p : Addr} {x : DV} (R : RelI K F σ H ρ vs ds Hi own) (hp : H p ≠ none) (hi : Hi p = none) (ho : ∀ i, p ∉ own i) (h0 : F.H0 p = none) (hz : ∀ z ∈ F.Z, z.1 ≠ p) (hx : SlotOk K Hi H (some (.ref p)) [p] x) :
    Rel K F (σ ++ [some (.ref p)]) H (ρ ++ [x]) vs ds := by
  have el := R.len
  refine ⟨Hi, fun j => if j = ρ.length then [p] else own j, ⟨R.base, R.sub, R.new, R.keep, R.dom, by rw [List.length_append, List.length_append, el]; rfl, fun j y h => ?_, fun j a ha => ?_, fun j a ha => ?_, fun j a ha => ?_, fun j k hjk a ha hk => ?_, fun j es' h a ha => ?_, fun z hzm => ?_, R.tmp⟩⟩
  · by_cases hj : j = ρ.length
    · subst hj
      rw [List.getElem?_append_right (Nat.le_refl _), Nat.sub_self] at h
      obtain rfl : x = y := Option.some.inj h
      rw [if_pos rfl, List.getElem?_append_right (by rw [el]; exact Nat.le_refl _), el, Nat.sub_self]
      exact hx
    · have hl : j < ρ.length := by
        have := (List.getElem?_eq_some_iff.mp h).1
        rw [List.length_append] at this
        simp only [List.length_cons, List.length_nil] at this
        omega
      rw [List.getElem?_append_left hl] at h
      rw [if_neg hj, List.getElem?_append_left (by rw [el]; exact hl)]
      exact R.slot j y h
  all_goals try (by_cases hj : j = ρ.length)
  · rw [if_pos hj] at ha
    obtain rfl : a = p := by simpa using ha
    exact hi
  · rw [if_neg hj] at ha; exact R.free j a ha
  · rw [if_pos hj] at ha
    obtain rfl : a = p := by simpa using ha
    exact hp
  · rw [if_neg hj] at ha; exact R.held j a ha
  · rw [if_pos hj] at ha
    obtain rfl : a = p := by simpa using ha
    exact .inl h0
  · rw [if_neg hj] at ha; exact R.nown j a ha
  · rw [if_pos hj] at ha
    obtain rfl : a = p := by simpa using ha
    rw [if_neg (fun z => hjk (hj.trans z.symm))] at hk
    exact ho k hk
  · rw [if_neg hj] at ha
    by_cases hkl : k = ρ.length
    · rw [if_pos hkl] at hk
      obtain rfl : a = p := by simpa using hk
      exact ho j ha
    · rw [if_neg hkl] at hk; exact R.sep j k hjk a ha hk
  · rw [if_pos hj] at ha
    obtain rfl : a = p := by simpa using ha
    exact h0
  · rw [if_neg hj] at ha
    have hl : j < ρ.length := by
      have := (List.getElem?_eq_some_iff.mp h).1
      rw [List.length_append] at this
      simp only [List.length_cons, List.length_nil] at this
      omega
    rw [List.getElem?_append_left hl] at h
    exact R.nls j es' h a ha
  · obtain ⟨z1, z2, z3⟩ := R.pin z hzm
    refine ⟨z1, z2, fun j hj => ?_⟩
    by_cases hjl : j = ρ.length
    · rw [if_pos hjl] at hj
      exact hz z hzm (by simpa using hj)
    · rw [if_neg hjl] at hj; exact z3 j hj
/-- slots behind all others are forgotten -/
theorem Rel.dropSlots (R : Rel K F (σ ++ τ) H (ρ ++ θ) vs ds) (el : σ.length = ρ.length) : Rel K F σ H ρ vs ds := by
  obtain ⟨Hi, own, R⟩ := R
  have inv : ∀ j a, a ∈ (if j < ρ.length then own j else []) → j < ρ.length ∧ a ∈ own j := fun j a h => by
    by_cases hj : j < ρ.length
    · rw [if_pos hj] at h; exact ⟨hj, h⟩
    · rw [if_neg hj] at h; cases h
  refine ⟨Hi, fun j => if j < ρ.length then own j else [], ⟨R.base, R.sub, R.new, R.keep, R.dom, el, fun j y h => ?_, fun j a ha => R.free j a (inv j a ha).2, fun j a ha => R.held j a (inv j a ha).2, fun j a ha => R.nown j a (inv j a ha).2, fun j k hjk a ha hk => R.sep j k hjk a (inv j a ha).2 (inv k a hk).2, fun j es' h a ha => ?_, fun z hz => ?_, R.tmp⟩⟩
  · have hl := (List.getElem?_eq_some_iff.mp h).1
    have := R.slot j y (by rw [List.getElem?_append_left hl]; exact h)
    rw [List.getElem?_append_left (by rw [el]; exact hl)] at this
    rw [if_pos hl]
    exact this
  · have hl := (List.getElem?_eq_some_iff.mp h).1
    exact R.nls j es' (by rw [List.getElem?_append_left hl]; exact h) a (inv j a ha).2
  · obtain ⟨z1, z2, z3⟩ := R.pin z hz
    exact ⟨z1, z2, fun j hj => z3 j (inv j _ hj).2⟩
end
abbrev KVD := List (List Int × D)
abbrev TDX := Rho → (Rho → KVD → Prop) → Prop
/-- an expression whose worth is a dict (keys: tuples of ints): a slot's own, or a new one -/
structure SX (K : PySem.W.Frag) (te : TE) (t : TDX) : Prop where
  mono : ∀ ρ P P', (∀ r d, P r d → P' r d) → t ρ P → t ρ P'
  run : ∀ F σ H ρ vs ds Q, Rel K F σ H ρ vs ds → t ρ (fun r kvs => ∀ (p : Addr) (zs : List Ent) (H' : Hp) (τ : L2.St) (θ : Rho) (j : Nat), r.length = σ.length → Rel K F (σ ++ τ) H' (r ++ θ) vs ds → (r ++ θ)[j]? = some (DV.dt p zs) → zs.map Ent.kv = kvs → Q (.ref p) H') → te σ H Q
def spTX (K : PySem.W.Frag) (g : D → KVD → (KVD → Prop) → Prop) : Sp := fun vs H Q _ => ∃ (Hi : Hp) (a : Addr) (zs : List Ent) (v : V) (d : D), vs = [v, .ref a] ∧ Same Hi H ∧ Hi a = none ∧ H a = some (.ext (RawT a (zs.map Ent.x))) ∧ EntsOk K Hi zs ∧ Dp K Hi v d ∧
  g d (zs.map Ent.kv) fun kvs => ∀ p zs' H' Hi', Same Hi Hi' → Same Hi' H' → Same H H' → Fresh Hi Hi' H → H p = none → Hi' p = none → H' p = some (.ext (RawT p (zs'.map Ent.x))) → EntsOk K Hi' zs' → zs'.map Ent.kv = kvs → Q (.ref p) H'
section
variable {K : PySem.W.Frag} {te tx tk tv : TE} {e k b : TD} {x : TDX} {E : XK}
/-- a slot's dict -/
def xVar (i : Nat) : TDX := fun ρ P => ∃ p zs, ρ[i]? = some (.dt p zs) ∧ P ρ (zs.map Ent.kv)
theorem sx_var (i : Nat) : SX K (tVar i) (xVar i) := ⟨fun ρ P P' h ⟨p, zs, e, q⟩ => ⟨p, zs, e, h _ _ q⟩, fun F σ H ρ vs ds Q R ⟨p, zs, e, q⟩ => by
  obtain ⟨e1, _, _⟩ := R.dtAt e
  refine ⟨.ref p, e1, q p zs H [] [] i ?_ (by rw [List.append_nil, List.append_nil]; exact R) (by rw [List.append_nil]; exact e) rfl⟩
  obtain ⟨_, _, R⟩ := R
  exact R.len.symm⟩
/-- f(e, x) -/
def dCallX (g : CT) (e : TD) (x : TDX) : TD := fun ρ P => e ρ fun r d => x r fun r2 kvs => g d kvs (P r2)
theorem se_callX {g : CT} (hg : ∀ d kvs P P', (∀ r, P r → P' r) → g d kvs P → g d kvs P') (s : SE K te e) (sx : SX K tx x) : SE K (tCall (spT K g) [] E (tCons te (tCons tx tNil))) (dCallX g e x) := by
  refine ⟨fun ρ P P' h q => s.mono _ _ _ (fun r d q => sx.mono _ _ _ (fun r2 kvs q => hg _ _ _ _ (h _) q) q) q, fun F σ H ρ vs ds Q R q => ?_⟩
  refine s.run F σ H ρ vs ds _ R (s.mono _ _ _ (fun r d q v H1 R1 => ?_) q)
  refine sx.run F σ H1 r _ _ _ R1 (sx.mono _ _ _ (fun r2 kvs q p zs H2 τ θ j el R2 e1 e2 => ?_) q)
  subst e2
  obtain ⟨Hi, own, R3⟩ := R2
  obtain ⟨_, eo, hp', q2⟩ := R3.slot j _ e1
  have t := R3.tmp
  cases t with
  | cons t1 t2 =>
    exact ⟨Hi, p, zs, v, d, rfl, R3.sub, R3.free j p (by rw [eo]; simp), hp', q2, t1, hg _ _ _ _ (fun d' q v' H' Hi' h1 h2 h3 h4 h5 => q v' H' (Rel.dropSlots ⟨Hi', own, R3.after h1 h2 h3 h4 (.cons h5 (dpAll_mono h1 _ _ t2))⟩ el.symm)) q⟩
/-- f(e, x), a dict -/
def xCall (g : D → KVD → (KVD → Prop) → Prop) (e : TD) (x : TDX) : TDX := fun ρ P => e ρ fun r d => x r fun r2 kvs => g d kvs (P r2)
theorem sx_call {g : D → KVD → (KVD → Prop) → Prop} (hg : ∀ d kvs P P', (∀ r, P r → P' r) → g d kvs P → g d kvs P') (s : SE K te e) (sx : SX K tx x) : SX K (tCall (spTX K g) [] E (tCons te (tCons tx tNil))) (xCall g e x) := by
  refine ⟨fun ρ P P' h q => s.mono _ _ _ (fun r d q => sx.mono _ _ _ (fun r2 kvs q => hg _ _ _ _ (h _) q) q) q, fun F σ H ρ vs ds Q R q => ?_⟩
  refine s.run F σ H ρ vs ds _ R (s.mono _ _ _ (fun r d q v H1 R1 => ?_) q)
  refine sx.run F σ H1 r _ _ _ R1 (sx.mono _ _ _ (fun r2 kvs q p zs H2 τ θ j el R2 e1 e2 => ?_) q)
  subst e2
  obtain ⟨Hi, own, R3⟩ := R2
  obtain ⟨_, eo, hp', q2⟩ := R3.slot j _ e1
  have t := R3.tmp
  cases t with
  | cons t1 t2 =>
    refine ⟨Hi, p, zs, v, d, rfl, R3.sub, R3.free j p (by rw [eo]; simp), hp', q2, t1, hg _ _ _ _ (fun kvs' q p' zs' H' Hi' h1 h2 h3 h4 h5 h6 h7 h8 h9 => ?_) q⟩
    obtain ⟨Hj, own2, R4⟩ : Rel K F σ H' r2 vs ds := Rel.dropSlots ⟨Hi', own, R3.after h1 h2 h3 h4 (dpAll_mono h1 _ _ t2)⟩ el.symm
    -- the slot of the new dict, over Hi'
    have R5 := R3.after (ws := vs) (es := ds) h1 h2 h3 h4 (dpAll_mono h1 _ _ t2)
    have ho : ∀ i, p' ∉ own i := fun i hi => R3.held i p' hi h5
    have hz : ∀ z ∈ F.Z, z.1 ≠ p' := fun z hz w => by
      have := (R3.pin z hz).1
      rw [w, h5] at this
      cases this
    have R6 : Rel K F ((σ ++ τ) ++ [some (.ref p')]) H' ((r2 ++ θ) ++ [.dt p' zs']) vs ds := R5.addSlot (by rw [h7]; simp) h6 ho (R3.no0 h5) hz ⟨rfl, rfl, h7, h8⟩
    rw [List.append_assoc, List.append_assoc] at R6
    refine q p' zs' H' (τ ++ [some (.ref p')]) (θ ++ [.dt p' zs']) (r2.length + θ.length) el R6 ?_ h9
    rw [← List.append_assoc, List.getElem?_append_right (by rw [List.length_append]; exact Nat.le_refl _), List.length_append, Nat.sub_self]
    rfl
/-- {k: v} -/
def xDict1 (k b : TD) : TDX := fun ρ P => k ρ fun r y => b r fun r2 d => ∃ ks : List Int, y = .tuple (ks.map PyData.int) ∧ P r2 [(ks, d)]
theorem sx_dict1 (sk : SE K tk k) (sb : SE K tv b) : SX K (tDict1 K tk tv) (xDict1 k b) := by
  refine ⟨fun ρ P P' h q => sk.mono _ _ _ (fun r y q => sb.mono _ _ _ (fun r2 d ⟨ks, e, q⟩ => ⟨ks, e, h _ _ q⟩) q) q, fun F σ H ρ vs ds Q R q p hp => ?_⟩
  have f0 := R.pinFree hp
  refine sk.run (F.mk1 p _) σ _ ρ _ _ _ (R.pinNew hp) (sk.mono _ _ _ (fun r y q v H1 R1 => ?_) q)
  refine sb.run _ σ H1 r _ _ _ R1 (sb.mono _ _ _ (fun r2 d q w H2 R2 => ?_) q)
  obtain ⟨ks, ey, q3⟩ := q
  subst ey
  refine ⟨R2.pinAt, ?_⟩
  obtain ⟨u1, u2, u3⟩ := R2.unpin f0.1 f0.2
  have R2' := R2
  obtain ⟨Hi, own, R4⟩ := R2'
  have t := R4.tmp
  cases t with
  | cons t1 t2 =>
    cases t2 with
    | cons t3 t4 =>
      cases t3 with
      | tup s gk =>
        rename_i b' _
        have := ints_of (K := K) ks _ gk
        subst this
        refine ⟨b', ks, rfl, sqT_mono R4.sub s, fun u ru => ?_⟩
        have e2 : upd H2 p (.ext (RawT p [(ks, b', u)])) = upd (hide H2 p) p (.ext (RawT p [(ks, b', u)])) := by
          conv => lhs; rw [u2]
          funext c
          by_cases hc : c = p
          · rw [hc, upd_same, upd_same]
          · rw [upd_ne hc, upd_ne hc, upd_ne hc]
        rw [e2]
        -- p is laid, then told as a slot
        obtain ⟨Hj, own2, R5⟩ := u3
        have t' := R5.tmp
        cases t' with
        | cons t1' t2' =>
          cases t2' with
          | cons t3' t4' =>
            have ho : ∀ i, p ∉ own2 i := fun i hi => R5.held i p hi u1
            have hz : ∀ z ∈ F.Z, z.1 ≠ p := fun z hz w => by
              have := (R5.pin z hz).1
              rw [w, u1] at this
              cases this
            have hjp : Hj p = none := R5.noSub u1
            have R6 : RelI K F σ (upd (hide H2 p) p (.ext (RawT p [(ks, b', u)]))) r2 vs ds Hj own2 := by
              refine ⟨R5.base, fun c o q => ?_, R5.new, fun c o q hn => ?_, fun c q => ?_, R5.len, fun i x q => (R5.slot i x q).grow (Same.refl _) fun a ha o z => ?_, R5.free, fun i a ha => ?_, R5.nown, R5.sep, R5.nls, fun z hzm => ?_, t4'⟩
              · rw [upd_ne (fun w => by rw [w, hjp] at q; cases q)]; exact R5.sub c o q
              · rw [upd_ne (ne_of_none (R5.keep c o q hn) u1)]; exact R5.keep c o q hn
              · by_cases hc : c = p
                · rw [hc, upd_same]; simp
                · rw [upd_ne hc]; exact R5.dom c q
              · rw [upd_ne (fun w => by rw [w, u1] at z; cases z)]; exact z
              · rw [upd_ne (fun w => ho i (by rw [← w]; exact ha))]; exact R5.held i a ha
              · obtain ⟨z1, z2, z3⟩ := R5.pin z hzm
                exact ⟨by rw [upd_ne (hz z hzm)]; exact z1, z2, z3⟩
            have R7 := R6.addSlot (p := p) (x := .dt p [⟨ks, b', u, w, d⟩]) (by rw [upd_same]; simp) hjp ho (R5.no0 u1) hz ⟨rfl, rfl, upd_same, fun z hzm => by
              obtain rfl : z = ⟨ks, b', u, w, d⟩ := by simpa using hzm
              exact ⟨t3', ru, t1'⟩⟩
            refine q3 p [⟨ks, b', u, w, d⟩] _ [some (.ref p)] [.dt p [⟨ks, b', u, w, d⟩]] r2.length R5.len.symm R7 ?_ rfl
            rw [List.getElem?_append_right (Nat.le_refl _), Nat.sub_self]
            rfl
/-- return x, a dict -/
def dRetX (i : Nat) : TDS := fun dn ρ => (∃ p zs, ρ[i]? = some (.dt p zs)) ∧ dn.ro ρ i
theorem ss_retX (i : Nat) : SS K (tRet (tVar i)) (dRetX i) := ⟨fun a b ρ h q => ⟨q.1, h.ro _ _ q.2⟩, fun F σ H ρ vs ds E dn G R ⟨⟨p, zs, e⟩, q⟩ => by
  obtain ⟨e1, _, _⟩ := R.dtAt e
  exact ⟨.ref p, e1, G.ro _ _ _ _ _ R e1 q⟩⟩
/-- the entry of a def that is given a value and a dict, and hands back a dict -/
theorem run_TX {N : List Str} {ts : TS} {t : TDS} {Hi H : Hp} {a : Addr} {zs : List Ent} {v : V} {d : D} {Q : VK} {P : KVD → Prop} (s : SS K ts t) (h1 : Same Hi H) (ha : Hi a = none) (hd : H a = some (.ext (RawT a (zs.map Ent.x)))) (hz : EntsOk K Hi zs) (h2 : Dp K Hi v d)
    (hq : ∀ kvs, P kvs → ∀ p zs' H' Hi', Same Hi Hi' → Same Hi' H' → Same H H' → Fresh Hi Hi' H → H p = none → Hi' p = none → H' p = some (.ext (RawT p (zs'.map Ent.x))) → EntsOk K Hi' zs' → zs'.map Ent.kv = kvs → Q (.ref p) H')
    (ht : t { nx := fun _ => False, rt := fun _ _ => False, ro := fun r i => i ≠ 1 ∧ r[1]? = some (.dt a zs) ∧ ∃ p zs', r[i]? = some (.dt p zs') ∧ P (zs'.map Ent.kv) } (.sh d :: .dt a zs :: List.replicate (N.length - 2) .no)) : ts { nx := fun _ H' => Q .non H', rt := Q } (start N [v, .ref a]) H := by
  refine s.run ⟨Hi, H, [a], []⟩ (start N [v, .ref a]) H (.sh d :: .dt a zs :: List.replicate (N.length - 2) .no) [] [] { nx := fun _ H' => Q .non H', rt := Q } { nx := fun _ => False, rt := fun _ _ => False, ro := fun r i => i ≠ 1 ∧ r[1]? = some (.dt a zs) ∧ ∃ p zs', r[i]? = some (.dt p zs') ∧ P (zs'.map Ent.kv) } ⟨fun _ _ _ _ z => z.elim, fun _ _ _ _ _ _ z => z.elim, fun _ _ _ _ z => z.elim, fun _ _ _ _ z => z.elim, fun _ _ _ _ _ _ _ _ _ _ _ _ z => z.elim, fun σ' H' ρ' i w R e ⟨hi, e1, p, zs', e2, q⟩ => ?_⟩ ⟨Hi, fun j => if j = 1 then [a] else [], ?_⟩ ht
  · obtain ⟨ew, _, _⟩ := R.dtAt e2
    rw [ew] at e
    cases e
    obtain ⟨Hi', own, R⟩ := R
    obtain ⟨_, eo, hp, hzs⟩ := R.slot i _ e2
    obtain ⟨_, eo1, hp1, _⟩ := R.slot 1 _ e1
    have po : p ∈ own i := by rw [eo]; simp
    have hpa : p ≠ a := fun w => R.sep i 1 hi p po (by rw [eo1, w]; simp)
    refine hq _ q p zs' H' Hi' R.base R.sub (fun c o ec => ?_) (fun b hb => R.new b hb) ?_ (R.free i p po) hp hzs rfl
    · by_cases hc : c = a
      · subst hc
        rw [hd] at ec
        cases ec
        exact hp1
      · exact R.keep c o ec (by simp [hc])
    · rcases R.nown i p po with z | z
      · exact z
      · exact absurd (by simpa using z) hpa
  refine ⟨Same.refl _, h1, fun b hb => .inl hb, fun b o e _ => e, fun b e => e, ?_, fun i x e => ?_, fun i c hc => ?_, fun i c hc => ?_, fun i c hc => ?_, fun i j hij c hc hk => ?_, fun i es e c hc => ?_, fun z hz => (by cases hz), DpAll.nil⟩
  · unfold L2.start
    simp only [List.length_append, List.length_map, List.length_cons, List.length_nil, List.length_replicate]
    omega
  · match i, e with
    | 0, e => cases e; exact ⟨v, rfl, h2⟩
    | 1, e => cases e; exact ⟨rfl, rfl, hd, hz⟩
    | i + 2, e =>
      have : x = .no := (List.mem_replicate.mp (List.mem_of_getElem? (show (List.replicate (N.length - 2) DV.no)[i]? = some x from e))).2
      rw [this]
      trivial
  all_goals try (by_cases hi : i = 1)
  · rw [if_pos hi] at hc
    obtain rfl : c = a := by simpa using hc
    exact ha
  · rw [if_neg hi] at hc; cases hc
  · rw [if_pos hi] at hc
    obtain rfl : c = a := by simpa using hc
    rw [hd]; simp
  · rw [if_neg hi] at hc; cases hc
  · rw [if_pos hi] at hc; exact .inr hc
  · rw [if_neg hi] at hc; cases hc
  · rw [if_neg (fun z => hij (hi.trans z.symm))] at hk; cases hk
  · rw [if_neg hi] at hc; cases hc
  · rw [hi] at e; cases e
  · rw [if_neg hi] at hc; cases hc
end
section
variable {P : Program} {w : World} {K : PySem.W.Frag} {mg : Str → Option Value} {base : Heap}
theorem ok_TX {x qual : Str} {st : Stmt} {f : Addr} {fd : FuncData} {N ps : List Str} {k : Nat} {g : D → KVD → (KVD → Prop) → Prop} (F : Fun K x qual st f fd) (S : FnScope N ps (defScope st)) (hl : ps.length = 2) (hN : 2 ≤ N.length)
    (hbody : ∀ (cdv : Value) (A : Around) (outer : List Env) (s : Shared) (H : Hp) (E : XK), Room k (A.deeper (PyProof.Rows.envOfC qual (defScope st) s.heap.objs.size f cdv)) →
      ∃ ts t, PSs (cxOf CX0 P w K mg base N qual (defScope st) f cdv A outer s H E).nox (defBody st) ts ∧ SS K ts t ∧ ∀ a zs d Pd, g d (zs.map Ent.kv) Pd → t { nx := fun _ => False, rt := fun _ _ => False, ro := fun r i => i ≠ 1 ∧ r[1]? = some (.dt a zs) ∧ ∃ p zs', r[i]? = some (.dt p zs') ∧ Pd (zs'.map Ent.kv) } (.sh d :: .dt a zs :: List.replicate (N.length - 2) .no)) : FnOk P w K mg base CX0 (k + 1) f fd ps (spTX K g) := by
  refine F.ok S (fun vs H Q E h => ?_) (fun cdv A outer s H vs Q E hr h => ?_)
  · obtain ⟨Hi, a, zs, v, d, rfl, _⟩ := h
    exact hl.symm
  · obtain ⟨ts, t, h1, h2, h3⟩ := hbody cdv A outer s H E hr
    obtain ⟨Hi, a, zs, v, d, rfl, e1, e2, e3, e4, e5, hg⟩ := h
    exact ⟨ts, h1, run_TX h2 e1 e2 e3 e4 e5 (fun kvs q => q) (h3 a zs d _ hg)⟩
end
end LD

/-! LD38: sorted(x.items()) of dicts whose keys are tuples of ints and whose worths are ints. -/
namespace LD
open PySem PySem.Spec L2 PyProof.Rows
section
variable {X : Cx}
theorem same_layT : ∀ (ts : List Addr) (ps : List (V × V)) (H : Hp), ts.Nodup → (∀ t ∈ ts, H t = none) → Same H (layT H ts ps)
  | [], _, H, _, _ => Same.refl _
  | _ :: _, [], H, _, _ => Same.refl _
  | t :: ts, p :: ps, H, nd, hn => by
    have nd' := List.nodup_cons.mp nd
    refine (same_upd (hn t List.mem_cons_self)).trans (same_layT ts ps _ nd'.2 fun u hu => ?_)
    rw [upd_ne (fun e => nd'.1 (by rw [← e]; exact hu))]
    exact hn u (List.mem_cons_of_mem _ hu)
theorem itemsX_laid0 {pins : List (Addr × Obj)} {σ : L2.St} {H : Hp} {s : Shared} {h' : Heap} {tk : Nat} {es : Array DictEntry} {ps : List (V × V)} {as : List Addr} (I : Inv X pins σ H s)
    (hps : ps.length = es.size) (hp : ∀ (j : Nat) (hj : j < es.size) (p : V × V), ps[j]? = some p → RelV p.1 es[j].key ∧ RelV p.2 es[j].val)
    (hk : ∀ b o, s.heap.get? b = some o → h'.get? b = some o) (hl : as.length = es.size) (hG : PySem.W.DilG es s.heap.objs.size h' as) :
    (∀ t ∈ as, H t = none) ∧ as.Nodup ∧ Inv X pins σ (layT H as ps) { s with heap := h', toks := tk } := by
  have nd : as.Nodup := List.Pairwise.imp (fun {a b} (h : a < b) => Nat.ne_of_lt h) hG.rise
  have new : ∀ t ∈ as, H t = none := fun t ht => I.hok.fresh (Nat.le_of_lt (hG.above t ht))
  have atP := layT_at as ps H (by omega) nd
  have off : ∀ b, b ∉ as → layT H as ps b = H b := fun b h1 => layT_off as ps _ h1
  have low : ∀ b o, s.heap.get? b = some o → b ∉ as := fun b o e z => absurd (Heap.lt_size e) (Nat.not_lt.mpr (Nat.le_of_lt (hG.above b z)))
  have kp : ∀ b u, H b = some u → (layT H as ps) b = some u := fun b u e => by
    rw [off b (fun z => by rw [new b z] at e; cases e)]
    exact e
  refine ⟨new, nd, ?_⟩
  refine I.call' (ch := []) rfl ⟨fun b o q _ _ _ => hk b o q, fun b o q _ _ _ => ⟨o.slots, hk b o q⟩, fun b o q n _ => ?_, fun b o q _ => ⟨o, hk b o q⟩, fun b xs q => kp b _ q, fun b o u q => kp b _ q, fun b ps q => ⟨#[], by rw [kp b _ q]; simp⟩⟩ (fun b u q => ?_) I.bare fun b z => by simp at z
  · rw [off b (low b o q)]
    exact n
  · by_cases hb : b ∈ as
    · obtain ⟨j, hj⟩ := List.mem_iff_getElem?.mp hb
      obtain ⟨p, e2, e3⟩ := atP j b hj
      rw [e3] at q
      cases q
      obtain ⟨hj', f3⟩ := hG.pairs j b hj
      obtain ⟨r1, r2⟩ := hp j hj' p e2
      exact ⟨by show 2 ≤ sizeLine; decide, [es[j].key, es[j].val], .cons r1 (.cons r2 .nil), ⟨_, f3, rfl, _, rfl⟩⟩
    · rw [off b hb] at q
      exact (I.hok b u q).stay (fun d v _ y => hk d v y) (fun d y => kp d _ y) fun d xs y => kp d _ y
def pairsI (xs : XT) (is : List Int) : List D := (xs.zip is).map fun z => termD (z.1.1, z.2)
theorem readsAll_two {h : Heap} {x y : D} : ∀ {vs : List Value} {as : List Addr}, ReadsAll h vs [x, y] as → ∃ u v as1 as2, Reads h u x as1 ∧ Reads h v y as2 ∧ as = as1 ++ as2
  | _, _, .cons a (.cons b .nil) => ⟨_, _, _, _, a, b, by rw [List.append_nil]⟩
theorem reads_int {h : Heap} {i : Int} {u : Value} {as : List Addr} (r : Reads h u (.int i) as) : as = [] := by
  cases r
  rfl
theorem reads_term {h : Heap} {k : List Int} {i : Int} {u : Value} {as : List Addr} (r : Reads h u (termD (k, i)) as) : as = [] := by
  unfold termD tupK at r
  cases r with
  | tuple _ _ _ r =>
    obtain ⟨_, _, as1, as2, a, b, e⟩ := readsAll_two r
    rw [e, reads_key a, reads_int b]
    rfl
theorem depth_term (t : List Int × Int) : (termD t).depth ≤ 2 := by
  unfold termD tupK
  simp [PyData.depth, PyData.depthAll, depth_ints]
theorem terms_ok (ts : List (List Int × Int)) : PySem.W.AllAlike (ts.map termD) ∧ PySem.W.Sortable (ts.map termD) := by
  refine ⟨fun x hx y hy => ?_, .inl fun x hx => ?_⟩
  · obtain ⟨k, _, rfl⟩ := List.mem_map.mp hx
    obtain ⟨l, _, rfl⟩ := List.mem_map.mp hy
    unfold termD
    simp [PySem.W.alike, PySem.W.alikeAll, alike_tupK]
  · obtain ⟨k, _, rfl⟩ := List.mem_map.mp hx
    exact ⟨_, _, rfl⟩
def tSortItX (K : PySem.W.Frag) (te : TE) : TE := fun σ H Q => te σ H fun x H1 => ∃ (a : Addr) (xs : XT) (is : List Int), x = .ref a ∧ H1 a = some (.ext (RawT a xs)) ∧ KeysIn K H1 xs ∧ is.length = xs.length ∧ (∀ (j : Nat) (x : List Int × Addr × Value) (i : Int), xs[j]? = some x → is[j]? = some i → RelV (.int i) x.2.2) ∧
  ∀ (ts : List Addr) (ys : List V) (p : Addr), ts.length = xs.length → ts.Nodup → (∀ t ∈ ts, H1 t = none) → p ∉ ts → H1 p = none → ys.length = xs.length → (∀ Hi, DpAll K Hi (ts.map V.ref) (pairsI xs is) → DpAll K Hi ys ((pairsI xs is).mergeSort leD)) →
    Q (.ref p) (upd (layT H1 ts ((xs.zip is).map fun z => (V.ref z.1.2.1, V.int z.2))) p (.lst ys))
theorem dp_pairs {K : PySem.W.Frag} {H : Hp} : ∀ (ts : List Addr) (xs : XT) (is : List Int), KeysIn K H xs → (∀ (j : Nat) (t : Addr), ts[j]? = some t → ∃ z, (xs.zip is)[j]? = some z ∧ H t = some (.tup [V.ref z.1.2.1, V.int z.2])) → ts.length = (xs.zip is).length → DpAll K H (ts.map V.ref) (pairsI xs is)
  | [], xs, is, _, _, hl => by
    have : xs.zip is = [] := List.eq_nil_of_length_eq_zero hl.symm
    unfold pairsI
    rw [this]
    exact .nil
  | t :: ts, [], is, _, _, hl => by cases hl
  | t :: ts, x :: xs, [], _, _, hl => by cases hl
  | t :: ts, x :: xs, i :: is, hk, h, hl => by
    obtain ⟨z, ez, et⟩ := h 0 t rfl
    cases ez
    refine .cons (.tup (.inl (.inl et)) (.cons (.tup (hk x List.mem_cons_self) (dpAll_ints _)) (.cons (.int _) .nil))) ?_
    exact dp_pairs ts xs is (fun y hy => hk y (List.mem_cons_of_mem _ hy)) (fun j u hu => h (j + 1) u hu) (Nat.succ.inj hl)
variable {e : Expr} {te : TE} {p apos cpos pos : Pos}
open PySem.Calls PySem.W in
/-- sorted(e.items()) -/
theorem pe_sortItX (hc : X.calm = true) (hu : X.A.units + 64 < cLine) (he : PE X e te) (hg : Gl X "sorted") (hm : X.mg "sorted" = none) (hv : bootBuiltins "sorted" = some (.builtin "sorted")) (hbase : attributeBase e "items" X.env (eval e X.env) = eval e X.env := by rfl) (hline : (apos.endLine == cpos.line) = true := by rfl)
    (hs : starEach [.Call (.Attribute e "items" apos) [] [] cpos] X.env = (false, eval (.Call (.Attribute e "items" apos) [] [] cpos) X.env) :: starEach [] X.env := by rfl) :
    PE X (.Call (.Name "sorted" p) [.Call (.Attribute e "items" apos) [] [] cpos] [] pos) (tSortItX X.K te) := by
  refine ⟨fun pins s σ H Q I hq => ?_⟩
  refine wpAny_Call_Name_kw (ld_blt I hg hm hv ?_)
  refine PyProof.Rows.callWith_builtin1 ?_ hs rfl
  rw [hs]
  show wpAny _ _ (spliced ((false, eval (.Call (.Attribute e "items" apos) [] [] cpos) X.env) :: backTo pos (starEach [] X.env))) _ _ s
  refine Calls.spliced_cons ?_
  refine wpAny_Call_method (T := "dict") (id := "dict.items") hbase rfl hline F.plainAttrs_dict F.slot_dict_items F.type_dict_items (thn (he.run pins s σ H _ I hq) fun u s1 ⟨x, H1, I1, rx, d, xs, is, ex, hd, hki, hvl, hvr, q⟩ => ?_)
  subst ex
  obtain rfl : u = Value.ref d := rx
  have R := raw_of I1 hd
  have D := dictIn I1 R hki
  obtain ⟨o, es, ep, g1, g2, g3, g4⟩ := R.raw
  have hes : es.size = xs.length := by
    have := congrArg List.length (g4 X.prog X.w)
    rw [Array.length_toList, List.length_map] at this
    exact this
  have I2 : Inv X pins σ H1 { s1 with heap := s1.heap.push { cls := .type "dict_items", data := .fields #[.ref d] } } := I1.kept (t' := s1.toks) fun b ob q => Heap.get?_push_of_some _ q
  have hT : s1.TypeIs (.ref d) "dict" := ⟨o, g1, g2.1⟩
  refine ⟨hT, fun c z => ?_, ?_⟩
  · cases z
    exact ⟨o, g1, g2.2.1⟩
  show wpAny _ _ (callWith cpos (.builtin "dict.items") [.ref d] [] []) _ X.xe s1
  refine method_meetsIn F.slot_dict_items F.entry_dict_items rfl (PySem.evalArgs_none ⟨rfl, hT, F.args_dict_items_1 _, _, PySem.meets_dict_items_raw d R.own, ⟨⟨es, ep, o, g1, g2, g3⟩, ?_⟩⟩)
  refine Calls.spliced_nil ?_
  have hps : ((xs.zip is).map fun z => (V.ref z.1.2.1, V.int z.2)).length = es.size := by rw [List.length_map, List.length_zip, hvl, hes, Nat.min_self]
  have rel : ∀ (j : Nat) (hj : j < es.size) (p : V × V), ((xs.zip is).map fun z => (V.ref z.1.2.1, V.int z.2))[j]? = some p → RelV p.1 es[j].key ∧ RelV p.2 es[j].val := fun j hj pv hpv => by
    rw [List.getElem?_map] at hpv
    cases hz : (xs.zip is)[j]? with
    | none => rw [hz] at hpv; cases hpv
    | some z =>
      rw [hz] at hpv
      cases hpv
      obtain ⟨z1, z2⟩ := List.getElem?_zip_eq_some.mp hz
      have e2 : es.toList[j]? = some es[j] := by rw [Array.getElem?_toList, Array.getElem?_eq_getElem hj]
      rw [g4 X.prog X.w, List.getElem?_map, z1] at e2
      have e3 : entryOfKey (tupleKind (mixKind X.prog X.w)) (keyX z.1) = es[j] := Option.some.inj e2
      rw [← e3]
      exact ⟨rfl, hvr j z.1 z.2 z1 z2⟩
  refine call_function_entry kind_sorted plain_sorted entry_sorted (args_sorted1 _) ?_
  unfold Builtin.«sorted»
  refine wpAny_bind (m := checkCount "sorted" 1 1 _) (wpAny_pure ?_)
  refine wpAny_bind (dil_collect (A := X.A.in1) (es := es) (ep := ep) (I1.ok.hd hc) ⟨_, Heap.get?_push_size _ rfl, rfl, rfl⟩ ⟨o, Heap.get?_push_of_some _ g1, g2, g3⟩ (by rw [hes]; exact R.few) fun h' tk as hk hl hG => ?_)
  obtain ⟨k3, k5, J⟩ := itemsX_laid0 (tk := tk) (ps := (xs.zip is).map fun z => (V.ref z.1.2.1, V.int z.2)) I2 hps rel hk hl hG
  have lx : as.length = xs.length := by omega
  have lz : as.length = (xs.zip is).length := by rw [List.length_zip, hvl, Nat.min_self]; exact lx
  have D1 : DpAll X.K (layT H1 as ((xs.zip is).map fun z => (V.ref z.1.2.1, V.int z.2))) (as.map V.ref) (pairsI xs is) := by
    refine dp_pairs as xs is (fun x hx => sqT_mono (same_layT as _ H1 k5 k3) (hki x hx)) (fun j t hj => ?_) lz
    obtain ⟨p, e2, e3⟩ := layT_at as ((xs.zip is).map fun z => (V.ref z.1.2.1, V.int z.2)) H1 (by rw [List.length_map]; exact lz) k5 j t hj
    rw [List.getElem?_map] at e2
    cases hz : (xs.zip is)[j]? with
    | none => rw [hz] at e2; cases e2
    | some z =>
      rw [hz] at e2
      cases e2
      exact ⟨z, rfl, e3⟩
  have rvl : Vals (as.map V.ref) (as.map Value.ref) := by
    have : ∀ as : List Addr, Vals (as.map V.ref) (as.map Value.ref) := by
      intro as
      induction as with
      | nil => exact .nil
      | cons a as ih => exact .cons rfl ih
    exact this as
  have edl : (pairsI xs is).length = xs.length := by unfold pairsI; rw [List.length_map, ← lz]; exact lx
  have evl : (as.map V.ref).length = xs.length := by rw [List.length_map]; exact lx
  have epr : pairsI xs is = ((xs.zip is).map fun z => (z.1.1, z.2)).map termD := by unfold pairsI; rw [List.map_map]; rfl
  obtain ⟨hal, hso⟩ := terms_ok ((xs.zip is).map fun z => (z.1.1, z.2))
  rw [← epr] at hal hso
  obtain ⟨bs, hr⟩ := Dp.readsAll J _ _ _ D1 rvl
  have em : ((as.map V.ref).zip (pairsI xs is)).map Prod.snd = pairsI xs is := List.map_snd_zip (by omega)
  have en : ((as.map V.ref).zip (pairsI xs is)).length = xs.length := by rw [List.length_zip]; omega
  refine wpAny_bind (wpAny_newList ?_ (by rw [List.length_map, lx]; exact R.few))
  have old2 : ∀ b ob, h'.get? b = some ob → (h'.push { cls := .type "list", data := .seq (as.map Value.ref).toArray }).get? b = some ob := fun b ob e => Heap.get?_push_of_some _ e
  have er : EachIs (fun v b => ∃ bs, Reads (h'.push { cls := .type "list", data := .seq (as.map Value.ref).toArray }) v b.2 bs ∧ h'.objs.size ∉ bs) (as.map Value.ref) ((as.map V.ref).zip (pairsI xs is)) := by
    have z0 := each_reads hr (show (as.map V.ref).length = (pairsI xs is).length by omega)
    refine (each_mem z0).mono fun v b z => ?_
    obtain ⟨⟨bs, r⟩, hb⟩ := z
    have hx := (List.of_mem_zip (a := b.1) (b := b.2) hb).2
    rw [epr] at hx
    obtain ⟨x, _, hx⟩ := List.mem_map.mp hx
    rw [← hx] at r ⊢
    exact ⟨bs, Reads.keeps old2 r, by rw [reads_term r]; simp⟩
  have hob : (h'.push { cls := .type "list", data := .seq (as.map Value.ref).toArray }).get? h'.objs.size = some (seqObj "list" (as.map Value.ref).toArray 0) := Heap.get?_push_size _ rfl
  refine wpAny_bind (wpAny_holding (wpAny_mono (list_sort_data (A := X.A.in1) (bs := (as.map V.ref).zip (pairsI xs is)) (enc := Prod.snd) hob (each_vals rvl (by omega)) er (by rw [em]; exact hal) (by rw [em]; exact hso) (by rw [en]; exact R.few) (fun b hb => ?_)
    (Q := fun _ s' => EP X pins σ Q (.ref h'.objs.size) s') fun out ho he => ?_) (fun _ s' x => ?_) fun _ _ e => e))
  · have hx := (List.of_mem_zip (a := b.1) (b := b.2) hb).2
    rw [epr] at hx
    obtain ⟨x, _, hx⟩ := List.mem_map.mp hx
    have := depth_term x
    rw [hx] at this
    show X.A.units + 1 + 1 + b.2.depth < cLine
    omega
  · have hv := vals_each he
    generalize hzs : ((as.map V.ref).zip (pairsI xs is)).mergeSort (dataLe false Prod.snd) = zs at hv
    have hp : ∀ z ∈ zs, z ∈ (as.map V.ref).zip (pairsI xs is) := fun z h => by
      rw [← hzs] at h
      exact (List.mergeSort_perm _ _).mem_iff.mp h
    have hlz : zs.length = xs.length := by rw [← hzs, (List.mergeSort_perm _ _).length_eq, en]
    have es2 : zs.map Prod.snd = (pairsI xs is).mergeSort leD := by
      rw [← hzs, List.map_mergeSort (s := leD) (fun x _ y _ => by rw [dataLe_eq]; rfl), em]
    obtain ⟨ep2, he'⟩ := sortedHeap_at (vs := as.map Value.ref) (out := out.toArray) hob
    have hlen : (zs.map Prod.fst).length ≤ sizeLine := by rw [List.length_map, hlz]; exact R.few
    have fresh : (layT H1 as ((xs.zip is).map fun z => (V.ref z.1.2.1, V.int z.2))) h'.objs.size = none := J.hok.fresh (Nat.le_refl _)
    have nin : h'.objs.size ∉ as := fun z => Nat.lt_irrefl _ (hG.there z)
    refine ⟨.ref h'.objs.size, upd (layT H1 as ((xs.zip is).map fun z => (V.ref z.1.2.1, V.int z.2))) h'.objs.size (.lst (zs.map Prod.fst)), J.laid (a := h'.objs.size) (t' := tk) (fun b ob e => ?_) (Nat.le_refl _) (show ObjOk X.prog X.w _ _ _ (.lst (zs.map Prod.fst)) from ⟨hlen, out, ep2, hv, he'⟩), rfl, q as _ _ lx k5 k3 nin (by rw [layT_off _ _ _ nin] at fresh; exact fresh) (by rw [List.length_map, hlz]) (fun Hi h => ?_)⟩
    · exact (sortedHeap_old (Nat.ne_of_lt (Heap.lt_size e)) (Heap.lt_size (old2 b ob e))).trans (old2 b ob e)
    · rw [← es2]
      exact dp_unzip fun z hz => dp_zip h z (hp z hz)
  · exact wpAny_pure ⟨_, rfl, x⟩
end
section
variable {K : PySem.W.Frag} {te : TE} {x : TDX}
theorem dp_intV {K : PySem.W.Frag} {H : Hp} {v : V} {i : Int} (h : Dp K H v (.int i)) : v = .int i := by
  cases h
  rfl
/-- sorted(x.items()), x a dict expression -/
def dSortItX (x : TDX) : TDA := fun ρ P => x ρ fun r kvs => ∃ kis : List (List Int × Int), kvs = kisD kis ∧ P r ((kis.map termD).mergeSort leD)
theorem sf_sortItX (sx : SX K te x) : SF K (tSortItX K te) (dSortItX x) := by
  refine ⟨fun ρ P P' h q => sx.mono _ _ _ (fun r kvs ⟨kis, e, q⟩ => ⟨kis, e, h _ _ q⟩) q, fun F σ H ρ vs ds Q R q => ?_⟩
  refine sx.run F σ H ρ _ _ _ R (sx.mono _ _ _ (fun r2 kvs ⟨kis, ek, q⟩ p zs H2 τ θ j el R2 e1 e2 => ?_) q)
  rw [ek] at e2
  obtain ⟨ed, hp, hkk⟩ := R2.dtAt e1
  obtain ⟨Hi, own, R4⟩ := R2
  obtain ⟨_, _, _, g⟩ := R4.slot j _ e1
  have lzk : zs.length = kis.length := by
    have := congrArg List.length e2
    unfold kisD at this
    rwa [List.length_map, List.length_map] at this
  have zat : ∀ (j : Nat) (z : Ent), zs[j]? = some z → ∃ y, kis[j]? = some y ∧ z.k = y.1 ∧ z.d = .int y.2 := fun j z hz => by
    have := congrArg (fun l => l[j]?) e2
    unfold kisD at this
    simp only [List.getElem?_map, hz, Option.map_some] at this
    cases hy : kis[j]? with
    | none => rw [hy] at this; cases this
    | some y =>
      rw [hy] at this
      have := Option.some.inj this
      exact ⟨y, rfl, congrArg Prod.fst this, congrArg Prod.snd this⟩
  have epr : pairsI (zs.map Ent.x) (kis.map (·.2)) = kis.map termD := by
    unfold pairsI
    refine List.ext_getElem? fun j => ?_
    rw [List.getElem?_map, List.getElem?_map]
    cases hz : zs[j]? with
    | none =>
      have h1 : zs.length ≤ j := List.getElem?_eq_none_iff.mp hz
      rw [List.getElem?_eq_none_iff.mpr (by rw [List.length_zip, List.length_map, List.length_map]; omega), List.getElem?_eq_none_iff.mpr (by omega)]
      rfl
    | some z =>
      obtain ⟨y, ey, ek2, _⟩ := zat j z hz
      have : ((zs.map Ent.x).zip (kis.map (·.2)))[j]? = some (z.x, y.2) := List.getElem?_zip_eq_some.mpr ⟨by rw [List.getElem?_map, hz]; rfl, by rw [List.getElem?_map, ey]; rfl⟩
      rw [this, ey]
      show some (termD (z.k, y.2)) = some (termD y)
      rw [ek2]
  have vat : ∀ (j : Nat) (z : Ent), zs[j]? = some z → ∃ y, kis[j]? = some y ∧ z.v = .int y.2 := fun j z hz => by
    obtain ⟨y, ey, _, ed⟩ := zat j z hz
    have := (g z (List.mem_of_getElem? hz)).2.2
    rw [ed] at this
    exact ⟨y, ey, dp_intV this⟩
  refine ⟨p, _, kis.map (·.2), rfl, hp, hkk, by rw [List.length_map, List.length_map]; exact lzk.symm, fun j x i hx hi => ?_, fun ts ys l hl nd hn hnl hl0 hyl hy => ?_⟩
  · rw [List.getElem?_map] at hx hi
    cases hz : zs[j]? with
    | none => rw [hz] at hx; cases hx
    | some z =>
      rw [hz] at hx
      cases hx
      obtain ⟨y, ey, ev⟩ := vat j z hz
      rw [ey] at hi
      cases hi
      have := (g z (List.mem_of_getElem? hz)).2.1
      rw [ev] at this
      exact this
  · rw [List.length_map] at hl hyl
    rw [epr] at hy
    have ep : (((zs.map Ent.x).zip (kis.map (·.2))).map fun z => (V.ref z.1.2.1, V.int z.2)) = zs.map fun z => (V.ref z.b, z.v) := by
      refine List.ext_getElem? fun j => ?_
      rw [List.getElem?_map, List.getElem?_map]
      cases hz : zs[j]? with
      | none =>
        have h1 : zs.length ≤ j := List.getElem?_eq_none_iff.mp hz
        rw [List.getElem?_eq_none_iff.mpr (by rw [List.length_zip, List.length_map, List.length_map]; omega)]
        rfl
      | some z =>
        obtain ⟨y, ey, ev⟩ := vat j z hz
        have : ((zs.map Ent.x).zip (kis.map (·.2)))[j]? = some (z.x, y.2) := List.getElem?_zip_eq_some.mpr ⟨by rw [List.getElem?_map, hz]; rfl, by rw [List.getElem?_map, ey]; rfl⟩
        rw [this]
        show some (V.ref z.b, V.int y.2) = some (V.ref z.b, z.v)
        rw [ev]
    rw [ep]
    obtain ⟨Hi', R5⟩ := RelI.lays (pre := []) (preD := []) (zs := zs) (ts := ts) R4 rfl hl nd hn fun z hz => ⟨(g z hz).1, (g z hz).2.2⟩
    have edp : (zs.map Ent.kv).map pairD = kis.map termD := by
      rw [e2]
      unfold kisD
      rw [List.map_map]
      rfl
    rw [edp] at R5
    have R6 := R5.tmp
    obtain ⟨g1, g2⟩ := dpAll_split (show (ts.map V.ref).length = (kis.map termD).length by rw [List.length_map, List.length_map]; omega) (by simpa using R6)
    have R7 := R5.tmpTo (dpAll_app (hy _ g1) g2)
    exact q _ _ _ (by rw [(List.mergeSort_perm _ _).length_eq, List.length_map]; omega) (Rel.dropSlots ⟨Hi', own, R7⟩ el.symm) (by rw [layT_off _ _ _ hnl]; exact hl0)
end
section
variable {K : PySem.W.Frag} {F : Fx} {σ : L2.St} {H : Hp} {ρ : Rho} {vs : List V} {ds : List D}
/-- an object that nobody knows -/
theorem Rel.junk {t : Addr} {o : HO} (R : Rel K F σ H ρ vs ds) (ht : H t = none) : Rel K F σ (upd H t o) ρ vs ds := by
  obtain ⟨Hi, own, R⟩ := R
  have ne : ∀ i, ∀ a ∈ own i, a ≠ t := fun i a ha z => R.held i a ha (by rw [z]; exact ht)
  refine ⟨Hi, own, ⟨R.base, R.sub.trans (same_upd ht), R.new, fun b q h hn => ?_, fun b h => ?_, R.len, fun j y h => (R.slot j y h).grow (Same.refl _) fun a ha o q => ?_, R.free, fun j a ha => ?_, R.nown, R.sep, R.nls, fun z hz => ?_, R.tmp⟩⟩
  · rw [upd_ne (ne_of_none (R.keep b q h hn) ht)]; exact R.keep b q h hn
  · by_cases hb : b = t
    · rw [hb, upd_same]; simp
    · rw [upd_ne hb]; exact R.dom b h
  · rw [upd_ne (ne j a ha)]; exact q
  · rw [upd_ne (ne j a ha)]; exact R.held j a ha
  · obtain ⟨z1, z2, z3⟩ := R.pin z hz
    exact ⟨by rw [upd_ne (ne_of_none z1 ht)]; exact z1, z2, z3⟩
/-- x, y, z = e, f, {} (z's keys are ints) -/
def dTriK (n i j l : Nat) (e f : TD) : TDS := fun dn ρ => e ρ fun r d => f r fun r2 d2 => n = 3 ∧ (i < r2.length ∧ j < r2.length ∧ l < r2.length) ∧ ∀ p, dn.nx (((r2.set i (.sh d)).set j (.sh d2)).set l (.dk p []))
theorem ss_triK {n i j l : Nat} {te tf : TE} {e f : TD} (se : SE K te e) (sf : SE K tf f) : SS K (tAsg (tTup (tCons te (tCons tf (tCons tDNewK tNil)))) (gTup K n (gCons (gName i) (gCons (gName j) (gCons (gName l) gNil))))) (dTriK n i j l e f) := by
  refine ⟨fun a b ρ h q => se.mono _ _ _ (fun r d q => sf.mono _ _ _ (fun r2 d2 ⟨h1, h2, q⟩ => ⟨h1, h2, fun p => h.nx _ (q p)⟩) q) q, fun F σ H ρ vs ds E dn G R q => ?_⟩
  refine se.run F σ H ρ vs ds _ R (se.mono _ _ _ (fun r d q v H1 R1 => ?_) q)
  refine sf.run F σ H1 r _ _ _ R1 (sf.mono _ _ _ (fun r2 d2 q v2 H2 R2 => ?_) q)
  obtain ⟨hn, ⟨h1, h2, h3⟩, q⟩ := q
  intro p hp
  refine ⟨(by show 3 ≤ sizeLine; decide), fun t ht => ?_⟩
  refine ⟨t, [v, v2, .ref p], rfl, .inl (.inl upd_same), hn.symm, v, _, rfl, v2, _, rfl, .ref p, _, rfl, rfl, ?_⟩
  have R3 : Rel K F σ H2 r2 (v :: v2 :: vs) (d :: d2 :: ds) := R2.swap fun Hi h => by
    cases h with
    | cons a b =>
      cases b with
      | cons c e => exact .cons c (.cons a e)
  have R4 := (R3.store h1).store (by rw [List.length_set]; exact h2)
  have R5 := R4.keepNew (x := .dk p []) (o := .dK []) hp (i := l) (by rw [List.length_set, List.length_set]; exact h3) fun Hi s => ⟨rfl, rfl, dk_grow ⟨upd_same, fun _ h => by cases h⟩⟩
  exact G.nx _ _ _ (R5.junk ht) (q p)
end
end LD

namespace K34
open PySem PySem.Spec L2 LD
def topS (i : Nat) : Stmt := PySem.Challenge.pw_listpicks_k34_totals.main.body.getD i (.Pass ⟨0, 0, 0, 0⟩)
abbrev s_element : Stmt := topS 1
abbrev N_element : List Str := ["p", "number"]
theorem sc_element : FnScope N_element ["p", "number"] (defScope s_element) := ⟨rfl, rfl, rfl, by decide +kernel, rfl, by decide +kernel, by decide +kernel⟩
abbrev s_reduced : Stmt := topS 3
abbrev N_reduced : List Str := ["p", "totals", "found", "key", "total", "factor"]
theorem sc_reduced : FnScope N_reduced ["p", "totals"] (defScope s_reduced) := ⟨rfl, rfl, rfl, by decide +kernel, rfl, by decide +kernel, by decide +kernel⟩
abbrev s_gathered : Stmt := topS 4
abbrev N_gathered : List Str := ["p", "totals"]
theorem sc_gathered : FnScope N_gathered ["p", "totals"] (defScope s_gathered) := ⟨rfl, rfl, rfl, by decide +kernel, rfl, by decide +kernel, by decide +kernel⟩
abbrev s_only_at : Stmt := topS 5
abbrev N_only_at : List Str := ["n", "at", "number"]
theorem sc_only_at : FnScope N_only_at ["n", "at", "number"] (defScope s_only_at) := ⟨rfl, rfl, rfl, by decide +kernel, rfl, by decide +kernel, by decide +kernel⟩
abbrev s_unknown : Stmt := topS 7
abbrev N_unknown : List Str := ["p", "n", "at"]
theorem sc_unknown : FnScope N_unknown ["p", "n", "at"] (defScope s_unknown) := ⟨rfl, rfl, rfl, by decide +kernel, rfl, by decide +kernel, by decide +kernel⟩
abbrev s_all_lists : Stmt := topS 9
abbrev N_all_lists : List Str := ["p", "n"]
theorem sc_all_lists : FnScope N_all_lists ["p", "n"] (defScope s_all_lists) := ⟨rfl, rfl, rfl, by decide +kernel, rfl, by decide +kernel, by decide +kernel⟩
abbrev s_counts : Stmt := topS 10
abbrev N_counts : List Str := ["p", "powers", "power"]
theorem sc_counts : FnScope N_counts ["p", "powers"] (defScope s_counts) := ⟨rfl, rfl, rfl, by decide +kernel, rfl, by decide +kernel, by decide +kernel⟩
abbrev s_total_worth : Stmt := topS 11
abbrev N_total_worth : List Str := ["p", "n", "polynomial", "total", "powers", "factor"]
theorem sc_total_worth : FnScope N_total_worth ["p", "n", "polynomial"] (defScope s_total_worth) := ⟨rfl, rfl, rfl, by decide +kernel, rfl, by decide +kernel, by decide +kernel⟩
abbrev s_zero_unknowns : Stmt := topS 12
abbrev N_zero_unknowns : List Str := ["p", "n", "many", "at"]
theorem sc_zero_unknowns : FnScope N_zero_unknowns ["p", "n", "many"] (defScope s_zero_unknowns) := ⟨rfl, rfl, rfl, by decide +kernel, rfl, by decide +kernel, by decide +kernel⟩
abbrev s_law_draw : Stmt := topS 14
abbrev N_law_draw : List Str := ["script", "salt", "cells", "blend", "cell"]
theorem sc_law_draw : FnScope N_law_draw ["script", "salt"] (defScope s_law_draw) := ⟨rfl, rfl, rfl, by decide +kernel, rfl, by decide +kernel, by decide +kernel⟩
abbrev s_law_any : Stmt := topS 15
abbrev N_law_any : List Str := ["deal", "bound", "rest"]
theorem sc_law_any : FnScope N_law_any ["deal", "bound"] (defScope s_law_any) := ⟨rfl, rfl, rfl, by decide +kernel, rfl, by decide +kernel, by decide +kernel⟩
abbrev s_law_of : Stmt := topS 16
abbrev N_law_of : List Str := ["deal", "some"]
theorem sc_law_of : FnScope N_law_of ["deal", "some"] (defScope s_law_of) := ⟨rfl, rfl, rfl, by decide +kernel, rfl, by decide +kernel, by decide +kernel⟩
abbrev s_law_element : Stmt := topS 17
abbrev N_law_element : List Str := ["p", "number"]
theorem sc_law_element : FnScope N_law_element ["p", "number"] (defScope s_law_element) := ⟨rfl, rfl, rfl, by decide +kernel, rfl, by decide +kernel, by decide +kernel⟩
abbrev s_law_some : Stmt := topS 18
abbrev N_law_some : List Str := ["deal", "p"]
theorem sc_law_some : FnScope N_law_some ["deal", "p"] (defScope s_law_some) := ⟨rfl, rfl, rfl, by decide +kernel, rfl, by decide +kernel, by decide +kernel⟩
abbrev s_law_tidy : Stmt := topS 19
abbrev N_law_tidy : List Str := ["p", "found", "powers"]
theorem sc_law_tidy : FnScope N_law_tidy ["p", "found"] (defScope s_law_tidy) := ⟨rfl, rfl, rfl, by decide +kernel, rfl, by decide +kernel, by decide +kernel⟩
abbrev s_law_polynomial : Stmt := topS 20
abbrev N_law_polynomial : List Str := ["deal", "p", "n", "terms", "power", "found", "turn", "powers", "at"]
theorem sc_law_polynomial : FnScope N_law_polynomial ["deal", "p", "n", "terms", "power"] (defScope s_law_polynomial) := ⟨rfl, rfl, rfl, by decide +kernel, rfl, by decide +kernel, by decide +kernel⟩
abbrev s_law_power : Stmt := topS 21
abbrev N_law_power : List Str := ["p", "one", "power", "found", "turn"]
theorem sc_law_power : FnScope N_law_power ["p", "one", "power"] (defScope s_law_power) := ⟨rfl, rfl, rfl, by decide +kernel, rfl, by decide +kernel, by decide +kernel⟩
abbrev s_law_worth : Stmt := topS 22
abbrev N_law_worth : List Str := ["p", "polynomial", "choice", "total", "powers", "factor", "at", "power"]
theorem sc_law_worth : FnScope N_law_worth ["p", "polynomial", "choice"] (defScope s_law_worth) := ⟨rfl, rfl, rfl, by decide +kernel, rfl, by decide +kernel, by decide +kernel⟩
abbrev s_law_choices : Stmt := topS 23
abbrev N_law_choices : List Str := ["lists", "found", "row", "later", "choice", "one"]
theorem sc_law_choices : FnScope N_law_choices ["lists"] (defScope s_law_choices) := ⟨rfl, rfl, rfl, by decide +kernel, rfl, by decide +kernel, by decide +kernel⟩
abbrev s_law_degree : Stmt := topS 24
abbrev N_law_degree : List Str := ["polynomial", "powers", "factor"]
theorem sc_law_degree : FnScope N_law_degree ["polynomial"] (defScope s_law_degree) := ⟨rfl, rfl, rfl, by decide +kernel, rfl, by decide +kernel, by decide +kernel⟩
abbrev s_law_power_sum : Stmt := topS 25
abbrev N_law_power_sum : List Str := ["p", "power", "one"]
theorem sc_law_power_sum : FnScope N_law_power_sum ["p", "power"] (defScope s_law_power_sum) := ⟨rfl, rfl, rfl, by decide +kernel, rfl, by decide +kernel, by decide +kernel⟩
abbrev s_law : Stmt := topS 26
abbrev N_law : List Str := ["script", "deal", "turn", "every", "f", "found", "step", "many", "due", "p", "n", "some", "sums", "powers", "factor", "power", "one", "at", "point", "spot"]
theorem sc_law : FnScope N_law ["script"] (defScope s_law) := ⟨rfl, rfl, rfl, by decide +kernel, rfl, by decide +kernel, by decide +kernel⟩

section
variable {P : Program} {w : World} {K : PySem.W.Frag} {mg : Str → Option Value} {base : Heap}
theorem ok_law_of {f : Addr} {fd : FuncData} (F : Fun K "_law_of" "_law_of" s_law_of f fd) (T : TA P w K mg base) : FnOk P w K mg base CX0 2 f fd ["deal", "some"] (spW K g_of) := by
  refine ok_W F sc_law_of (fun ds P ⟨es, e, _⟩ => by rw [e]; rfl) (by decide) (fun cdv A outer s H E hr => ⟨_, _, (pss_one (ps_ret (pe_ix ix_list (pv 1) (C8.pe_c T.d_law_any hr (by first | decide | omega) (by rfl) (pa_cons (pv 0) (pa_cons (pe_callB call_len_seq (by rfl) T.b_len (by decide +kernel) (pa_cons (pv 1) pa_nil)) pa_nil))) (fun _ _ => rfl)))), (ss_ret (se_op so_ixL (se_var 1) (se_callW (i := 0) g_any_mono (sa_cons (se_cb sc_len (sa_cons (se_var 1) sa_nil)) sa_nil)))), fun a l ds Pd h => ?_⟩)
  obtain ⟨es, rfl, hne, hl, q⟩ := h
  have pos : 0 < es.length := List.length_pos_iff.mpr hne
  refine ⟨_, rfl, ⟨a, l, rfl⟩, _, rfl, es, .inl rfl, ⟨a, l, rfl⟩, es.length, rfl, by omega, ?_, fun x x0 x1 => ?_⟩
  · have : (es.length : Int).natAbs < 2 ^ 20 := by omega
    exact Nat.lt_trans (PySem.Flt.log2_lt_of (by decide) this) (by decide)
  · have hx : x.toNat < es.length := by omega
    refine ⟨es, x, es[x.toNat], rfl, rfl, ?_, rfl, q _ (List.getElem_mem hx)⟩
    have e := atI_nat (xs := es) (j := x.toNat) (List.getElem?_eq_getElem hx)
    rw [Int.toNat_of_nonneg x0] at e
    exact e
theorem ok_law_draw {f : Addr} {fd : FuncData} (F : Fun K "_law_draw" "_law_draw" s_law_draw f fd) (T : TB K mg) : FnOk P w K mg base CX0 1 f fd ["script", "salt"] (spM K g_draw) := by
  refine ok_M F sc_law_draw (fun ds ⟨ns, s, e, _⟩ => by rw [e]; rfl) (fun cdv A outer s H E hr => ⟨_, _, (pss_cons (ps_setLc (i := 2) (own := [("cell", 4)]) (g := (gName 4)) (tt := tYes) rfl sc_law_draw.nd rfl rfl (sw_true rfl rfl rfl (by decide +kernel)) (pi_list (pe_slice sl_list (pv 0) po_none (po_some pe_int))) (blkOk_by (N := N_law_draw) (sc := defScope s_law_draw) (own := [("cell", 4)]) (by decide +kernel)) (fun _ _ _ _ _ => (pg_name (i := 4) sc_law_draw.nd rfl (by first | exact Or.inl rfl | exact Or.inr rfl))) (fun _ _ _ _ _ => pts_nil) (fun _ _ _ _ _ => (pe_callB call_abs (by rfl) T.b_abs (by decide +kernel) (pa_cons (pe_callTy call_int1 (by rfl) T.b_int (by decide +kernel) (pa_cons (pv 4) pa_nil)) pa_nil))))
      (pss_cons (ps_set (i := 3) sc_law_draw.nd rfl (by first | exact Or.inl rfl | exact Or.inr rfl) (pe_op op_add pe_int (pe_op op_mulW pe_int (pv 1))))
      (pss_cons (ps_for PassesOwn.never rfl (pi_list (pv 2)) (pg_name (i := 4) sc_law_draw.nd rfl (by first | exact Or.inl rfl | exact Or.inr rfl)) (pss_one (ps_set (i := 3) sc_law_draw.nd rfl (by first | exact Or.inl rfl | exact Or.inr rfl) (pe_op op_mod (pe_callTy call_int1 (by rfl) T.b_int (by decide +kernel) (pa_cons (pe_op op_add (pe_op op_add (pe_op op_mulW (pv 3) pe_int) (pe_op op_mod (pv 4) pe_int)) pe_int) pa_nil)) pe_int))))
      (pss_one (ps_ret (pe_lst (pa_cons (pe_revL (pe_lc (own := [("cell", 4)]) (g := (gName 4)) (tt := _) rfl sc_law_draw.nd (pi_list (pv 2)) (blkOk_by (N := N_law_draw) (sc := defScope s_law_draw) (own := [("cell", 4)]) (by decide +kernel)) (fun _ _ _ _ _ => (pg_name (i := 4) sc_law_draw.nd rfl (by first | exact Or.inl rfl | exact Or.inr rfl))) (fun _ _ _ _ _ => (pts_one (pt_cmpR op_ge (pv 4) (pe_op op_pow pe_int pe_int) (nomark _)))) (fun _ _ _ _ _ => (pv 4)))) (pa_cons (pv 3) pa_nil)))))))), (ss_cons (ss_fgt [4] (ss_asg (se_sh (sf_lc (js := [4]) (si_list (se_sh (sf_slL (se_var 0) sop_none (sop_some se_c)))) (sg_name 4) st_yes (se_cb sc_abs (sa_cons (se_cb sc_int (sa_cons (se_var 4) sa_nil)) sa_nil)))) (sg_name 2)))
      (ss_cons (ss_asg (se_op so_rI0 se_c (se_op so_rI se_c (se_var 1))) (sg_name 3))
      (ss_cons (ss_for (si_list (se_var 2)) (sg_name 4) (ss_asg (se_op so_rI (se_cb sc_int (sa_cons (se_op so_rI0 (se_op so_rI0 (se_op so_rI (se_var 3) se_c) (se_op so_rI (se_var 4) se_c)) se_c) sa_nil)) se_c) (sg_name 3)))
      (ss_fgt [4] (ss_retM (sf_revL (se_sh (sf_lc (js := [4]) (si_list (se_var 2)) (sg_name 4) (st_test (se_op so_rI0 (se_var 4) (se_op so_rI se_c se_c))) (se_var 4)))) (se_var 3)))))), fun ds h => ?_⟩)
  obtain ⟨ns, s, rfl, hl, s0, s1⟩ := h
  obtain ⟨ms, em, hm⟩ := cut48 ns
  have hms : ∀ k ∈ ms.map (fun k : Int => if k < 0 then -k else k), 0 ≤ k := fun k hk => by
    obtain ⟨z, _, rfl⟩ := List.mem_map.mp hk
    show 0 ≤ if z < 0 then -z else z
    split <;> omega
  refine ⟨_, rfl, _, rfl, _, rfl, _, congrArg PyData.list em, ?_⟩
  refine ⟨by rw [List.length_map, sizeLine_eq]; omega, fun j hj => by
    obtain rfl : j = 4 := by simpa using hj
    rfl, ?_⟩
  refine compW_det (oInt fun k => some (PyData.int (if k < 0 then -k else k))) (fun d hd k hk => ?_) ?_
  · obtain ⟨z, rfl, _⟩ := mem_int hd
    refine ⟨(by show 4 < 5; decide), _, rfl, z, rfl, z, rfl, ?_⟩
    exact hk _ rfl
  rw [List.nil_append, fm_oInt, fm_some]
  refine ⟨(by show 2 < 5; decide), ?_⟩
  -- blend = 7919 + 104729 * salt
  refine ⟨_, rfl, _, _, rfl, rfl, ?_, _, _, rfl, rfl, (by show 3 < 5; decide), ?_⟩
  · show CMulW _ _
    exact wide_mul (a := 20) (b := 20) (by omega) (by omega) (by decide) (by decide) (by decide)
  -- for cell in cells
  refine ⟨_, rfl, _, rfl, fun i r => ∃ (b : Int) (x : DV), r = [.sh (.list (ns.map PyData.int)), .sh (.int s), .sh (.list ((ms.map fun k => if k < 0 then -k else k).map PyData.int)), .sh (.int b), x] ∧ 0 ≤ b ∧ b < 2147483647, ⟨_, _, rfl, by show (0 : Int) ≤ 7919 + 104729 * s; omega, by show 7919 + 104729 * s < (2147483647 : Int); omega⟩, fun i d r hd hI => ?_, fun r hI => ?_⟩
  · obtain ⟨b, x, rfl, b0, b2⟩ := hI
    obtain ⟨z, rfl, _⟩ := mem_int (List.mem_of_getElem? hd)
    refine ⟨(by show 4 < 5; decide), _, rfl, _, _, rfl, rfl, ?_, _, rfl, _, _, rfl, rfl, (by show (0 : Int) < 2147483549; decide), _, _, rfl, rfl, _, _, rfl, rfl, _, rfl, _, _, rfl, rfl, (by show (0 : Int) < 2147483647; decide), (by show 3 < 5; decide), ?_⟩
    · show CMulW b 48271
      have hb : b.natAbs < 2 ^ 40 := by omega
      exact wide_mul (a := 40) (b := 20) hb (by decide) (by decide) (by decide) (by decide)
    · exact ⟨_, _, rfl, Int.emod_nonneg _ (by decide), Int.emod_lt_of_pos _ (by decide)⟩
  · obtain ⟨b, x, rfl, b0, b2⟩ := hI
    refine ⟨_, rfl, _, rfl, ?_⟩
    generalize hcs : ms.map (fun k : Int => if k < 0 then -k else k) = cs at *
    have hcl : cs.length ≤ 48 := by rw [← hcs, List.length_map]; exact hm
    refine ⟨by rw [List.length_map, sizeLine_eq]; omega, fun j hj => by
      obtain rfl : j = 4 := by simpa using hj
      rfl, ?_⟩
    refine compW_det (oInt fun k => if decide ((10 : Int) ^ 18 ≤ k) = true then some (PyData.int k) else none) (fun d hd k hk => ?_) ?_
    · obtain ⟨z, rfl, _⟩ := mem_int hd
      refine ⟨(by show 4 < 5; decide), _, rfl, _, _, rfl, rfl, ⟨by decide, by decide, by decide⟩, _, _, rfl, rfl, _, rfl, ?_⟩
      by_cases h : (10 : Int) ^ 18 ≤ z
      · refine ifT (decide_eq_true h) ⟨_, rfl, ?_⟩
        have := hk ([.sh (.list (ns.map PyData.int)), .sh (.int s), .sh (.list (cs.map PyData.int)), .sh (.int b), .sh (.int z)]) rfl
        rw [show oInt (fun k => if decide ((10 : Int) ^ 18 ≤ k) = true then some (PyData.int k) else none) (.int z) = some (.int z) from if_pos (decide_eq_true h)] at this
        exact this
      · refine ifF (decide_eq_false h) ?_
        have := hk ([.sh (.list (ns.map PyData.int)), .sh (.int s), .sh (.list (cs.map PyData.int)), .sh (.int b), .sh (.int z)]) rfl
        rw [show oInt (fun k => if decide ((10 : Int) ^ 18 ≤ k) = true then some (PyData.int k) else none) (.int z) = none from if_neg (by rw [decide_eq_false h]; decide)] at this
        exact this
    · rw [List.nil_append, fm_oInt, fm_if]
      refine ⟨_, rfl, _, rfl, (cs.filter fun k => decide ((10 : Int) ^ 18 ≤ k)).reverse, b, by rw [List.map_reverse], rfl, ⟨fun n hn => ?_, ?_, b0, b2⟩, trivial⟩
      · exact hms n (List.mem_filter.mp (List.mem_reverse.mp hn)).1
      · rw [List.length_reverse]
        exact Nat.le_trans (List.length_filter_le ..) hcl
theorem ok_law_any {f : Addr} {fd : FuncData} (F : Fun K "_law_any" "_law_any" s_law_any f fd) (T : TB K mg) : FnOk P w K mg base CX0 1 f fd ["deal", "bound"] (spW K g_any) := by
  refine F.ok sc_law_any (fun vs H Q E h => ?_) (fun cdv A outer s H vs Q E hr h => ?_)
  · obtain ⟨Hi, a, l, vs', ds, rfl, _, _, _, _, _, h2, m, e, _⟩ := h
    subst e
    rw [List.length_cons, dpAll_len h2]
    rfl
  · obtain ⟨Hi, a, l, vs', ds, rfl, nal, hs, ha, hl, ⟨ns, b, ok, ea, el⟩, hv, m, e, m0, m1, q⟩ := h
    subst e
    have ev : vs' = [.int m] := ints_of (K := K) [m] vs' hv
    subst ev
    have ps : Int → Prop := fun _ => True
    refine ⟨_, pss_cons (ps_while PassesOwn.never (PW.pt (pw_and (pt_cmpR (op_neD hr.units) (pe_ix ix_list (pv 0) pe_int (fun _ _ => rfl)) (pe_lst pa_nil) (nomark _)) (pw_and1 (pt_cmpR (op_eqD hr.units) (pe_ix ix_list (pe_ix ix_list (pv 0) pe_int (fun _ _ => rfl)) (pe_un un_neg pe_int) (fun _ _ => rfl)) pe_int (nomark _)))))
        (pss_one (ps_expr (pe_bm0 PySem.F.plainAttrs_list PySem.F.slot_list_pop PySem.F.type_list_pop mt_pop (pe_ix ix_list (pv 0) pe_int (fun _ _ => rfl))))))
      (pss_cons (ps_if (pt_cmpR (op_neD hr.units) (pe_ix ix_list (pv 0) pe_int (fun _ _ => rfl)) (pe_lst pa_nil) (nomark _))
        (pss_cons (ps_set (i := 2) sc_law_any.nd rfl (by first | exact Or.inl rfl | exact Or.inr rfl) (pe_callTy call_int1 (by rfl) T.b_int (by decide +kernel) (pa_cons (pe_bm0 PySem.F.plainAttrs_list PySem.F.slot_list_pop PySem.F.type_list_pop mt_pop (pe_ix ix_list (pv 0) pe_int (fun _ _ => rfl))) pa_nil)))
        (pss_cons (ps_expr (pe_bm PySem.F.plainAttrs_list PySem.F.slot_list_append PySem.F.type_list_append mt_append (pe_ix ix_list (pv 0) pe_int (fun _ _ => rfl)) (pa_cons (pe_op op_fdivW (pv 2) (pv 1)) pa_nil)))
        (pss_one (ps_ret (pe_op op_mod (pv 2) (pv 1)))))) pss_nil)
      (pss_cons (ps_asg (pe_op op_mod (pe_callTy call_int1 (by rfl) T.b_int (by decide +kernel) (pa_cons (pe_op op_add (pe_op op_mulW (pe_ix ix_list (pv 0) pe_int (fun _ _ => rfl)) pe_int) pe_int) pa_nil)) pe_int) (pg_sub (pv 0) pe_int set_list))
      (pss_one (ps_ret (pe_op op_mod (pe_callTy call_int1 (by rfl) T.b_int (by decide +kernel) (pa_cons (pe_op op_fdivW (pe_ix ix_list (pv 0) pe_int (fun _ _ => rfl)) pe_int) pa_nil)) (pv 1)))))), ?_⟩
    -- what is wanted at a return
    have fin : ∀ (x : Int) (H' : Hp) (ns' : List Int) (b' : Int), 0 ≤ x → x < m → DX H H' a l ns' b' → DealOk ns' b' → Q (.int x) H' := fun x H' ns' b' x0 x1 d k =>
      q x x0 x1 (.int x) H' Hi (Same.refl _) (fun c o e => d.keep c o (hs c o e) (fun z => by rw [z, ha] at e; cases e) (fun z => by rw [z, hl] at e; cases e)) d.keep d.dom (fun c hc => .inl hc) ⟨ns', b', k, d.at_a, d.at_l⟩ (.int x)
    have at0 : ∀ {H' : Hp} {ns' : List Int} {b' : Int}, atI [V.ref l, .int b'] 0 = some (.ref l) := rfl
    have dpl : ∀ {H' : Hp} {ns' : List Int} {b' : Int}, DX H H' a l ns' b' → Dp K H' (.ref l) (.list (ns'.map PyData.int)) := fun d => .lst (.inl (.inl d.at_l)) (dpAll_ints _)
    have tst : ∀ (Q2 : Bool → Hp → Prop) (H' : Hp) (ns' : List Int), DX H H' a l ns' b → (∀ b2 H2, DX H H2 a l ns' b → (b2 = true → ∃ ms, ns' = ms ++ [0]) → Q2 b2 H2) →
        (tAnd (tTest (tOp (rNeD K) (tOp (rIxL K) (tVar 0) (tC (.int 0))) (tLst tNil))) (tTest (tOp (rEqD K) (tOp (rIxL K) (tOp (rIxL K) (tVar 0) (tC (.int 0))) (tUn (rU fun i => .int (-i)) (tC (.int 1)))) (tC (.int 0))))) [some (.ref a), some (.int m), none] H' Q2 := by
      intro Q2 H' ns' d k
      refine ⟨.ref a, rfl, a, _, 0, .ref l, rfl, rfl, SqL.of d.at_a, rfl, Nat.zero_le _, fun p hp => ?_⟩
      have d1 : DX H (upd H' p (.lst [])) a l ns' b := d.new hp
      refine ⟨_, .list [], dpl d1, .lst (.inl (.inl upd_same)) .nil, sh_ints _, rfl, _, rfl, ?_⟩
      rcases snoc_or ns' with e | ⟨ms, z, e⟩
      · subst e
        exact ifF (by rw [eqv_nil]; rfl) (k false _ d1 fun h => by cases h)
      · subst e
        refine ifT (by rw [eqv_nil]; simp) ?_
        refine ⟨.ref a, rfl, a, _, 0, .ref l, rfl, rfl, SqL.of d1.at_a, rfl, 1, rfl, l, _, -1, .int z, rfl, rfl, SqL.of d1.at_l, (by rw [List.map_append]; exact atI_last _ _), .int z, .int 0, .int z, .int 0, rfl, rfl, _, rfl, k _ _ d1 fun h => ⟨ms, ?_⟩⟩
        rw [eqv_int] at h
        rw [of_decide_eq_true h]
    refine ⟨fun k σ H' => σ = [some (.ref a), some (.int m), none] ∧ ∃ ns', k = ns'.length ∧ DX H H' a l ns' b ∧ DealOk ns' b, ⟨ns.length, rfl, ns, rfl, ⟨fun c o e _ _ => e, fun c e => e, nal, ea, el⟩, ok⟩, fun k σ H' hW => ?_⟩
    obtain ⟨rfl, ns', rfl, d, k'⟩ := hW
    refine tst _ H' ns' d fun b2 H2 d2 hb => ?_
    cases b2 with
    | true =>
      obtain ⟨ms, rfl⟩ := hb rfl
      refine ⟨fun σ' H' => σ' = [some (.ref a), some (.int m), none] ∧ DX H H' a l ms b ∧ DealOk ms b, fun σ' H' h' => ⟨ms.length, by rw [List.length_append]; exact Nat.lt_succ_self _, h'.1, ms, rfl, h'.2⟩, ?_⟩
      refine ⟨.ref a, rfl, a, _, 0, .ref l, rfl, rfl, SqL.of d2.at_a, rfl, .inl ⟨rfl, _, SqL.of d2.at_l⟩, l, _, .int 0, rfl, rfl, d2.at_l, by simp, rfl, ?_, ⟨fun n hn => k'.pos n (List.mem_append_left _ hn), ?_, k'.lo, k'.hi⟩⟩
      · rw [List.map_append, List.map_singleton, List.dropLast_concat]
        exact d2.setL
      · have := k'.few
        rw [List.length_append] at this
        exact Nat.le_of_succ_le this
    | false =>
      -- if deal[0] != []
      refine ⟨.ref a, rfl, a, _, 0, .ref l, rfl, rfl, SqL.of d2.at_a, rfl, Nat.zero_le _, fun p hp => ?_⟩
      have d3 : DX H (upd H2 p (.lst [])) a l ns' b := d2.new hp
      refine ⟨_, .list [], dpl d3, .lst (.inl (.inl upd_same)) .nil, sh_ints _, rfl, _, rfl, ?_⟩
      rcases snoc_or ns' with e | ⟨ms, z, e⟩
      · subst e
        refine ifF (by rw [eqv_nil]; rfl) ?_
        have hb : b.natAbs < 2 ^ 40 := by
          have h1 := k'.lo
          have h2 := k'.hi
          omega
        refine ⟨.ref a, rfl, a, _, 1, .int b, rfl, rfl, SqL.of d3.at_a, rfl, b, 40693, rfl, rfl, wide_mul (a := 40) (b := 20) hb (by decide) (by decide) (by decide) (by decide), _, _, rfl, rfl, .inl ⟨_, rfl, _, _, rfl, rfl, (by show (0 : Int) < 2147483647; decide), .ref a, rfl, a, _, 1, 1, rfl, rfl, d3.at_a, rfl, ?_⟩⟩
        have d4 := d3.setA (c := (b * 40693 + 71) % 2147483647)
        refine ⟨.ref a, rfl, a, _, 1, .int ((b * 40693 + 71) % 2147483647), rfl, rfl, SqL.of d4.at_a, rfl, _, _, rfl, rfl, ⟨by decide, by decide⟩, .inl ⟨_, rfl, .int m, rfl, _, _, rfl, rfl, m0, ?_⟩⟩
        exact fin _ _ [] _ (Int.emod_nonneg _ (by omega)) (Int.emod_lt_of_pos _ m0) d4 ⟨fun _ h => (by cases h), by decide, Int.emod_nonneg _ (by decide), Int.emod_lt_of_pos _ (by decide)⟩
      · subst e
        refine ifT (by rw [eqv_nil]; simp) ?_
        have hz : 0 ≤ z := k'.pos z (List.mem_append_right _ (by simp))
        refine ⟨.ref a, rfl, a, _, 0, .ref l, rfl, rfl, SqL.of d3.at_a, rfl, .inl ⟨rfl, _, SqL.of d3.at_l⟩, l, _, .int z, rfl, rfl, d3.at_l, by simp, .inl ⟨z, rfl, ?_⟩⟩
        rw [List.map_append, List.map_singleton, List.dropLast_concat]
        have d4 : DX H _ a l ms b := d3.setL
        refine ⟨.ref a, rfl, a, _, 0, .ref l, rfl, rfl, SqL.of d4.at_a, rfl, .inl ⟨rfl, _, SqL.of d4.at_l⟩, .int z, rfl, .int m, rfl, z, m, rfl, rfl, ⟨m0, m1⟩, l, _, .int (z / m), rfl, rfl, d4.at_l, ?_, .int z, rfl, .int m, rfl, z, m, rfl, rfl, m0, ?_⟩
        · have := k'.few
          rw [List.length_append] at this
          rw [List.length_map, sizeLine_eq]
          omega
        · have d5 := d4.setL (ms := ms ++ [z / m])
          rw [List.map_append, List.map_singleton] at d5
          refine fin _ _ (ms ++ [z / m]) b (Int.emod_nonneg _ (by omega)) (Int.emod_lt_of_pos _ m0) ?_ ⟨fun n hn => ?_, by rw [List.length_append]; have := k'.few; rw [List.length_append] at this; exact this, k'.lo, k'.hi⟩
          · exact d5
          · rcases List.mem_append.mp hn with hn | hn
            · exact k'.pos n (List.mem_append_left _ hn)
            · obtain rfl : n = z / m := by simpa using hn
              exact Int.ediv_nonneg hz (Int.le_of_lt m0)

theorem ok_law_element {f : Addr} {fd : FuncData} (F : Fun K "_law_element" "_law_element" s_law_element f fd) (T : TB K mg) : FnOk P w K mg base CX0 1 f fd ["p", "number"] (spD K g_law_element) := by
  refine ok_D F sc_law_element (fun ds P ⟨p, n, e, _⟩ => by rw [e]; rfl) (fun cdv A outer s H E hr => ⟨_, _, (pss_one (ps_ret (pe_ifExp (pt_cmpR (op_eqD hr.units) (pv 0) pe_int (nomark _)) (pv 1) (pe_op op_mod (pe_callTy call_int1 (by rfl) T.b_int (by decide +kernel) (pa_cons (pv 1) pa_nil)) (pv 0))))), (ss_ret (se_if (st_test (se_op so_eqD (se_var 0) se_c)) (se_var 1) (se_op so_rI (se_cb sc_int (sa_cons (se_var 1) sa_nil)) (se_var 0)))), fun ds Pd h => ?_⟩)
  obtain ⟨p, n, rfl, hp, q⟩ := h
  refine ⟨_, rfl, rfl, rfl, _, rfl, ?_⟩
  show if PyData.eqv (.int p) (.int 0) = true then _ else _
  rw [eqv_int]
  unfold elemF at q
  by_cases h0 : p = 0
  · rw [if_pos h0] at q
    rw [if_pos (decide_eq_true h0)]
    exact ⟨_, rfl, q⟩
  · rw [if_neg h0] at q
    rw [if_neg (by rw [decide_eq_false h0]; decide)]
    exact ⟨_, rfl, _, rfl, _, rfl, _, _, rfl, rfl, by omega, q⟩
theorem ok_law_some {f : Addr} {fd : FuncData} (F : Fun K "_law_some" "_law_some" s_law_some f fd) (T : TA P w K mg base) : FnOk P w K mg base CX0 2 f fd ["deal", "p"] (spW K g_law_some) := by
  refine ok_W F sc_law_some (fun ds P ⟨p, e, _⟩ => by rw [e]; rfl) (by decide) (fun cdv A outer s H E hr => ⟨_, _, (pss_one (ps_ret (pe_ifExp (pt_cmpR (op_eqD hr.units) (pv 1) pe_int (nomark _)) (pe_op op_sub (C8.pe_c T.d_law_any hr (by first | decide | omega) (by rfl) (pa_cons (pv 0) (pa_cons pe_int pa_nil))) pe_int) (C8.pe_c T.d_law_any hr (by first | decide | omega) (by rfl) (pa_cons (pv 0) (pa_cons (pv 1) pa_nil)))))), (ss_ret (se_if (st_test (se_op so_eqD (se_var 1) se_c)) (se_op so_rI0 (se_callW (i := 0) g_any_mono (sa_cons se_c sa_nil)) se_c) (se_callW (i := 0) g_any_mono (sa_cons (se_var 1) sa_nil)))), fun a l ds Pd h => ?_⟩)
  obtain ⟨p, rfl, hp, h2, q⟩ := h
  refine ⟨_, rfl, rfl, rfl, _, rfl, ?_⟩
  show if PyData.eqv (.int p) (.int 0) = true then _ else _
  rw [eqv_int]
  by_cases h0 : p = 0
  · rw [if_pos (decide_eq_true h0)]
    exact ⟨⟨a, l, rfl⟩, ⟨a, l, rfl⟩, 13, rfl, by decide, by decide, fun x x0 x1 => ⟨_, _, rfl, rfl, rfl, q _ (by omega) (by omega) (by omega)⟩⟩
  · rw [if_neg (by rw [decide_eq_false h0]; decide)]
    exact ⟨⟨a, l, rfl⟩, _, rfl, ⟨a, l, rfl⟩, p, rfl, by omega, Nat.lt_trans (PySem.Flt.log2_lt_of (k := 20) (by decide) (by omega)) (by decide), fun x x0 x1 => ⟨rfl, q _ (by omega) (by omega) (fun _ => ⟨x0, x1⟩)⟩⟩
theorem ok_law_tidy {f : Addr} {fd : FuncData} (F : Fun K "_law_tidy" "_law_tidy" s_law_tidy f fd) (T : TC P w K mg base) : FnOk P w K mg base CX0 2 f fd ["p", "found"] (spT K g_law_tidy) := by
  refine ok_T F sc_law_tidy rfl (by decide) (fun cdv A outer s H E hr => ⟨_, _, (pss_one (ps_ret (pe_callTy call_tuple_of (by rfl) T.b_tuple (by decide +kernel) (pa_cons (pe_lc (own := [("powers", 2)]) (g := (gName 2)) (tt := _) rfl sc_law_tidy.nd (pi_list (pe_callB (cr_sortX rfl hr.units) (by rfl) T.b_sorted (by decide +kernel) (pa_cons (pv 1) pa_nil))) (blkOk_by (N := N_law_tidy) (sc := defScope s_law_tidy) (own := [("powers", 2)]) (by decide +kernel)) (fun _ _ _ _ _ => (pg_name (i := 2) sc_law_tidy.nd rfl (by first | exact Or.inl rfl | exact Or.inr rfl))) (fun _ _ _ _ _ => (pts_one (pt_cmpR (op_neD hr.units) (C8.pe_c T.d_law_element hr (by first | decide | omega) (by rfl) (pa_cons (pv 0) (pa_cons (pe_ixX (hu_of hr) (pv 1) (pv 2) (fun _ _ => rfl)) pa_nil))) pe_int (nomark _)))) (fun _ _ _ _ _ => (pe_tup (pa_cons (pv 2) (pa_cons (C8.pe_c T.d_law_element hr (by first | decide | omega) (by rfl) (pa_cons (pv 0) (pa_cons (pe_ixX (hu_of hr) (pv 1) (pv 2) (fun _ _ => rfl)) pa_nil))) pa_nil))))) pa_nil)))), (ss_ret (se_cb sc_tuple (sa_cons (se_sh (sf_lc (js := [2]) (si_list (se_sh (sf_sortX 1))) (sg_name 2) (st_test (se_op so_neD (se_call g_law_element_mono (sa_cons (se_var 0) (sa_cons (se_ixX 1 (se_var 2)) sa_nil))) se_c)) (se_tup (sa_cons (se_var 2) (sa_cons (se_call g_law_element_mono (sa_cons (se_var 0) (sa_cons (se_ixX 1 (se_var 2)) sa_nil))) sa_nil))))) sa_nil))), fun a zs d Pd h => ?_⟩)
  obtain ⟨p, kis, rfl, hp, hk, hne, hl, q⟩ := h
  have ko := keys_ok (ks := kis.map (·.1)) fun k hk => by
    obtain ⟨x, hx, rfl⟩ := List.mem_map.mp hk
    exact hne x hx
  have kl : ((kis.map (·.1)).mergeSort leL).length = kis.length := by rw [(List.mergeSort_perm _ _).length_eq, List.length_map]
  refine ⟨a, zs, rfl, by rw [hk, keys_kis]; exact ko.1, by rw [hk, keys_kis]; exact ko.2, _, rfl, ?_, fun j hj => by
    obtain rfl : j = 2 := by simpa using hj
    rfl, ?_⟩
  · rw [hk, keys_kis, sort_tupK, List.length_map, kl, sizeLine_eq]
    omega
  rw [hk, keys_kis, sort_tupK]
  have km : ∀ k ∈ (kis.map (·.1)).mergeSort leL, k ∈ kis.map (·.1) := fun k hk => (List.mergeSort_perm _ _).mem_iff.mp hk
  have eq : (tidyF p kis).map termD = (((kis.map (·.1)).mergeSort leL).map tupK).filterMap (termO p kis) := (fm_term p kis _).symm
  rw [eq] at q
  generalize (kis.map (·.1)).mergeSort leL = ks at km kl q ⊢
  refine compW_det (termO p kis) (fun e he k hk2 => ?_) ?_
  · obtain ⟨c, hc, rfl⟩ := List.mem_map.mp he
    obtain ⟨n, en, _⟩ := look_some (km c hc)
    have lk : lookD (zs.map Ent.kv) c = some (.int n) := by rw [hk, look_kis, en]; rfl
    have hz := hk2 [.sh (.int p), .dt a zs, .sh (tupK c)] rfl
    rw [termO_tup] at hz
    unfold termF at hz
    rw [en] at hz
    have hz : k [.sh (.int p), .dt a zs, .sh (tupK c)] (Option.map termD (if elemF p n = 0 then none else some (c, elemF p n))) := hz
    refine ⟨(by show 2 < 3; decide), _, rfl, ⟨a, zs, rfl⟩, _, rfl, a, zs, c, _, rfl, rfl, lk, p, n, rfl, hp, rfl, rfl, _, rfl, ?_⟩
    show if (!PyData.eqv (.int (elemF p n)) (.int 0)) = true then _ else _
    rw [eqv_int]
    by_cases h : elemF p n = 0
    · rw [if_pos h] at hz
      exact ifF (by rw [decide_eq_true h]; rfl) hz
    · rw [if_neg h] at hz
      exact ifT (by rw [decide_eq_false h]; rfl) ⟨_, rfl, _, rfl, ⟨a, zs, rfl⟩, _, rfl, a, zs, c, _, rfl, rfl, lk, p, n, rfl, hp, (by show 2 ≤ sizeLine; decide), hz⟩
  · rw [List.nil_append]
    exact ⟨_, .inl rfl, rfl, q⟩
theorem ok_law_polynomial {f : Addr} {fd : FuncData} (F : Fun K "_law_polynomial" "_law_polynomial" s_law_polynomial f fd) (T : TPl P w K mg base) : FnOk P w K mg base CX0 3 f fd ["deal", "p", "n", "terms", "power"] (spW K g_law_polynomial) := by
  refine ok_W F sc_law_polynomial (fun ds P ⟨p, n, t, w, e, _⟩ => by rw [e]; rfl) (by decide) (fun cdv A outer s H E hr => ⟨_, _, (pss_cons (ps_set (i := 5) sc_law_polynomial.nd rfl (by first | exact Or.inl rfl | exact Or.inr rfl) pe_newX)
      (pss_cons (ps_for PassesOwn.never rfl (pi_range1 (by rfl) T.b_range (pa_cons (C8.pe_c T.d_law_any hr (by first | decide | omega) (by rfl) (pa_cons (pv 0) (pa_cons (pe_op op_add (pv 3) pe_int) pa_nil))) pa_nil)) (pg_name (i := 6) sc_law_polynomial.nd rfl (by first | exact Or.inl rfl | exact Or.inr rfl)) (pss_cons (ps_set (i := 7) sc_law_polynomial.nd rfl (by first | exact Or.inl rfl | exact Or.inr rfl) (pe_callTy call_tuple_of (by rfl) T.b_tuple (by decide +kernel) (pa_cons (pe_lc (own := [("at", 8)]) (g := (gName 8)) (tt := tYes) rfl sc_law_polynomial.nd (pi_range1 (by rfl) T.b_range (pa_cons (pv 2) pa_nil)) (blkOk_by (N := N_law_polynomial) (sc := defScope s_law_polynomial) (own := [("at", 8)]) (by decide +kernel)) (fun _ _ _ _ _ => (pg_name (i := 8) sc_law_polynomial.nd rfl (by first | exact Or.inl rfl | exact Or.inr rfl))) (fun _ _ _ _ _ => pts_nil) (fun _ _ _ _ _ => (pe_ifExp (pt_cmpR op_gt (C8.pe_c T.d_law_any hr (by first | decide | omega) (by rfl) (pa_cons (pv 0) (pa_cons pe_int pa_nil))) pe_int (nomark _)) (C8.pe_c T.d_law_any hr (by first | decide | omega) (by rfl) (pa_cons (pv 0) (pa_cons (pe_op op_add (pv 4) pe_int) pa_nil))) pe_int))) pa_nil)))
      (pss_one (ps_asg (C8.pe_c T.d_law_some hr (by first | decide | omega) (by rfl) (pa_cons (pv 0) (pa_cons (pv 1) pa_nil))) (pg_sub (pv 5) (pv 7) (set_X (hu_of hr)))))))
      (pss_one (ps_ret (C8.pe_c T.d_law_tidy hr (by first | decide | omega) (by rfl) (pa_cons (pv 1) (pa_cons (pv 5) pa_nil))))))), (ss_cons (ss_newX (i := 5))
      (ss_cons (ss_for (si_rng1 (sa_cons (se_callW (i := 0) g_any_mono (sa_cons (se_op so_rI0 (se_var 3) se_c) sa_nil)) sa_nil)) (sg_name 6) (ss_cons (ss_asg (se_cb sc_tuple (sa_cons (se_sh (sf_lc (js := [8]) (si_rng1 (sa_cons (se_var 2) sa_nil)) (sg_name 8) st_yes (se_if (st_test (se_op so_rI0 (se_callW (i := 0) g_any_mono (sa_cons se_c sa_nil)) se_c)) (se_callW (i := 0) g_any_mono (sa_cons (se_op so_rI0 (se_var 4) se_c) sa_nil)) se_c))) sa_nil)) (sg_name 7))
      (ss_setX 5 (se_callW (i := 0) g_law_some_mono (sa_cons (se_var 1) sa_nil)) (se_var 7))))
      (ss_ret (se_callT (i := 5) g_law_tidy_mono (se_var 1))))), fun a l ds Pd h => ?_⟩)
  obtain ⟨p, n, tm, pw, rfl, ⟨p0, p1⟩, ⟨n0, n1⟩, ⟨t0, t1⟩, ⟨w0, w1⟩, q⟩ := h
  refine ⟨(by show 5 < 9; decide), fun ap => ?_⟩
  refine ⟨⟨a, l, rfl⟩, _, rfl, _, _, rfl, rfl, ⟨a, l, rfl⟩, _, rfl, by omega, Nat.lt_trans (PySem.Flt.log2_lt_of (k := 20) (by decide) (by omega)) (by decide), fun x x0 x1 => ?_⟩
  refine ⟨x, rfl, by omega, by omega, fun i r => ∃ (zs : List Ent) (kis : List (List Int × Int)) (x6 x7 : DV), r = [.dl a l, .sh (.int p), .sh (.int n), .sh (.int tm), .sh (.int pw), .dt ap zs, x6, x7, .no] ∧ zs.map Ent.kv = kisD kis ∧ kis.length ≤ i ∧ KisOk p n.toNat pw kis, ⟨[], [], _, _, rfl, rfl, Nat.le_refl _, ⟨List.nodup_nil, fun x hx => by cases hx⟩⟩, fun i y r hd hI => ?_, fun r hI => ?_⟩
  · obtain ⟨zs, kis, x6, x7, rfl, hk, hl, ok⟩ := hI
    have hi := (rngD_at hd).2
    have zl : zs.length = kis.length := by
      have := congrArg List.length hk
      unfold kisD at this
      rwa [List.length_map, List.length_map] at this
    refine ⟨(by show 6 < 9; decide), _, rfl, n, rfl, by omega, by omega, by rw [rngD_len, sizeLine_eq]; omega, fun j hj => by
      obtain rfl : j = 8 := by simpa using hj
      rfl, ?_⟩
    refine compW_any (fun e => ∃ i : Int, e = .int i ∧ 0 ≤ i ∧ i ≤ pw) (fun e he k hk => ?_) (fun y hy => by cases hy) (fun ys hyl hy => ?_)
    · refine ⟨(by show 8 < 9; decide), ifT rfl ⟨⟨a, l, rfl⟩, ⟨a, l, rfl⟩, 3, rfl, by decide, by decide, fun u u0 u1 => ⟨_, _, rfl, rfl, _, rfl, ?_⟩⟩⟩
      by_cases hu : 0 < u
      · refine ifT (decide_eq_true hu) ⟨⟨a, l, rfl⟩, _, rfl, _, _, rfl, rfl, ⟨a, l, rfl⟩, _, rfl, by omega, Nat.lt_trans (PySem.Flt.log2_lt_of (k := 20) (by decide) (by omega)) (by decide), fun v v0 v1 => ?_⟩
        refine hk _ _ ?_ ⟨v, rfl, v0, by omega⟩
        rfl
      · refine ifF (decide_eq_false hu) ?_
        refine hk _ _ ?_ ⟨0, rfl, by omega, w0⟩
        rfl
    obtain ⟨ks, rfl, hks⟩ := ints_all hy
    rw [List.length_map, List.length_nil, Nat.zero_add, rngD_len] at hyl
    refine ⟨ks.map PyData.int, .inl rfl, (by show 7 < 9; decide), ⟨a, l, rfl⟩, _, rfl, ⟨a, l, rfl⟩, p, rfl, p0, p1, fun v v0 v1 v2 => ?_⟩
    refine ⟨⟨ap, zs, rfl⟩, _, rfl, ap, zs, ks, rfl, rfl, by rw [sizeLine_eq]; omega, fun zs' hz => ?_⟩
    refine ⟨zs', putI kis ks v, _, _, rfl, by rw [hz, hk, put_kis], by have := putI_len kis ks v; omega, ⟨putI_nodup ok.one, fun z hz => ?_⟩⟩
    rcases putI_mem hz with h | rfl
    · exact ok.at_ z h
    · exact ⟨hyl, hks, v2, by show -1000 < v; omega, v1⟩
  · obtain ⟨zs, kis, x6, x7, rfl, hk, hl, ok⟩ := hI
    rw [rngD_len] at hl
    obtain ⟨t1', t2'⟩ := tidy_poly p0 p1 ok
    refine ⟨_, rfl, ap, zs, rfl, p, kis, rfl, p0, hk, fun z hz e => ?_, by omega, rfl, q _ t1' (by omega)⟩
    have := (ok.at_ z hz).1
    rw [e] at this
    simp only [List.length_nil] at this
    omega

structure TP (P : Program) (w : World) (K : PySem.W.Frag) (mg : Str → Option Value) (base : Heap) : Prop where
  b_tuple : mg "tuple" = none
  b_sorted : mg "sorted" = none
  b_range : mg "range" = none
  b_all : mg "all" = none
  b_sum : mg "sum" = none
  b_max : mg "max" = none
  b_enumerate : mg "enumerate" = none
  b_int : mg "int" = none
def g_element : CD := g_law_element
theorem g_element_mono : ∀ es P P', (∀ d, P d → P' d) → g_element es P → g_element es P' := g_law_element_mono
theorem ok_element {f : Addr} {fd : FuncData} (F : Fun K "element" "element" s_element f fd) (T : TP P w K mg base) : FnOk P w K mg base CX0 1 f fd ["p", "number"] (spD K g_element) := by
  refine ok_D F sc_element (fun ds P ⟨p, n, e, _⟩ => by rw [e]; rfl) (fun cdv A outer s H E hr => ⟨_, _, (pss_cons (ps_if (pt_cmpR (op_eqD hr.units) (pv 0) pe_int (nomark _)) (pss_one (ps_ret (pv 1))) pss_nil)
      (pss_one (ps_ret (pe_op op_mod (pv 1) (pv 0))))), (ss_cons (ss_if (st_test (se_op so_eqD (se_var 0) se_c)) (ss_ret (se_var 1)) ss_nil)
      (ss_ret (se_op so_rI (se_var 1) (se_var 0)))), fun ds Pd h => ?_⟩)
  obtain ⟨p, n, rfl, hp, q⟩ := h
  refine ⟨_, rfl, rfl, rfl, _, rfl, ?_⟩
  unfold elemF at q
  show if PyData.eqv (.int p) (.int 0) = true then _ else _
  rw [eqv_int]
  by_cases h0 : p = 0
  · rw [if_pos h0] at q
    rw [if_pos (decide_eq_true h0)]
    exact ⟨_, rfl, q⟩
  · rw [if_neg h0] at q
    rw [if_neg (by rw [decide_eq_false h0]; decide)]
    exact ⟨_, rfl, _, rfl, _, _, rfl, rfl, by omega, q⟩
def redO (p : Int) (z : List Int × Int) : Option (List Int × Int) := if elemF p z.2 = 0 then none else some (z.1, elemF p z.2)
def redF (p : Int) (kis : List (List Int × Int)) : List (List Int × Int) := kis.filterMap (redO p)
def g_reduced : D → KVD → (KVD → Prop) → Prop := fun d kvs P => ∃ (p : Int) (kis : List (List Int × Int)), d = .int p ∧ 0 ≤ p ∧ kvs = kisD kis ∧ kis.length ≤ 100000 ∧ (kis.map (·.1)).Nodup ∧ P (kisD (redF p kis))
theorem g_reduced_mono : ∀ d kvs P P', (∀ r, P r → P' r) → g_reduced d kvs P → g_reduced d kvs P' := fun d kvs P P' h ⟨p, kis, e1, e2, e3, e4, e5, q⟩ => ⟨p, kis, e1, e2, e3, e4, e5, h _ q⟩
structure TR (P : Program) (w : World) (K : PySem.W.Frag) (mg : Str → Option Value) (base : Heap) : Prop extends TP P w K mg base where
  d_element : C8.Cal P w K mg base 1 "element" (spD K g_element) []
theorem red_len (p : Int) (kis : List (List Int × Int)) : (redF p kis).length ≤ kis.length := List.length_filterMap_le _ _
theorem red_keys {p : Int} {k : List Int} : ∀ kis : List (List Int × Int), k ∈ (redF p kis).map (·.1) → k ∈ kis.map (·.1) := fun kis h => by
  obtain ⟨t, ht, e⟩ := List.mem_map.mp h
  obtain ⟨z, hz, ez⟩ := List.mem_filterMap.mp ht
  unfold redO at ez
  split at ez
  · cases ez
  · cases ez
    exact List.mem_map.mpr ⟨z, hz, e⟩
theorem look_in {kis : List (List Int × Int)} {k : List Int} {v : Int} (h : lookI kis k = some v) : k ∈ kis.map (·.1) := by
  unfold lookI at h
  cases hf : kis.find? fun x => decide (x.1 = k) with
  | none => rw [hf] at h; cases h
  | some x =>
    have h1 := List.find?_some (p := fun x : List Int × Int => decide (x.1 = k)) hf
    exact List.mem_map.mpr ⟨x, List.mem_of_find?_eq_some hf, of_decide_eq_true h1⟩
theorem ok_reduced {f : Addr} {fd : FuncData} (F : Fun K "reduced" "reduced" s_reduced f fd) (T : TR P w K mg base) : FnOk P w K mg base CX0 2 f fd ["p", "totals"] (spTX K g_reduced) := by
  refine ok_TX F sc_reduced rfl (by decide) (fun cdv A outer s H E hr => ⟨_, _, (pss_cons (ps_set (i := 2) sc_reduced.nd rfl (by first | exact Or.inl rfl | exact Or.inr rfl) pe_newX)
      (pss_cons (ps_lock (ps_for PassesOwn.never rfl (pi_itemsX (pv 1)) (pg_tup rfl (pgs_cons (pg_name (i := 3) sc_reduced.nd rfl (by first | exact Or.inl rfl | exact Or.inr rfl)) (pgs_cons (pg_name (i := 4) sc_reduced.nd rfl (by first | exact Or.inl rfl | exact Or.inr rfl)) pgs_nil))) (pss_cons (ps_set (i := 5) sc_reduced.nd rfl (by first | exact Or.inl rfl | exact Or.inr rfl) (C8.pe_c T.d_element hr (by first | decide | omega) (by rfl) (pa_cons (pv 0) (pa_cons (pv 4) pa_nil))))
      (pss_one (ps_if (pt_cmpR (op_neD hr.units) (pv 5) pe_int (nomark _)) (pss_one (ps_asg (pv 5) (pg_sub (pv 2) (pv 3) (set_X (hu_of hr))))) pss_nil)))))
      (pss_one (ps_ret (pv 2))))), (ss_cons (ss_newX (i := 2))
      (ss_cons (ss_forX 1 (sg_tup (sgs_cons (sg_name 3) (sgs_cons (sg_name 4) sgs_nil))) (ss_cons (ss_asg (se_call g_element_mono (sa_cons (se_var 0) (sa_cons (se_var 4) sa_nil))) (sg_name 5))
      (ss_if (st_test (se_op so_neD (se_var 5) se_c)) (ss_setX 2 (se_var 5) (se_var 3)) ss_nil)))
      (ss_retX 2))), fun a zs d Pd h => ?_⟩)
  obtain ⟨p, kis, rfl, hp, hk, hl, hn, q⟩ := h
  refine ⟨(by show 2 < 6; decide), fun p2 => ?_⟩
  refine ⟨a, zs, rfl, fun o => ⟨fun j r => ∃ (z2 : List Ent) (x3 x4 x5 : DV), r = [.sh (.int p), .dz a zs o, .dt p2 z2, x3, x4, x5] ∧ z2.map Ent.kv = kisD (redF p (kis.take j)), ⟨[], _, _, _, rfl, rfl⟩, fun j r ⟨_, _, _, _, e, _⟩ => by rw [e]; rfl, fun j z r hz hI => ?_, fun r hI => ?_⟩⟩
  · obtain ⟨z2, x3, x4, x5, rfl, hz2⟩ := hI
    obtain ⟨x, hx, ex⟩ : ∃ x, kis[j]? = some x ∧ z.kv = (x.1, .int x.2) := by
      have h := congrArg (fun l => l[j]?) hk
      unfold kisD at h
      rw [List.getElem?_map, List.getElem?_map, hz] at h
      cases hk : kis[j]? with
      | none => rw [hk] at h; cases h
      | some x => rw [hk] at h; exact ⟨x, rfl, Option.some.inj h⟩
    rw [ex]
    have etk : kis.take (j + 1) = kis.take j ++ [x] := by
      rw [List.take_add_one, hx]
      rfl
    have few := red_len p (kis.take j)
    have few2 : (kis.take j).length ≤ kis.length := List.length_take_le' ..
    have l2 : z2.length = (redF p (kis.take j)).length := by
      have := congrArg List.length hz2
      unfold kisD at this
      rwa [List.length_map, List.length_map] at this
    have nk : lookI (redF p (kis.take j)) x.1 = none := by
      cases h : lookI (redF p (kis.take j)) x.1 with
      | none => rfl
      | some v =>
        have hm := look_in h
        have h1 := red_keys _ hm
        have nd := hn
        rw [← List.take_append_drop (j + 1) kis, etk, List.map_append, List.map_append] at nd
        have := (List.nodup_append.mp (List.nodup_append.mp nd).1).2.2 _ h1 _ (List.mem_map.mpr ⟨x, List.mem_singleton.mpr rfl, rfl⟩)
        exact absurd rfl this
    refine ⟨_, rfl, rfl, _, _, rfl, (by show 3 < 6; decide), _, _, rfl, (by show 4 < 6; decide), rfl, ?_⟩
    refine ⟨_, rfl, _, rfl, p, x.2, rfl, hp, (by show 5 < 6; decide), ?_⟩
    refine ⟨_, rfl, rfl, rfl, _, rfl, ?_⟩
    show if (!PyData.eqv (.int (elemF p x.2)) (.int 0)) = true then _ else _
    rw [eqv_int]
    have er : redF p (kis.take (j + 1)) = redF p (kis.take j) ++ (match redO p x with | none => [] | some t => [t]) := by
      unfold redF
      rw [etk, List.filterMap_append, List.filterMap_cons, List.filterMap_nil]
      cases redO p x <;> rfl
    by_cases h0 : elemF p x.2 = 0
    · rw [if_neg (by rw [decide_eq_true h0]; decide)]
      refine ⟨z2, _, _, _, rfl, ?_⟩
      rw [hz2, er]
      unfold redO
      rw [if_pos h0, List.append_nil]
    · rw [if_pos (by rw [decide_eq_false h0]; rfl)]
      refine ⟨_, rfl, ⟨p2, z2, rfl⟩, _, rfl, p2, z2, x.1, rfl, rfl, by rw [sizeLine_eq, l2]; omega, fun z3 hz3 => ⟨z3, _, _, _, rfl, ?_⟩⟩
      rw [hz3, hz2, put_kis, er]
      unfold redO
      rw [if_neg h0]
      unfold putI
      rw [nk]
      rfl
  · obtain ⟨z2, x3, x4, x5, rfl, hz2⟩ := hI
    have zl : zs.length = kis.length := by
      have := congrArg List.length hk
      unfold kisD at this
      rwa [List.length_map, List.length_map] at this
    rw [zl, List.take_length] at hz2
    refine ⟨⟨p2, z2, rfl⟩, (by decide), rfl, p2, z2, rfl, ?_⟩
    rw [hz2]
    exact q
def g_gathered : CT := fun d kvs P => ∃ (p : Int) (kis : List (List Int × Int)), d = .int p ∧ 0 ≤ p ∧ kvs = kisD kis ∧ kis.length ≤ 100000 ∧ (kis.map (·.1)).Nodup ∧ P (.tuple (((redF p kis).map termD).mergeSort leD))
theorem g_gathered_mono : ∀ d kvs P P', (∀ r, P r → P' r) → g_gathered d kvs P → g_gathered d kvs P' := fun d kvs P P' h ⟨p, kis, e1, e2, e3, e4, e5, q⟩ => ⟨p, kis, e1, e2, e3, e4, e5, h _ q⟩
structure TG (P : Program) (w : World) (K : PySem.W.Frag) (mg : Str → Option Value) (base : Heap) : Prop extends TP P w K mg base where
  d_reduced : C8.Cal P w K mg base 2 "reduced" (spTX K g_reduced) []
theorem ok_gathered {f : Addr} {fd : FuncData} (F : Fun K "gathered" "gathered" s_gathered f fd) (T : TG P w K mg base) : FnOk P w K mg base CX0 3 f fd ["p", "totals"] (spT K g_gathered) := by
  refine ok_T F sc_gathered rfl (by decide) (fun cdv A outer s H E hr => ⟨_, _, (pss_one (ps_ret (pe_callTy call_tuple_of (by rfl) T.b_tuple (by decide +kernel) (pa_cons (pe_sortItX rfl hr.units (C8.pe_c T.d_reduced hr (by first | decide | omega) (by rfl) (pa_cons (pv 0) (pa_cons (pv 1) pa_nil))) (by rfl) T.b_sorted (by decide +kernel)) pa_nil)))), (ss_ret (se_cb sc_tuple (sa_cons (se_sh (sf_sortItX (sx_call g_reduced_mono (se_var 0) (sx_var 1)))) sa_nil))), fun a zs d Pd h => ?_⟩)
  obtain ⟨p, kis, rfl, hp, hk, hl, hn, q⟩ := h
  have hp2 := (List.mergeSort_perm ((redF p kis).map termD) leD).length_eq
  exact ⟨_, rfl, a, zs, rfl, p, kis, rfl, hp, hk, hl, hn, redF p kis, rfl, _, .inl rfl, rfl, q⟩
def onlyF (n at_ x : Int) : List Int := List.replicate at_.toNat 0 ++ [x] ++ List.replicate (n - at_ - 1).toNat 0
def g_only_at : CD := fun ds P => ∃ n at_ x : Int, ds = [.int n, .int at_, .int x] ∧ 0 ≤ at_ ∧ at_ < n ∧ n ≤ 1000 ∧ P (.tuple ((onlyF n at_ x).map PyData.int))
theorem g_only_at_mono : ∀ es P P', (∀ d, P d → P' d) → g_only_at es P → g_only_at es P' := fun es P P' h ⟨n, a, x, e, h1, h2, h3, q⟩ => ⟨n, a, x, e, h1, h2, h3, h _ q⟩
theorem ok_only_at {f : Addr} {fd : FuncData} (F : Fun K "only_at" "only_at" s_only_at f fd) (T : TP P w K mg base) : FnOk P w K mg base CX0 1 f fd ["n", "at", "number"] (spD K g_only_at) := by
  refine ok_D F sc_only_at (fun ds P ⟨p, n, x, e, _⟩ => by rw [e]; rfl) (fun cdv A outer s H E hr => ⟨_, _, (pss_one (ps_ret (pe_op op_catA (pe_op op_catA (pe_op op_repA (pe_tup (pa_cons pe_int pa_nil)) (pv 1)) (pe_tup (pa_cons (pv 2) pa_nil))) (pe_op op_repA (pe_tup (pa_cons pe_int pa_nil)) (pe_op op_sub (pe_op op_sub (pv 0) (pv 1)) pe_int))))), (ss_ret (se_op so_catT (se_op so_catT (se_op so_repA (se_tup (sa_cons se_c sa_nil)) (se_var 1)) (se_tup (sa_cons (se_var 2) sa_nil))) (se_op so_repA (se_tup (sa_cons se_c sa_nil)) (se_op so_rI0 (se_op so_rI0 (se_var 0) (se_var 1)) se_c)))), fun ds Pd h => ?_⟩)
  obtain ⟨n, at_, x, rfl, h0, h1, h2, q⟩ := h
  have er : ∀ k : Int, (List.replicate k.toNat [PyData.int 0]).flatten = (List.replicate k.toNat (0 : Int)).map PyData.int := fun k => by
    generalize k.toNat = m
    induction m with
    | zero => rfl
    | succ m ih => rw [List.replicate_succ, List.flatten_cons, ih]; rfl
  refine ⟨(by show 1 ≤ sizeLine; decide), _, rfl, [.int 0], at_, rfl, rfl, List.cons_ne_nil _ _, by omega, by omega, (by show 1 ≤ 1000; decide), _, rfl, (by show 1 ≤ sizeLine; decide), _, _, rfl, rfl, ?_, (by show 1 ≤ sizeLine; decide), _, rfl, _, rfl, _, _, rfl, rfl, _, _, rfl, rfl, [.int 0], n - at_ - 1, rfl, rfl, List.cons_ne_nil _ _, by omega, by omega, (by show 1 ≤ 1000; decide), _, _, rfl, rfl, ?_, ?_⟩
  · rw [er, List.length_map, List.length_replicate, sizeLine_eq]
    show at_.toNat + 1 ≤ _
    omega
  · rw [er, er, List.length_append, List.length_map, List.length_replicate, List.length_map, List.length_replicate, sizeLine_eq]
    show at_.toNat + 1 + _ ≤ _
    omega
  · rw [er, er]
    unfold onlyF at q
    rw [List.map_append, List.map_append] at q
    exact q
def g_unknown : CD := fun ds P => ∃ p n at_ : Int, ds = [.int p, .int n, .int at_] ∧ (p = 0 ∨ 2 ≤ p) ∧ 0 ≤ at_ ∧ at_ < n ∧ n ≤ 1000 ∧ P (.tuple [termD (onlyF n at_ 1, 1)])
theorem g_unknown_mono : ∀ es P P', (∀ d, P d → P' d) → g_unknown es P → g_unknown es P' := fun es P P' h ⟨p, n, a, e, h0, h1, h2, h3, q⟩ => ⟨p, n, a, e, h0, h1, h2, h3, h _ q⟩
structure TU (P : Program) (w : World) (K : PySem.W.Frag) (mg : Str → Option Value) (base : Heap) : Prop extends TP P w K mg base where
  d_gathered : C8.Cal P w K mg base 3 "gathered" (spT K g_gathered) []
  d_only_at : C8.Cal P w K mg base 1 "only_at" (spD K g_only_at) []
theorem ok_unknown {f : Addr} {fd : FuncData} (F : Fun K "unknown" "unknown" s_unknown f fd) (T : TU P w K mg base) : FnOk P w K mg base CX0 4 f fd ["p", "n", "at"] (spD K g_unknown) := by
  refine ok_D F sc_unknown (fun ds P ⟨p, n, x, e, _⟩ => by rw [e]; rfl) (fun cdv A outer s H E hr => ⟨_, _, (pss_one (ps_ret (C8.pe_c T.d_gathered hr (by first | decide | omega) (by rfl) (pa_cons (pv 0) (pa_cons (pe_dict1 hr.units0 (C8.pe_c T.d_only_at hr (by first | decide | omega) (by rfl) (pa_cons (pv 1) (pa_cons (pv 2) (pa_cons pe_int pa_nil)))) pe_int) pa_nil))))), (ss_ret (se_callX g_gathered_mono (se_var 0) (sx_dict1 (se_call g_only_at_mono (sa_cons (se_var 1) (sa_cons (se_var 2) (sa_cons se_c sa_nil)))) se_c))), fun ds Pd h => ?_⟩)
  obtain ⟨p, n, at_, rfl, hp, h0, h1, h2, q⟩ := h
  have er : redF p [(onlyF n at_ 1, 1)] = [(onlyF n at_ 1, 1)] := by
    unfold redF
    rw [List.filterMap_cons, List.filterMap_nil]
    have e1 : elemF p 1 = 1 := by
      unfold elemF
      rcases hp with h | h
      · rw [if_pos h]
      · rw [if_neg (by omega)]
        exact Int.emod_eq_of_lt (by decide) (by omega)
    unfold redO
    rw [e1]
    rfl
  refine ⟨_, rfl, _, rfl, _, rfl, n, at_, 1, rfl, h0, h1, h2, onlyF n at_ 1, rfl, p, [(onlyF n at_ 1, 1)], rfl, by omega, rfl, (by show 1 ≤ 100000; decide), by simp, ?_⟩
  rw [er]
  show Pd (.tuple (([termD (onlyF n at_ 1, 1)]).mergeSort leD))
  rw [List.mergeSort_singleton]
  exact q

/-! ### totals -/
def rangeT (p : Int) : D := .tuple ((rngI 0 p.toNat).map PyData.int)
def g_all_lists : CD := fun ds P => ∃ p n : Int, ds = [.int p, .int n] ∧ 1 ≤ p ∧ p ≤ 1000 ∧ 0 ≤ n ∧ n ≤ 1000 ∧ P (.tuple (List.replicate n.toNat (rangeT p)))
theorem g_all_lists_mono : ∀ es P P', (∀ d, P d → P' d) → g_all_lists es P → g_all_lists es P' := fun es P P' h ⟨p, n, e, h1, h2, h3, h4, q⟩ => ⟨p, n, e, h1, h2, h3, h4, h _ q⟩
theorem ok_all_lists {f : Addr} {fd : FuncData} (F : Fun K "all_lists" "all_lists" s_all_lists f fd) (T : TP P w K mg base) : FnOk P w K mg base CX0 1 f fd ["p", "n"] (spD K g_all_lists) := by
  refine ok_D F sc_all_lists (fun ds P ⟨p, n, e, _⟩ => by rw [e]; rfl) (fun cdv A outer s H E hr => ⟨_, _, (pss_one (ps_ret (pe_op op_repA (pe_tup (pa_cons (pe_tupRg rfl (by rfl) T.b_tuple (prg_1 (by rfl) T.b_range (pv 0))) pa_nil)) (pv 1)))), (ss_ret (se_op so_repA (se_tup (sa_cons (se_tg1 (se_var 0)) sa_nil)) (se_var 1))), fun ds Pd h => ?_⟩)
  obtain ⟨p, n, rfl, p1, p2, n1, n2, q⟩ := h
  refine ⟨_, rfl, p, rfl, .of_le (by decide) (by omega) (by decide) (by omega), (by show 1 ≤ sizeLine; decide), _, rfl, [_], n, rfl, rfl, List.cons_ne_nil _ _, by omega, by omega, (by show 1 ≤ 1000; decide), ?_⟩
  have er : ∀ (x : D) (k : Nat), (List.replicate k [x]).flatten = List.replicate k x := fun x k => by
    induction k with
    | zero => rfl
    | succ m ih => rw [List.replicate_succ, List.flatten_cons, ih]; rfl
  rw [er, rngD_I]
  exact q
def countsB (p : Int) (k : List Int) : Bool := k.all fun e => decide (0 < e) && decide (e % (p - 1) = 0)
def g_counts : CD := fun ds P => ∃ (p : Int) (k : List Int), ds = [.int p, .tuple (k.map PyData.int)] ∧ 2 ≤ p ∧ k.length ≤ 1000 ∧ P (.bool (countsB p k))
theorem g_counts_mono : ∀ es P P', (∀ d, P d → P' d) → g_counts es P → g_counts es P' := fun es P P' h ⟨p, n, e, h1, h2, q⟩ => ⟨p, n, e, h1, h2, h _ q⟩
theorem ok_counts {f : Addr} {fd : FuncData} (F : Fun K "_counts" "_counts" s_counts f fd) (T : TP P w K mg base) : FnOk P w K mg base CX0 1 f fd ["p", "powers"] (spD K g_counts) := by
  refine ok_D F sc_counts (fun ds P ⟨p, k, e, _⟩ => by rw [e]; rfl) (fun cdv A outer s H E hr => ⟨_, _, (pss_one (ps_ret (pe_callB (cr_all rfl) (by rfl) T.b_all (by decide +kernel) (pa_cons (pe_lc (own := [("power", 2)]) (g := (gName 2)) (tt := tYes) rfl sc_counts.nd (pi_tup (pv 1)) (blkOk_by (N := N_counts) (sc := defScope s_counts) (own := [("power", 2)]) (by decide +kernel)) (fun _ _ _ _ _ => (pg_name (i := 2) sc_counts.nd rfl (by first | exact Or.inl rfl | exact Or.inr rfl))) (fun _ _ _ _ _ => pts_nil) (fun _ _ _ _ _ => (pe_and (pe_cmpR op_gt (pv 2) pe_int (nomark _)) (pe_one (pe_cmpR (op_eqD hr.units) (pe_op op_mod (pv 2) (pe_op op_sub (pv 0) pe_int)) pe_int (nomark _)))))) pa_nil)))), (ss_ret (se_cb sc_all (sa_cons (se_sh (sf_lc (js := [2]) (si_tup (se_var 1)) (sg_name 2) st_yes (se_andV (se_op so_rI0 (se_var 2) se_c) (se_op so_eqD (se_op so_rI (se_var 2) (se_op so_rI0 (se_var 0) se_c)) se_c)))) sa_nil))), fun ds Pd h => ?_⟩)
  obtain ⟨p, k, rfl, hp, hl, q⟩ := h
  refine ⟨_, rfl, k.map PyData.int, rfl, by rw [List.length_map, sizeLine_eq]; omega, fun j hj => by
    obtain rfl : j = 2 := by simpa using hj
    rfl, ?_⟩
  refine compW_all _ (fun x : Int => PyData.bool (decide (0 < x) && decide (x % (p - 1) = 0))) (fun x hx kk hk => ?_) ⟨k.map fun x => decide (0 < x) && decide (x % (p - 1) = 0), by rw [List.map_map]; rfl, ?_⟩
  · refine ⟨(by show 2 < 3; decide), ifT rfl ⟨_, rfl, _, _, rfl, rfl, decide (0 < x), rfl, ?_⟩⟩
    by_cases h0 : 0 < x
    · rw [decide_eq_true h0] at hk ⊢
      refine ifT rfl ⟨_, rfl, _, rfl, _, _, rfl, rfl, x, p - 1, rfl, rfl, by omega, rfl, rfl, ?_⟩
      show kk _ (some (.bool (PyData.eqv (.int (x % (p - 1))) (.int 0))))
      rw [eqv_int]
      exact hk _ rfl
    · rw [decide_eq_false h0] at hk ⊢
      exact ifF rfl (hk _ rfl)
  · rw [List.all_map]
    exact q
abbrev TsL := List (List Int × Int)
def cntS (p : Int) (ts : TsL) : Int := ((ts.filter fun t => countsB p t.1).map (·.2)).sum
def totF (p n : Int) (ts : TsL) : Int := elemF p (if n % 2 = 0 then cntS p ts else -cntS p ts)
def g_total_worth : CD := fun ds P => ∃ (p n : Int) (ts : TsL), ds = [.int p, .int n, .tuple (ts.map termD)] ∧ 2 ≤ p ∧ ts.length ≤ 1000 ∧ (∀ t ∈ ts, t.1.length ≤ 1000) ∧ P (.int (totF p n ts))
theorem g_total_worth_mono : ∀ es P P', (∀ d, P d → P' d) → g_total_worth es P → g_total_worth es P' := fun es P P' h ⟨p, n, ts, e, h1, h2, h3, q⟩ => ⟨p, n, ts, e, h1, h2, h3, h _ q⟩
structure TT (P : Program) (w : World) (K : PySem.W.Frag) (mg : Str → Option Value) (base : Heap) : Prop extends TR P w K mg base where
  d_counts : C8.Cal P w K mg base 1 "_counts" (spD K g_counts) []
theorem ok_total_worth {f : Addr} {fd : FuncData} (F : Fun K "total_worth" "total_worth" s_total_worth f fd) (T : TT P w K mg base) : FnOk P w K mg base CX0 2 f fd ["p", "n", "polynomial"] (spD K g_total_worth) := by
  refine ok_D F sc_total_worth (fun ds P ⟨p, n, k, e, _⟩ => by rw [e]; rfl) (fun cdv A outer s H E hr => ⟨_, _, (pss_cons (ps_set (i := 3) sc_total_worth.nd rfl (by first | exact Or.inl rfl | exact Or.inr rfl) (pe_callB (cr_sum rfl) (by rfl) T.b_sum (by decide +kernel) (pa_cons (pe_lc (own := [("powers", 4), ("factor", 5)]) (g := (gTup K 2 (gCons (gName 4) (gCons (gName 5) gNil)))) (tt := _) rfl sc_total_worth.nd (pi_tup (pv 2)) (blkOk_by (N := N_total_worth) (sc := defScope s_total_worth) (own := [("powers", 4), ("factor", 5)]) (by decide +kernel)) (fun _ _ _ _ _ => (pg_tup rfl (pgs_cons (pg_name (i := 4) sc_total_worth.nd rfl (by first | exact Or.inl rfl | exact Or.inr rfl)) (pgs_cons (pg_name (i := 5) sc_total_worth.nd rfl (by first | exact Or.inl rfl | exact Or.inr rfl)) pgs_nil)))) (fun _ _ _ _ _ => (pts_one (pt_val (C8.pe_c T.d_counts hr (by first | decide | omega) (by rfl) (pa_cons (pv 0) (pa_cons (pv 4) pa_nil)))))) (fun _ _ _ _ _ => (pv 5))) pa_nil)))
      (pss_one (ps_ret (C8.pe_c T.d_element hr (by first | decide | omega) (by rfl) (pa_cons (pv 0) (pa_cons (pe_ifExp (pt_cmpR (op_eqD hr.units) (pe_op op_mod (pv 1) pe_int) pe_int (nomark _)) (pv 3) (pe_un un_neg (pv 3))) pa_nil)))))), (ss_cons (ss_asg (se_cb sc_sum (sa_cons (se_sh (sf_lc (js := [4, 5]) (si_tup (se_var 2)) (sg_tup (sgs_cons (sg_name 4) (sgs_cons (sg_name 5) sgs_nil))) (st_b (se_call g_counts_mono (sa_cons (se_var 0) (sa_cons (se_var 4) sa_nil)))) (se_var 5))) sa_nil)) (sg_name 3))
      (ss_ret (se_call g_element_mono (sa_cons (se_var 0) (sa_cons (se_if (st_test (se_op so_eqD (se_op so_rI (se_var 1) se_c) se_c)) (se_var 3) (se_un su_rU (se_var 3))) sa_nil))))), fun ds Pd h => ?_⟩)
  obtain ⟨p, n, ts, rfl, hp, hl, hk0, q⟩ := h
  refine ⟨_, rfl, ts.map termD, rfl, by rw [List.length_map, sizeLine_eq]; omega, fun j hj => by
    rcases (by simpa using hj : j = 4 ∨ j = 5) with rfl | rfl <;> rfl, ?_⟩
  refine compW_fil termD (fun t => PyData.int t.2) (fun t => countsB p t.1) (fun t ht k hk => ?_) ⟨((ts.filter fun t => countsB p t.1).map (·.2)), by rw [List.map_map]; rfl, (by show 3 < 6; decide), _, rfl, _, rfl, n, 2, rfl, rfl, (by show (0 : Int) < 2; decide), rfl, rfl, _, rfl, ?_⟩
  · refine ⟨_, rfl, rfl, _, _, rfl, (by show 4 < 6; decide), _, _, rfl, (by show 5 < 6; decide), rfl, _, rfl, _, rfl, p, t.1, rfl, hp, hk0 t ht, _, rfl, ?_⟩
    cases hc : countsB p t.1 with
    | true =>
      rw [hc] at hk
      exact ifT rfl ⟨_, rfl, hk _ rfl⟩
    | false =>
      rw [hc] at hk
      exact ifF rfl (hk _ rfl)
  · show if PyData.eqv (.int (n % 2)) (.int 0) = true then _ else _
    rw [eqv_int]
    unfold totF at q
    by_cases h0 : n % 2 = 0
    · rw [if_pos h0] at q
      exact ifT (decide_eq_true h0) ⟨_, rfl, p, _, rfl, by omega, q⟩
    · rw [if_neg h0] at q
      exact ifF (decide_eq_false h0) ⟨_, rfl, _, rfl, p, _, rfl, by omega, q⟩
def zeroD (n many : Int) : D := .tuple ((rngI 0 many.toNat).map fun a => PyData.tuple [termD (onlyF n a 1, 1)])
def g_zero_unknowns : CD := fun ds P => ∃ p n many : Int, ds = [.int p, .int n, .int many] ∧ 2 ≤ p ∧ 0 ≤ many ∧ many ≤ n ∧ n ≤ 1000 ∧ P (zeroD n many)
theorem g_zero_unknowns_mono : ∀ es P P', (∀ d, P d → P' d) → g_zero_unknowns es P → g_zero_unknowns es P' := fun es P P' h ⟨p, n, m, e, h1, h2, h3, h4, q⟩ => ⟨p, n, m, e, h1, h2, h3, h4, h _ q⟩
structure TZu (P : Program) (w : World) (K : PySem.W.Frag) (mg : Str → Option Value) (base : Heap) : Prop extends TP P w K mg base where
  d_unknown : C8.Cal P w K mg base 4 "unknown" (spD K g_unknown) []
theorem ok_zero_unknowns {f : Addr} {fd : FuncData} (F : Fun K "zero_unknowns" "zero_unknowns" s_zero_unknowns f fd) (T : TZu P w K mg base) : FnOk P w K mg base CX0 5 f fd ["p", "n", "many"] (spD K g_zero_unknowns) := by
  refine ok_D F sc_zero_unknowns (fun ds P ⟨p, n, k, e, _⟩ => by rw [e]; rfl) (fun cdv A outer s H E hr => ⟨_, _, (pss_one (ps_ret (pe_callTy call_tuple_of (by rfl) T.b_tuple (by decide +kernel) (pa_cons (pe_lc (own := [("at", 3)]) (g := (gName 3)) (tt := tYes) rfl sc_zero_unknowns.nd (pi_range1 (by rfl) T.b_range (pa_cons (pv 2) pa_nil)) (blkOk_by (N := N_zero_unknowns) (sc := defScope s_zero_unknowns) (own := [("at", 3)]) (by decide +kernel)) (fun _ _ _ _ _ => (pg_name (i := 3) sc_zero_unknowns.nd rfl (by first | exact Or.inl rfl | exact Or.inr rfl))) (fun _ _ _ _ _ => pts_nil) (fun _ _ _ _ _ => (C8.pe_c T.d_unknown hr (by first | decide | omega) (by rfl) (pa_cons (pv 0) (pa_cons (pv 1) (pa_cons (pv 3) pa_nil)))))) pa_nil)))), (ss_ret (se_cb sc_tuple (sa_cons (se_sh (sf_lc (js := [3]) (si_rng1 (sa_cons (se_var 2) sa_nil)) (sg_name 3) st_yes (se_call g_unknown_mono (sa_cons (se_var 0) (sa_cons (se_var 1) (sa_cons (se_var 3) sa_nil)))))) sa_nil))), fun ds Pd h => ?_⟩)
  obtain ⟨p, n, many, rfl, hp, m0, m1, hn, q⟩ := h
  refine ⟨_, rfl, many, rfl, by omega, by omega, by rw [rngD_len, sizeLine_eq]; omega, fun j hj => by
    obtain rfl : j = 3 := by simpa using hj
    rfl, ?_⟩
  rw [rngD_I]
  refine compW_all _ (fun a : Int => PyData.tuple [termD (onlyF n a 1, 1)]) (fun x hx k hk => ?_) ⟨_, .inl rfl, q⟩
  have hx2 := rngI_mem' hx
  exact ⟨(by show 3 < 4; decide), ifT rfl ⟨_, rfl, _, rfl, _, rfl, p, n, x, rfl, .inr hp, by omega, by omega, hn, hk _ rfl⟩⟩

/-! ### what the law reckons itself -/
def sumsF (ts : List (List Int × Int)) : List Int := ts.map fun t => t.1.sum
def degL (ts : List (List Int × Int)) : Int := (sumsF ts).foldl max (-1)
def g_law_degree : CD := fun ds P => ∃ ts : List (List Int × Int), ds = [.tuple (ts.map termD)] ∧ ts.length ≤ 100000 ∧ P (.int (degL ts))
theorem g_law_degree_mono : ∀ es P P', (∀ d, P d → P' d) → g_law_degree es P → g_law_degree es P' := fun es P P' h ⟨ts, e, h1, q⟩ => ⟨ts, e, h1, h _ q⟩
def sumO : D → Option D
  | .tuple [.tuple es, _] => some (.int (es.map intOf).sum)
  | _ => none
theorem sumO_term (t : List Int × Int) : sumO (termD t) = some (.int t.1.sum) := by
  unfold sumO termD tupK
  show some (PyData.int ((t.1.map PyData.int).map intOf).sum) = _
  rw [intOf_map]
theorem fm_sum : ∀ ts : List (List Int × Int), (ts.map termD).filterMap sumO = (sumsF ts).map PyData.int
  | [] => rfl
  | t :: ts => by
    rw [List.map_cons, List.filterMap_cons_some (sumO_term t), fm_sum ts]
    rfl
theorem alikeAll_ints (ks : List Int) : PySem.W.AlikeAll (ks.map PyData.int) := ⟨(alike_ii ks).1, fun x hx z => by
  obtain ⟨i, rfl, _⟩ := mem_int hx
  cases z⟩
theorem ok_law_degree {f : Addr} {fd : FuncData} (F : Fun K "_law_degree" "_law_degree" s_law_degree f fd) (T : TP P w K mg base) : FnOk P w K mg base CX0 1 f fd ["polynomial"] (spD K g_law_degree) := by
  refine ok_D F sc_law_degree (fun ds P ⟨ts, e, _⟩ => by rw [e]; rfl) (fun cdv A outer s H E hr => ⟨_, _, (pss_one (ps_ret (pe_callB (cr_maxD rfl hr.units) (by rfl) T.b_max (by decide +kernel) (pa_cons (pe_op op_catL (pe_lst (pa_cons (pe_un un_neg pe_int) pa_nil)) (pe_lc (own := [("powers", 1), ("factor", 2)]) (g := (gTup K 2 (gCons (gName 1) (gCons (gName 2) gNil)))) (tt := tYes) rfl sc_law_degree.nd (pi_tup (pv 0)) (blkOk_by (N := N_law_degree) (sc := defScope s_law_degree) (own := [("powers", 1), ("factor", 2)]) (by decide +kernel)) (fun _ _ _ _ _ => (pg_tup rfl (pgs_cons (pg_name (i := 1) sc_law_degree.nd rfl (by first | exact Or.inl rfl | exact Or.inr rfl)) (pgs_cons (pg_name (i := 2) sc_law_degree.nd rfl (by first | exact Or.inl rfl | exact Or.inr rfl)) pgs_nil)))) (fun _ _ _ _ _ => pts_nil) (fun _ _ _ _ _ => (pe_callB (cr_sumT rfl) (by rfl) T.b_sum (by decide +kernel) (pa_cons (pv 1) pa_nil))))) pa_nil)))), (ss_ret (se_cb sc_maxD (sa_cons (se_sh (sf_catL (se_sh (sf_lst (sa_cons (se_un su_rU se_c) sa_nil))) (se_sh (sf_lc (js := [1, 2]) (si_tup (se_var 0)) (sg_tup (sgs_cons (sg_name 1) (sgs_cons (sg_name 2) sgs_nil))) st_yes (se_cb sc_sumT (sa_cons (se_var 1) sa_nil)))))) sa_nil))), fun ds Pd h => ?_⟩)
  obtain ⟨ts, rfl, hl, q⟩ := h
  generalize hS : PyData.tuple (ts.map termD) = S
  refine ⟨1, rfl, (by show 1 ≤ sizeLine; decide), S, rfl, _, hS.symm, by rw [List.length_map, sizeLine_eq]; omega, fun j hj => ?_, ?_⟩
  · rcases (by simpa using hj : j = 1 ∨ j = 2) with rfl | rfl <;> rfl
  refine compW_det sumO (fun e he k hk => ?_) ?_
  · obtain ⟨t, ht, rfl⟩ := List.mem_map.mp he
    have hz := hk [.sh S, .sh (tupK t.1), .sh (.int t.2)] rfl
    rw [sumO_term] at hz
    exact ⟨_, rfl, rfl, _, _, rfl, (by show 1 < 3; decide), _, _, rfl, (by show 2 < 3; decide), rfl, _, rfl, t.1, rfl, hz⟩
  rw [List.nil_append, fm_sum]
  have sl : (sumsF ts).length = ts.length := List.length_map ..
  refine ⟨_, _, rfl, rfl, by rw [List.length_map, sl, sizeLine_eq]; show 1 + ts.length ≤ _; omega, .int (-1), (sumsF ts).map PyData.int, rfl, alikeAll_ints (-1 :: sumsF ts), (alike_ii (-1 :: sumsF ts)).2.2, ?_⟩
  rw [PySem.W.maxD_ints]
  exact q

def powF (p x : Int) : Nat → Int
  | 0 => 1
  | k + 1 => elemF p (powF p x k * x)
theorem powF_b {p x : Int} (hp : 2 ≤ p) : ∀ k, 0 ≤ powF p x k ∧ powF p x k < p
  | 0 => ⟨(by show (0 : Int) ≤ 1; decide), by show 1 < p; omega⟩
  | k + 1 => by
    show 0 ≤ elemF p _ ∧ elemF p _ < p
    unfold elemF
    rw [if_neg (by omega)]
    exact ⟨Int.emod_nonneg _ (by omega), Int.emod_lt_of_pos _ (by omega)⟩
def g_law_power : CD := fun ds P => ∃ p x k : Int, ds = [.int p, .int x, .int k] ∧ (2 ≤ p ∧ p ≤ 1000) ∧ (0 ≤ x ∧ x < p) ∧ (0 ≤ k ∧ k ≤ 1000) ∧ P (.int (powF p x k.toNat))
theorem g_law_power_mono : ∀ es P P', (∀ d, P d → P' d) → g_law_power es P → g_law_power es P' := fun es P P' h ⟨p, x, k, e, h1, h2, h3, q⟩ => ⟨p, x, k, e, h1, h2, h3, h _ q⟩
structure TE (P : Program) (w : World) (K : PySem.W.Frag) (mg : Str → Option Value) (base : Heap) : Prop extends TP P w K mg base where
  d_law_element : C8.Cal P w K mg base 1 "_law_element" (spD K g_law_element) []
theorem ok_law_power {f : Addr} {fd : FuncData} (F : Fun K "_law_power" "_law_power" s_law_power f fd) (T : TE P w K mg base) : FnOk P w K mg base CX0 2 f fd ["p", "one", "power"] (spD K g_law_power) := by
  refine ok_D F sc_law_power (fun ds P ⟨p, n, k, e, _⟩ => by rw [e]; rfl) (fun cdv A outer s H E hr => ⟨_, _, (pss_cons (ps_set (i := 3) sc_law_power.nd rfl (by first | exact Or.inl rfl | exact Or.inr rfl) pe_int)
      (pss_cons (ps_for PassesOwn.never rfl (pi_range1 (by rfl) T.b_range (pa_cons (pv 2) pa_nil)) (pg_name (i := 4) sc_law_power.nd rfl (by first | exact Or.inl rfl | exact Or.inr rfl)) (pss_one (ps_set (i := 3) sc_law_power.nd rfl (by first | exact Or.inl rfl | exact Or.inr rfl) (C8.pe_c T.d_law_element hr (by first | decide | omega) (by rfl) (pa_cons (pv 0) (pa_cons (pe_op op_mulW (pv 3) (pv 1)) pa_nil))))))
      (pss_one (ps_ret (pv 3))))), (ss_cons (ss_asg se_c (sg_name 3))
      (ss_cons (ss_for (si_rng1 (sa_cons (se_var 2) sa_nil)) (sg_name 4) (ss_asg (se_call g_law_element_mono (sa_cons (se_var 0) (sa_cons (se_op so_rI (se_var 3) (se_var 1)) sa_nil))) (sg_name 3)))
      (ss_ret (se_var 3)))), fun ds Pd h => ?_⟩)
  obtain ⟨p, x, k, rfl, ⟨p0, p1⟩, ⟨x0, x1⟩, ⟨k0, k1⟩, q⟩ := h
  refine ⟨(by show 3 < 5; decide), _, rfl, k, rfl, by omega, by omega, fun i r => ∃ x4 : DV, r = [.sh (.int p), .sh (.int x), .sh (.int k), .sh (.int (powF p x i)), x4], ⟨_, rfl⟩, fun i y r hd hI => ?_, fun r hI => ?_⟩
  · obtain ⟨x4, rfl⟩ := hI
    obtain ⟨b0, b1⟩ := powF_b (x := x) p0 i
    exact ⟨(by show 4 < 5; decide), _, rfl, _, rfl, _, rfl, _, _, rfl, rfl, wide_mul (a := 20) (b := 20) (by omega) (by omega) (by decide) (by decide) (by decide), p, _, rfl, by omega, (by show 3 < 5; decide), _, rfl⟩
  · obtain ⟨x4, rfl⟩ := hI
    rw [rngD_len]
    exact ⟨_, rfl, q⟩
def prodI : List Int → Int
  | [] => 1
  | x :: xs => x * prodI xs
def monF (p : Int) (es xs : List Int) : Int := prodI ((es.zip xs).map fun q => powF p q.2 q.1.toNat)
def worF (p : Int) (ts : TsL) (xs : List Int) : Int := ts.foldl (fun tot t => elemF p (tot + t.2 * monF p t.1 xs)) 0
def g_law_worth : CD := fun ds P => ∃ (p : Int) (ts : TsL) (xs : List Int), ds = [.int p, .tuple (ts.map termD), tupK xs] ∧ (2 ≤ p ∧ p ≤ 101) ∧ ts.length ≤ 1000 ∧ xs.length ≤ 5 ∧ (∀ x ∈ xs, 0 ≤ x ∧ x < p) ∧ (∀ t ∈ ts, t.1.length = xs.length ∧ (∀ e ∈ t.1, 0 ≤ e ∧ e ≤ 100) ∧ 0 ≤ t.2 ∧ t.2 < p) ∧ P (.int (worF p ts xs))
theorem g_law_worth_mono : ∀ es P P', (∀ d, P d → P' d) → g_law_worth es P → g_law_worth es P' := fun es P P' h ⟨p, ts, xs, e, h1, h2, h3, h4, h5, q⟩ => ⟨p, ts, xs, e, h1, h2, h3, h4, h5, h _ q⟩
structure TWo (P : Program) (w : World) (K : PySem.W.Frag) (mg : Str → Option Value) (base : Heap) : Prop extends TE P w K mg base where
  d_law_power : C8.Cal P w K mg base 2 "_law_power" (spD K g_law_power) []
theorem prodI_app : ∀ a b : List Int, prodI (a ++ b) = prodI a * prodI b
  | [], b => (Int.one_mul _).symm
  | x :: a, b => by
    show x * prodI (a ++ b) = x * prodI a * prodI b
    rw [prodI_app a b, Int.mul_assoc]
theorem prodI_b {p : Int} (hp : p ≤ 101) : ∀ {l : List Int}, (∀ x ∈ l, 0 ≤ x ∧ x < p) → 0 ≤ prodI l ∧ prodI l ≤ 101 ^ l.length
  | [], _ => ⟨(by show (0 : Int) ≤ 1; decide), (by show (1 : Int) ≤ 1; decide)⟩
  | x :: l, h => by
    obtain ⟨x0, x1⟩ := h x List.mem_cons_self
    obtain ⟨b0, b1⟩ := prodI_b hp fun y hy => h y (List.mem_cons_of_mem _ hy)
    refine ⟨Int.mul_nonneg x0 b0, ?_⟩
    show x * prodI l ≤ 101 ^ (l.length + 1)
    rw [Int.pow_succ, Int.mul_comm (101 ^ l.length)]
    exact Int.mul_le_mul (by omega) b1 b0 (by decide)
theorem fac_b {p c : Int} (hp : p ≤ 101) (c0 : 0 ≤ c) (c1 : c < p) {l : List Int} (h : ∀ x ∈ l, 0 ≤ x ∧ x < p) (hl : l.length ≤ 5) : (c * prodI l).natAbs < 2 ^ 60 := by
  obtain ⟨b0, b1⟩ := prodI_b hp h
  have hk : ∀ k : Nat, k ≤ 5 → (101 : Int) ^ k ≤ 101 ^ 5 := fun k h => by
    rcases (by omega : k = 0 ∨ k = 1 ∨ k = 2 ∨ k = 3 ∨ k = 4 ∨ k = 5) with rfl | rfl | rfl | rfl | rfl | rfl <;> decide
  have h1 := hk _ hl
  have h2 : c * prodI l ≤ 101 * 101 ^ 5 := Int.mul_le_mul (by omega) (Int.le_trans b1 h1) b0 (by decide)
  have h3 : 0 ≤ c * prodI l := Int.mul_nonneg c0 b0
  have h4 : (101 : Int) * 101 ^ 5 < 2 ^ 60 := by decide
  omega
theorem ok_law_worth {f : Addr} {fd : FuncData} (F : Fun K "_law_worth" "_law_worth" s_law_worth f fd) (T : TWo P w K mg base) : FnOk P w K mg base CX0 3 f fd ["p", "polynomial", "choice"] (spD K g_law_worth) := by
  refine ok_D F sc_law_worth (fun ds P ⟨p, n, k, e, _⟩ => by rw [e]; rfl) (fun cdv A outer s H E hr => ⟨_, _, (pss_cons (ps_set (i := 3) sc_law_worth.nd rfl (by first | exact Or.inl rfl | exact Or.inr rfl) pe_int)
      (pss_cons (ps_for PassesOwn.never rfl (pi_tup (pv 1)) (pg_tup rfl (pgs_cons (pg_name (i := 4) sc_law_worth.nd rfl (by first | exact Or.inl rfl | exact Or.inr rfl)) (pgs_cons (pg_name (i := 5) sc_law_worth.nd rfl (by first | exact Or.inl rfl | exact Or.inr rfl)) pgs_nil))) (pss_cons (ps_for PassesOwn.never rfl (pi_numT (by rfl) T.b_enumerate (pa_cons (pv 4) pa_nil)) (pg_tup rfl (pgs_cons (pg_name (i := 6) sc_law_worth.nd rfl (by first | exact Or.inl rfl | exact Or.inr rfl)) (pgs_cons (pg_name (i := 7) sc_law_worth.nd rfl (by first | exact Or.inl rfl | exact Or.inr rfl)) pgs_nil))) (pss_one (ps_set (i := 5) sc_law_worth.nd rfl (by first | exact Or.inl rfl | exact Or.inr rfl) (pe_op op_mulW (pv 5) (C8.pe_c T.d_law_power hr (by first | decide | omega) (by rfl) (pa_cons (pv 0) (pa_cons (pe_ix ix_tup (pv 2) (pv 6) (fun _ _ => rfl)) (pa_cons (pv 7) pa_nil))))))))
      (pss_one (ps_set (i := 3) sc_law_worth.nd rfl (by first | exact Or.inl rfl | exact Or.inr rfl) (C8.pe_c T.d_law_element hr (by first | decide | omega) (by rfl) (pa_cons (pv 0) (pa_cons (pe_op op_add (pv 3) (pv 5)) pa_nil)))))))
      (pss_one (ps_ret (pv 3))))), (ss_cons (ss_asg se_c (sg_name 3))
      (ss_cons (ss_for (si_tup (se_var 1)) (sg_tup (sgs_cons (sg_name 4) (sgs_cons (sg_name 5) sgs_nil))) (ss_cons (ss_for (si_numT (sa_cons (se_var 4) sa_nil)) (sg_tup (sgs_cons (sg_name 6) (sgs_cons (sg_name 7) sgs_nil))) (ss_asg (se_op so_rI (se_var 5) (se_call g_law_power_mono (sa_cons (se_var 0) (sa_cons (se_op so_ixT (se_var 2) (se_var 6)) (sa_cons (se_var 7) sa_nil))))) (sg_name 5)))
      (ss_asg (se_call g_law_element_mono (sa_cons (se_var 0) (sa_cons (se_op so_rI0 (se_var 3) (se_var 5)) sa_nil))) (sg_name 3))))
      (ss_ret (se_var 3)))), fun ds Pd h => ?_⟩)
  obtain ⟨p, ts, xs, rfl, ⟨p0, p1⟩, hl, xl, hx, ht, q⟩ := h
  generalize hS : PyData.tuple (ts.map termD) = S
  refine ⟨(by show 3 < 8; decide), S, rfl, ts.map termD, hS.symm, fun i r => ∃ x4 x5 x6 x7 : DV, r = [.sh (.int p), .sh S, .sh (tupK xs), .sh (.int (worF p (ts.take i) xs)), x4, x5, x6, x7], ⟨_, _, _, _, rfl⟩, fun i y r hd hI => ?_, fun r hI => ?_⟩
  · obtain ⟨x4, x5, x6, x7, rfl⟩ := hI
    rw [List.getElem?_map] at hd
    cases hti : ts[i]? with
    | none => rw [hti] at hd; cases hd
    | some t =>
      rw [hti] at hd
      obtain rfl : termD t = y := Option.some.inj hd
      have etk : worF p (ts.take (i + 1)) xs = elemF p (worF p (ts.take i) xs + t.2 * monF p t.1 xs) := by
        rw [List.take_add_one, hti]
        unfold worF
        rw [List.foldl_append]
        rfl
      obtain ⟨tl, te, t0, t1⟩ := ht t (List.mem_of_getElem? hti)
      generalize hml : (t.1.zip xs).map (fun q => powF p q.2 q.1.toNat) = ml
      have mll : ml.length = t.1.length := by rw [← hml, List.length_map, List.length_zip]; omega
      have mlb : ∀ x ∈ ml, 0 ≤ x ∧ x < p := fun x hx => by
        rw [← hml] at hx
        obtain ⟨q, _, rfl⟩ := List.mem_map.mp hx
        exact powF_b p0 _
      have em : monF p t.1 xs = prodI ml := by unfold monF; rw [hml]
      refine ⟨_, rfl, rfl, _, _, rfl, (by show 4 < 8; decide), _, _, rfl, (by show 5 < 8; decide), rfl, ?_⟩
      refine ⟨_, rfl, t.1.map PyData.int, rfl, fun j r => ∃ x6 x7 : DV, r = [.sh (.int p), .sh S, .sh (tupK xs), .sh (.int (worF p (ts.take i) xs)), .sh (tupK t.1), .sh (.int (t.2 * prodI (ml.take j))), x6, x7], ⟨_, _, by rw [show t.2 * prodI (ml.take 0) = t.2 from Int.mul_one _]; rfl⟩, fun j y r hd2 hJ => ?_, fun r hJ => ?_⟩
      · obtain ⟨x6, x7, rfl⟩ := hJ
        obtain ⟨z, hz, rfl⟩ := numD_at hd2
        rw [List.getElem?_map] at hz
        cases hej : t.1[j]? with
        | none => rw [hej] at hz; cases hz
        | some e =>
          rw [hej] at hz
          obtain rfl : PyData.int e = z := Option.some.inj hz
          have hj := (List.getElem?_eq_some_iff.mp hej).1
          have hjx : j < xs.length := by omega
          have exj : xs[j]? = some xs[j] := List.getElem?_eq_getElem hjx
          have emj : ml[j]? = some (powF p xs[j] e.toNat) := by
            rw [← hml, List.getElem?_map, show (t.1.zip xs)[j]? = some (e, xs[j]) from List.getElem?_zip_eq_some.mpr ⟨hej, exj⟩]
            rfl
          obtain ⟨e0, e1⟩ := te e (List.mem_of_getElem? hej)
          obtain ⟨y0, y1⟩ := hx xs[j] (List.getElem_mem hjx)
          obtain ⟨w0, w1⟩ := powF_b (p := p) (x := xs[j]) p0 e.toNat
          have bb := fac_b (p := p) p1 t0 t1 (fun x hx => mlb x (List.mem_of_mem_take hx)) (l := ml.take j) (by rw [List.length_take]; omega)
          refine ⟨_, rfl, rfl, _, _, rfl, (by show 6 < 8; decide), _, _, rfl, (by show 7 < 8; decide), rfl, ?_⟩
          refine ⟨_, rfl, _, rfl, _, rfl, _, rfl, _, _, _, rfl, rfl, atI_nat (by rw [List.getElem?_map, exj]; rfl), _, rfl, p, xs[j], e, rfl, ⟨p0, by omega⟩, ⟨y0, y1⟩, ⟨e0, by omega⟩, _, _, rfl, rfl, wide_mul (a := 60) (b := 20) bb (by omega) (by decide) (by decide) (by decide), (by show 5 < 8; decide), .sh (.int (j : Nat)), .sh (.int e), ?_⟩
          rw [List.take_add_one, emj]
          rw [show t.2 * prodI (ml.take j ++ (some (powF p xs[j] e.toNat)).toList) = t.2 * prodI (ml.take j) * powF p xs[j] e.toNat by
            rw [prodI_app, ← Int.mul_assoc]
            exact congrArg (t.2 * prodI (ml.take j) * ·) (Int.mul_one _)]
          rfl
      · obtain ⟨x6, x7, rfl⟩ := hJ
        rw [numD_len, List.length_map, ← mll, List.take_length]
        refine ⟨_, rfl, _, rfl, _, rfl, _, _, rfl, rfl, p, _, rfl, by omega, (by show 3 < 8; decide), ?_⟩
        refine ⟨.sh (tupK t.1), .sh (.int (t.2 * prodI ml)), x6, x7, ?_⟩
        rw [etk, em]
        rfl
  · obtain ⟨x4, x5, x6, x7, rfl⟩ := hI
    rw [List.length_map, List.take_length]
    exact ⟨_, rfl, q⟩
def choF (p : Int) : Nat → List (List Int)
  | 0 => [[]]
  | k + 1 => (choF p k).flatMap fun c => (rngI 0 p.toNat).map fun x => c ++ [x]
def g_law_choices : CD := fun ds P => ∃ (p : Int) (n : Nat), ds = [.tuple (List.replicate n (rangeT p))] ∧ 1 ≤ p ∧ p ≤ 100 ∧ p.toNat ^ n ≤ 10000 ∧ n ≤ 100 ∧ P (.list ((choF p n).map tupK))
theorem g_law_choices_mono : ∀ es P P', (∀ d, P d → P' d) → g_law_choices es P → g_law_choices es P' := fun es P P' h ⟨p, n, e, h1, h2, h3, h4, q⟩ => ⟨p, n, e, h1, h2, h3, h4, h _ q⟩
def stepC (p : Int) (cs : List (List Int)) : List (List Int) := cs.flatMap fun c => (rngI 0 p.toNat).map fun x => c ++ [x]
theorem stepC_len (p : Int) : ∀ cs : List (List Int), (stepC p cs).length = cs.length * p.toNat
  | [] => by rw [List.length_nil, Nat.zero_mul]; rfl
  | c :: cs => by
    have ih := stepC_len p cs
    unfold stepC at ih ⊢
    rw [List.flatMap_cons, List.length_append, ih, List.length_map, rngI_len', List.length_cons, Nat.add_mul, Nat.one_mul, Nat.add_comm]
theorem choF_len (p : Int) : ∀ n, (choF p n).length = p.toNat ^ n
  | 0 => rfl
  | n + 1 => by
    show (stepC p (choF p n)).length = _
    rw [stepC_len, choF_len p n, Nat.pow_succ]
theorem choF_len2 {p : Int} : ∀ n, ∀ c ∈ choF p n, c.length = n
  | 0, c, h => by
    obtain rfl : c = [] := List.mem_singleton.mp h
    rfl
  | n + 1, c, h => by
    obtain ⟨b, hb, hc⟩ := List.mem_flatMap.mp h
    obtain ⟨x, _, rfl⟩ := List.mem_map.mp hc
    rw [List.length_append, choF_len2 n b hb]
    rfl
theorem ok_law_choices {f : Addr} {fd : FuncData} (F : Fun K "_law_choices" "_law_choices" s_law_choices f fd) (T : TP P w K mg base) : FnOk P w K mg base CX0 1 f fd ["lists"] (spD K g_law_choices) := by
  refine ok_D F sc_law_choices (fun ds P ⟨p, n, e, _⟩ => by rw [e]; rfl) (fun cdv A outer s H E hr => ⟨_, _, (pss_cons (ps_set (i := 1) sc_law_choices.nd rfl (by first | exact Or.inl rfl | exact Or.inr rfl) (pe_lst (pa_cons (pe_tup pa_nil) pa_nil)))
      (pss_cons (ps_for PassesOwn.never rfl (pi_tup (pv 0)) (pg_name (i := 2) sc_law_choices.nd rfl (by first | exact Or.inl rfl | exact Or.inr rfl)) (pss_cons (ps_set (i := 3) sc_law_choices.nd rfl (by first | exact Or.inl rfl | exact Or.inr rfl) (pe_lst pa_nil))
      (pss_cons (ps_for PassesOwn.never rfl (pi_list (pv 1)) (pg_name (i := 4) sc_law_choices.nd rfl (by first | exact Or.inl rfl | exact Or.inr rfl)) (pss_one (ps_set (i := 3) sc_law_choices.nd rfl (by first | exact Or.inl rfl | exact Or.inr rfl) (pe_op op_catL (pv 3) (pe_lc (own := [("one", 5)]) (g := (gName 5)) (tt := tYes) rfl sc_law_choices.nd (pi_tup (pv 2)) (blkOk_by (N := N_law_choices) (sc := defScope s_law_choices) (own := [("one", 5)]) (by decide +kernel)) (fun _ _ _ _ _ => (pg_name (i := 5) sc_law_choices.nd rfl (by first | exact Or.inl rfl | exact Or.inr rfl))) (fun _ _ _ _ _ => pts_nil) (fun _ _ _ _ _ => (pe_op op_catA (pv 4) (pe_tup (pa_cons (pv 5) pa_nil)))))))))
      (pss_one (ps_set (i := 1) sc_law_choices.nd rfl (by first | exact Or.inl rfl | exact Or.inr rfl) (pv 3))))))
      (pss_one (ps_ret (pv 1))))), (ss_cons (ss_asg (se_sh (sf_lst (sa_cons (se_tup sa_nil) sa_nil))) (sg_name 1))
      (ss_cons (ss_for (si_tup (se_var 0)) (sg_name 2) (ss_cons (ss_asg (se_sh (sf_lst sa_nil)) (sg_name 3))
      (ss_cons (ss_for (si_list (se_var 1)) (sg_name 4) (ss_asg (se_sh (sf_catL (se_var 3) (se_sh (sf_lc (js := [5]) (si_tup (se_var 2)) (sg_name 5) st_yes (se_op so_catT (se_var 4) (se_tup (sa_cons (se_var 5) sa_nil))))))) (sg_name 3)))
      (ss_asg (se_var 3) (sg_name 1)))))
      (ss_ret (se_var 1)))), fun ds Pd h => ?_⟩)
  obtain ⟨p, n, rfl, p0, p1, hn, hn2, q⟩ := h
  have hpk : ∀ k, k ≤ n → p.toNat ^ k ≤ 10000 := fun k hk => Nat.le_trans (Nat.pow_le_pow_right (by omega) hk) hn
  generalize hS : PyData.tuple (List.replicate n (rangeT p)) = S
  refine ⟨Nat.zero_le _, (by show 1 ≤ sizeLine; decide), (by show 1 < 6; decide), S, rfl, List.replicate n (rangeT p), hS.symm, fun i r => ∃ x2 x3 x4 : DV, r = [.sh S, .sh (.list ((choF p i).map tupK)), x2, x3, x4, .no], ⟨_, _, _, rfl⟩, fun i y r hd hI => ?_, fun r hI => ?_⟩
  · obtain ⟨x2, x3, x4, rfl⟩ := hI
    obtain ⟨hi, hy⟩ := List.getElem?_eq_some_iff.mp hd
    rw [List.getElem_replicate] at hy
    rw [List.length_replicate] at hi
    subst hy
    have cl : (choF p i).length ≤ 10000 := by rw [choF_len]; exact hpk i (by omega)
    refine ⟨(by show 2 < 6; decide), Nat.zero_le _, (by show 3 < 6; decide), _, rfl, _, rfl, fun j r => ∃ x4 : DV, r = [.sh S, .sh (.list ((choF p i).map tupK)), .sh (rangeT p), .sh (.list ((stepC p ((choF p i).take j)).map tupK)), x4, .no], ⟨_, rfl⟩, fun j y r hd2 hJ => ?_, fun r hJ => ?_⟩
    · obtain ⟨x4, rfl⟩ := hJ
      rw [List.getElem?_map] at hd2
      cases hcj : (choF p i)[j]? with
      | none => rw [hcj] at hd2; cases hd2
      | some c =>
        rw [hcj] at hd2
        obtain rfl : tupK c = y := Option.some.inj hd2
        have hc := choF_len2 i c (List.mem_of_getElem? hcj)
        refine ⟨(by show 4 < 6; decide), _, rfl, _, rfl, (rngI 0 p.toNat).map PyData.int, rfl, by rw [List.length_map, rngI_len', sizeLine_eq]; omega, fun j hj => by
          obtain rfl : j = 5 := by simpa using hj
          rfl, ?_⟩
        have ev : (fun x : Int => PyData.tuple (c.map PyData.int ++ [.int x])) = fun x => tupK (c ++ [x]) := by
          funext x
          unfold tupK
          rw [List.map_append]
          rfl
        refine compW_all _ (fun x : Int => PyData.tuple (c.map PyData.int ++ [.int x])) (fun x hx k hk => ⟨(by show 5 < 6; decide), ifT rfl ⟨_, rfl, _, rfl, (by show 1 ≤ sizeLine; decide), _, _, rfl, rfl, by rw [List.length_map, hc, sizeLine_eq]; show i + 1 ≤ _; omega, hk _ rfl⟩⟩) ⟨_, _, rfl, rfl, ?_, (by show 3 < 6; decide), DV.sh (tupK c), ?_⟩
        · rw [List.length_map, List.length_map, stepC_len, rngI_len', List.length_take, sizeLine_eq]
          have : min j (choF p i).length * p.toNat ≤ 10000 * 100 := Nat.mul_le_mul (by omega) (by omega)
          omega
        · rw [List.take_add_one, hcj]
          have : stepC p ((choF p i).take j ++ (some c).toList) = stepC p ((choF p i).take j) ++ (rngI 0 p.toNat).map fun x => c ++ [x] := by
            unfold stepC
            rw [List.flatMap_append]
            show _ ++ ((rngI 0 p.toNat).map (fun x => c ++ [x]) ++ []) = _
            rw [List.append_nil]
          rw [this, ev, List.map_append, List.map_map]
          rfl
    · obtain ⟨x4, rfl⟩ := hJ
      rw [List.length_map, List.take_length]
      exact ⟨_, rfl, (by show 1 < 6; decide), _, _, _, rfl⟩
  · obtain ⟨x2, x3, x4, rfl⟩ := hI
    rw [List.length_replicate]
    exact ⟨_, rfl, q⟩
def psF (p : Int) (k : Nat) : Int := ((rngI 0 p.toNat).map fun x => powF p x k).sum % p
def g_law_power_sum : CD := fun ds P => ∃ p k : Int, ds = [.int p, .int k] ∧ (2 ≤ p ∧ p ≤ 1000) ∧ (0 ≤ k ∧ k ≤ 1000) ∧ P (.int (psF p k.toNat))
theorem g_law_power_sum_mono : ∀ es P P', (∀ d, P d → P' d) → g_law_power_sum es P → g_law_power_sum es P' := fun es P P' h ⟨p, k, e, h1, h2, q⟩ => ⟨p, k, e, h1, h2, h _ q⟩
theorem ok_law_power_sum {f : Addr} {fd : FuncData} (F : Fun K "_law_power_sum" "_law_power_sum" s_law_power_sum f fd) (T : TWo P w K mg base) : FnOk P w K mg base CX0 3 f fd ["p", "power"] (spD K g_law_power_sum) := by
  refine ok_D F sc_law_power_sum (fun ds P ⟨p, n, e, _⟩ => by rw [e]; rfl) (fun cdv A outer s H E hr => ⟨_, _, (pss_one (ps_ret (pe_op op_mod (pe_callTy call_int1 (by rfl) T.b_int (by decide +kernel) (pa_cons (pe_callB (cr_sum rfl) (by rfl) T.b_sum (by decide +kernel) (pa_cons (pe_lc (own := [("one", 2)]) (g := (gName 2)) (tt := tYes) rfl sc_law_power_sum.nd (pi_range1 (by rfl) T.b_range (pa_cons (pv 0) pa_nil)) (blkOk_by (N := N_law_power_sum) (sc := defScope s_law_power_sum) (own := [("one", 2)]) (by decide +kernel)) (fun _ _ _ _ _ => (pg_name (i := 2) sc_law_power_sum.nd rfl (by first | exact Or.inl rfl | exact Or.inr rfl))) (fun _ _ _ _ _ => pts_nil) (fun _ _ _ _ _ => (C8.pe_c T.d_law_power hr (by first | decide | omega) (by rfl) (pa_cons (pv 0) (pa_cons (pv 2) (pa_cons (pv 1) pa_nil)))))) pa_nil)) pa_nil)) (pv 0)))), (ss_ret (se_op so_rI (se_cb sc_int (sa_cons (se_cb sc_sum (sa_cons (se_sh (sf_lc (js := [2]) (si_rng1 (sa_cons (se_var 0) sa_nil)) (sg_name 2) st_yes (se_call g_law_power_mono (sa_cons (se_var 0) (sa_cons (se_var 2) (sa_cons (se_var 1) sa_nil)))))) sa_nil)) sa_nil)) (se_var 0))), fun ds Pd h => ?_⟩)
  obtain ⟨p, k, rfl, ⟨p0, p1⟩, ⟨k0, k1⟩, q⟩ := h
  refine ⟨_, rfl, p, rfl, by omega, by omega, by rw [rngD_len, sizeLine_eq]; omega, fun j hj => by
    obtain rfl : j = 2 := by simpa using hj
    rfl, ?_⟩
  rw [rngD_I]
  refine compW_all _ (fun x : Int => PyData.int (powF p x k.toNat)) (fun x hx kk hk => ?_) ⟨(rngI 0 p.toNat).map fun x => powF p x k.toNat, by rw [List.map_map]; rfl, _, rfl, _, rfl, _, _, rfl, rfl, by omega, q⟩
  have hx2 := rngI_mem' hx
  exact ⟨(by show 2 < 3; decide), ifT rfl ⟨_, rfl, _, rfl, _, rfl, p, x, k, rfl, ⟨p0, p1⟩, ⟨by omega, by omega⟩, ⟨k0, k1⟩, hk _ rfl⟩⟩

/-! ### mathematics -/
def Cg (p a b : Int) : Prop := ∃ q, a = b + p * q
theorem Cg.refl (p a : Int) : Cg p a a := ⟨0, by rw [Int.mul_zero, Int.add_zero]⟩
theorem Cg.trans {p a b c : Int} (h : Cg p a b) (k : Cg p b c) : Cg p a c := by
  obtain ⟨q, rfl⟩ := h
  obtain ⟨r, rfl⟩ := k
  exact ⟨r + q, by rw [Int.mul_add, Int.add_assoc]⟩
theorem Cg.symm {p a b : Int} (h : Cg p a b) : Cg p b a := by
  obtain ⟨q, rfl⟩ := h
  exact ⟨-q, by rw [Int.mul_neg]; omega⟩
theorem Cg.add {p a b c d : Int} (h : Cg p a b) (k : Cg p c d) : Cg p (a + c) (b + d) := by
  obtain ⟨q, rfl⟩ := h
  obtain ⟨r, rfl⟩ := k
  exact ⟨q + r, by rw [Int.mul_add]; omega⟩
theorem Cg.mul {p a b c d : Int} (h : Cg p a b) (k : Cg p c d) : Cg p (a * c) (b * d) := by
  obtain ⟨q, rfl⟩ := h
  obtain ⟨r, rfl⟩ := k
  refine ⟨q * d + b * r + q * (p * r), ?_⟩
  rw [Int.add_mul, Int.mul_add, Int.mul_add, Int.mul_add, Int.mul_add]
  have e1 : b * (p * r) = p * (b * r) := by rw [Int.mul_left_comm]
  have e2 : p * q * d = p * (q * d) := Int.mul_assoc ..
  have e3 : p * q * (p * r) = p * (q * (p * r)) := Int.mul_assoc ..
  rw [e1, e2, e3]
  omega
theorem Cg.mod (p a : Int) : Cg p (a % p) a := ⟨-(a / p), by
  have := Int.emod_add_mul_ediv a p
  rw [Int.mul_neg]
  omega⟩
theorem Cg.emod {p a b : Int} (h : Cg p a b) : a % p = b % p := by
  obtain ⟨q, rfl⟩ := h
  rw [Int.add_mul_emod_self_left]
theorem Cg.sum {α : Type} {p : Int} {f g : α → Int} : ∀ {l : List α}, (∀ x ∈ l, Cg p (f x) (g x)) → Cg p (l.map f).sum (l.map g).sum
  | [], _ => Cg.refl _ _
  | x :: l, h => by
    rw [List.map_cons, List.map_cons, List.sum_cons, List.sum_cons]
    exact (h x List.mem_cons_self).add (Cg.sum fun y hy => h y (List.mem_cons_of_mem _ hy))
theorem elem_cg {p a : Int} (hp : p ≠ 0) : Cg p (elemF p a) a := by
  unfold elemF
  rw [if_neg hp]
  exact Cg.mod p a
abbrev primes34 : List Int := [2, 3, 5, 7, 11, 31, 101]
theorem ps_all : (primes34.all fun p => (List.range 41).all fun k => decide (psF p k = if (decide (0 < (k : Int)) && decide ((k : Int) % (p - 1) = 0)) = true then p - 1 else 0)) = true := by decide +kernel
theorem ps_val {p e : Int} (hp : p ∈ primes34) (e0 : 0 ≤ e) (e1 : e < 41) : psF p e.toNat = if (decide (0 < e) && decide (e % (p - 1) = 0)) = true then p - 1 else 0 := by
  have := List.all_eq_true.mp ps_all p hp
  have := List.all_eq_true.mp this e.toNat (List.mem_range.mpr (by omega))
  have := of_decide_eq_true this
  rw [Int.toNat_of_nonneg e0] at this
  exact this
def prodS (p : Int) (es : List Int) : Int := prodI (es.map fun e => psF p e.toNat)
theorem prodS_val {p : Int} (hp : p ∈ primes34) : ∀ {es : List Int}, (∀ e ∈ es, 0 ≤ e ∧ e < 41) → prodS p es = if countsB p es = true then (p - 1) ^ es.length else 0
  | [], _ => by
    show (1 : Int) = if true = true then (p - 1) ^ 0 else 0
    rw [if_pos rfl, Int.pow_zero]
  | e :: es, h => by
    obtain ⟨e0, e1⟩ := h e List.mem_cons_self
    have ih := prodS_val hp (es := es) fun y hy => h y (List.mem_cons_of_mem _ hy)
    show psF p e.toNat * prodS p es = _
    rw [ps_val hp e0 e1, ih]
    have ec : countsB p (e :: es) = ((decide (0 < e) && decide (e % (p - 1) = 0)) && countsB p es) := rfl
    rw [ec]
    cases hc : (decide (0 < e) && decide (e % (p - 1) = 0)) with
    | false =>
      rw [if_neg (by decide), Int.zero_mul, Bool.false_and, if_neg (by decide)]
    | true =>
      rw [if_pos rfl, Bool.true_and]
      by_cases h2 : countsB p es = true
      · rw [if_pos h2, if_pos h2, List.length_cons, Int.pow_succ, Int.mul_comm]
      · rw [if_neg h2, if_neg h2, Int.mul_zero]
def sgn (n : Int) : Int := if n % 2 = 0 then 1 else -1
theorem pm1 (p : Int) : ∀ n : Nat, Cg p ((p - 1) ^ n) (sgn n)
  | 0 => by
    rw [Int.pow_zero]
    exact Cg.refl _ _
  | n + 1 => by
    rw [Int.pow_succ]
    have h1 : Cg p (p - 1) (-1) := ⟨1, by omega⟩
    refine ((pm1 p n).mul h1).trans ?_
    have e : sgn (n : Int) * -1 = sgn ((n + 1 : Nat) : Int) := by
      unfold sgn
      by_cases h : (n : Int) % 2 = 0
      · rw [if_pos h, if_neg (by omega)]; rfl
      · rw [if_neg h, if_pos (by omega)]; rfl
    rw [e]
    exact Cg.refl _ _
def dueF (p : Int) (ts : TsL) : Int := (ts.map fun t => t.2 * prodS p t.1).sum
/-- what a drawn table's terms are -/
def TsOk (n : Int) (ts : TsL) : Prop := ∀ t ∈ ts, (t.1.length : Int) = n ∧ ∀ e ∈ t.1, 0 ≤ e ∧ e < 41
theorem due_cg {p n : Int} (hp : p ∈ primes34) : ∀ {ts : TsL}, TsOk n ts → Cg p (dueF p ts) (sgn n * cntS p ts)
  | [], _ => by
    show Cg p 0 (sgn n * 0)
    rw [Int.mul_zero]
    exact Cg.refl _ _
  | t :: ts, h => by
    obtain ⟨h1, h2⟩ := h t List.mem_cons_self
    have ih := due_cg hp (ts := ts) fun y hy => h y (List.mem_cons_of_mem _ hy)
    have ed : dueF p (t :: ts) = t.2 * prodS p t.1 + dueF p ts := by
      unfold dueF
      rw [List.map_cons, List.sum_cons]
    rw [ed, prodS_val hp h2]
    by_cases hc : countsB p t.1 = true
    · have ec : cntS p (t :: ts) = t.2 + cntS p ts := by
        unfold cntS
        rw [List.filter_cons_of_pos (by exact hc), List.map_cons, List.sum_cons]
      rw [if_pos hc, ec, Int.mul_add]
      refine Cg.add ?_ ih
      have := (Cg.refl p t.2).mul (pm1 p t.1.length)
      rw [h1, Int.mul_comm t.2 (sgn n)] at this
      exact this
    · have ec : cntS p (t :: ts) = cntS p ts := by
        unfold cntS
        rw [List.filter_cons_of_neg (by exact hc)]
      rw [if_neg hc, Int.mul_zero, Int.zero_add, ec]
      exact ih
theorem tot_sgn {p n : Int} {ts : TsL} (hp : p ≠ 0) : totF p n ts = (sgn n * cntS p ts) % p := by
  unfold totF elemF sgn
  rw [if_neg hp]
  by_cases h : n % 2 = 0
  · rw [if_pos h, if_pos h, Int.one_mul]
  · rw [if_neg h, if_neg h]
    congr 1
    omega
theorem pr_pos {p : Int} (hp : p ∈ primes34) : 2 ≤ p ∧ p ≤ 101 := by
  simp only [primes34, List.mem_cons, List.not_mem_nil, or_false] at hp
  rcases hp with rfl | rfl | rfl | rfl | rfl | rfl | rfl <;> decide
theorem due_tot {p n : Int} {ts : TsL} (hp : p ∈ primes34) (h : TsOk n ts) : dueF p ts % p = totF p n ts := by
  have := pr_pos hp
  rw [tot_sgn (by omega), (due_cg hp h).emod]
/-! degrees -/
theorem le_foldl_max : ∀ (l : List Int) (a : Int), a ≤ l.foldl max a ∧ ∀ x ∈ l, x ≤ l.foldl max a
  | [], a => ⟨Int.le_refl _, fun x hx => by cases hx⟩
  | y :: l, a => by
    obtain ⟨h1, h2⟩ := le_foldl_max l (max a y)
    refine ⟨Int.le_trans (Int.le_max_left ..) h1, fun x hx => ?_⟩
    rcases List.mem_cons.mp hx with rfl | hx
    · exact Int.le_trans (Int.le_max_right ..) h1
    · exact h2 x hx
theorem counts_sum {p : Int} (hp : 2 ≤ p) : ∀ {es : List Int}, countsB p es = true → (es.length : Int) * (p - 1) ≤ es.sum
  | [], _ => by
    show ((0 : Nat) : Int) * (p - 1) ≤ 0
    rw [Int.natCast_zero, Int.zero_mul]
    exact Int.le_refl _
  | e :: es, h => by
    have ec : countsB p (e :: es) = ((decide (0 < e) && decide (e % (p - 1) = 0)) && countsB p es) := rfl
    rw [ec, Bool.and_eq_true, Bool.and_eq_true] at h
    obtain ⟨⟨h1, h2⟩, h3⟩ := h
    have ih := counts_sum hp h3
    have h1 := of_decide_eq_true h1
    have h2 := of_decide_eq_true h2
    have hd : p - 1 ≤ e := Int.le_of_dvd h1 (Int.dvd_of_emod_eq_zero h2)
    rw [List.sum_cons, List.length_cons, Int.natCast_add, Int.add_mul]
    omega
theorem low_zero {p n : Int} {ts : TsL} (hp : 2 ≤ p) (h : TsOk n ts) (hd : degL ts < n * (p - 1)) : totF p n ts = 0 := by
  have : cntS p ts = 0 := by
    unfold cntS
    have e : ts.filter (fun t => countsB p t.1) = [] := by
      refine List.filter_eq_nil_iff.mpr fun t ht hc => ?_
      have h1 := counts_sum hp hc
      rw [(h t ht).1] at h1
      have h2 := (le_foldl_max (sumsF ts) (-1)).2 t.1.sum (List.mem_map.mpr ⟨t, ht, rfl⟩)
      have h3 : t.1.sum ≤ degL ts := h2
      omega
    rw [e]
    rfl
  rw [tot_sgn (by omega), this, Int.mul_zero]
  exact Int.zero_emod _
/-! all points -/
def sumT (p : Int) (e : Int) : Int := ((rngI 0 p.toNat).map fun x => powF p x e.toNat).sum
theorem monF_app {p e x : Int} {es xs : List Int} (h : es.length = xs.length) : monF p (es ++ [e]) (xs ++ [x]) = monF p es xs * powF p x e.toNat := by
  unfold monF
  rw [List.zip_append h, List.map_append, prodI_app]
  exact congrArg (prodI _ * ·) (Int.mul_one _)
theorem sum_mul_r (c : Int) : ∀ l : List Int, (l.map fun x => x * c).sum = l.sum * c
  | [] => (Int.zero_mul c).symm
  | x :: l => by
    rw [List.map_cons, List.sum_cons, List.sum_cons, sum_mul_r c l, Int.add_mul]
theorem sum_mul_l {α : Type} (c : Int) (f : α → Int) : ∀ l : List α, (l.map fun x => c * f x).sum = c * (l.map f).sum
  | [] => (Int.mul_zero c).symm
  | x :: l => by
    rw [List.map_cons, List.map_cons, List.sum_cons, List.sum_cons, sum_mul_l c f l, Int.mul_add]
theorem sum_add {α : Type} (f g : α → Int) : ∀ l : List α, (l.map fun x => f x + g x).sum = (l.map f).sum + (l.map g).sum
  | [] => rfl
  | x :: l => by
    rw [List.map_cons, List.map_cons, List.map_cons, List.sum_cons, List.sum_cons, List.sum_cons, sum_add f g l]
    omega
theorem sum_swap {α β : Type} (f : α → β → Int) (l : List α) : ∀ m : List β, (l.map fun x => (m.map fun y => f x y).sum).sum = (m.map fun y => (l.map fun x => f x y).sum).sum
  | [] => by
    show (l.map fun _ => (0 : Int)).sum = 0
    induction l with
    | nil => rfl
    | cons x l ih => rw [List.map_cons, List.sum_cons, ih]; rfl
  | y :: m => by
    rw [List.map_cons, List.sum_cons, ← sum_swap f l m, ← sum_add]
    rfl
theorem mon_step {p e : Int} {es : List Int} : ∀ cs : List (List Int), (∀ c ∈ cs, es.length = c.length) → ((stepC p cs).map fun c => monF p (es ++ [e]) c).sum = (cs.map fun c => monF p es c).sum * sumT p e
  | [], _ => (Int.zero_mul _).symm
  | c :: cs, h => by
    have ih := mon_step (p := p) (e := e) (es := es) cs fun d hd => h d (List.mem_cons_of_mem _ hd)
    have e1 : stepC p (c :: cs) = ((rngI 0 p.toNat).map fun x => c ++ [x]) ++ stepC p cs := rfl
    rw [e1, List.map_append, List.sum_append, ih, List.map_cons, List.sum_cons, Int.add_mul]
    congr 1
    rw [List.map_map]
    unfold sumT
    rw [← sum_mul_l]
    refine congrArg List.sum (List.map_congr_left fun x _ => ?_)
    exact monF_app (h c List.mem_cons_self)
theorem mon_sum (p : Int) : ∀ (n : Nat) (es : List Int), es.length = n → ((choF p n).map fun c => monF p es c).sum = prodI (es.map fun e => sumT p e)
  | 0, es, h => by
    obtain rfl := List.eq_nil_of_length_eq_zero h
    rfl
  | n + 1, es, h => by
    have hne : es ≠ [] := fun z => by rw [z] at h; cases h
    rw [← List.dropLast_concat_getLast hne]
    have hl : es.dropLast.length = n := by rw [List.length_dropLast, h]; rfl
    show ((stepC p (choF p n)).map fun c => monF p (es.dropLast ++ [es.getLast hne]) c).sum = _
    rw [mon_step _ fun c hc => by rw [hl, choF_len2 n c hc], mon_sum p n es.dropLast hl, List.map_append, prodI_app]
    exact congrArg (prodI _ * ·) (Int.mul_one _).symm
theorem prod_cg {p : Int} {f g : Int → Int} : ∀ {l : List Int}, (∀ x ∈ l, Cg p (f x) (g x)) → Cg p (prodI (l.map f)) (prodI (l.map g))
  | [], _ => Cg.refl _ _
  | x :: l, h => by
    show Cg p (f x * prodI (l.map f)) (g x * prodI (l.map g))
    exact (h x List.mem_cons_self).mul (prod_cg fun y hy => h y (List.mem_cons_of_mem _ hy))
theorem wor_cg {p : Int} (hp : p ≠ 0) (xs : List Int) : ∀ (ts : TsL) (a : Int), Cg p (ts.foldl (fun tot t => elemF p (tot + t.2 * monF p t.1 xs)) a) (a + (ts.map fun t => t.2 * monF p t.1 xs).sum)
  | [], a => by
    show Cg p a (a + 0)
    rw [Int.add_zero]
    exact Cg.refl _ _
  | t :: ts, a => by
    rw [List.foldl_cons, List.map_cons, List.sum_cons]
    refine (wor_cg hp xs ts _).trans ?_
    rw [← Int.add_assoc]
    exact (elem_cg hp).add (Cg.refl _ _)
theorem all_points {p n : Int} {ts : TsL} (hp : p ∈ primes34) (h : TsOk n ts) : (((choF p n.toNat).map fun c => worF p ts c).sum) % p = totF p n ts := by
  have p2 := pr_pos hp
  rw [← due_tot hp h]
  refine Cg.emod ?_
  have h1 : Cg p (((choF p n.toNat).map fun c => worF p ts c).sum) (((choF p n.toNat).map fun c => (ts.map fun t => t.2 * monF p t.1 c).sum).sum) := Cg.sum fun c _ => by
    have := wor_cg (p := p) (by omega) c ts 0
    rw [Int.zero_add] at this
    exact this
  refine h1.trans ?_
  rw [sum_swap (fun (c : List Int) (t : List Int × Int) => t.2 * monF p t.1 c)]
  unfold dueF
  refine Cg.sum fun t ht => ?_
  rw [sum_mul_l]
  refine (Cg.refl p t.2).mul ?_
  have ht2 := (h t ht).1
  rw [mon_sum p n.toNat t.1 (by omega)]
  exact prod_cg fun e _ => (Cg.mod p (sumT p e)).symm
/-! unknowns -/
theorem only_same {n a : Int} (a0 : 0 ≤ a) (a1 : a < n) : onlyF n a 1 = (rngI 0 n.toNat).map fun s => if s = a then 1 else 0 := by
  obtain ⟨k, rfl⟩ : ∃ k : Nat, a = (k : Int) := ⟨a.toNat, by omega⟩
  refine List.ext_getElem? fun i => ?_
  unfold onlyF rngI
  rw [List.map_map]
  by_cases hi : i < n.toNat
  · have e2 : ((List.range n.toNat).map ((fun s : Int => if s = (k : Int) then (1 : Int) else 0) ∘ fun j : Nat => (0 : Int) + (j : Int)))[i]? = some (if (i : Int) = (k : Int) then 1 else 0) := by
      rw [List.getElem?_map, List.getElem?_range hi]
      show some (if (0 : Int) + (i : Int) = (k : Int) then (1 : Int) else 0) = _
      rw [Int.zero_add]
    rw [e2]
    rcases Nat.lt_trichotomy i k with h | h | h
    · rw [List.append_assoc, List.getElem?_append_left (by rw [List.length_replicate]; omega), List.getElem?_replicate, if_pos (by omega), if_neg (by omega)]
    · subst h
      rw [if_pos rfl, List.append_assoc, List.getElem?_append_right (by rw [List.length_replicate]; omega), List.length_replicate, Int.toNat_natCast, Nat.sub_self]
      rfl
    · rw [if_neg (by omega), List.getElem?_append_right (by rw [List.length_append, List.length_replicate]; show (k : Int).toNat + 1 ≤ i; omega), List.getElem?_replicate, if_pos (by rw [List.length_append, List.length_replicate]; show i - ((k : Int).toNat + 1) < _; omega)]
  · rw [List.getElem?_eq_none_iff.mpr (by rw [List.length_append, List.length_append, List.length_replicate, List.length_replicate]; show (k : Int).toNat + 1 + _ ≤ i; omega), List.getElem?_eq_none_iff.mpr (by rw [List.length_map, List.length_range]; omega)]

def g_law : CD := fun ds P => ∃ ns : List Int, ds = [.list (ns.map PyData.int)] ∧ ns.length ≤ 63 ∧ P (.bool true)
structure TLw (P : Program) (w : World) (K : PySem.W.Frag) (mg : Str → Option Value) (base : Heap) : Prop extends TP P w K mg base where
  b_repr : mg "repr" = none
  d_law_draw : C8.Cal P w K mg base 1 "_law_draw" (spM K g_draw) []
  d_law_any : C8.Cal P w K mg base 1 "_law_any" (spW K g_any) []
  d_law_of : C8.Cal P w K mg base 2 "_law_of" (spW K g_of) []
  d_law_tidy : C8.Cal P w K mg base 2 "_law_tidy" (spT K g_law_tidy) []
  d_law_polynomial : C8.Cal P w K mg base 3 "_law_polynomial" (spW K g_law_polynomial) []
  d_law_worth : C8.Cal P w K mg base 3 "_law_worth" (spD K g_law_worth) []
  d_law_choices : C8.Cal P w K mg base 1 "_law_choices" (spD K g_law_choices) []
  d_law_degree : C8.Cal P w K mg base 1 "_law_degree" (spD K g_law_degree) []
  d_law_power_sum : C8.Cal P w K mg base 3 "_law_power_sum" (spD K g_law_power_sum) []
  d_total_worth : C8.Cal P w K mg base 2 "total_worth" (spD K g_total_worth) []
  d_zero_unknowns : C8.Cal P w K mg base 5 "zero_unknowns" (spD K g_zero_unknowns) []
  d_all_lists : C8.Cal P w K mg base 1 "all_lists" (spD K g_all_lists) []
  k_total_worth : CalK P w K mg base 2 "total_worth" ["polynomial", "n", "p"] 0 3 [2, 1, 0] (spD K g_total_worth)
  k_zero_unknowns : CalK P w K mg base 5 "zero_unknowns" ["many", "n", "p"] 0 3 [2, 1, 0] (spD K g_zero_unknowns)
  k_all_lists : CalK P w K mg base 1 "all_lists" ["n", "p"] 0 2 [1, 0] (spD K g_all_lists)
theorem lookJ_put (kvs : List (Int × D)) (k : Int) (d : D) (k2 : Int) : lookJ (putJ kvs k d) k2 = if k2 = k then some d else lookJ kvs k2 := by
  unfold putJ
  by_cases hs : (lookJ kvs k).isSome = true
  · rw [if_pos hs]
    induction kvs with
    | nil => cases hs
    | cons z kvs ih =>
      unfold lookJ at hs ih ⊢
      rw [List.map_cons, List.find?_cons, List.find?_cons]
      by_cases hz : z.1 = k
      · rw [if_pos hz]
        by_cases h2 : z.1 = k2
        · rw [decide_eq_true (show (z.1, d).1 = k2 from h2), if_pos (by rw [← h2, hz])]
          rfl
        · rw [decide_eq_false (show ¬ (z.1, d).1 = k2 from h2), if_neg (fun w => h2 (by rw [hz, w]))]
          show ((kvs.map fun p => if p.1 = k then (p.1, d) else p).find? fun p => decide (p.1 = k2)).map (·.2) = (kvs.find? fun p => decide (p.1 = k2)).map (·.2)
          have nk : k2 ≠ k := fun w => h2 (by rw [hz, w])
          clear ih hs
          induction kvs with
          | nil => rfl
          | cons y kvs ih =>
            rw [List.map_cons, List.find?_cons, List.find?_cons]
            by_cases hy : y.1 = k
            · rw [if_pos hy, decide_eq_false (show ¬ (y.1, d).1 = k2 from fun w => nk (by rw [← w]; exact hy))]
              exact ih
            · rw [if_neg hy]
              cases decide (y.1 = k2) with
              | true => rfl
              | false => exact ih
      · rw [if_neg hz]
        rw [List.find?_cons, decide_eq_false hz] at hs
        by_cases h2 : z.1 = k2
        · rw [decide_eq_true h2, if_neg (fun w => hz (by rw [h2, w]))]
        · rw [decide_eq_false h2]
          exact ih hs
  · rw [if_neg hs]
    unfold lookJ at hs ⊢
    rw [List.find?_append]
    by_cases h2 : k2 = k
    · rw [if_pos h2, h2]
      cases hf : kvs.find? fun p => decide (p.1 = k) with
      | some y => rw [hf] at hs; exact absurd rfl hs
      | none =>
        rw [Option.none_or, List.find?_cons, decide_eq_true (show (k, d).1 = k from rfl)]
        rfl
    · rw [if_neg h2, List.find?_cons, decide_eq_false (show ¬ (k, d).1 = k2 from fun w => h2 w.symm), List.find?_nil, Option.or_none]
theorem putJ_len (kvs : List (Int × D)) (k : Int) (d : D) : (putJ kvs k d).length ≤ kvs.length + 1 := by
  unfold putJ
  split
  · rw [List.length_map]; omega
  · rw [List.length_append]; exact Nat.le_refl _
def SumsOk (p : Int) (zs : KI) : Prop := ∀ k d, lookJ (kvI zs) k = some d → d = .int (psF p k.toNat)
theorem psF_b {p : Int} (hp : 0 < p) (k : Nat) : 0 ≤ psF p k ∧ psF p k < p := ⟨Int.emod_nonneg _ (by omega), Int.emod_lt_of_pos _ hp⟩
theorem mid_of {i : Int} (h : i.natAbs ≤ 100000) : RepOk (.int i) := (nt_int (M := 100000) (b := 0) (k := 0) h).rep (by decide) (by decide) (by decide)
theorem ntL_each {M b k : Nat} : ∀ {ds : List D}, (∀ d ∈ ds, Nt M b k d) → NtL M (ds.length * (b + 1)) k ds
  | [], _ => ntL_nil
  | d :: ds, h => (ntL_cons (h d List.mem_cons_self) (ntL_each fun e he => h e (List.mem_cons_of_mem _ he))).mono (Nat.le_refl _) (by rw [List.length_cons, Nat.add_mul, Nat.one_mul, Nat.add_comm]; exact Nat.le_refl _) (Nat.le_refl _)
theorem zero_rep {n m : Int} (hn : n ≤ 5) (hm : m ≤ n) : RepOk (zeroD n m) := by
  have hd : ∀ d ∈ (rngI 0 m.toNat).map (fun a => PyData.tuple [termD (onlyF n a 1, 1)]), Nt 100 20 3 d := fun d hd => by
    obtain ⟨u, hu, rfl⟩ := List.mem_map.mp hd
    have hu2 := rngI_mem' hu
    have e1 := only_same (n := n) (a := u) (by omega) (by omega)
    have h1 : NtL 100 (onlyF n u 1).length 0 ((onlyF n u 1).map PyData.int) := ntL_ints fun y hy => by
      rw [e1] at hy
      obtain ⟨s, _, rfl⟩ := List.mem_map.mp hy
      split <;> decide
    have hl : (onlyF n u 1).length ≤ 5 := by rw [e1, List.length_map, rngI_len']; omega
    have h2 : Nt 100 5 1 (tupK (onlyF n u 1)) := (NtL.tup h1).mono (Nat.le_refl _) hl (Nat.le_refl _)
    have h3 : Nt 100 0 1 (PyData.int 1) := nt_int (by decide)
    have h4 : Nt 100 (5 + 1 + (0 + 1 + 0)) 2 (termD (onlyF n u 1, 1)) := (ntL_cons h2 (ntL_cons h3 (ntL_nil (b := 0)))).tup
    exact ((ntL_cons h4 (ntL_nil (b := 0))).tup).mono (Nat.le_refl _) (by decide) (Nat.le_refl _)
  have hl : ((rngI 0 m.toNat).map (fun a => PyData.tuple [termD (onlyF n a 1, 1)])).length ≤ 5 := by rw [List.length_map, rngI_len']; omega
  exact ((ntL_each hd).tup).rep (by decide) (by omega) (by decide)
theorem choF_mem {p : Int} : ∀ n, ∀ c ∈ choF p n, ∀ x ∈ c, 0 ≤ x ∧ x < p
  | 0, c, h, x, hx => by
    obtain rfl : c = [] := List.mem_singleton.mp h
    cases hx
  | n + 1, c, h, x, hx => by
    obtain ⟨b, hb, hc⟩ := List.mem_flatMap.mp h
    obtain ⟨y, hy, rfl⟩ := List.mem_map.mp hc
    rcases List.mem_append.mp hx with h | h
    · exact choF_mem n b hb x h
    · obtain rfl : x = y := List.mem_singleton.mp h
      have := rngI_mem' hy
      omega
theorem every_rep {p n : Int} (hp : p ≤ 5) (hn : n ≤ 5) : RepOk (.tuple (List.replicate n.toNat (rangeT p))) := by
  have h1 : Nt 100 5 1 (rangeT p) := (NtL.tup (ntL_ints (M := 100) fun y hy => by
    have := rngI_mem' hy
    omega)).mono (Nat.le_refl _) (by rw [rngI_len']; omega) (Nat.le_refl _)
  have h2 := ntL_each (ds := List.replicate n.toNat (rangeT p)) fun d hd => by
    obtain rfl := List.eq_of_mem_replicate hd
    exact h1
  have hl : (List.replicate n.toNat (rangeT p)).length ≤ 5 := by rw [List.length_replicate]; omega
  exact h2.tup.rep (by decide) (by omega) (by decide)
set_option maxHeartbeats 4000000 in
theorem ok_law {f : Addr} {fd : FuncData} (F : Fun K "law" "law" s_law f fd) (T : TLw P w K mg base) : FnQ P w K mg base CX0 6 f fd ["script"] (spD K g_law) := by
  refine ok_Q F sc_law (fun ds P ⟨ns, e, _⟩ => by rw [e]; rfl) (fun cdv A outer s H E hgd hr => ⟨_, _, (pss_cons (ps_set (i := 1) sc_law.nd rfl (by first | exact Or.inl rfl | exact Or.inr rfl) (C8.pe_c T.d_law_draw hr (by first | decide | omega) (by rfl) (pa_cons (pv 0) (pa_cons pe_int pa_nil))))
      (pss_cons (ps_for PassesOwn.never rfl (pi_range1 (by rfl) T.b_range (pa_cons pe_int pa_nil)) (pg_name (i := 2) sc_law.nd rfl (by first | exact Or.inl rfl | exact Or.inr rfl)) (pss_cons (ps_asg (pe_tup (pa_cons (C8.pe_c T.d_law_of hr (by first | decide | omega) (by rfl) (pa_cons (pv 1) (pa_cons (pe_lst (pa_cons pe_int (pa_cons pe_int (pa_cons pe_int (pa_cons pe_int (pa_cons pe_int (pa_cons pe_int (pa_cons pe_int (pa_cons pe_int pa_nil))))))))) pa_nil))) (pa_cons (pe_op op_add pe_int (C8.pe_c T.d_law_any hr (by first | decide | omega) (by rfl) (pa_cons (pv 1) (pa_cons pe_int pa_nil)))) pa_nil))) (pg_tup rfl (pgs_cons (pg_name (i := 9) sc_law.nd rfl (by first | exact Or.inl rfl | exact Or.inr rfl)) (pgs_cons (pg_name (i := 10) sc_law.nd rfl (by first | exact Or.inl rfl | exact Or.inr rfl)) pgs_nil))))
      (pss_cons (ps_set (i := 5) sc_law.nd rfl (by first | exact Or.inl rfl | exact Or.inr rfl) pe_newX)
      (pss_cons (ps_for PassesOwn.never rfl (pi_range1 (by rfl) T.b_range (pa_cons (pe_op op_add pe_int (C8.pe_c T.d_law_any hr (by first | decide | omega) (by rfl) (pa_cons (pv 1) (pa_cons pe_int pa_nil)))) pa_nil)) (pg_name (i := 6) sc_law.nd rfl (by first | exact Or.inl rfl | exact Or.inr rfl)) (pss_cons (ps_set (i := 11) sc_law.nd rfl (by first | exact Or.inl rfl | exact Or.inr rfl) (pe_lc (own := [("one", 16)]) (g := (gName 16)) (tt := _) rfl sc_law.nd (pi_list (pe_lst (pa_cons (pe_op op_sub (pv 9) pe_int) (pa_cons (pe_op op_sub (pv 9) pe_int) (pa_cons (pe_op op_sub (pv 9) pe_int) (pa_cons (pe_op op_sub (pe_op op_mulW pe_int (pv 9)) pe_int) (pa_cons pe_int (pa_cons pe_int (pa_cons (C8.pe_c T.d_law_any hr (by first | decide | omega) (by rfl) (pa_cons (pv 1) (pa_cons pe_int pa_nil))) pa_nil))))))))) (blkOk_by (N := N_law) (sc := defScope s_law) (own := [("one", 16)]) (by decide +kernel)) (fun _ _ _ _ _ => (pg_name (i := 16) sc_law.nd rfl (by first | exact Or.inl rfl | exact Or.inr rfl))) (fun _ _ _ _ _ => (pts_one (pt_cmpR op_lt (pv 16) pe_int (nomark _)))) (fun _ _ _ _ _ => (pv 16))))
      (pss_one (ps_asg (pe_op op_add pe_int (C8.pe_c T.d_law_any hr (by first | decide | omega) (by rfl) (pa_cons (pv 1) (pa_cons (pe_op op_sub (pv 9) pe_int) pa_nil)))) (pg_sub (pv 5) (pe_callTy call_tuple_of (by rfl) T.b_tuple (by decide +kernel) (pa_cons (pe_lc (own := [("at", 17)]) (g := (gName 17)) (tt := tYes) rfl sc_law.nd (pi_range1 (by rfl) T.b_range (pa_cons (pv 10) pa_nil)) (blkOk_by (N := N_law) (sc := defScope s_law) (own := [("at", 17)]) (by decide +kernel)) (fun _ _ _ _ _ => (pg_name (i := 17) sc_law.nd rfl (by first | exact Or.inl rfl | exact Or.inr rfl))) (fun _ _ _ _ _ => pts_nil) (fun _ _ _ _ _ => (C8.pe_c T.d_law_of hr (by first | decide | omega) (by rfl) (pa_cons (pv 1) (pa_cons (pv 11) pa_nil))))) pa_nil)) (set_X (hu_of hr)))))))
      (pss_cons (ps_asg (pe_tup (pa_cons (C8.pe_c T.d_law_tidy hr (by first | decide | omega) (by rfl) (pa_cons (pv 9) (pa_cons (pv 5) pa_nil))) (pa_cons pe_int (pa_cons pe_dnewK pa_nil)))) (pg_tup rfl (pgs_cons (pg_name (i := 4) sc_law.nd rfl (by first | exact Or.inl rfl | exact Or.inr rfl)) (pgs_cons (pg_name (i := 8) sc_law.nd rfl (by first | exact Or.inl rfl | exact Or.inr rfl)) (pgs_cons (pg_name (i := 12) sc_law.nd rfl (by first | exact Or.inl rfl | exact Or.inr rfl)) pgs_nil)))))
      (pss_cons (ps_for PassesOwn.never rfl (pi_tup (pv 4)) (pg_tup rfl (pgs_cons (pg_name (i := 13) sc_law.nd rfl (by first | exact Or.inl rfl | exact Or.inr rfl)) (pgs_cons (pg_name (i := 14) sc_law.nd rfl (by first | exact Or.inl rfl | exact Or.inr rfl)) pgs_nil))) (pss_cons (ps_for PassesOwn.never rfl (pi_tup (pv 13)) (pg_name (i := 15) sc_law.nd rfl (by first | exact Or.inl rfl | exact Or.inr rfl)) (pss_cons (ps_if (pt_cmpR (op_notInK (hu_of hr)) (pv 15) (pv 12) (by rfl)) (pss_one (ps_dput (hu_of hr) (pv 12) (pv 15) (C8.pe_c T.d_law_power_sum hr (by first | decide | omega) (by rfl) (pa_cons (pv 9) (pa_cons (pv 15) pa_nil))) (by rfl))) pss_nil)
      (pss_one (ps_set (i := 14) sc_law.nd rfl (by first | exact Or.inl rfl | exact Or.inr rfl) (pe_op op_mulW (pv 14) (pe_dget (hu_of hr) (pv 12) (pv 15) (fun _ _ => rfl)))))))
      (pss_one (ps_set (i := 8) sc_law.nd rfl (by first | exact Or.inl rfl | exact Or.inr rfl) (pe_op op_add (pv 8) (pv 14))))))
      (pss_cons (ps_if (PW.pt (pw_or (pt_cmpR op_ne (pe_callB (call_reprD hgd hr.units) (by rfl) T.b_repr (by decide +kernel) (pa_cons (C8.pe_c T.d_total_worth hr (by first | decide | omega) (by rfl) (pa_cons (pv 9) (pa_cons (pv 10) (pa_cons (pv 4) pa_nil)))) pa_nil)) (pe_callB (call_reprD hgd hr.units) (by rfl) T.b_repr (by decide +kernel) (pa_cons (pe_op op_mod (pe_callTy call_int1 (by rfl) T.b_int (by decide +kernel) (pa_cons (pv 8) pa_nil)) (pv 9)) pa_nil)) (nomark _)) (pw_or1 (pt_cmpR op_ne (pe_callB (call_reprD hgd hr.units) (by rfl) T.b_repr (by decide +kernel) (pa_cons (pe_cK0 T.k_total_worth hr (by first | decide | omega) (by rfl) (pk_cons (pv 4) (pk_cons (pv 10) (pk_cons (pv 9) pk_nil)))) pa_nil)) (pe_callB (call_reprD hgd hr.units) (by rfl) T.b_repr (by decide +kernel) (pa_cons (pe_op op_mod (pe_callTy call_int1 (by rfl) T.b_int (by decide +kernel) (pa_cons (pv 8) pa_nil)) (pv 9)) pa_nil)) (nomark _))))) (pss_one (ps_ret pe_bl)) pss_nil)
      (pss_cons (ps_if (PW.pt (pw_and (pt_cmpR op_lt (C8.pe_c T.d_law_degree hr (by first | decide | omega) (by rfl) (pa_cons (pv 4) pa_nil)) (pe_op op_mulW (pv 10) (pe_op op_sub (pv 9) pe_int)) (nomark _)) (pw_and1 (pt_cmpR (op_neD hr.units) (C8.pe_c T.d_total_worth hr (by first | decide | omega) (by rfl) (pa_cons (pv 9) (pa_cons (pv 10) (pa_cons (pv 4) pa_nil)))) pe_int (nomark _))))) (pss_one (ps_ret pe_bl)) pss_nil)
      (pss_cons (ps_set (i := 7) sc_law.nd rfl (by first | exact Or.inl rfl | exact Or.inr rfl) (C8.pe_c T.d_law_any hr (by first | decide | omega) (by rfl) (pa_cons (pv 1) (pa_cons (pe_op op_add (pv 10) pe_int) pa_nil))))
      (pss_cons (ps_set (i := 8) sc_law.nd rfl (by first | exact Or.inl rfl | exact Or.inr rfl) (pe_callTy call_tuple_of (by rfl) T.b_tuple (by decide +kernel) (pa_cons (pe_lc (own := [("at", 17)]) (g := (gName 17)) (tt := tYes) rfl sc_law.nd (pi_range1 (by rfl) T.b_range (pa_cons (pv 7) pa_nil)) (blkOk_by (N := N_law) (sc := defScope s_law) (own := [("at", 17)]) (by decide +kernel)) (fun _ _ _ _ _ => (pg_name (i := 17) sc_law.nd rfl (by first | exact Or.inl rfl | exact Or.inr rfl))) (fun _ _ _ _ _ => pts_nil) (fun _ _ _ _ _ => (pe_tup (pa_cons (pe_tup (pa_cons (pe_callTy call_tuple_of (by rfl) T.b_tuple (by decide +kernel) (pa_cons (pe_lc (own := [("spot", 19)]) (g := (gName 19)) (tt := tYes) rfl sc_law.nd (pi_range1 (by rfl) T.b_range (pa_cons (pv 10) pa_nil)) (blkOk_by (N := N_law) (sc := _) (own := [("spot", 19)]) (by rfl)) (fun _ _ _ _ _ => (pg_name (i := 19) sc_law.nd rfl (by first | exact Or.inl rfl | exact Or.inr rfl))) (fun _ _ _ _ _ => pts_nil) (fun _ _ _ _ _ => (pe_ifExp (pt_cmpR (op_eqD hr.units) (pv 19) (pv 17) (nomark _)) pe_int pe_int))) pa_nil)) (pa_cons pe_int pa_nil))) pa_nil)))) pa_nil)))
      (pss_one (ps_if (PW.pt (pw_or (pt_cmpR op_ne (pe_callB (call_reprD hgd hr.units) (by rfl) T.b_repr (by decide +kernel) (pa_cons (C8.pe_c T.d_zero_unknowns hr (by first | decide | omega) (by rfl) (pa_cons (pv 9) (pa_cons (pv 10) (pa_cons (pv 7) pa_nil)))) pa_nil)) (pe_callB (call_reprD hgd hr.units) (by rfl) T.b_repr (by decide +kernel) (pa_cons (pv 8) pa_nil)) (nomark _)) (pw_or1 (pt_cmpR op_ne (pe_callB (call_reprD hgd hr.units) (by rfl) T.b_repr (by decide +kernel) (pa_cons (pe_cK0 T.k_zero_unknowns hr (by first | decide | omega) (by rfl) (pk_cons (pv 7) (pk_cons (pv 10) (pk_cons (pv 9) pk_nil)))) pa_nil)) (pe_callB (call_reprD hgd hr.units) (by rfl) T.b_repr (by decide +kernel) (pa_cons (pv 8) pa_nil)) (nomark _))))) (pss_one (ps_ret pe_bl)) pss_nil))))))))))))
      (pss_cons (ps_asg (C8.pe_c T.d_law_of hr (by first | decide | omega) (by rfl) (pa_cons (pv 1) (pa_cons (pe_lst (pa_cons (pe_tup (pa_cons pe_int (pa_cons pe_int pa_nil))) (pa_cons (pe_tup (pa_cons pe_int (pa_cons pe_int pa_nil))) (pa_cons (pe_tup (pa_cons pe_int (pa_cons pe_int pa_nil))) (pa_cons (pe_tup (pa_cons pe_int (pa_cons pe_int pa_nil))) (pa_cons (pe_tup (pa_cons pe_int (pa_cons pe_int pa_nil))) (pa_cons (pe_tup (pa_cons pe_int (pa_cons pe_int pa_nil))) pa_nil))))))) pa_nil))) (pg_tup rfl (pgs_cons (pg_name (i := 9) sc_law.nd rfl (by first | exact Or.inl rfl | exact Or.inr rfl)) (pgs_cons (pg_name (i := 10) sc_law.nd rfl (by first | exact Or.inl rfl | exact Or.inr rfl)) pgs_nil))))
      (pss_cons (ps_set (i := 3) sc_law.nd rfl (by first | exact Or.inl rfl | exact Or.inr rfl) (pe_op op_repA (pe_tup (pa_cons (pe_tupRg rfl (by rfl) T.b_tuple (prg_1 (by rfl) T.b_range (pv 9))) pa_nil)) (pv 10)))
      (pss_cons (ps_if (PW.pt (pw_or (pt_cmpR op_ne (pe_callB (call_reprD hgd hr.units) (by rfl) T.b_repr (by decide +kernel) (pa_cons (C8.pe_c T.d_all_lists hr (by first | decide | omega) (by rfl) (pa_cons (pv 9) (pa_cons (pv 10) pa_nil))) pa_nil)) (pe_callB (call_reprD hgd hr.units) (by rfl) T.b_repr (by decide +kernel) (pa_cons (pv 3) pa_nil)) (nomark _)) (pw_or1 (pt_cmpR op_ne (pe_callB (call_reprD hgd hr.units) (by rfl) T.b_repr (by decide +kernel) (pa_cons (pe_cK0 T.k_all_lists hr (by first | decide | omega) (by rfl) (pk_cons (pv 10) (pk_cons (pv 9) pk_nil))) pa_nil)) (pe_callB (call_reprD hgd hr.units) (by rfl) T.b_repr (by decide +kernel) (pa_cons (pv 3) pa_nil)) (nomark _))))) (pss_one (ps_ret pe_bl)) pss_nil)
      (pss_cons (ps_set (i := 4) sc_law.nd rfl (by first | exact Or.inl rfl | exact Or.inr rfl) (C8.pe_c T.d_law_polynomial hr (by first | decide | omega) (by rfl) (pa_cons (pv 1) (pa_cons (pv 9) (pa_cons (pv 10) (pa_cons pe_int (pa_cons (pe_op op_sub (pe_op op_mulW pe_int (pv 9)) pe_int) pa_nil)))))))
      (pss_one (ps_ret (pe_cmpR (op_eqD hr.units) (C8.pe_c T.d_total_worth hr (by first | decide | omega) (by rfl) (pa_cons (pv 9) (pa_cons (pv 10) (pa_cons (pv 4) pa_nil)))) (pe_op op_mod (pe_callTy call_int1 (by rfl) T.b_int (by decide +kernel) (pa_cons (pe_callB (cr_sum rfl) (by rfl) T.b_sum (by decide +kernel) (pa_cons (pe_lc (own := [("point", 18)]) (g := (gName 18)) (tt := tYes) rfl sc_law.nd (pi_list (C8.pe_c T.d_law_choices hr (by first | decide | omega) (by rfl) (pa_cons (pv 3) pa_nil))) (blkOk_by (N := N_law) (sc := defScope s_law) (own := [("point", 18)]) (by decide +kernel)) (fun _ _ _ _ _ => (pg_name (i := 18) sc_law.nd rfl (by first | exact Or.inl rfl | exact Or.inr rfl))) (fun _ _ _ _ _ => pts_nil) (fun _ _ _ _ _ => (C8.pe_c T.d_law_worth hr (by first | decide | omega) (by rfl) (pa_cons (pv 9) (pa_cons (pv 4) (pa_cons (pv 18) pa_nil)))))) pa_nil)) pa_nil)) (pv 9)) (nomark _)))))))))), (ss_cons (ss_mk (i := 1) (sa_cons (se_var 0) (sa_cons se_c sa_nil)))
      (ss_cons (ss_for (si_rng1 (sa_cons se_c sa_nil)) (sg_name 2) (ss_cons (ss_asg (se_tup (sa_cons (se_callW (i := 1) g_of_mono (sa_cons (se_sh (sf_lst (sa_cons se_c (sa_cons se_c (sa_cons se_c (sa_cons se_c (sa_cons se_c (sa_cons se_c (sa_cons se_c (sa_cons se_c sa_nil)))))))))) sa_nil)) (sa_cons (se_op so_rI0 se_c (se_callW (i := 1) g_any_mono (sa_cons se_c sa_nil))) sa_nil))) (sg_tup (sgs_cons (sg_name 9) (sgs_cons (sg_name 10) sgs_nil))))
      (ss_cons (ss_newX (i := 5))
      (ss_cons (ss_for (si_rng1 (sa_cons (se_op so_rI0 se_c (se_callW (i := 1) g_any_mono (sa_cons se_c sa_nil))) sa_nil)) (sg_name 6) (ss_cons (ss_asg (se_sh (sf_lc (js := [16]) (si_list (se_sh (sf_lst (sa_cons (se_op so_rI0 (se_var 9) se_c) (sa_cons (se_op so_rI0 (se_var 9) se_c) (sa_cons (se_op so_rI0 (se_var 9) se_c) (sa_cons (se_op so_rI0 (se_op so_rI se_c (se_var 9)) se_c) (sa_cons se_c (sa_cons se_c (sa_cons (se_callW (i := 1) g_any_mono (sa_cons se_c sa_nil)) sa_nil)))))))))) (sg_name 16) (st_test (se_op so_rI0 (se_var 16) se_c)) (se_var 16))) (sg_name 11))
      (ss_setX 5 (se_op so_rI0 se_c (se_callW (i := 1) g_any_mono (sa_cons (se_op so_rI0 (se_var 9) se_c) sa_nil))) (se_cb sc_tuple (sa_cons (se_sh (sf_lc (js := [17]) (si_rng1 (sa_cons (se_var 10) sa_nil)) (sg_name 17) st_yes (se_callW (i := 1) g_of_mono (sa_cons (se_var 11) sa_nil)))) sa_nil)))))
      (ss_cons (ss_triK (i := 4) (j := 8) (l := 12) (se_callT (i := 5) g_law_tidy_mono (se_var 9)) se_c)
      (ss_cons (ss_for (si_tup (se_var 4)) (sg_tup (sgs_cons (sg_name 13) (sgs_cons (sg_name 14) sgs_nil))) (ss_cons (ss_for (si_tup (se_var 13)) (sg_name 15) (ss_consM (ss_if (st_test (se_inK true 12 (se_var 15))) (ss_setK 12 (se_call g_law_power_sum_mono (sa_cons (se_var 9) (sa_cons (se_var 15) sa_nil))) (se_var 15)) ss_nil)
      (ss_asg (se_op so_rI (se_var 14) (se_ixK 12 (se_var 15))) (sg_name 14))))
      (ss_asg (se_op so_rI0 (se_var 8) (se_var 14)) (sg_name 8))))
      (ss_cons (ss_if (st_or (st_test (se_op so_neS (se_cb sc_reprD (sa_cons (se_call g_total_worth_mono (sa_cons (se_var 9) (sa_cons (se_var 10) (sa_cons (se_var 4) sa_nil)))) sa_nil)) (se_cb sc_reprD (sa_cons (se_op so_rI (se_cb sc_int (sa_cons (se_var 8) sa_nil)) (se_var 9)) sa_nil)))) (st_test (se_op so_neS (se_cb sc_reprD (sa_cons (se_callK g_total_worth_mono sa_nil (sa_cons (se_var 4) (sa_cons (se_var 10) (sa_cons (se_var 9) sa_nil)))) sa_nil)) (se_cb sc_reprD (sa_cons (se_op so_rI (se_cb sc_int (sa_cons (se_var 8) sa_nil)) (se_var 9)) sa_nil))))) (ss_ret se_c) ss_nil)
      (ss_consM (ss_if (st_and (st_test (se_op so_rI0 (se_call g_law_degree_mono (sa_cons (se_var 4) sa_nil)) (se_op so_rI (se_var 10) (se_op so_rI0 (se_var 9) se_c)))) (st_test (se_op so_neD (se_call g_total_worth_mono (sa_cons (se_var 9) (sa_cons (se_var 10) (sa_cons (se_var 4) sa_nil)))) se_c))) (ss_ret se_c) ss_nil)
      (ss_cons (ss_asg (se_callW (i := 1) g_any_mono (sa_cons (se_op so_rI0 (se_var 10) se_c) sa_nil)) (sg_name 7))
      (ss_cons (ss_asg (se_cb sc_tuple (sa_cons (se_sh (sf_lc (js := [17]) (si_rng1 (sa_cons (se_var 7) sa_nil)) (sg_name 17) st_yes (se_tup (sa_cons (se_tup (sa_cons (se_cb sc_tuple (sa_cons (se_sh (sf_lc (js := [19]) (si_rng1 (sa_cons (se_var 10) sa_nil)) (sg_name 19) st_yes (se_if (st_test (se_op so_eqD (se_var 19) (se_var 17))) se_c se_c))) sa_nil)) (sa_cons se_c sa_nil))) sa_nil)))) sa_nil)) (sg_name 8))
      (ss_if (st_or (st_test (se_op so_neS (se_cb sc_reprD (sa_cons (se_call g_zero_unknowns_mono (sa_cons (se_var 9) (sa_cons (se_var 10) (sa_cons (se_var 7) sa_nil)))) sa_nil)) (se_cb sc_reprD (sa_cons (se_var 8) sa_nil)))) (st_test (se_op so_neS (se_cb sc_reprD (sa_cons (se_callK g_zero_unknowns_mono sa_nil (sa_cons (se_var 7) (sa_cons (se_var 10) (sa_cons (se_var 9) sa_nil)))) sa_nil)) (se_cb sc_reprD (sa_cons (se_var 8) sa_nil))))) (ss_ret se_c) ss_nil)))))))))))
      (ss_cons (ss_asg (se_callW (i := 1) g_of_mono (sa_cons (se_sh (sf_lst (sa_cons (se_tup (sa_cons se_c (sa_cons se_c sa_nil))) (sa_cons (se_tup (sa_cons se_c (sa_cons se_c sa_nil))) (sa_cons (se_tup (sa_cons se_c (sa_cons se_c sa_nil))) (sa_cons (se_tup (sa_cons se_c (sa_cons se_c sa_nil))) (sa_cons (se_tup (sa_cons se_c (sa_cons se_c sa_nil))) (sa_cons (se_tup (sa_cons se_c (sa_cons se_c sa_nil))) sa_nil)))))))) sa_nil)) (sg_tup (sgs_cons (sg_name 9) (sgs_cons (sg_name 10) sgs_nil))))
      (ss_cons (ss_asg (se_op so_repA (se_tup (sa_cons (se_tg1 (se_var 9)) sa_nil)) (se_var 10)) (sg_name 3))
      (ss_cons (ss_if (st_or (st_test (se_op so_neS (se_cb sc_reprD (sa_cons (se_call g_all_lists_mono (sa_cons (se_var 9) (sa_cons (se_var 10) sa_nil))) sa_nil)) (se_cb sc_reprD (sa_cons (se_var 3) sa_nil)))) (st_test (se_op so_neS (se_cb sc_reprD (sa_cons (se_callK g_all_lists_mono sa_nil (sa_cons (se_var 10) (sa_cons (se_var 9) sa_nil))) sa_nil)) (se_cb sc_reprD (sa_cons (se_var 3) sa_nil))))) (ss_ret se_c) ss_nil)
      (ss_cons (ss_asg (se_callW (i := 1) g_law_polynomial_mono (sa_cons (se_var 9) (sa_cons (se_var 10) (sa_cons se_c (sa_cons (se_op so_rI0 (se_op so_rI se_c (se_var 9)) se_c) sa_nil))))) (sg_name 4))
      (ss_ret (se_op so_eqD (se_call g_total_worth_mono (sa_cons (se_var 9) (sa_cons (se_var 10) (sa_cons (se_var 4) sa_nil)))) (se_op so_rI (se_cb sc_int (sa_cons (se_cb sc_sum (sa_cons (se_sh (sf_lc (js := [18]) (si_list (se_call g_law_choices_mono (sa_cons (se_var 3) sa_nil))) (sg_name 18) st_yes (se_call g_law_worth_mono (sa_cons (se_var 9) (sa_cons (se_var 4) (sa_cons (se_var 18) sa_nil)))))) sa_nil)) sa_nil)) (se_var 9)))))))))), fun ds Pd h => ?_⟩)
  obtain ⟨ns, rfl, hl, q⟩ := h
  generalize hS : PyData.list (ns.map PyData.int) = S
  refine ⟨_, rfl, (by show 1 < 20; decide), ⟨ns, 34, by rw [← hS]; rfl, hl, by decide, by decide⟩, fun a l => ?_⟩
  refine ⟨3, rfl, by decide, by decide, fun i r => ∃ x2 x3 x4 x5 x6 x7 x8 x9 x10 x11 x12 x13 x14 x15 : DV, r = [.sh S, .dl a l, x2, x3, x4, x5, x6, x7, x8, x9, x10, x11, x12, x13, x14, x15, .no, .no, .no, .no], ⟨_, _, _, _, _, _, _, _, _, _, _, _, _, _, rfl⟩, fun i y r hd hI => ?_, fun r hI => ?_⟩
  · obtain ⟨x2, x3, x4, x5, x6, x7, x8, x9, x10, x11, x12, x13, x14, x15, rfl⟩ := hI
    obtain ⟨rfl, _⟩ := rngD_at hd
    refine ⟨(by show 2 < 20; decide), ⟨a, l, rfl⟩, (by show 8 ≤ sizeLine; decide), ⟨a, l, rfl⟩, _, rfl, List.cons_ne_nil _ _, (by show 8 ≤ 1000000; decide), fun e he => ?_⟩
    obtain ⟨p, rfl, hp⟩ : ∃ p : Int, e = .int p ∧ p ∈ primes34 := by
      simp only [List.mem_cons, List.not_mem_nil, or_false] at he
      rcases he with rfl | rfl | rfl | rfl | rfl | rfl | rfl | rfl
      · exact ⟨2, rfl, by decide⟩
      · exact ⟨3, rfl, by decide⟩
      · exact ⟨3, rfl, by decide⟩
      · exact ⟨5, rfl, by decide⟩
      · exact ⟨7, rfl, by decide⟩
      · exact ⟨11, rfl, by decide⟩
      · exact ⟨31, rfl, by decide⟩
      · exact ⟨101, rfl, by decide⟩
    obtain ⟨p0, p1⟩ := pr_pos hp
    refine ⟨⟨a, l, rfl⟩, ⟨a, l, rfl⟩, 5, rfl, by decide, by decide, fun x x0 x1 => ⟨_, _, rfl, rfl, (by show 2 ≤ sizeLine; decide), _, rfl, rfl, _, _, rfl, (by show 9 < 20; decide), _, _, rfl, (by show 10 < 20; decide), rfl, ?_⟩⟩
    refine ⟨(by show 5 < 20; decide), fun af => ?_⟩
    refine ⟨⟨a, l, rfl⟩, ⟨a, l, rfl⟩, 5, rfl, by decide, by decide, fun y0' y0 y1 => ⟨_, _, rfl, rfl, _, rfl, by omega, by omega, ?_⟩⟩
    refine ⟨fun i r => ∃ (zs : List Ent) (kis : TsL) (x2 x6 x11 : DV), r = [.sh S, .dl a l, x2, x3, x4, .dt af zs, x6, x7, x8, .sh (.int p), .sh (.int (1 + x)), x11, x12, x13, x14, x15, .no, .no, .no, .no] ∧ zs.map Ent.kv = kisD kis ∧ kis.length ≤ i ∧ KisOk p (1 + x).toNat 40 kis, ⟨[], [], _, _, _, rfl, rfl, Nat.le_refl _, ⟨List.nodup_nil, fun x hx => by cases hx⟩⟩, fun i y r hd hI => ?_, fun r hI => ?_⟩
    · obtain ⟨zs, kis, x2, x6, x11, rfl, hk, hkl, ok⟩ := hI
      have hi5 : i < (1 + y0').toNat := (rngD_at hd).2
      have zl : zs.length = kis.length := by
        have := congrArg List.length hk
        unfold kisD at this
        rwa [List.length_map, List.length_map] at this
      refine ⟨(by show 6 < 20; decide), ?_⟩
      refine ⟨_, rfl, _, _, rfl, rfl, _, rfl, _, _, rfl, rfl, _, rfl, _, _, rfl, rfl, _, rfl, _, _, rfl, rfl, wide_mul (a := 20) (b := 20) (by decide) (by omega) (by decide) (by decide) (by decide), _, _, rfl, rfl, ⟨a, l, rfl⟩, ⟨a, l, rfl⟩, 41, rfl, by decide, by decide, fun z z0 z1 => ⟨(by show 7 ≤ sizeLine; decide), _, rfl, (by show 7 ≤ sizeLine; decide), fun j hj => by
        obtain rfl : j = 16 := by simpa using hj
        rfl, ?_⟩⟩
      refine compW_fil (xs := [p - 1, p - 1, p - 1, 2 * p - 2, 0, 1, z]) PyData.int PyData.int (fun x => decide (x < 41)) (fun u hu k hk => ?_) ?_
      · refine ⟨(by show 16 < 20; decide), _, rfl, _, _, rfl, rfl, _, rfl, ?_⟩
        by_cases h : u < 41
        · rw [if_pos (decide_eq_true h)] at hk
          exact ifT (decide_eq_true h) ⟨_, rfl, hk _ rfl⟩
        · rw [if_neg (by rw [decide_eq_false h]; decide)] at hk
          exact ifF (decide_eq_false h) (hk _ rfl)
      have Lne : (0 : Int) ∈ [p - 1, p - 1, p - 1, 2 * p - 2, 0, 1, z].filter (fun x => decide (x < 41)) := List.mem_filter.mpr ⟨by simp, by decide⟩
      have Lall : ∀ u ∈ [p - 1, p - 1, p - 1, 2 * p - 2, 0, 1, z].filter (fun x => decide (x < 41)), 0 ≤ u ∧ u ≤ 40 := fun u hu => by
        obtain ⟨h1, h2⟩ := List.mem_filter.mp hu
        have h2 := of_decide_eq_true h2
        simp only [List.mem_cons, List.not_mem_nil, or_false] at h1
        omega
      have Ll : ([p - 1, p - 1, p - 1, 2 * p - 2, 0, 1, z].filter (fun x => decide (x < 41))).length ≤ 7 := List.length_filter_le _ _
      generalize [p - 1, p - 1, p - 1, 2 * p - 2, 0, 1, z].filter (fun x => decide (x < 41)) = L at Lne Lall Ll ⊢
      refine ⟨(by show 11 < 20; decide), ⟨a, l, rfl⟩, _, rfl, _, _, rfl, rfl, ⟨a, l, rfl⟩, p - 1, rfl, by omega, Nat.lt_trans (PySem.Flt.log2_lt_of (k := 20) (by decide) (by omega)) (by decide), fun v v0 v1 => ⟨_, _, rfl, rfl, ⟨af, zs, rfl⟩, _, rfl, 1 + x, rfl, by omega, by omega, by rw [rngD_len, sizeLine_eq]; omega, fun j hj => by
        obtain rfl : j = 17 := by simpa using hj
        rfl, ?_⟩⟩
      refine compW_any (fun e => ∃ i : Int, e = .int i ∧ 0 ≤ i ∧ i ≤ 40) (fun e he k hk => ?_) (fun y hy => by cases hy) (fun ys hyl hy => ?_)
      · refine ⟨(by show 17 < 20; decide), ifT rfl ⟨⟨a, l, rfl⟩, _, rfl, ⟨a, l, rfl⟩, L.map PyData.int, rfl, fun z => ?_, by rw [List.length_map]; omega, fun e he2 => ?_⟩⟩
        · rw [List.map_eq_nil_iff.mp z] at Lne
          cases Lne
        · obtain ⟨u, rfl, hu⟩ := mem_int he2
          exact hk _ _ rfl ⟨u, rfl, Lall u hu⟩
      obtain ⟨ks, rfl, hks⟩ := ints_all hy
      rw [List.length_map, List.length_nil, Nat.zero_add, rngD_len] at hyl
      refine ⟨ks.map PyData.int, .inl rfl, af, zs, ks, rfl, rfl, by rw [zl, sizeLine_eq]; omega, fun zs' hz => ?_⟩
      refine ⟨zs', putI kis ks (1 + v), _, _, _, rfl, by rw [hz, hk, ← put_kis]; rfl, by have := putI_len kis ks (1 + v); omega, ⟨putI_nodup ok.one, fun z hz => ?_⟩⟩
      rcases putI_mem hz with h | rfl
      · exact ok.at_ z h
      · exact ⟨hyl, hks, fun _ => ⟨by show 0 ≤ 1 + v; omega, by show 1 + v < p; omega⟩, by show -1000 < 1 + v; omega, by show 1 + v < 1000; omega⟩
    · obtain ⟨zs, kis, x2, x6, x11, rfl, hk, hkl, ok⟩ := hI
      rw [rngD_len] at hkl
      obtain ⟨t1', t2'⟩ := tidy_poly (by omega) (by omega) ok
      refine ⟨_, rfl, af, zs, rfl, p, kis, rfl, by omega, hk, fun z hz e => ?_, by omega, rfl, ⟨(by show 4 < 20; decide), (by show 8 < 20; decide), (by show 12 < 20; decide)⟩, fun as => ?_⟩
      · have := (ok.at_ z hz).1
        rw [e] at this
        simp only [List.length_nil] at this
        omega
      generalize tidyF p kis = ts at t1' t2' ⊢
      have tsl : ts.length ≤ 5 := by omega
      have tok : TsOk (1 + x) ts := fun t ht => by
        obtain ⟨h1, h2, _⟩ := t1'.at_ t ht
        exact ⟨by omega, fun e he => by have := h2 e he; omega⟩
      have tb : ∀ t ∈ ts, 0 ≤ t.2 ∧ t.2 < p := fun t ht => (t1'.at_ t ht).2.2.2.1 (by omega)
      generalize hT : PyData.tuple (ts.map termD) = T4
      refine ⟨T4, rfl, ts.map termD, hT.symm, fun i r => ∃ (zk : KI) (x2 x6 x11 x13 x14 x15 : DV), r = [.sh S, .dl a l, x2, x3, .sh T4, .dt af zs, x6, x7, .sh (.int (dueF p (ts.take i))), .sh (.int p), .sh (.int (1 + x)), x11, .dk as zk, x13, x14, x15, .no, .no, .no, .no] ∧ SumsOk p zk ∧ zk.length ≤ 5 * i, ⟨[], _, _, _, _, _, _, rfl, (fun k d h => by cases h), Nat.zero_le _⟩, fun i y r hd hI => ?_, fun r hI => ?_⟩
      · obtain ⟨zk, x2, x6, x11, x13, x14, x15, rfl, sok, zkl⟩ := hI
        rw [List.getElem?_map] at hd
        cases hti : ts[i]? with
        | none => rw [hti] at hd; cases hd
        | some t =>
          rw [hti] at hd
          obtain rfl : termD t = y := Option.some.inj hd
          obtain ⟨tn, te⟩ := tok t (List.mem_of_getElem? hti)
          obtain ⟨t0, t1⟩ := tb t (List.mem_of_getElem? hti)
          have hi5 : i < ts.length := (List.getElem?_eq_some_iff.mp hti).1
          have etk : dueF p (ts.take (i + 1)) = dueF p (ts.take i) + t.2 * prodS p t.1 := by
            rw [List.take_add_one, hti]
            unfold dueF
            rw [List.map_append, List.sum_append]
            show _ + (t.2 * prodS p t.1 + 0) = _
            rw [Int.add_zero]
          refine ⟨_, rfl, rfl, _, _, rfl, (by show 13 < 20; decide), _, _, rfl, (by show 14 < 20; decide), rfl, ?_⟩
          refine ⟨_, rfl, t.1.map PyData.int, rfl, fun j r => ∃ (zk : KI) (x15 : DV), r = [.sh S, .dl a l, x2, x3, .sh T4, .dt af zs, x6, x7, .sh (.int (dueF p (ts.take i))), .sh (.int p), .sh (.int (1 + x)), x11, .dk as zk, .sh (tupK t.1), .sh (.int (t.2 * prodI ((t.1.map fun e => psF p e.toNat).take j))), x15, .no, .no, .no, .no] ∧ SumsOk p zk ∧ zk.length ≤ 5 * i + j, ⟨zk, x15, by rw [show t.2 * prodI ((t.1.map fun e => psF p e.toNat).take 0) = t.2 from Int.mul_one _]; rfl, sok, zkl⟩, fun j y r hd2 hJ => ?_, fun r hJ => ?_⟩
          · obtain ⟨zk, x15, rfl, sok, zkl⟩ := hJ
            rw [List.getElem?_map] at hd2
            cases hej : t.1[j]? with
            | none => rw [hej] at hd2; cases hd2
            | some e =>
              rw [hej] at hd2
              obtain rfl : PyData.int e = y := Option.some.inj hd2
              obtain ⟨e0, e1⟩ := te e (List.mem_of_getElem? hej)
              have hj : j < t.1.length := (List.getElem?_eq_some_iff.mp hej).1
              refine ⟨(by show 15 < 20; decide), fun r => ∃ zk : KI, r = [.sh S, .dl a l, x2, x3, .sh T4, .dt af zs, x6, x7, .sh (.int (dueF p (ts.take i))), .sh (.int p), .sh (.int (1 + x)), x11, .dk as zk, .sh (tupK t.1), .sh (.int (t.2 * prodI ((t.1.map fun e => psF p e.toNat).take j))), .sh (.int e), .no, .no, .no, .no] ∧ SumsOk p zk ∧ zk.length ≤ 5 * i + (j + 1) ∧ lookJ (kvI zk) e = some (.int (psF p e.toNat)), ⟨_, rfl, as, zk, e, rfl, rfl, _, rfl, ?_⟩, fun r hr => ?_⟩
              · cases hlk : lookJ (kvI zk) e with
                | none =>
                  refine ifT rfl ⟨_, rfl, _, rfl, p, e, rfl, ⟨p0, by omega⟩, ⟨e0, by omega⟩, ⟨as, zk, rfl⟩, _, rfl, as, zk, e, rfl, rfl, by rw [sizeLine_eq]; omega, fun zs' hz => ⟨zs', rfl, fun k d h => ?_, ?_, ?_⟩⟩
                  · rw [hz, lookJ_put] at h
                    by_cases hke : k = e
                    · rw [if_pos hke] at h
                      rw [hke]
                      exact (Option.some.inj h).symm
                    · rw [if_neg hke] at h
                      exact sok k d h
                  · have h1 := putJ_len (kvI zk) e (.int (psF p e.toNat))
                    rw [← hz] at h1
                    unfold kvI at h1
                    rw [List.length_map, List.length_map] at h1
                    omega
                  · rw [hz, lookJ_put, if_pos rfl]
                | some d =>
                  have hd3 := sok e d hlk
                  exact ifF rfl ⟨zk, rfl, sok, by omega, by rw [hlk, hd3]⟩
              · obtain ⟨zk', rfl, sok', zl', lk'⟩ := hr
                have pb : ∀ u ∈ (t.1.map fun e => psF p e.toNat).take j, 0 ≤ u ∧ u < p := fun u hu => by
                  obtain ⟨q, _, rfl⟩ := List.mem_map.mp (List.mem_of_mem_take hu)
                  exact psF_b (by omega) _
                have bb := fac_b (p := p) p1 t0 t1 pb (by rw [List.length_take, List.length_map]; omega)
                obtain ⟨w0, w1⟩ := psF_b (p := p) (by omega) e.toNat
                refine ⟨_, rfl, ⟨as, zk', rfl⟩, _, rfl, as, zk', e, _, rfl, rfl, lk', _, _, rfl, rfl, wide_mul (a := 60) (b := 20) bb (by omega) (by decide) (by decide) (by decide), (by show 14 < 20; decide), zk', .sh (.int e), ?_, sok', zl'⟩
                rw [show t.2 * prodI ((t.1.map fun e => psF p e.toNat).take (j + 1)) = t.2 * prodI ((t.1.map fun e => psF p e.toNat).take j) * psF p e.toNat by
                  rw [List.take_add_one, List.getElem?_map, hej]
                  show t.2 * prodI (_ ++ [psF p e.toNat]) = _
                  rw [prodI_app, ← Int.mul_assoc]
                  exact congrArg (t.2 * prodI ((t.1.map fun e => psF p e.toNat).take j) * ·) (Int.mul_one _)]
                rfl
          · obtain ⟨zk, x15, rfl, sok, zkl⟩ := hJ
            rw [List.length_map] at zkl
            have efull : (t.1.map (fun e => psF p e.toNat)).take (t.1.map PyData.int).length = t.1.map (fun e => psF p e.toNat) := List.take_of_length_le (by rw [List.length_map, List.length_map]; exact Nat.le_refl _)
            refine ⟨_, rfl, _, rfl, _, _, rfl, rfl, (by show 8 < 20; decide), zk, x2, x6, x11, .sh (tupK t.1), .sh (.int (t.2 * prodI (t.1.map fun e => psF p e.toNat))), x15, ?_, sok, by omega⟩
            rw [etk, efull]
            rfl
      · obtain ⟨zk, x2, x6, x11, x13, x14, x15, rfl, sok, zkl⟩ := hI
        have e8 : ts.take (ts.map termD).length = ts := by rw [List.length_map, List.take_length]
        rw [e8]
        have edue : dueF p ts % p = totF p (1 + x) ts := due_tot hp tok
        have rT : RepOk (.int (totF p (1 + x) ts)) := by
          rw [← edue]
          have h1 := Int.emod_nonneg (dueF p ts) (show p ≠ 0 by omega)
          have h2 := Int.emod_lt_of_pos (dueF p ts) (show 0 < p by omega)
          exact mid_of (by omega)
        have rD : RepOk (.int (dueF p ts % p)) := by rw [edue]; exact rT
        have e1 : (!decide ((PyData.int (totF p (1 + x) ts)).shown = (PyData.int (dueF p ts % p)).shown)) = false := by rw [edue]; simp
        have tl1 : ∀ t ∈ ts, t.1.length ≤ 1000 := fun t ht => by have := (tok t ht).1; omega
        refine ⟨_, rfl, _, rfl, _, rfl, p, 1 + x, ts, by rw [hT], p0, by omega, tl1, _, rfl, (rT).show_, (rT).flat, (rT).deep, (rT).len, _, rfl, _, rfl, _, rfl, _, _, rfl, rfl, (by omega), _, rfl, (rD).show_, (rD).flat, (rD).deep, (rD).len, _, _, rfl, rfl, _, rfl, ifF e1 ?_⟩
        refine ⟨_, rfl, _, rfl, _, rfl, p, 1 + x, ts, by rw [hT]; rfl, p0, by omega, tl1, _, rfl, (rT).show_, (rT).flat, (rT).deep, (rT).len, _, rfl, _, rfl, _, rfl, _, _, rfl, rfl, (by omega), _, rfl, (rD).show_, (rD).flat, (rD).deep, (rD).len, _, _, rfl, rfl, _, rfl, ifF e1 ?_⟩
        refine ⟨fun r => r = [.sh S, .dl a l, x2, x3, .sh T4, .dt af zs, x6, x7, .sh (.int (dueF p ts)), .sh (.int p), .sh (.int (1 + x)), x11, .dk as zk, x13, x14, x15, .no, .no, .no, .no], ?_, fun r hr => ?_⟩
        · refine ⟨_, rfl, ts, by rw [hT], by omega, _, rfl, _, rfl, _, _, rfl, rfl, _, _, rfl, rfl, wide_mul (a := 20) (b := 20) (by omega) (by omega) (by decide) (by decide) (by decide), _, _, rfl, rfl, _, rfl, ?_⟩
          by_cases hd : degL ts < (1 + x) * (p - 1)
          · have h0 := low_zero p0 tok hd
            refine ifT (decide_eq_true hd) ⟨_, rfl, _, rfl, _, rfl, p, 1 + x, ts, by rw [hT], p0, by omega, tl1, rfl, rfl, _, rfl, ifF ?_ rfl⟩
            show (!PyData.eqv (.int (totF p (1 + x) ts)) (.int 0)) = false
            rw [h0, eqv_int]
            rfl
          · exact ifF (decide_eq_false hd) rfl
        subst hr
        refine ⟨⟨a, l, rfl⟩, _, rfl, _, _, rfl, rfl, ⟨a, l, rfl⟩, 1 + x + 1, rfl, by omega, Nat.lt_trans (PySem.Flt.log2_lt_of (k := 20) (by decide) (by omega)) (by decide), fun m m0 m1 => ⟨(by show 7 < 20; decide), ?_⟩⟩
        refine ⟨_, rfl, m, rfl, by omega, by omega, by rw [rngD_len, sizeLine_eq]; omega, fun j hj => by
          obtain rfl : j = 17 := by simpa using hj
          rfl, ?_⟩
        rw [rngD_I]
        refine compW_all _ (fun a : Int => PyData.tuple [termD (onlyF (1 + x) a 1, 1)]) (fun u hu k hk => ?_) ⟨_, .inl rfl, (by show 8 < 20; decide), ?_⟩
        · have hu2 := rngI_mem' hu
          have ev : (PyData.tuple [termD (onlyF (1 + x) u 1, 1)]) = .tuple [.tuple [.tuple ((rngI 0 (1 + x).toNat).map fun s => PyData.int (if s = u then 1 else 0)), .int 1]] := by
            rw [only_same (by omega) (by omega)]
            unfold termD tupK
            rw [List.map_map]
            rfl
          rw [ev] at hk
          refine ⟨(by show 17 < 20; decide), ifT rfl ⟨_, rfl, 1 + x, rfl, by omega, by omega, by rw [rngD_len, sizeLine_eq]; omega, fun j hj => by
            obtain rfl : j = 19 := by simpa using hj
            rfl, ?_⟩⟩
          rw [rngD_I]
          refine compW_all _ (fun s : Int => PyData.int (if s = u then 1 else 0)) (fun s hs k2 hk2 => ⟨(by show 19 < 20; decide), ifT rfl ⟨_, rfl, _, rfl, rfl, rfl, _, rfl, ?_⟩⟩) ⟨_, .inl rfl, (by show 2 ≤ sizeLine; decide), (by show 1 ≤ sizeLine; decide), hk _ rfl⟩
          show if PyData.eqv (.int s) (.int u) = true then _ else _
          rw [eqv_int]
          by_cases hsu : s = u
          · rw [if_pos hsu] at hk2
            exact ifT (decide_eq_true hsu) (hk2 _ rfl)
          · rw [if_neg hsu] at hk2
            exact ifF (decide_eq_false hsu) (hk2 _ rfl)
        · have rZ := zero_rep (n := 1 + x) (m := m) (by omega) (by omega)
          refine ⟨_, rfl, _, rfl, _, rfl, p, 1 + x, m, rfl, p0, m0, by omega, by omega, _, rfl, (rZ).show_, (rZ).flat, (rZ).deep, (rZ).len, _, rfl, _, rfl, (rZ).show_, (rZ).flat, (rZ).deep, (rZ).len, _, _, rfl, rfl, _, rfl, ifF (by simp [zeroD]) ?_⟩
          exact ⟨_, rfl, _, rfl, _, rfl, p, 1 + x, m, rfl, p0, m0, by omega, by omega, _, rfl, (rZ).show_, (rZ).flat, (rZ).deep, (rZ).len, _, rfl, _, rfl, (rZ).show_, (rZ).flat, (rZ).deep, (rZ).len, _, _, rfl, rfl, _, rfl, ifF (by simp [zeroD]) ⟨_, _, _, _, _, _, _, _, _, _, _, _, _, _, rfl⟩⟩
  · obtain ⟨x2, x3, x4, x5, x6, x7, x8, x9, x10, x11, x12, x13, x14, x15, rfl⟩ := hI
    refine ⟨⟨a, l, rfl⟩, (by show 2 ≤ sizeLine; decide), (by show 2 ≤ sizeLine; decide), (by show 2 ≤ sizeLine; decide), (by show 2 ≤ sizeLine; decide), (by show 2 ≤ sizeLine; decide), (by show 2 ≤ sizeLine; decide), (by show 6 ≤ sizeLine; decide), ⟨a, l, rfl⟩, _, rfl, List.cons_ne_nil _ _, (by show 6 ≤ 1000000; decide), fun e he => ?_⟩
    obtain ⟨p, n, rfl, hp, p5, n1, n4, hpn⟩ : ∃ p n : Int, e = .tuple [.int p, .int n] ∧ p ∈ primes34 ∧ p ≤ 5 ∧ 1 ≤ n ∧ n ≤ 4 ∧ p.toNat ^ n.toNat ≤ 10000 := by
      simp only [List.mem_cons, List.not_mem_nil, or_false] at he
      rcases he with rfl | rfl | rfl | rfl | rfl | rfl
      · exact ⟨2, 3, rfl, by decide, by decide, by decide, by decide, by decide⟩
      · exact ⟨3, 2, rfl, by decide, by decide, by decide, by decide, by decide⟩
      · exact ⟨5, 1, rfl, by decide, by decide, by decide, by decide, by decide⟩
      · exact ⟨2, 4, rfl, by decide, by decide, by decide, by decide, by decide⟩
      · exact ⟨3, 3, rfl, by decide, by decide, by decide, by decide, by decide⟩
      · exact ⟨5, 2, rfl, by decide, by decide, by decide, by decide, by decide⟩
    obtain ⟨p0, p1⟩ := pr_pos hp
    refine ⟨_, rfl, rfl, _, _, rfl, (by show 9 < 20; decide), _, _, rfl, (by show 10 < 20; decide), rfl, ?_⟩
    refine ⟨_, rfl, p, rfl, .of_le (by decide) (by omega) (by decide) (by omega), (by show 1 ≤ sizeLine; decide), _, rfl, [_], n, rfl, rfl, List.cons_ne_nil _ _, by omega, by omega, (by show 1 ≤ 1000; decide), (by show 3 < 20; decide), ?_⟩
    have er : ∀ (x : D) (k : Nat), (List.replicate k [x]).flatten = List.replicate k x := fun x k => by
      induction k with
      | zero => rfl
      | succ m ih => rw [List.replicate_succ, List.flatten_cons, ih]; rfl
    rw [er, rngD_I]
    have rE := every_rep (p := p) (n := n) p5 (by omega)
    generalize hE : PyData.tuple (List.replicate n.toNat (rangeT p)) = Ev at rE
    have eE : (PyData.tuple (List.replicate n.toNat (PyData.tuple ((rngI 0 p.toNat).map PyData.int)))) = Ev := hE
    rw [eE]
    refine ⟨_, rfl, _, rfl, p, n, rfl, by omega, by omega, by omega, by omega, ?_⟩
    rw [hE]
    refine ⟨_, rfl, (rE).show_, (rE).flat, (rE).deep, (rE).len, _, rfl, _, rfl, (rE).show_, (rE).flat, (rE).deep, (rE).len, _, _, rfl, rfl, _, rfl, ifF (by simp) ?_⟩
    refine ⟨_, rfl, _, rfl, p, n, rfl, by omega, by omega, by omega, by omega, ?_⟩
    rw [hE]
    refine ⟨_, rfl, (rE).show_, (rE).flat, (rE).deep, (rE).len, _, rfl, _, rfl, (rE).show_, (rE).flat, (rE).deep, (rE).len, _, _, rfl, rfl, _, rfl, ifF (by simp) ?_⟩
    refine ⟨⟨a, l, rfl⟩, _, rfl, _, rfl, _, rfl, _, _, rfl, rfl, wide_mul (a := 20) (b := 20) (by decide) (by omega) (by decide) (by decide) (by decide), _, _, rfl, rfl, ⟨a, l, rfl⟩, p, n, 6, 2 * p - 2, rfl, ⟨by omega, by omega⟩, ⟨by omega, by omega⟩, ⟨by decide, by decide⟩, ⟨by omega, by omega⟩, fun ts hpo hl6 => ⟨(by show 4 < 20; decide), ?_⟩⟩
    have tok : TsOk n ts := fun t ht => by
      obtain ⟨h1, h2, _⟩ := hpo.at_ t ht
      exact ⟨by omega, fun e he => by have := h2 e he; omega⟩
    have tb : ∀ t ∈ ts, 0 ≤ t.2 ∧ t.2 < p := fun t ht => (hpo.at_ t ht).2.2.2.1 (by omega)
    have cl : (choF p n.toNat).length ≤ 10000 := by rw [choF_len]; exact hpn
    refine ⟨_, rfl, _, rfl, _, rfl, p, n, ts, rfl, p0, by omega, fun t ht => by have := (tok t ht).1; omega, _, rfl, p, n.toNat, by rw [hE], by omega, by omega, hpn, by omega, _, rfl, by rw [List.length_map, sizeLine_eq]; omega, fun j hj => by
      obtain rfl : j = 18 := by simpa using hj
      rfl, ?_⟩
    refine compW_all tupK (fun c => PyData.int (worF p ts c)) (fun c hc k hk => ?_) ⟨(choF p n.toNat).map fun c => worF p ts c, by rw [List.map_map]; rfl, _, rfl, _, rfl, _, _, rfl, rfl, (by omega), rfl, rfl, ?_⟩
    · have c1 := choF_len2 n.toNat c hc
      exact ⟨(by show 18 < 20; decide), ifT rfl ⟨_, rfl, _, rfl, _, rfl, p, ts, c, rfl, ⟨p0, p1⟩, by omega, by omega, choF_mem n.toNat c hc, fun t ht => ⟨by have := (tok t ht).1; omega, fun e he => by have := (tok t ht).2 e he; omega, (tb t ht).1, (tb t ht).2⟩, hk _ rfl⟩⟩
    · show Pd (.bool (PyData.eqv (.int (totF p n ts)) (.int (((choF p n.toNat).map fun c => worF p ts c).sum % p))))
      rw [all_points hp tok, eqv_int, decide_eq_true rfl]
      exact q

-- CUT
end
/-! ### what the top has written; the end -/
theorem all_mk {l : PySem.W.OpenLaw} {w : World} {K : PySem.W.Frag} {h : Heap} {mg : Str → Option Value} {fa f0 f1 f2 f3 f4 f5 f6 f7 f8 f9 f10 f11 f12 f13 f14 f15 f16 f17 f18 f19 f20 f21 : Addr} (X : K.In h) (G : h.Ns mainGlobals mg) (hfa : mg "law" = some (.ref fa))
    {od0 an0 od1 an1 od2 an2 od3 an3 od4 an4 od5 an5 od6 an6 od7 an7 od8 an8 od9 an9 od10 an10 od11 an11 od12 an12 od13 an13 od14 an14 od15 an15 od16 an16 od17 an17 od18 an18 od19 an19 od20 an20 od21 an21 : Option Addr} {sl0 sl1 sl2 sl3 sl4 sl5 sl6 sl7 sl8 sl9 sl10 sl11 sl12 sl13 sl14 sl15 sl16 sl17 sl18 sl19 sl20 sl21 : Array (Option Value)} {oc0 kV0 dc0 pm0 cd0 ct0 oc1 kV1 dc1 pm1 cd1 ct1 oc2 kV2 dc2 pm2 cd2 ct2 oc3 kV3 dc3 pm3 cd3 ct3 oc4 kV4 dc4 pm4 cd4 ct4 oc5 kV5 dc5 pm5 cd5 ct5 oc6 kV6 dc6 pm6 cd6 ct6 oc7 kV7 dc7 pm7 cd7 ct7 oc8 kV8 dc8 pm8 cd8 ct8 oc9 kV9 dc9 pm9 cd9 ct9 oc10 kV10 dc10 pm10 cd10 ct10 oc11 kV11 dc11 pm11 cd11 ct11 oc12 kV12 dc12 pm12 cd12 ct12 oc13 kV13 dc13 pm13 cd13 ct13 oc14 kV14 dc14 pm14 cd14 ct14 oc15 kV15 dc15 pm15 cd15 ct15 oc16 kV16 dc16 pm16 cd16 ct16 oc17 kV17 dc17 pm17 cd17 ct17 oc18 kV18 dc18 pm18 cd18 ct18 oc19 kV19 dc19 pm19 cd19 ct19 oc20 kV20 dc20 pm20 cd20 ct20 oc21 kV21 dc21 pm21 cd21 ct21 : Value}
    (a0 : PySem.W.nsIn K mainGlobals "element" = some (some (.ref f0))) (l0 : K.lookup f0 = some ⟨oc0, od0, .func (PySem.W.fnOf "element" "element" (defArgs s_element) (defBody s_element) (defScope s_element) .none kV0 dc0 pm0 an0 cd0 ct0), sl0⟩) (c0 : PySem.W.codeIn K cd0 "element" = true) (k0 : PySem.W.keepIn K (.ref f0) = true)
    (a1 : PySem.W.nsIn K mainGlobals "reduced" = some (some (.ref f1))) (l1 : K.lookup f1 = some ⟨oc1, od1, .func (PySem.W.fnOf "reduced" "reduced" (defArgs s_reduced) (defBody s_reduced) (defScope s_reduced) .none kV1 dc1 pm1 an1 cd1 ct1), sl1⟩) (c1 : PySem.W.codeIn K cd1 "reduced" = true) (k1 : PySem.W.keepIn K (.ref f1) = true)
    (a2 : PySem.W.nsIn K mainGlobals "gathered" = some (some (.ref f2))) (l2 : K.lookup f2 = some ⟨oc2, od2, .func (PySem.W.fnOf "gathered" "gathered" (defArgs s_gathered) (defBody s_gathered) (defScope s_gathered) .none kV2 dc2 pm2 an2 cd2 ct2), sl2⟩) (c2 : PySem.W.codeIn K cd2 "gathered" = true) (k2 : PySem.W.keepIn K (.ref f2) = true)
    (a3 : PySem.W.nsIn K mainGlobals "only_at" = some (some (.ref f3))) (l3 : K.lookup f3 = some ⟨oc3, od3, .func (PySem.W.fnOf "only_at" "only_at" (defArgs s_only_at) (defBody s_only_at) (defScope s_only_at) .none kV3 dc3 pm3 an3 cd3 ct3), sl3⟩) (c3 : PySem.W.codeIn K cd3 "only_at" = true) (k3 : PySem.W.keepIn K (.ref f3) = true)
    (a4 : PySem.W.nsIn K mainGlobals "unknown" = some (some (.ref f4))) (l4 : K.lookup f4 = some ⟨oc4, od4, .func (PySem.W.fnOf "unknown" "unknown" (defArgs s_unknown) (defBody s_unknown) (defScope s_unknown) .none kV4 dc4 pm4 an4 cd4 ct4), sl4⟩) (c4 : PySem.W.codeIn K cd4 "unknown" = true) (k4 : PySem.W.keepIn K (.ref f4) = true)
    (a5 : PySem.W.nsIn K mainGlobals "all_lists" = some (some (.ref f5))) (l5 : K.lookup f5 = some ⟨oc5, od5, .func (PySem.W.fnOf "all_lists" "all_lists" (defArgs s_all_lists) (defBody s_all_lists) (defScope s_all_lists) .none kV5 dc5 pm5 an5 cd5 ct5), sl5⟩) (c5 : PySem.W.codeIn K cd5 "all_lists" = true) (k5 : PySem.W.keepIn K (.ref f5) = true)
    (a6 : PySem.W.nsIn K mainGlobals "_counts" = some (some (.ref f6))) (l6 : K.lookup f6 = some ⟨oc6, od6, .func (PySem.W.fnOf "_counts" "_counts" (defArgs s_counts) (defBody s_counts) (defScope s_counts) .none kV6 dc6 pm6 an6 cd6 ct6), sl6⟩) (c6 : PySem.W.codeIn K cd6 "_counts" = true) (k6 : PySem.W.keepIn K (.ref f6) = true)
    (a7 : PySem.W.nsIn K mainGlobals "total_worth" = some (some (.ref f7))) (l7 : K.lookup f7 = some ⟨oc7, od7, .func (PySem.W.fnOf "total_worth" "total_worth" (defArgs s_total_worth) (defBody s_total_worth) (defScope s_total_worth) .none kV7 dc7 pm7 an7 cd7 ct7), sl7⟩) (c7 : PySem.W.codeIn K cd7 "total_worth" = true) (k7 : PySem.W.keepIn K (.ref f7) = true)
    (a8 : PySem.W.nsIn K mainGlobals "zero_unknowns" = some (some (.ref f8))) (l8 : K.lookup f8 = some ⟨oc8, od8, .func (PySem.W.fnOf "zero_unknowns" "zero_unknowns" (defArgs s_zero_unknowns) (defBody s_zero_unknowns) (defScope s_zero_unknowns) .none kV8 dc8 pm8 an8 cd8 ct8), sl8⟩) (c8 : PySem.W.codeIn K cd8 "zero_unknowns" = true) (k8 : PySem.W.keepIn K (.ref f8) = true)
    (a9 : PySem.W.nsIn K mainGlobals "_law_draw" = some (some (.ref f9))) (l9 : K.lookup f9 = some ⟨oc9, od9, .func (PySem.W.fnOf "_law_draw" "_law_draw" (defArgs s_law_draw) (defBody s_law_draw) (defScope s_law_draw) .none kV9 dc9 pm9 an9 cd9 ct9), sl9⟩) (c9 : PySem.W.codeIn K cd9 "_law_draw" = true) (k9 : PySem.W.keepIn K (.ref f9) = true)
    (a10 : PySem.W.nsIn K mainGlobals "_law_any" = some (some (.ref f10))) (l10 : K.lookup f10 = some ⟨oc10, od10, .func (PySem.W.fnOf "_law_any" "_law_any" (defArgs s_law_any) (defBody s_law_any) (defScope s_law_any) .none kV10 dc10 pm10 an10 cd10 ct10), sl10⟩) (c10 : PySem.W.codeIn K cd10 "_law_any" = true) (k10 : PySem.W.keepIn K (.ref f10) = true)
    (a11 : PySem.W.nsIn K mainGlobals "_law_of" = some (some (.ref f11))) (l11 : K.lookup f11 = some ⟨oc11, od11, .func (PySem.W.fnOf "_law_of" "_law_of" (defArgs s_law_of) (defBody s_law_of) (defScope s_law_of) .none kV11 dc11 pm11 an11 cd11 ct11), sl11⟩) (c11 : PySem.W.codeIn K cd11 "_law_of" = true) (k11 : PySem.W.keepIn K (.ref f11) = true)
    (a12 : PySem.W.nsIn K mainGlobals "_law_element" = some (some (.ref f12))) (l12 : K.lookup f12 = some ⟨oc12, od12, .func (PySem.W.fnOf "_law_element" "_law_element" (defArgs s_law_element) (defBody s_law_element) (defScope s_law_element) .none kV12 dc12 pm12 an12 cd12 ct12), sl12⟩) (c12 : PySem.W.codeIn K cd12 "_law_element" = true) (k12 : PySem.W.keepIn K (.ref f12) = true)
    (a13 : PySem.W.nsIn K mainGlobals "_law_some" = some (some (.ref f13))) (l13 : K.lookup f13 = some ⟨oc13, od13, .func (PySem.W.fnOf "_law_some" "_law_some" (defArgs s_law_some) (defBody s_law_some) (defScope s_law_some) .none kV13 dc13 pm13 an13 cd13 ct13), sl13⟩) (c13 : PySem.W.codeIn K cd13 "_law_some" = true) (k13 : PySem.W.keepIn K (.ref f13) = true)
    (a14 : PySem.W.nsIn K mainGlobals "_law_tidy" = some (some (.ref f14))) (l14 : K.lookup f14 = some ⟨oc14, od14, .func (PySem.W.fnOf "_law_tidy" "_law_tidy" (defArgs s_law_tidy) (defBody s_law_tidy) (defScope s_law_tidy) .none kV14 dc14 pm14 an14 cd14 ct14), sl14⟩) (c14 : PySem.W.codeIn K cd14 "_law_tidy" = true) (k14 : PySem.W.keepIn K (.ref f14) = true)
    (a15 : PySem.W.nsIn K mainGlobals "_law_polynomial" = some (some (.ref f15))) (l15 : K.lookup f15 = some ⟨oc15, od15, .func (PySem.W.fnOf "_law_polynomial" "_law_polynomial" (defArgs s_law_polynomial) (defBody s_law_polynomial) (defScope s_law_polynomial) .none kV15 dc15 pm15 an15 cd15 ct15), sl15⟩) (c15 : PySem.W.codeIn K cd15 "_law_polynomial" = true) (k15 : PySem.W.keepIn K (.ref f15) = true)
    (a16 : PySem.W.nsIn K mainGlobals "_law_power" = some (some (.ref f16))) (l16 : K.lookup f16 = some ⟨oc16, od16, .func (PySem.W.fnOf "_law_power" "_law_power" (defArgs s_law_power) (defBody s_law_power) (defScope s_law_power) .none kV16 dc16 pm16 an16 cd16 ct16), sl16⟩) (c16 : PySem.W.codeIn K cd16 "_law_power" = true) (k16 : PySem.W.keepIn K (.ref f16) = true)
    (a17 : PySem.W.nsIn K mainGlobals "_law_worth" = some (some (.ref f17))) (l17 : K.lookup f17 = some ⟨oc17, od17, .func (PySem.W.fnOf "_law_worth" "_law_worth" (defArgs s_law_worth) (defBody s_law_worth) (defScope s_law_worth) .none kV17 dc17 pm17 an17 cd17 ct17), sl17⟩) (c17 : PySem.W.codeIn K cd17 "_law_worth" = true) (k17 : PySem.W.keepIn K (.ref f17) = true)
    (a18 : PySem.W.nsIn K mainGlobals "_law_choices" = some (some (.ref f18))) (l18 : K.lookup f18 = some ⟨oc18, od18, .func (PySem.W.fnOf "_law_choices" "_law_choices" (defArgs s_law_choices) (defBody s_law_choices) (defScope s_law_choices) .none kV18 dc18 pm18 an18 cd18 ct18), sl18⟩) (c18 : PySem.W.codeIn K cd18 "_law_choices" = true) (k18 : PySem.W.keepIn K (.ref f18) = true)
    (a19 : PySem.W.nsIn K mainGlobals "_law_degree" = some (some (.ref f19))) (l19 : K.lookup f19 = some ⟨oc19, od19, .func (PySem.W.fnOf "_law_degree" "_law_degree" (defArgs s_law_degree) (defBody s_law_degree) (defScope s_law_degree) .none kV19 dc19 pm19 an19 cd19 ct19), sl19⟩) (c19 : PySem.W.codeIn K cd19 "_law_degree" = true) (k19 : PySem.W.keepIn K (.ref f19) = true)
    (a20 : PySem.W.nsIn K mainGlobals "_law_power_sum" = some (some (.ref f20))) (l20 : K.lookup f20 = some ⟨oc20, od20, .func (PySem.W.fnOf "_law_power_sum" "_law_power_sum" (defArgs s_law_power_sum) (defBody s_law_power_sum) (defScope s_law_power_sum) .none kV20 dc20 pm20 an20 cd20 ct20), sl20⟩) (c20 : PySem.W.codeIn K cd20 "_law_power_sum" = true) (k20 : PySem.W.keepIn K (.ref f20) = true)
    (a21 : PySem.W.nsIn K mainGlobals "law" = some (some (.ref f21))) (l21 : K.lookup f21 = some ⟨oc21, od21, .func (PySem.W.fnOf "law" "law" (defArgs s_law) (defBody s_law) (defScope s_law) .none kV21 dc21 pm21 an21 cd21 ct21), sl21⟩) (c21 : PySem.W.codeIn K cd21 "law" = true) (k21 : PySem.W.keepIn K (.ref f21) = true)
    (z_int : PySem.W.nsIn K mainGlobals "int" = some none)
    (z_abs : PySem.W.nsIn K mainGlobals "abs" = some none)
    (z_len : PySem.W.nsIn K mainGlobals "len" = some none)
    (z_list : PySem.W.nsIn K mainGlobals "list" = some none)
    (z_tuple : PySem.W.nsIn K mainGlobals "tuple" = some none)
    (z_sorted : PySem.W.nsIn K mainGlobals "sorted" = some none)
    (z_range : PySem.W.nsIn K mainGlobals "range" = some none)
    (z_all : PySem.W.nsIn K mainGlobals "all" = some none)
    (z_max : PySem.W.nsIn K mainGlobals "max" = some none)
    (z_sum : PySem.W.nsIn K mainGlobals "sum" = some none)
    (z_repr : PySem.W.nsIn K mainGlobals "repr" = some none)
    (z_enumerate : PySem.W.nsIn K mainGlobals "enumerate" = some none)
    : ∃ fd : FuncData, (∀ (s : Shared) (v : Value), BindsTo s fd ⟨[v], []⟩ [("script", v)]) ∧ ∀ base : Heap, K.In base → base.Ns mainGlobals mg → FnQ l.prog w K mg base CX0 6 fa fd ["script"] (spD K g_law) := by
  have e := hfa.symm.trans (PySem.W.mg_of X G a21)
  cases e
  have F0 := fun_mk (st := s_element) l0 c0 k0
  have b0 := F0.binds (ps := ["p", "number"]) fun _ _ _ _ _ _ us hl => match us, hl with | [_, _], _ => rfl
  have m0 := PySem.W.mg_of X G a0
  have F1 := fun_mk (st := s_reduced) l1 c1 k1
  have b1 := F1.binds (ps := ["p", "totals"]) fun _ _ _ _ _ _ us hl => match us, hl with | [_, _], _ => rfl
  have m1 := PySem.W.mg_of X G a1
  have F2 := fun_mk (st := s_gathered) l2 c2 k2
  have b2 := F2.binds (ps := ["p", "totals"]) fun _ _ _ _ _ _ us hl => match us, hl with | [_, _], _ => rfl
  have m2 := PySem.W.mg_of X G a2
  have F3 := fun_mk (st := s_only_at) l3 c3 k3
  have b3 := F3.binds (ps := ["n", "at", "number"]) fun _ _ _ _ _ _ us hl => match us, hl with | [_, _, _], _ => rfl
  have m3 := PySem.W.mg_of X G a3
  have F4 := fun_mk (st := s_unknown) l4 c4 k4
  have b4 := F4.binds (ps := ["p", "n", "at"]) fun _ _ _ _ _ _ us hl => match us, hl with | [_, _, _], _ => rfl
  have m4 := PySem.W.mg_of X G a4
  have F5 := fun_mk (st := s_all_lists) l5 c5 k5
  have b5 := F5.binds (ps := ["p", "n"]) fun _ _ _ _ _ _ us hl => match us, hl with | [_, _], _ => rfl
  have m5 := PySem.W.mg_of X G a5
  have F6 := fun_mk (st := s_counts) l6 c6 k6
  have b6 := F6.binds (ps := ["p", "powers"]) fun _ _ _ _ _ _ us hl => match us, hl with | [_, _], _ => rfl
  have m6 := PySem.W.mg_of X G a6
  have F7 := fun_mk (st := s_total_worth) l7 c7 k7
  have b7 := F7.binds (ps := ["p", "n", "polynomial"]) fun _ _ _ _ _ _ us hl => match us, hl with | [_, _, _], _ => rfl
  have m7 := PySem.W.mg_of X G a7
  have F8 := fun_mk (st := s_zero_unknowns) l8 c8 k8
  have b8 := F8.binds (ps := ["p", "n", "many"]) fun _ _ _ _ _ _ us hl => match us, hl with | [_, _, _], _ => rfl
  have m8 := PySem.W.mg_of X G a8
  have F9 := fun_mk (st := s_law_draw) l9 c9 k9
  have b9 := F9.binds (ps := ["script", "salt"]) fun _ _ _ _ _ _ us hl => match us, hl with | [_, _], _ => rfl
  have m9 := PySem.W.mg_of X G a9
  have F10 := fun_mk (st := s_law_any) l10 c10 k10
  have b10 := F10.binds (ps := ["deal", "bound"]) fun _ _ _ _ _ _ us hl => match us, hl with | [_, _], _ => rfl
  have m10 := PySem.W.mg_of X G a10
  have F11 := fun_mk (st := s_law_of) l11 c11 k11
  have b11 := F11.binds (ps := ["deal", "some"]) fun _ _ _ _ _ _ us hl => match us, hl with | [_, _], _ => rfl
  have m11 := PySem.W.mg_of X G a11
  have F12 := fun_mk (st := s_law_element) l12 c12 k12
  have b12 := F12.binds (ps := ["p", "number"]) fun _ _ _ _ _ _ us hl => match us, hl with | [_, _], _ => rfl
  have m12 := PySem.W.mg_of X G a12
  have F13 := fun_mk (st := s_law_some) l13 c13 k13
  have b13 := F13.binds (ps := ["deal", "p"]) fun _ _ _ _ _ _ us hl => match us, hl with | [_, _], _ => rfl
  have m13 := PySem.W.mg_of X G a13
  have F14 := fun_mk (st := s_law_tidy) l14 c14 k14
  have b14 := F14.binds (ps := ["p", "found"]) fun _ _ _ _ _ _ us hl => match us, hl with | [_, _], _ => rfl
  have m14 := PySem.W.mg_of X G a14
  have F15 := fun_mk (st := s_law_polynomial) l15 c15 k15
  have b15 := F15.binds (ps := ["deal", "p", "n", "terms", "power"]) fun _ _ _ _ _ _ us hl => match us, hl with | [_, _, _, _, _], _ => rfl
  have m15 := PySem.W.mg_of X G a15
  have F16 := fun_mk (st := s_law_power) l16 c16 k16
  have b16 := F16.binds (ps := ["p", "one", "power"]) fun _ _ _ _ _ _ us hl => match us, hl with | [_, _, _], _ => rfl
  have m16 := PySem.W.mg_of X G a16
  have F17 := fun_mk (st := s_law_worth) l17 c17 k17
  have b17 := F17.binds (ps := ["p", "polynomial", "choice"]) fun _ _ _ _ _ _ us hl => match us, hl with | [_, _, _], _ => rfl
  have m17 := PySem.W.mg_of X G a17
  have F18 := fun_mk (st := s_law_choices) l18 c18 k18
  have b18 := F18.binds (ps := ["lists"]) fun _ _ _ _ _ _ us hl => match us, hl with | [_], _ => rfl
  have m18 := PySem.W.mg_of X G a18
  have F19 := fun_mk (st := s_law_degree) l19 c19 k19
  have b19 := F19.binds (ps := ["polynomial"]) fun _ _ _ _ _ _ us hl => match us, hl with | [_], _ => rfl
  have m19 := PySem.W.mg_of X G a19
  have F20 := fun_mk (st := s_law_power_sum) l20 c20 k20
  have b20 := F20.binds (ps := ["p", "power"]) fun _ _ _ _ _ _ us hl => match us, hl with | [_, _], _ => rfl
  have m20 := PySem.W.mg_of X G a20
  have F21 := fun_mk (st := s_law) l21 c21 k21
  have kb7 := kb_mk (n := 0) (m := 3) (o := [2, 1, 0]) (ps := ["p", "n", "polynomial"]) (ks := ["polynomial", "n", "p"]) F7 (by decide) fun _ _ _ _ _ _ us ws hu hw => match us, ws, hu, hw with | [], [_, _, _], _, _ => rfl
  have kb8 := kb_mk (n := 0) (m := 3) (o := [2, 1, 0]) (ps := ["p", "n", "many"]) (ks := ["many", "n", "p"]) F8 (by decide) fun _ _ _ _ _ _ us ws hu hw => match us, ws, hu, hw with | [], [_, _, _], _, _ => rfl
  have kb5 := kb_mk (n := 0) (m := 2) (o := [1, 0]) (ps := ["p", "n"]) (ks := ["n", "p"]) F5 (by decide) fun _ _ _ _ _ _ us ws hu hw => match us, ws, hu, hw with | [], [_, _], _, _ => rfl
  refine ⟨PySem.W.fnOf "law" "law" (defArgs s_law) (defBody s_law) (defScope s_law) .none kV21 dc21 pm21 an21 cd21 ct21, fun s v => .of_eq rfl, fun base _ _ => ?_⟩
  have TB' : TB K mg := { b_int := PySem.W.mg_none_of X G z_int, b_abs := PySem.W.mg_none_of X G z_abs, b_len := PySem.W.mg_none_of X G z_len }
  have od : FnOk l.prog w K mg base CX0 1 f9 _ ["script", "salt"] (spM K g_draw) := ok_law_draw F9 TB'
  have oa : FnOk l.prog w K mg base CX0 1 f10 _ ["deal", "bound"] (spW K g_any) := ok_law_any F10 TB'
  have TA' : TA l.prog w K mg base := { toTB := TB', d_law_any := cal_of oa m10 F10.kp b10 }
  have oo : FnOk l.prog w K mg base CX0 2 f11 _ ["deal", "some"] (spW K g_of) := ok_law_of F11 TA'
  have oe : FnOk l.prog w K mg base CX0 1 f12 _ ["p", "number"] (spD K g_law_element) := ok_law_element F12 TB'
  have TC' : TC l.prog w K mg base := { toTA := TA', b_sorted := PySem.W.mg_none_of X G z_sorted, b_tuple := PySem.W.mg_none_of X G z_tuple, b_range := PySem.W.mg_none_of X G z_range, d_law_of := cal_of oo m11 F11.kp b11, d_law_element := cal_of oe m12 F12.kp b12 }
  have os : FnOk l.prog w K mg base CX0 2 f13 _ ["deal", "p"] (spW K g_law_some) := ok_law_some F13 TA'
  have ot : FnOk l.prog w K mg base CX0 2 f14 _ ["p", "found"] (spT K g_law_tidy) := ok_law_tidy F14 TC'
  have op : FnOk l.prog w K mg base CX0 3 f15 _ ["deal", "p", "n", "terms", "power"] (spW K g_law_polynomial) := ok_law_polynomial F15 { toTC := TC', d_law_some := cal_of os m13 F13.kp b13, d_law_tidy := cal_of ot m14 F14.kp b14 }
  have TP' : TP l.prog w K mg base := { b_tuple := PySem.W.mg_none_of X G z_tuple, b_sorted := PySem.W.mg_none_of X G z_sorted, b_range := PySem.W.mg_none_of X G z_range, b_all := PySem.W.mg_none_of X G z_all, b_sum := PySem.W.mg_none_of X G z_sum, b_max := PySem.W.mg_none_of X G z_max, b_enumerate := PySem.W.mg_none_of X G z_enumerate, b_int := PySem.W.mg_none_of X G z_int }
  have o1 : FnOk l.prog w K mg base CX0 1 f0 _ ["p", "number"] (spD K g_element) := ok_element F0 TP'
  have TR' : TR l.prog w K mg base := { toTP := TP', d_element := cal_of o1 m0 F0.kp b0 }
  have o2 : FnOk l.prog w K mg base CX0 2 f1 _ ["p", "totals"] (spTX K g_reduced) := ok_reduced F1 TR'
  have o3 : FnOk l.prog w K mg base CX0 3 f2 _ ["p", "totals"] (spT K g_gathered) := ok_gathered F2 { toTP := TP', d_reduced := cal_of o2 m1 F1.kp b1 }
  have o4 : FnOk l.prog w K mg base CX0 1 f3 _ ["n", "at", "number"] (spD K g_only_at) := ok_only_at F3 TP'
  have o5 : FnOk l.prog w K mg base CX0 4 f4 _ ["p", "n", "at"] (spD K g_unknown) := ok_unknown F4 { toTP := TP', d_gathered := cal_of o3 m2 F2.kp b2, d_only_at := cal_of o4 m3 F3.kp b3 }
  have o6 : FnOk l.prog w K mg base CX0 1 f5 _ ["p", "n"] (spD K g_all_lists) := ok_all_lists F5 TP'
  have o7 : FnOk l.prog w K mg base CX0 1 f6 _ ["p", "powers"] (spD K g_counts) := ok_counts F6 TP'
  have o8 : FnOk l.prog w K mg base CX0 2 f7 _ ["p", "n", "polynomial"] (spD K g_total_worth) := ok_total_worth F7 { toTR := TR', d_counts := cal_of o7 m6 F6.kp b6 }
  have o9 : FnOk l.prog w K mg base CX0 5 f8 _ ["p", "n", "many"] (spD K g_zero_unknowns) := ok_zero_unknowns F8 { toTP := TP', d_unknown := cal_of o5 m4 F4.kp b4 }
  have TE' : TE l.prog w K mg base := { toTP := TP', d_law_element := cal_of oe m12 F12.kp b12 }
  have o10 : FnOk l.prog w K mg base CX0 2 f16 _ ["p", "one", "power"] (spD K g_law_power) := ok_law_power F16 TE'
  have TW' : TWo l.prog w K mg base := { toTE := TE', d_law_power := cal_of o10 m16 F16.kp b16 }
  have o11 : FnOk l.prog w K mg base CX0 3 f17 _ ["p", "polynomial", "choice"] (spD K g_law_worth) := ok_law_worth F17 TW'
  have o12 : FnOk l.prog w K mg base CX0 1 f18 _ ["lists"] (spD K g_law_choices) := ok_law_choices F18 TP'
  have o13 : FnOk l.prog w K mg base CX0 1 f19 _ ["polynomial"] (spD K g_law_degree) := ok_law_degree F19 TP'
  have o14 : FnOk l.prog w K mg base CX0 3 f20 _ ["p", "power"] (spD K g_law_power_sum) := ok_law_power_sum F20 TW'
  exact ok_law F21 { toTP := TP', b_repr := PySem.W.mg_none_of X G z_repr, d_law_draw := cal_of od m9 F9.kp b9, d_law_any := cal_of oa m10 F10.kp b10, d_law_of := cal_of oo m11 F11.kp b11, d_law_tidy := cal_of ot m14 F14.kp b14, d_law_polynomial := cal_of op m15 F15.kp b15, d_law_worth := cal_of o11 m17 F17.kp b17, d_law_choices := cal_of o12 m18 F18.kp b18, d_law_degree := cal_of o13 m19 F19.kp b19, d_law_power_sum := cal_of o14 m20 F20.kp b20, d_total_worth := cal_of o8 m7 F7.kp b7, d_zero_unknowns := cal_of o9 m8 F8.kp b8, d_all_lists := cal_of o6 m5 F5.kp b5, k_total_worth := calK_of o8 m7 F7.kp kb7, k_zero_unknowns := calK_of o9 m8 F8.kp kb8, k_all_lists := calK_of o6 m5 F5.kp kb5 }
end K34
open PySem PySem.W PyProof.Rows
set_option maxRecDepth 100000 in
set_option maxHeartbeats 0 in
theorem PySem.Challenge.cw_listpicks_k34_totals_holds : PySem.Challenge.rw_listpicks_k34_totals.Holds := by
  w_on; o_law; k_head; (case hw => w_witness2)
  k_fill
  refine LD.walkQ (l := PySem.Challenge.rw_listpicks_k34_totals) (n := 63) (k := 6) (x := "script") (sp := fun w => LD.spD _ K34.g_law) rfl (by decide) rfl ⟨rfl, by decide, by decide⟩ (fun w h Y => PySem.W.kIn_of Y) ?F (fun w H a ns hl _ hS => ⟨H, [.list (ns.map PyData.int)], L2.Same.refl _, .cons (.lst hS (LD.dpAll_ints ns)) .nil, ns, rfl, hl, fun v H2 Hi _ _ _ _ hv => by cases hv; rfl⟩)
  case F =>
    intro w mg fa h KX G hmg
    refine' K34.all_mk KX G hmg ?a0 ?l0 ?c0 ?k0 ?a1 ?l1 ?c1 ?k1 ?a2 ?l2 ?c2 ?k2 ?a3 ?l3 ?c3 ?k3 ?a4 ?l4 ?c4 ?k4 ?a5 ?l5 ?c5 ?k5 ?a6 ?l6 ?c6 ?k6 ?a7 ?l7 ?c7 ?k7 ?a8 ?l8 ?c8 ?k8 ?a9 ?l9 ?c9 ?k9 ?a10 ?l10 ?c10 ?k10 ?a11 ?l11 ?c11 ?k11 ?a12 ?l12 ?c12 ?k12 ?a13 ?l13 ?c13 ?k13 ?a14 ?l14 ?c14 ?k14 ?a15 ?l15 ?c15 ?k15 ?a16 ?l16 ?c16 ?k16 ?a17 ?l17 ?c17 ?k17 ?a18 ?l18 ?c18 ?k18 ?a19 ?l19 ?c19 ?k19 ?a20 ?l20 ?c20 ?k20 ?a21 ?l21 ?c21 ?k21 ?z_int ?z_abs ?z_len ?z_list ?z_tuple ?z_sorted ?z_range ?z_all ?z_max ?z_sum ?z_repr ?z_enumerate
    (case a0 => k_is)
    (case l0 => k_is)
    (case c0 => k_is)
    (case k0 => k_is)
    (case a1 => k_is)
    (case l1 => k_is)
    (case c1 => k_is)
    (case k1 => k_is)
    (case a2 => k_is)
    (case l2 => k_is)
    (case c2 => k_is)
    (case k2 => k_is)
    (case a3 => k_is)
    (case l3 => k_is)
    (case c3 => k_is)
    (case k3 => k_is)
    (case a4 => k_is)
    (case l4 => k_is)
    (case c4 => k_is)
    (case k4 => k_is)
    (case a5 => k_is)
    (case l5 => k_is)
    (case c5 => k_is)
    (case k5 => k_is)
    (case a6 => k_is)
    (case l6 => k_is)
    (case c6 => k_is)
    (case k6 => k_is)
    (case a7 => k_is)
    (case l7 => k_is)
    (case c7 => k_is)
    (case k7 => k_is)
    (case a8 => k_is)
    (case l8 => k_is)
    (case c8 => k_is)
    (case k8 => k_is)
    (case a9 => k_is)
    (case l9 => k_is)
    (case c9 => k_is)
    (case k9 => k_is)
    (case a10 => k_is)
    (case l10 => k_is)
    (case c10 => k_is)
    (case k10 => k_is)
    (case a11 => k_is)
    (case l11 => k_is)
    (case c11 => k_is)
    (case k11 => k_is)
    (case a12 => k_is)
    (case l12 => k_is)
    (case c12 => k_is)
    (case k12 => k_is)
    (case a13 => k_is)
    (case l13 => k_is)
    (case c13 => k_is)
    (case k13 => k_is)
    (case a14 => k_is)
    (case l14 => k_is)
    (case c14 => k_is)
    (case k14 => k_is)
    (case a15 => k_is)
    (case l15 => k_is)
    (case c15 => k_is)
    (case k15 => k_is)
    (case a16 => k_is)
    (case l16 => k_is)
    (case c16 => k_is)
    (case k16 => k_is)
    (case a17 => k_is)
    (case l17 => k_is)
    (case c17 => k_is)
    (case k17 => k_is)
    (case a18 => k_is)
    (case l18 => k_is)
    (case c18 => k_is)
    (case k18 => k_is)
    (case a19 => k_is)
    (case l19 => k_is)
    (case c19 => k_is)
    (case k19 => k_is)
    (case a20 => k_is)
    (case l20 => k_is)
    (case c20 => k_is)
    (case k20 => k_is)
    (case a21 => k_is)
    (case l21 => k_is)
    (case c21 => k_is)
    (case k21 => k_is)
    (case z_int => k_is)
    (case z_abs => k_is)
    (case z_len => k_is)
    (case z_list => k_is)
    (case z_tuple => k_is)
    (case z_sorted => k_is)
    (case z_range => k_is)
    (case z_all => k_is)
    (case z_max => k_is)
    (case z_sum => k_is)
    (case z_repr => k_is)
    (case z_enumerate => k_is)
