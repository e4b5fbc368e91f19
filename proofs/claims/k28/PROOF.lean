import PyProof.Rows.All
import Wide.All
import OpenK.AllK
import Wide.FinOn
import HandS.ForExc
import HandS.ForMost
import HandS.Wide
import HandS.IsInst
import HandS.Flow
import HandS.Style
import HandS.RaiseMore
import HandS.TupAny
import HandS.TupMul
import HandS.Conv
import HandS.SortRule
import HandS.SortInts
import PyProof.ReprRoads
import PyProof.Rows.SeqMore
import HandS.Codes
import KE.GoesEnum
import KE.DataMinMax
import KE.SortData
import HandS.WideBits
import PyProof.ReprBulk
import PyProof.Rows.ReprShort
import KE.KDictSum
import KE.KDictCopyH
import KE.KDictWalk
import KE.KIntText
import HandS.Deep
import KE.KDictKeyed
import KE.KDictItemsList
import KE.KDictDisplayH
import HandS.ListItems
import HandS.SetFor
import HandS.Strs
import HandS.Iter
import HandS.DictComp
import KE.DataAny
import PyProof.ListMulAny
import PyProof.Rows.ListMulArg
import KE.SortCalls
import KE.LtData
import HandS.Dict
import HandS.ExcInit
import HandS.ClsMeth
import HandS.WordsExc
import HandS.CallSlots
import HandS.ExcField
import HandS.ExcOwn
import HandS.Lambda
import HandS.EndOwn
import KE.KNestM
import KE.KIndexOf
import HandS.RevRange
import HandS.TupSets
import PySem.Challenge.RW_listpicks_k28_whole_points_that_meet_all
set_option Elab.async false
set_option linter.all false
set_option maxRecDepth 100000
/-! LD1: slots that hold data (trees of None, bools, ints, texts, lists, tuples), told from the heap once and for all. -/
namespace LD
open PySem PySem.Spec L2
abbrev D := PyData

theorem sqT_mono {K : PySem.W.Frag} {H H' : Hp} {a : Addr} {xs : List V} (e : Same H H') (h : SqT K H a xs) : SqT K H' a xs := by
  cases h with
  | inl h =>
    cases h with
    | inl h => exact .inl (.inl (e _ _ h))
    | inr h =>
      obtain ⟨o, h⟩ := h
      exact .inl (.inr ⟨o, e _ _ h⟩)
  | inr h => exact .inr h
mutual
theorem dp_mono {K : PySem.W.Frag} {H H' : Hp} (e : Same H H') : ∀ (d : D) (v : V), Dp K H v d → Dp K H' v d
  | .none, _, h => by cases h; exact .non
  | .bool b, _, h => by cases h; exact .bl b
  | .int i, _, h => by cases h; exact .int i
  | .str x, _, h => by cases h; exact .str x
  | .list es, _, h => by
    cases h with
    | lst s q => exact .lst (e.seq s) (dpAll_mono e es _ q)
  | .tuple es, _, h => by
    cases h with
    | tup s q => exact .tup (sqT_mono e s) (dpAll_mono e es _ q)
  | .dict _, _, h => by cases h
theorem dpAll_mono {K : PySem.W.Frag} {H H' : Hp} (e : Same H H') : ∀ (ds : List D) (vs : List V), DpAll K H vs ds → DpAll K H' vs ds
  | [], _, h => by cases h; exact .nil
  | d :: ds, _, h => by
    cases h with
    | cons a b => exact .cons (dp_mono e d _ a) (dpAll_mono e ds _ b)
end
theorem dpAll_len {K : PySem.W.Frag} {H : Hp} : ∀ {ds : List D} {vs : List V}, DpAll K H vs ds → vs.length = ds.length
  | [], _, h => by cases h; rfl
  | d :: ds, _, h => by
    cases h with
    | cons a b => exact congrArg Nat.succ (dpAll_len b)
theorem dpAll_at {K : PySem.W.Frag} {H : Hp} : ∀ {ds : List D} {vs : List V} {i : Nat} {d : D}, DpAll K H vs ds → ds[i]? = some d → ∃ v, vs[i]? = some v ∧ Dp K H v d
  | [], _, _, _, h, e => by cases e
  | d :: ds, _, 0, _, h, e => by
    cases h with
    | cons a b =>
      cases e
      exact ⟨_, rfl, a⟩
  | d :: ds, _, i + 1, _, h, e => by
    cases h with
    | cons a b =>
      obtain ⟨v, e', q⟩ := dpAll_at (i := i) b e
      exact ⟨v, e', q⟩
theorem dpAll_app {K : PySem.W.Frag} {H : Hp} : ∀ {ds es : List D} {vs ws : List V}, DpAll K H vs ds → DpAll K H ws es → DpAll K H (vs ++ ws) (ds ++ es)
  | [], _, _, _, h, k => by cases h; exact k
  | d :: ds, _, _, _, h, k => by
    cases h with
    | cons a b => exact .cons a (dpAll_app b k)
theorem dpAll_split {K : PySem.W.Frag} {H : Hp} : ∀ {vs ws : List V} {ds es : List D}, vs.length = ds.length → DpAll K H (vs ++ ws) (ds ++ es) → DpAll K H vs ds ∧ DpAll K H ws es
  | [], _, [], _, _, h => ⟨.nil, h⟩
  | [], _, _ :: _, _, e, _ => by cases e
  | _ :: _, _, [], _, e, _ => by cases e
  | v :: vs, _, d :: ds, _, e, h => by
    cases h with
    | cons a b =>
      obtain ⟨h1, h2⟩ := dpAll_split (Nat.succ.inj e) b
      exact ⟨.cons a h1, h2⟩
theorem dpAll_ints {K : PySem.W.Frag} {H : Hp} : ∀ (ns : List Int), DpAll K H (ns.map V.int) (ns.map PyData.int)
  | [] => .nil
  | n :: ns => .cons (.int n) (dpAll_ints ns)
theorem ints_of {K : PySem.W.Frag} {H : Hp} : ∀ (ns : List Int) (vs : List V), DpAll K H vs (ns.map PyData.int) → vs = ns.map V.int
  | [], _, h => by cases h; rfl
  | n :: ns, _, h => by
    cases h with
    | cons a b =>
      cases a
      rw [ints_of ns _ b]
      rfl

/-! ### what a slot holds: nothing told; data that never changes; a list that only this slot knows; the source of draws -/
/-- a dict's entry: the key, where its tuple lies, the value as it stands, as it is told, as data -/
structure Ent where
  k : List Int
  b : Addr
  u : Value
  v : V
  d : D
def Ent.x (z : Ent) : List Int × Addr × Value := (z.k, z.b, z.u)
def Ent.kv (z : Ent) : List Int × D := (z.k, z.d)
inductive DV where
  | no
  | sh (d : D)
  | ls (ds : List D)
  | dl (a l : Addr)
  | dt (a : Addr) (zs : List Ent)
  | dz (a : Addr) (zs : List Ent) (o : Obj)
  /-- any objects that this slot alone knows -/
  | ob (a : Addr) (as : List Addr) (φ : PySem.W.Frag → Hp → Hp → Prop)
abbrev Rho := List DV

/-- Hb: what never changes at the entry; H0: all that is tracked there; P: what the def may change of it; Z: what is being made -/
structure Fx where
  Hb : Hp
  H0 : Hp
  P : List Addr
  Z : List (Addr × HO)

/-- the source of draws: great numbers, none below 0, and a number that is mixed -/
structure DealOk (ns : List Int) (b : Int) : Prop where
  pos : ∀ n ∈ ns, 0 ≤ n
  few : ns.length ≤ 48
  lo : 0 ≤ b
  hi : b < 2147483647
def DealAt (H : Hp) (a l : Addr) : Prop := ∃ ns b, DealOk ns b ∧ H a = some (.lst [.ref l, .int b]) ∧ H l = some (.lst (ns.map V.int))
/-- a dict's object: keys are tuples of ints, xs tells each key, where its tuple lies, the value -/
def keyX (x : List Int × Addr × Value) : List L2.Key × Addr × Value := (x.1.map Sum.inl, x.2)
structure RawT (a : Addr) (xs : List (List Int × Addr × Value)) (h : Heap) : Prop where
  raw : ∃ o es ep, h.get? a = some o ∧ o.ExactDict ∧ o.data = .dict es ep ∧ ∀ (P : Program) (w : World), es.toList = xs.map fun x => entryOfKey (tupleKind (mixKind P w)) (keyX x)
  one : (xs.map (·.1)).Nodup
  few : xs.length ≤ sizeLine
  own : (a == sysModules) = false
def SlotOk (K : PySem.W.Frag) (Hi H : Hp) (s : Option V) (os : List Addr) : DV → Prop
  | .no => True
  | .sh d => ∃ v, s = some v ∧ Dp K Hi v d
  | .ls ds => ∃ a xs, s = some (.ref a) ∧ os = [a] ∧ H a = some (.lst xs) ∧ DpAll K Hi xs ds
  | .dl a l => s = some (.ref a) ∧ os = [a, l] ∧ a ≠ l ∧ DealAt H a l
  | .dt a zs => s = some (.ref a) ∧ os = [a] ∧ H a = some (.ext (RawT a (zs.map Ent.x))) ∧ ∀ z ∈ zs, Dp K Hi (.ref z.b) (.tuple (z.k.map PyData.int)) ∧ RelV z.v z.u ∧ Dp K Hi z.v z.d
  -- a dict that is locked: it is read, the object stays
  | .dz a zs o => s = some (.ref a) ∧ os = [a] ∧ H a = some (.frz o (.ext (RawT a (zs.map Ent.x)))) ∧ ∀ z ∈ zs, Dp K Hi (.ref z.b) (.tuple (z.k.map PyData.int)) ∧ RelV z.v z.u ∧ Dp K Hi z.v z.d
  | .ob a as φ => s = some (.ref a) ∧ os = as ∧ ∀ Hi' H', Same Hi Hi' → (∀ b ∈ as, ∀ o, H b = some o → H' b = some o) → φ K Hi' H'
structure RelI (K : PySem.W.Frag) (F : Fx) (σ : St) (H : Hp) (ρ : Rho) (vs : List V) (ds : List D) (Hi : Hp) (own : Nat → List Addr) : Prop where
  base : Same F.Hb Hi
  sub : Same Hi H
  new : ∀ b, Hi b ≠ none → F.Hb b ≠ none ∨ F.H0 b = none
  keep : ∀ b o, F.H0 b = some o → b ∉ F.P → H b = some o
  dom : ∀ b, F.H0 b ≠ none → H b ≠ none
  len : σ.length = ρ.length
  slot : ∀ i x, ρ[i]? = some x → SlotOk K Hi H (σ[i]?.join) (own i) x
  free : ∀ i, ∀ a ∈ own i, Hi a = none
  held : ∀ i, ∀ a ∈ own i, H a ≠ none
  nown : ∀ i, ∀ a ∈ own i, F.H0 a = none ∨ a ∈ F.P
  sep : ∀ i j, i ≠ j → ∀ a ∈ own i, a ∉ own j
  nls : ∀ i es, ρ[i]? = some (.ls es) → ∀ a ∈ own i, F.H0 a = none
  pin : ∀ z ∈ F.Z, H z.1 = some z.2 ∧ Hi z.1 = none ∧ ∀ i, z.1 ∉ own i
  tmp : DpAll K Hi vs ds
def Rel (K : PySem.W.Frag) (F : Fx) (σ : St) (H : Hp) (ρ : Rho) (vs : List V) (ds : List D) : Prop := ∃ Hi own, RelI K F σ H ρ vs ds Hi own

section
variable {K : PySem.W.Frag} {F : Fx} {σ : St} {H : Hp} {ρ : Rho} {vs ws xs : List V} {ds es : List D} {Hi : Hp} {own : Nat → List Addr}

theorem RelI.tmpTo (R : RelI K F σ H ρ vs ds Hi own) (h : DpAll K Hi ws es) : RelI K F σ H ρ ws es Hi own :=
  ⟨R.base, R.sub, R.new, R.keep, R.dom, R.len, R.slot, R.free, R.held, R.nown, R.sep, R.nls, R.pin, h⟩
theorem Rel.swap (R : Rel K F σ H ρ vs ds) (h : ∀ Hi, DpAll K Hi vs ds → DpAll K Hi ws es) : Rel K F σ H ρ ws es := by
  obtain ⟨Hi, own, R⟩ := R
  exact ⟨Hi, own, R.tmpTo (h Hi R.tmp)⟩
theorem Rel.drop {v : V} {d : D} (R : Rel K F σ H ρ (v :: vs) (d :: ds)) : Rel K F σ H ρ vs ds := R.swap fun _ h => by cases h with | cons _ b => exact b
theorem Rel.drop2 {v w : V} {d e : D} (R : Rel K F σ H ρ (v :: w :: vs) (d :: e :: ds)) : Rel K F σ H ρ (v :: vs) (d :: ds) := R.swap fun _ h => by
  cases h with | cons a b => cases b with | cons _ c => exact .cons a c
theorem Rel.dropN (R : Rel K F σ H ρ (ws ++ vs) (es ++ ds)) (e : ws.length = es.length) : Rel K F σ H ρ vs ds := R.swap fun _ h => (dpAll_split e h).2
/-- a scalar's value -/
def vD : V → D
  | .non => .none
  | .bl b => .bool b
  | .int i => .int i
  | .str x => .str x
  | _ => .none
def isSc : V → Bool
  | .non => true | .bl _ => true | .int _ => true | .str _ => true | _ => false
theorem dp_sc {H : Hp} {v : V} (h : isSc v = true) : Dp K H v (vD v) := by
  cases v <;> first | (cases h; done) | constructor
theorem Rel.push {v : V} (R : Rel K F σ H ρ vs ds) (h : isSc v = true) : Rel K F σ H ρ (v :: vs) (vD v :: ds) := R.swap fun _ q => .cons (dp_sc h) q
theorem RelI.noSub (R : RelI K F σ H ρ vs ds Hi own) {p : Addr} (h : H p = none) : Hi p = none := by
  cases q : Hi p with
  | none => rfl
  | some o => rw [R.sub _ _ q] at h; cases h
theorem RelI.no0 (R : RelI K F σ H ρ vs ds Hi own) {p : Addr} (h : H p = none) : F.H0 p = none := by
  cases q : F.H0 p with
  | none => rfl
  | some o => exact absurd h (R.dom p (by rw [q]; simp))
theorem same_upd {p : Addr} {o : HO} (h : H p = none) : Same H (upd H p o) := fun b x e => by
  rw [upd_ne (ne_of_none e h)]
  exact e
theorem same_upd2 {p : Addr} {o : HO} (e : Same Hi H) : Hi p = none → Same (upd Hi p o) (upd H p o) := fun hn b x q => by
  by_cases hb : b = p
  · rw [hb, upd_same] at q ⊢
    exact q
  · rw [upd_ne hb] at q ⊢
    exact e _ _ q
/-- the slots' part when more never changes and the owned objects stay -/
theorem SlotOk.grow {Hi' H' : Hp} {s : Option V} {os : List Addr} {x : DV} (h : SlotOk K Hi H s os x) (e : Same Hi Hi') (k : ∀ a ∈ os, ∀ o, H a = some o → H' a = some o) : SlotOk K Hi' H' s os x := by
  cases x with
  | no => trivial
  | sh d =>
    obtain ⟨v, e1, q⟩ := h
    exact ⟨v, e1, dp_mono e _ _ q⟩
  | ls ds =>
    obtain ⟨a, xs, e1, e2, h1, q⟩ := h
    exact ⟨a, xs, e1, e2, k a (by rw [e2]; simp) _ h1, dpAll_mono e _ _ q⟩
  | dl a l =>
    obtain ⟨e1, e2, n, ns, b, ok, h1, h2⟩ := h
    exact ⟨e1, e2, n, ns, b, ok, k a (by rw [e2]; simp) _ h1, k l (by rw [e2]; simp) _ h2⟩
  | dt a zs =>
    obtain ⟨e1, e2, h1, h2⟩ := h
    exact ⟨e1, e2, k a (by rw [e2]; simp) _ h1, fun z hz => ⟨dp_mono e _ _ (h2 z hz).1, (h2 z hz).2.1, dp_mono e _ _ (h2 z hz).2.2⟩⟩
  | dz a zs o =>
    obtain ⟨e1, e2, h1, h2⟩ := h
    exact ⟨e1, e2, k a (by rw [e2]; simp) _ h1, fun z hz => ⟨dp_mono e _ _ (h2 z hz).1, (h2 z hz).2.1, dp_mono e _ _ (h2 z hz).2.2⟩⟩
  | ob a as φ =>
    obtain ⟨e1, e2, h1⟩ := h
    exact ⟨e1, e2, fun Hj Hk f g => h1 Hj Hk (e.trans f) fun b hb o q => g b hb o (k b (by rw [e2]; exact hb) o q)⟩
/-- something new that never changes is laid at p -/
theorem RelI.lay {p : Addr} {o : HO} (R : RelI K F σ H ρ vs ds Hi own) (hp : H p = none) (h : DpAll K (upd Hi p o) ws es) : RelI K F σ (upd H p o) ρ ws es (upd Hi p o) own := by
  have np := R.noSub hp
  have s1 : Same Hi (upd Hi p o) := same_upd np
  have ne : ∀ i, ∀ a ∈ own i, a ≠ p := fun i a ha z => R.held i a ha (by rw [z]; exact hp)
  refine ⟨R.base.trans s1, same_upd2 R.sub np, fun b hb => ?_, fun b q h hn => ?_, fun b h => ?_, R.len, fun i x h => ?_, fun i a ha => ?_, fun i a ha => ?_, R.nown, R.sep, R.nls, fun z hz => ?_, h⟩
  · by_cases hbp : b = p
    · rw [hbp]; exact .inr (R.no0 hp)
    · rw [upd_ne hbp] at hb; exact R.new b hb
  · rw [upd_ne (ne_of_none (R.keep b q h hn) hp)]; exact R.keep b q h hn
  · by_cases hbp : b = p
    · rw [hbp, upd_same]; simp
    · rw [upd_ne hbp]; exact R.dom b h
  · exact (R.slot i x h).grow s1 fun a ha o q => by rw [upd_ne (ne i a ha)]; exact q
  · rw [upd_ne (ne i a ha)]; exact R.free i a ha
  · rw [upd_ne (ne i a ha)]; exact R.held i a ha
  · obtain ⟨z1, z2, z3⟩ := R.pin z hz
    have nz : z.1 ≠ p := ne_of_none z1 hp
    exact ⟨by rw [upd_ne nz]; exact z1, by rw [upd_ne nz]; exact z2, z3⟩
/-- a tuple of what was reckoned -/
theorem Rel.tup {p : Addr} (R : Rel K F σ H ρ (xs ++ vs) (es ++ ds)) (e : xs.length = es.length) (hp : H p = none) : Rel K F σ (upd H p (.tup xs)) ρ (.ref p :: vs) (.tuple es :: ds) := by
  obtain ⟨Hi, own, R⟩ := R
  obtain ⟨h1, h2⟩ := dpAll_split e R.tmp
  have s1 : Same Hi (upd Hi p (.tup xs)) := same_upd (R.noSub hp)
  exact ⟨_, own, R.lay hp (.cons (.tup (.inl (.inl upd_same)) (dpAll_mono s1 _ _ h1)) (dpAll_mono s1 _ _ h2))⟩
/-- a list of what was reckoned, shared from the first -/
theorem Rel.lst {p : Addr} (R : Rel K F σ H ρ (xs ++ vs) (es ++ ds)) (e : xs.length = es.length) (hp : H p = none) : Rel K F σ (upd H p (.lst xs)) ρ (.ref p :: vs) (.list es :: ds) := by
  obtain ⟨Hi, own, R⟩ := R
  obtain ⟨h1, h2⟩ := dpAll_split e R.tmp
  have s1 : Same Hi (upd Hi p (.lst xs)) := same_upd (R.noSub hp)
  exact ⟨_, own, R.lay hp (.cons (.lst (.inl (.inl upd_same)) (dpAll_mono s1 _ _ h1)) (dpAll_mono s1 _ _ h2))⟩
/-- a list of what was reckoned, kept in slot i alone -/
theorem Rel.keepOwn {p : Addr} {i : Nat} (R : Rel K F σ H ρ (xs ++ vs) (es ++ ds)) (e : xs.length = es.length) (hp : H p = none) (hi : i < ρ.length) : Rel K F (σ.set i (some (.ref p))) (upd H p (.lst xs)) (ρ.set i (.ls es)) vs ds := by
  obtain ⟨Hi, own, R⟩ := R
  obtain ⟨h1, h2⟩ := dpAll_split e R.tmp
  have ne : ∀ i, ∀ a ∈ own i, a ≠ p := fun i a ha z => R.held i a ha (by rw [z]; exact hp)
  have s1 : Same Hi (upd H p (.lst xs)) := R.sub.trans (same_upd hp)
  refine ⟨Hi, fun j => if j = i then [p] else own j, ⟨R.base, s1, R.new, fun b q h hn => ?_, fun b h => ?_, ?_, fun j x h => ?_, fun j a ha => ?_, fun j a ha => ?_, fun j a ha => ?_, fun j k hjk a ha hk => ?_, fun j es' h a ha => ?_, fun z hz => ?_, h2⟩⟩
  · rw [upd_ne (ne_of_none (R.keep b q h hn) hp)]; exact R.keep b q h hn
  · by_cases hbp : b = p
    · rw [hbp, upd_same]; simp
    · rw [upd_ne hbp]; exact R.dom b h
  · rw [List.length_set, List.length_set]; exact R.len
  · by_cases hj : j = i
    · subst hj
      rw [List.getElem?_set_self hi] at h
      cases h
      have e1 : (σ.set j (some (V.ref p)))[j]? = some (some (.ref p)) := List.getElem?_set_self (by rw [R.len]; exact hi)
      rw [e1]
      exact ⟨p, xs, rfl, by rw [if_pos rfl], upd_same, h1⟩
    · rw [List.getElem?_set_ne (Ne.symm hj)] at h ⊢
      rw [if_neg hj]
      exact (R.slot j x h).grow (Same.refl _) fun a ha o q => by rw [upd_ne (ne j a ha)]; exact q
  · by_cases hj : j = i
    · rw [if_pos hj] at ha
      obtain rfl : a = p := by simpa using ha
      exact R.noSub hp
    · rw [if_neg hj] at ha; exact R.free j a ha
  · by_cases hj : j = i
    · rw [if_pos hj] at ha
      obtain rfl : a = p := by simpa using ha
      rw [upd_same]; simp
    · rw [if_neg hj] at ha; rw [upd_ne (ne j a ha)]; exact R.held j a ha
  · by_cases hj : j = i
    · rw [if_pos hj] at ha
      obtain rfl : a = p := by simpa using ha
      exact .inl (R.no0 hp)
    · rw [if_neg hj] at ha; exact R.nown j a ha
  · by_cases hj : j = i
    · rw [if_pos hj] at ha
      obtain rfl : a = p := by simpa using ha
      rw [if_neg (fun z => hjk (hj.trans z.symm))] at hk
      exact ne k a hk rfl
    · rw [if_neg hj] at ha
      by_cases hki : k = i
      · rw [if_pos hki] at hk
        obtain rfl : a = p := by simpa using hk
        exact ne j a ha rfl
      · rw [if_neg hki] at hk; exact R.sep j k hjk a ha hk
  · by_cases hj : j = i
    · rw [if_pos hj] at ha
      obtain rfl : a = p := by simpa using ha
      exact R.no0 hp
    · rw [if_neg hj] at ha
      rw [List.getElem?_set_ne (Ne.symm hj)] at h
      exact R.nls j es' h a ha
  · obtain ⟨z1, z2, z3⟩ := R.pin z hz
    have nz : z.1 ≠ p := ne_of_none z1 hp
    refine ⟨by rw [upd_ne nz]; exact z1, z2, fun j hj => ?_⟩
    by_cases hji : j = i
    · rw [if_pos hji] at hj
      exact nz (by simpa using hj)
    · rw [if_neg hji] at hj; exact z3 j hj
/-- slot i is given another word (nothing, or data); what it owned before is forgotten -/
theorem RelI.put {i : Nat} {v : Option V} {x : DV} (R : RelI K F σ H ρ vs ds Hi own) (hi : i < ρ.length) (hx : SlotOk K Hi H v [] x) (h : DpAll K Hi ws es) : RelI K F (σ.set i v) H (ρ.set i x) ws es Hi (fun j => if j = i then [] else own j) := by
  refine ⟨R.base, R.sub, R.new, R.keep, R.dom, ?_, fun j y h => ?_, fun j a ha => ?_, fun j a ha => ?_, fun j a ha => ?_, fun j k hjk a ha hk => ?_, fun j es' h a ha => ?_, fun z hz => ?_, h⟩
  · rw [List.length_set, List.length_set]; exact R.len
  · by_cases hj : j = i
    · subst hj
      rw [List.getElem?_set_self hi] at h
      cases h
      have e1 : (σ.set j v)[j]? = some v := List.getElem?_set_self (by rw [R.len]; exact hi)
      rw [e1, if_pos rfl]
      exact hx
    · rw [List.getElem?_set_ne (Ne.symm hj)] at h ⊢
      rw [if_neg hj]
      exact R.slot j y h
  · by_cases hj : j = i
    · rw [if_pos hj] at ha; cases ha
    · rw [if_neg hj] at ha; exact R.free j a ha
  · by_cases hj : j = i
    · rw [if_pos hj] at ha; cases ha
    · rw [if_neg hj] at ha; exact R.held j a ha
  · by_cases hj : j = i
    · rw [if_pos hj] at ha; cases ha
    · rw [if_neg hj] at ha; exact R.nown j a ha
  · by_cases hj : j = i
    · rw [if_pos hj] at ha; cases ha
    · rw [if_neg hj] at ha
      by_cases hki : k = i
      · rw [if_pos hki] at hk; cases hk
      · rw [if_neg hki] at hk; exact R.sep j k hjk a ha hk
  · by_cases hj : j = i
    · rw [if_pos hj] at ha; cases ha
    · rw [if_neg hj] at ha
      rw [List.getElem?_set_ne (Ne.symm hj)] at h
      exact R.nls j es' h a ha
  · obtain ⟨z1, z2, z3⟩ := R.pin z hz
    refine ⟨z1, z2, fun j hj => ?_⟩
    by_cases hji : j = i
    · rw [if_pos hji] at hj; cases hj
    · rw [if_neg hji] at hj; exact z3 j hj
theorem Rel.store {i : Nat} {v : V} {d : D} (R : Rel K F σ H ρ (v :: vs) (d :: ds)) (hi : i < ρ.length) : Rel K F (σ.set i (some v)) H (ρ.set i (.sh d)) vs ds := by
  obtain ⟨Hi, own, R⟩ := R
  have q := R.tmp
  cases q with
  | cons a b => exact ⟨Hi, _, R.put hi ⟨v, rfl, a⟩ b⟩
theorem Rel.wipe1 {i : Nat} (R : Rel K F σ H ρ vs ds) (hi : i < ρ.length) : Rel K F (σ.set i none) H (ρ.set i .no) vs ds := by
  obtain ⟨Hi, own, R⟩ := R
  exact ⟨Hi, _, R.put hi trivial R.tmp⟩
/-- a slot's data -/
theorem Rel.get {i : Nat} {d : D} (R : Rel K F σ H ρ vs ds) (h : ρ[i]? = some (.sh d)) : ∃ v, σ[i]? = some (some v) ∧ Rel K F σ H ρ (v :: vs) (d :: ds) := by
  obtain ⟨Hi, own, R⟩ := R
  obtain ⟨v, e, q⟩ := R.slot i _ h
  have e' : σ[i]? = some (some v) := by
    cases z : σ[i]? with
    | none => rw [z] at e; cases e
    | some y => rw [z] at e; exact congrArg some e
  exact ⟨v, e', Hi, own, R.tmpTo (.cons q R.tmp)⟩
/-- a list that only slot i knows will never change again -/
theorem Rel.freeze {i : Nat} {es : List D} (R : Rel K F σ H ρ vs ds) (h : ρ[i]? = some (.ls es)) : Rel K F σ H (ρ.set i (.sh (.list es))) vs ds := by
  obtain ⟨Hi, own, R⟩ := R
  obtain ⟨p, xs, e, eo, hp, q⟩ := R.slot i _ h
  have hi : i < ρ.length := (List.getElem?_eq_some_iff.mp h).1
  have np : Hi p = none := R.free i p (by rw [eo]; simp)
  have s1 : Same Hi (upd Hi p (.lst xs)) := same_upd np
  have no : ∀ j, j ≠ i → ∀ a ∈ own j, a ≠ p := fun j hj a ha z => R.sep j i hj a ha (by rw [eo, z]; simp)
  refine ⟨upd Hi p (.lst xs), fun j => if j = i then [] else own j, ⟨R.base.trans s1, fun b o z => ?_, fun b hb => ?_, R.keep, R.dom, ?_, fun j y h => ?_, fun j a ha => ?_, fun j a ha => ?_, fun j a ha => ?_, fun j k hjk a ha hk => ?_, fun j es' h a ha => ?_, fun z hz => ?_, dpAll_mono s1 _ _ R.tmp⟩⟩
  · by_cases hb : b = p
    · rw [hb, upd_same] at z; rw [hb, hp]; exact z
    · rw [upd_ne hb] at z; exact R.sub b o z
  · by_cases hbp : b = p
    · rw [hbp]; exact .inr (R.nls i _ h p (by rw [eo]; simp))
    · rw [upd_ne hbp] at hb; exact R.new b hb
  · rw [List.length_set]; exact R.len
  · by_cases hj : j = i
    · subst hj
      rw [List.getElem?_set_self hi] at h
      cases h
      exact ⟨.ref p, e, .lst (.inl (.inl upd_same)) (dpAll_mono s1 _ _ q)⟩
    · rw [List.getElem?_set_ne (Ne.symm hj)] at h
      rw [if_neg hj]
      exact (R.slot j y h).grow s1 fun _ _ _ z => z
  · by_cases hj : j = i
    · rw [if_pos hj] at ha; cases ha
    · rw [if_neg hj] at ha; rw [upd_ne (no j hj a ha)]; exact R.free j a ha
  · by_cases hj : j = i
    · rw [if_pos hj] at ha; cases ha
    · rw [if_neg hj] at ha; exact R.held j a ha
  · by_cases hj : j = i
    · rw [if_pos hj] at ha; cases ha
    · rw [if_neg hj] at ha; exact R.nown j a ha
  · by_cases hj : j = i
    · rw [if_pos hj] at ha; cases ha
    · rw [if_neg hj] at ha
      by_cases hki : k = i
      · rw [if_pos hki] at hk; cases hk
      · rw [if_neg hki] at hk; exact R.sep j k hjk a ha hk
  · by_cases hj : j = i
    · rw [if_pos hj] at ha; cases ha
    · rw [if_neg hj] at ha
      rw [List.getElem?_set_ne (Ne.symm hj)] at h
      exact R.nls j es' h a ha
  · obtain ⟨z1, z2, z3⟩ := R.pin z hz
    have nz : z.1 ≠ p := fun e => z3 i (by rw [eo, e]; simp)
    refine ⟨z1, by rw [upd_ne nz]; exact z2, fun j hj => ?_⟩
    by_cases hji : j = i
    · rw [if_pos hji] at hj; cases hj
    · rw [if_neg hji] at hj; exact z3 j hj
end
end LD

/-! LD2: readings over data: expressions. -/
namespace LD
open PySem PySem.Spec L2

abbrev KD := Rho → D → Prop
abbrev KL := Rho → List D → Prop
abbrev TD := Rho → KD → Prop
abbrev TDA := Rho → KL → Prop
abbrev TDT := Rho → (Rho → Bool → Prop) → Prop
abbrev TDO := Rho → (Rho → Option Int → Prop) → Prop
abbrev OD := D → D → (D → Prop) → Prop
abbrev UD := D → (D → Prop) → Prop
abbrev CD := List D → (D → Prop) → Prop
abbrev CF := List D → (List D → Prop) → Prop

/-- the reading te, told over data by t -/
structure SE (K : PySem.W.Frag) (te : TE) (t : TD) : Prop where
  mono : ∀ ρ P P', (∀ r d, P r d → P' r d) → t ρ P → t ρ P'
  run : ∀ F σ H ρ vs ds Q, Rel K F σ H ρ vs ds → t ρ (fun r d => ∀ v H', Rel K F σ H' r (v :: vs) (d :: ds) → Q v H') → te σ H Q
/-- .. of a list that is made new -/
structure SF (K : PySem.W.Frag) (te : TE) (t : TDA) : Prop where
  mono : ∀ ρ P P', (∀ r d, P r d → P' r d) → t ρ P → t ρ P'
  run : ∀ F σ H ρ vs ds Q, Rel K F σ H ρ vs ds → t ρ (fun r es => ∀ xs H' p, xs.length = es.length → Rel K F σ H' r (xs ++ vs) (es ++ ds) → H' p = none → Q (.ref p) (upd H' p (.lst xs))) → te σ H Q
structure SA (K : PySem.W.Frag) (te : TA) (t : TDA) : Prop where
  mono : ∀ ρ P P', (∀ r d, P r d → P' r d) → t ρ P → t ρ P'
  run : ∀ F σ H ρ vs ds Q, Rel K F σ H ρ vs ds → t ρ (fun r es => ∀ xs H', xs.length = es.length → Rel K F σ H' r (xs ++ vs) (es ++ ds) → Q xs H') → te σ H Q
structure ST (K : PySem.W.Frag) (te : TT) (t : TDT) : Prop where
  mono : ∀ ρ P P', (∀ r d, P r d → P' r d) → t ρ P → t ρ P'
  run : ∀ F σ H ρ vs ds Q, Rel K F σ H ρ vs ds → t ρ (fun r b => ∀ H', Rel K F σ H' r vs ds → Q b H') → te σ H Q
structure SOp (K : PySem.W.Frag) (te : TO) (t : TDO) : Prop where
  mono : ∀ ρ P P', (∀ r d, P r d → P' r d) → t ρ P → t ρ P'
  run : ∀ F σ H ρ vs ds Q, Rel K F σ H ρ vs ds → t ρ (fun r o => ∀ H', Rel K F σ H' r vs ds → Q o H') → te σ H Q
structure SO (K : PySem.W.Frag) (r : R2) (o : OD) : Prop where
  mono : ∀ a b P P', (∀ d, P d → P' d) → o a b P → o a b P'
  run : ∀ F σ H ρ vs ds x y a b Q, Rel K F σ H ρ (y :: x :: vs) (b :: a :: ds) → o a b (fun d => ∀ v H', Rel K F σ H' ρ (v :: vs) (d :: ds) → Q v H') → r x y H Q
structure SU (K : PySem.W.Frag) (r : V → Hp → VK → Prop) (o : UD) : Prop where
  mono : ∀ a P P', (∀ d, P d → P' d) → o a P → o a P'
  run : ∀ F σ H ρ vs ds x a Q, Rel K F σ H ρ (x :: vs) (a :: ds) → o a (fun d => ∀ v H', Rel K F σ H' ρ (v :: vs) (d :: ds) → Q v H') → r x H Q
structure SC (K : PySem.W.Frag) (r : List V → Hp → VK → Prop) (o : CD) : Prop where
  mono : ∀ a P P', (∀ d, P d → P' d) → o a P → o a P'
  run : ∀ F σ H ρ vs ds xs es Q, xs.length = es.length → Rel K F σ H ρ (xs ++ vs) (es ++ ds) → o es (fun d => ∀ v H', Rel K F σ H' ρ (v :: vs) (d :: ds) → Q v H') → r xs H Q
/-- a built-in call that hands back a new list -/
structure SCF (K : PySem.W.Frag) (r : List V → Hp → VK → Prop) (o : CF) : Prop where
  mono : ∀ a P P', (∀ d, P d → P' d) → o a P → o a P'
  run : ∀ F σ H ρ vs ds xs es Q, xs.length = es.length → Rel K F σ H ρ (xs ++ vs) (es ++ ds) → o es (fun fs => ∀ ys H' p, ys.length = fs.length → Rel K F σ H' ρ (ys ++ vs) (fs ++ ds) → H' p = none → Q (.ref p) (upd H' p (.lst ys))) → r xs H Q

/-! ### inversions -/
section
variable {K : PySem.W.Frag} {F : Fx} {σ : L2.St} {H : Hp} {ρ : Rho} {vs xs : List V} {ds es : List D} {v : V}
theorem Rel.int {i : Int} (R : Rel K F σ H ρ (v :: vs) (.int i :: ds)) : v = .int i := by
  obtain ⟨_, _, R⟩ := R
  have q := R.tmp
  cases q with | cons a _ => cases a; rfl
theorem Rel.bl {i : Bool} (R : Rel K F σ H ρ (v :: vs) (.bool i :: ds)) : v = .bl i := by
  obtain ⟨_, _, R⟩ := R
  have q := R.tmp
  cases q with | cons a _ => cases a; rfl
theorem Rel.str {i : Str} (R : Rel K F σ H ρ (v :: vs) (.str i :: ds)) : v = .str i := by
  obtain ⟨_, _, R⟩ := R
  have q := R.tmp
  cases q with | cons a _ => cases a; rfl
theorem Rel.non (R : Rel K F σ H ρ (v :: vs) (PyData.none :: ds)) : v = .non := by
  obtain ⟨_, _, R⟩ := R
  have q := R.tmp
  cases q with | cons a _ => cases a; rfl
/-- a shared list: its items -/
theorem Rel.asList (R : Rel K F σ H ρ (v :: vs) (.list es :: ds)) : ∃ p xs, v = .ref p ∧ xs.length = es.length ∧ SqL K H p xs ∧ Rel K F σ H ρ (xs ++ v :: vs) (es ++ .list es :: ds) := by
  obtain ⟨Hi, own, R⟩ := R
  have q := R.tmp
  cases q with
  | cons a b =>
    cases a with
    | lst s q => exact ⟨_, _, rfl, dpAll_len q, R.sub.seq s, Hi, own, R.tmpTo (dpAll_app q (.cons (.lst s q) b))⟩
theorem Rel.asTup (R : Rel K F σ H ρ (v :: vs) (.tuple es :: ds)) : ∃ p xs, v = .ref p ∧ xs.length = es.length ∧ SqT K H p xs ∧ Rel K F σ H ρ (xs ++ v :: vs) (es ++ .tuple es :: ds) := by
  obtain ⟨Hi, own, R⟩ := R
  have q := R.tmp
  cases q with
  | cons a b =>
    cases a with
    | tup s q => exact ⟨_, _, rfl, dpAll_len q, sqT_mono R.sub s, Hi, own, R.tmpTo (dpAll_app q (.cons (.tup s q) b))⟩
theorem Rel.dp {d : D} (R : Rel K F σ H ρ (v :: vs) (d :: ds)) : Dp K H v d := by
  obtain ⟨Hi, own, R⟩ := R
  have q := R.tmp
  cases q with | cons a _ => exact dp_mono R.sub _ _ a
theorem Rel.dpAll (R : Rel K F σ H ρ vs ds) : DpAll K H vs ds := by
  obtain ⟨Hi, own, R⟩ := R
  exact dpAll_mono R.sub _ _ R.tmp
/-- one of the temporaries in front -/
theorem Rel.pick {i : Nat} {d : D} (R : Rel K F σ H ρ (xs ++ vs) (es ++ ds)) (e : xs.length = es.length) (h : es[i]? = some d) : ∃ v, xs[i]? = some v ∧ Rel K F σ H ρ (v :: vs) (d :: ds) := by
  obtain ⟨Hi, own, R⟩ := R
  obtain ⟨h1, h2⟩ := dpAll_split e R.tmp
  obtain ⟨v, e1, q⟩ := dpAll_at h1 h
  exact ⟨v, e1, Hi, own, R.tmpTo (.cons q h2)⟩
theorem len_nil {xs : List V} (e : xs.length = ([] : List D).length) : xs = [] := List.length_eq_zero_iff.mp e
theorem len_cons {xs : List V} {d : D} {ds : List D} (e : xs.length = (d :: ds).length) : ∃ x r, xs = x :: r ∧ r.length = ds.length := by
  cases xs with
  | nil => cases e
  | cons x r => exact ⟨x, r, rfl, Nat.succ.inj e⟩
end

/-! ### expressions -/
section
variable {K : PySem.W.Frag} {ta tb tc te : TE} {a b c t : TD}
def dVar (i : Nat) : TD := fun ρ P => ∃ d, ρ[i]? = some (.sh d) ∧ P ρ d
theorem se_var (i : Nat) : SE K (tVar i) (dVar i) := ⟨fun ρ P P' h ⟨d, e, q⟩ => ⟨d, e, h _ d q⟩, fun F σ H ρ vs ds Q R ⟨d, e, q⟩ => by
  obtain ⟨v, e1, R1⟩ := R.get e
  exact ⟨v, e1, q v H R1⟩⟩
def dC (d : D) : TD := fun ρ P => P ρ d
theorem se_c {v : V} (h : isSc v = true := by rfl) : SE K (tC v) (dC (vD v)) := ⟨fun ρ P P' h q => h _ _ q, fun F σ H ρ vs ds Q R q => q v H (R.push h)⟩
def dOp (o : OD) (a b : TD) : TD := fun ρ P => a ρ fun ρ1 x => b ρ1 fun ρ2 y => o x y (P ρ2)
theorem se_op {r : R2} {o : OD} (so : SO K r o) (sa : SE K ta a) (sb : SE K tb b) : SE K (tOp r ta tb) (dOp o a b) := by
  refine ⟨fun ρ P P' h q => sa.mono _ _ _ (fun _ x q => sb.mono _ _ _ (fun _ y q => so.mono _ _ _ _ (h _) q) q) q, fun F σ H ρ vs ds Q R q => ?_⟩
  refine sa.run F σ H ρ vs ds _ R (sa.mono _ _ _ (fun ρ1 x q v1 H1 R1 => ?_) q)
  refine sb.run F σ H1 ρ1 (v1 :: vs) (x :: ds) _ R1 (sb.mono _ _ _ (fun ρ2 y q v2 H2 R2 => ?_) q)
  exact so.run F σ H2 ρ2 vs ds v1 v2 x y Q R2 q
def dUn (o : UD) (a : TD) : TD := fun ρ P => a ρ fun ρ1 x => o x (P ρ1)
theorem se_un {r : V → Hp → VK → Prop} {o : UD} (so : SU K r o) (sa : SE K ta a) : SE K (tUn r ta) (dUn o a) := by
  refine ⟨fun ρ P P' h q => sa.mono _ _ _ (fun _ x q => so.mono _ _ _ (h _) q) q, fun F σ H ρ vs ds Q R q => ?_⟩
  exact sa.run F σ H ρ vs ds _ R (sa.mono _ _ _ (fun ρ1 x q v1 H1 R1 => so.run F σ H1 ρ1 vs ds v1 x Q R1 q) q)
/-- a list that is made and shared -/
def dSh (t : TDA) : TD := fun ρ P => t ρ fun r es => P r (.list es)
theorem se_sh {t : TDA} (s : SF K te t) : SE K te (dSh t) := ⟨fun ρ P P' h q => s.mono _ _ _ (fun _ es q => h _ _ q) q, fun F σ H ρ vs ds Q R q =>
  s.run F σ H ρ vs ds Q R (s.mono _ _ _ (fun _ es q xs H' p e R1 hp => q _ _ (R1.lst e hp)) q)⟩
/-! arguments, displays -/
def dNil : TDA := fun ρ P => P ρ []
def dCons (a : TD) (r : TDA) : TDA := fun ρ P => a ρ fun ρ1 x => r ρ1 fun ρ2 xs => P ρ2 (x :: xs)
theorem sa_nil : SA K tNil dNil := ⟨fun ρ P P' h q => h _ _ q, fun F σ H ρ vs ds Q R q => q [] H rfl R⟩
theorem sa_cons {tr : TA} {r : TDA} (sa : SE K ta a) (sr : SA K tr r) : SA K (tCons ta tr) (dCons a r) := by
  refine ⟨fun ρ P P' h q => sa.mono _ _ _ (fun _ x q => sr.mono _ _ _ (fun _ xs q => h _ _ q) q) q, fun F σ H ρ vs ds Q R q => ?_⟩
  refine sa.run F σ H ρ vs ds _ R (sa.mono _ _ _ (fun ρ1 x q v1 H1 R1 => ?_) q)
  refine sr.run F σ H1 ρ1 (v1 :: vs) (x :: ds) _ R1 (sr.mono _ _ _ (fun ρ2 es q xs H2 e R2 => ?_) q)
  refine q (v1 :: xs) H2 (congrArg Nat.succ e) (R2.swap fun Hi h => ?_)
  obtain ⟨h1, h2⟩ := dpAll_split e h
  cases h2 with
  | cons p q => exact .cons p (dpAll_app h1 q)
def dTup (t : TDA) : TD := fun ρ P => t ρ fun r es => es.length ≤ sizeLine ∧ P r (.tuple es)
theorem se_tup {ta : TA} {t : TDA} (s : SA K ta t) : SE K (tTup ta) (dTup t) := ⟨fun ρ P P' h q => s.mono _ _ _ (fun _ es q => ⟨q.1, h _ _ q.2⟩) q, fun F σ H ρ vs ds Q R q =>
  s.run F σ H ρ vs ds _ R (s.mono _ _ _ (fun _ es q xs H1 e R1 => ⟨by rw [e]; exact q.1, fun p hp => q.2 _ _ (R1.tup e hp)⟩) q)⟩
def dLst (t : TDA) : TDA := fun ρ P => t ρ fun r es => es.length ≤ sizeLine ∧ P r es
theorem sf_lst {ta : TA} {t : TDA} (s : SA K ta t) : SF K (tLst ta) (dLst t) := ⟨fun ρ P P' h q => s.mono _ _ _ (fun _ es q => ⟨q.1, h _ _ q.2⟩) q, fun F σ H ρ vs ds Q R q =>
  s.run F σ H ρ vs ds _ R (s.mono _ _ _ (fun _ es q xs H1 e R1 => ⟨by rw [e]; exact q.1, fun p hp => q.2 _ _ _ e R1 hp⟩) q)⟩
/-! built-in calls -/
def dCall (o : CD) (t : TDA) : TD := fun ρ P => t ρ fun r es => o es (P r)
theorem se_cb {r : List V → Hp → VK → Prop} {o : CD} {ta : TA} {t : TDA} (so : SC K r o) (s : SA K ta t) : SE K (tCB r ta) (dCall o t) := ⟨fun ρ P P' h q => s.mono _ _ _ (fun _ es q => so.mono _ _ _ (h _) q) q, fun F σ H ρ vs ds Q R q =>
  s.run F σ H ρ vs ds _ R (s.mono _ _ _ (fun ρ1 es q xs H1 e R1 => so.run F σ H1 ρ1 vs ds xs es Q e R1 q) q)⟩
def dCallF (o : CF) (t : TDA) : TDA := fun ρ P => t ρ fun r es => o es (P r)
theorem sf_cb {r : List V → Hp → VK → Prop} {o : CF} {ta : TA} {t : TDA} (so : SCF K r o) (s : SA K ta t) : SF K (tCB r ta) (dCallF o t) := ⟨fun ρ P P' h q => s.mono _ _ _ (fun _ es q => so.mono _ _ _ (h _) q) q, fun F σ H ρ vs ds Q R q =>
  s.run F σ H ρ vs ds _ R (s.mono _ _ _ (fun ρ1 es q xs H1 e R1 => so.run F σ H1 ρ1 vs ds xs es Q e R1 q) q)⟩
/-! conditional expressions, and, or, not -/
def dIf (t : TDT) (a b : TD) : TD := fun ρ P => t ρ fun r k => if k = true then a r P else b r P
theorem se_if {tt : TT} {t : TDT} (st : ST K tt t) (sa : SE K ta a) (sb : SE K tb b) : SE K (tIf tt ta tb) (dIf t a b) := by
  refine ⟨fun ρ P P' h q => st.mono _ _ _ (fun _ k q => ?_) q, fun F σ H ρ vs ds Q R q => ?_⟩
  · cases k with
    | true => exact sa.mono _ _ _ h q
    | false => exact sb.mono _ _ _ h q
  · refine st.run F σ H ρ vs ds _ R (st.mono _ _ _ (fun ρ1 k q H1 R1 => ?_) q)
    cases k with
    | true => exact sa.run F σ H1 ρ1 vs ds Q R1 q
    | false => exact sb.run F σ H1 ρ1 vs ds Q R1 q
def dAndV (a b : TD) : TD := fun ρ P => a ρ fun r x => ∃ k, x = .bool k ∧ if k = true then b r P else P r (.bool false)
theorem se_andV (sa : SE K ta a) (sb : SE K tb b) : SE K (tAndV ta tb) (dAndV a b) := by
  refine ⟨fun ρ P P' h q => sa.mono _ _ _ (fun _ x q => ?_) q, fun F σ H ρ vs ds Q R q => ?_⟩
  · obtain ⟨k, e, q⟩ := q
    refine ⟨k, e, ?_⟩
    cases k with
    | true => exact sb.mono _ _ _ h q
    | false => exact h _ _ q
  · refine sa.run F σ H ρ vs ds _ R (sa.mono _ _ _ (fun ρ1 x q v H1 R1 => ?_) q)
    obtain ⟨k, rfl, q⟩ := q
    refine ⟨k, R1.bl, ?_⟩
    cases k with
    | true => exact sb.run F σ H1 ρ1 vs ds Q R1.drop q
    | false => exact q _ _ (R1.drop.push (v := .bl false) rfl)
def dOrV (a b : TD) : TD := fun ρ P => a ρ fun r x => ∃ k, x = .bool k ∧ if k = true then P r (.bool true) else b r P
theorem se_orV (sa : SE K ta a) (sb : SE K tb b) : SE K (tOrV ta tb) (dOrV a b) := by
  refine ⟨fun ρ P P' h q => sa.mono _ _ _ (fun _ x q => ?_) q, fun F σ H ρ vs ds Q R q => ?_⟩
  · obtain ⟨k, e, q⟩ := q
    refine ⟨k, e, ?_⟩
    cases k with
    | false => exact sb.mono _ _ _ h q
    | true => exact h _ _ q
  · refine sa.run F σ H ρ vs ds _ R (sa.mono _ _ _ (fun ρ1 x q v H1 R1 => ?_) q)
    obtain ⟨k, rfl, q⟩ := q
    refine ⟨k, R1.bl, ?_⟩
    cases k with
    | false => exact sb.run F σ H1 ρ1 vs ds Q R1.drop q
    | true => exact q _ _ (R1.drop.push (v := .bl true) rfl)
def dNotV (a : TD) : TD := fun ρ P => a ρ fun r x => ∃ k, x = .bool k ∧ P r (.bool (!k))
theorem se_notV (sa : SE K ta a) : SE K (tNotV ta) (dNotV a) := by
  refine ⟨fun ρ P P' h q => sa.mono _ _ _ (fun _ x ⟨k, e, q⟩ => ⟨k, e, h _ _ q⟩) q, fun F σ H ρ vs ds Q R q => ?_⟩
  refine sa.run F σ H ρ vs ds _ R (sa.mono _ _ _ (fun ρ1 x q v H1 R1 => ?_) q)
  obtain ⟨k, rfl, q⟩ := q
  exact ⟨k, R1.bl, q _ _ (R1.drop.push (v := .bl (!k)) rfl)⟩
/-! tests -/
def dTB (a : TD) : TDT := fun ρ P => a ρ fun r d => ∃ b, d = .bool b ∧ P r b
theorem st_b (sa : SE K ta a) : ST K (tB ta) (dTB a) := ⟨fun ρ P P' h q => sa.mono _ _ _ (fun _ d ⟨b, e, q⟩ => ⟨b, e, h _ b q⟩) q, fun F σ H ρ vs ds Q R q =>
  sa.run F σ H ρ vs ds _ R (sa.mono _ _ _ (fun _ d q v H1 R1 => by
    obtain ⟨b, rfl, q⟩ := q
    exact ⟨b, R1.bl, q H1 R1.drop⟩) q)⟩
theorem st_test (sa : SE K ta a) : ST K (tTest ta) (dTB a) := ⟨(st_b sa).mono, (st_b sa).run⟩
def dTNot (t : TDT) : TDT := fun ρ P => t ρ fun r b => P r (!b)
def dTAnd (t u : TDT) : TDT := fun ρ P => t ρ fun r b => if b = true then u r P else P r false
def dTOr (t u : TDT) : TDT := fun ρ P => t ρ fun r b => if b = true then P r true else u r P
theorem st_not {tt : TT} {t : TDT} (st : ST K tt t) : ST K (tNot tt) (dTNot t) := ⟨fun ρ P P' h q => st.mono _ _ _ (fun _ b q => h _ _ q) q, fun F σ H ρ vs ds Q R q =>
  st.run F σ H ρ vs ds _ R (st.mono _ _ _ (fun _ b q H1 R1 => q H1 R1) q)⟩
theorem st_and {tt uu : TT} {t u : TDT} (st : ST K tt t) (su : ST K uu u) : ST K (tAnd tt uu) (dTAnd t u) := by
  refine ⟨fun ρ P P' h q => st.mono _ _ _ (fun _ b q => ?_) q, fun F σ H ρ vs ds Q R q => st.run F σ H ρ vs ds _ R (st.mono _ _ _ (fun r b q H1 R1 => ?_) q)⟩
  · cases b with
    | true => exact su.mono _ _ _ h q
    | false => exact h _ _ q
  · cases b with
    | true => exact su.run F σ H1 r vs ds Q R1 q
    | false => exact q H1 R1
theorem st_or {tt uu : TT} {t u : TDT} (st : ST K tt t) (su : ST K uu u) : ST K (tOr tt uu) (dTOr t u) := by
  refine ⟨fun ρ P P' h q => st.mono _ _ _ (fun _ b q => ?_) q, fun F σ H ρ vs ds Q R q => st.run F σ H ρ vs ds _ R (st.mono _ _ _ (fun r b q H1 R1 => ?_) q)⟩
  · cases b with
    | false => exact su.mono _ _ _ h q
    | true => exact h _ _ q
  · cases b with
    | false => exact su.run F σ H1 r vs ds Q R1 q
    | true => exact q H1 R1
end
end LD

/-! LD3: readings over data: operators, subscripts, slices, built-in functions. -/
namespace LD
open PySem PySem.Spec L2
section
variable {K : PySem.W.Frag}
def oI (C : Int → Int → Prop) (g : Int → Int → V) : OD := fun a b P => ∃ i j, a = .int i ∧ b = .int j ∧ C i j ∧ P (vD (g i j))
theorem so_rI {C : Int → Int → Prop} {g : Int → Int → V} (hs : ∀ i j, isSc (g i j) = true := by intros; rfl) : SO K (rI C g) (oI C g) :=
  ⟨fun a b P P' h ⟨i, j, e1, e2, c, q⟩ => ⟨i, j, e1, e2, c, h _ q⟩, fun F σ H ρ vs ds x y a b Q R ⟨i, j, e1, e2, c, q⟩ => by
    subst e1 e2
    exact ⟨i, j, R.drop.int, R.int, c, q _ _ (R.drop.drop.push (hs i j))⟩⟩
def oI0 (g : Int → Int → V) : OD := fun a b P => ∃ i j, a = .int i ∧ b = .int j ∧ P (vD (g i j))
theorem so_rI0 {g : Int → Int → V} (hs : ∀ i j, isSc (g i j) = true := by intros; rfl) : SO K (rI0 g) (oI0 g) :=
  ⟨fun a b P P' h ⟨i, j, e1, e2, q⟩ => ⟨i, j, e1, e2, h _ q⟩, fun F σ H ρ vs ds x y a b Q R ⟨i, j, e1, e2, q⟩ => by
    subst e1 e2
    exact ⟨i, j, R.drop.int, R.int, q _ _ (R.drop.drop.push (hs i j))⟩⟩
def uI (g : Int → Int) : UD := fun a P => ∃ i, a = .int i ∧ P (.int (g i))
theorem su_rU {g : Int → Int} : SU K (rU fun i => .int (g i)) (uI g) :=
  ⟨fun a P P' h ⟨i, e1, q⟩ => ⟨i, e1, h _ q⟩, fun F σ H ρ vs ds x a Q R ⟨i, e1, q⟩ => by
    subst e1
    exact ⟨i, R.int, q _ _ (R.drop.push (v := .int (g i)) rfl)⟩⟩
/-- ==, != of data -/
def oEq : OD := fun a b P => SeqAt.shaped a = true ∧ SeqAt.shaped b = true ∧ P (.bool (PyData.eqv a b))
def oNe : OD := fun a b P => SeqAt.shaped a = true ∧ SeqAt.shaped b = true ∧ P (.bool (!PyData.eqv a b))
theorem so_eqD : SO K (rEqD K) oEq := ⟨fun a b P P' h ⟨e1, e2, q⟩ => ⟨e1, e2, h _ q⟩, fun F σ H ρ vs ds x y a b Q R ⟨e1, e2, q⟩ =>
  ⟨a, b, R.drop.dp, R.dp, e1, e2, q _ _ (R.drop.drop.push (v := .bl (PyData.eqv a b)) rfl)⟩⟩
theorem so_neD : SO K (rNeD K) oNe := ⟨fun a b P P' h ⟨e1, e2, q⟩ => ⟨e1, e2, h _ q⟩, fun F σ H ρ vs ds x y a b Q R ⟨e1, e2, q⟩ =>
  ⟨a, b, R.drop.dp, R.dp, e1, e2, q _ _ (R.drop.drop.push (v := .bl (!PyData.eqv a b)) rfl)⟩⟩
/-- texts that are compared -/
def oNeS : OD := fun a b P => ∃ x y, a = .str x ∧ b = .str y ∧ P (.bool (!decide (x = y)))
theorem so_neS : SO K rNe oNeS := ⟨fun a b P P' h ⟨x, y, e1, e2, q⟩ => ⟨x, y, e1, e2, h _ q⟩, fun F σ H ρ vs ds x y a b Q R ⟨s, t, e1, e2, q⟩ => by
  subst e1 e2
  obtain rfl := R.str
  obtain rfl := R.drop.str
  refine ⟨rfl, ?_⟩
  have e : (!decide (V.str s = V.str t)) = !decide (s = t) := by
    by_cases h : s = t
    · rw [h]; simp
    · simp [h]
  rw [e]
  exact q _ _ (R.drop.drop.push (v := .bl (!decide (s = t))) rfl)⟩
def oEqS : OD := fun a b P => ∃ x y, a = .str x ∧ b = .str y ∧ P (.bool (decide (x = y)))
theorem so_eqS : SO K rEq oEqS := ⟨fun a b P P' h ⟨x, y, e1, e2, q⟩ => ⟨x, y, e1, e2, h _ q⟩, fun F σ H ρ vs ds x y a b Q R ⟨s, t, e1, e2, q⟩ => by
  subst e1 e2
  obtain rfl := R.str
  obtain rfl := R.drop.str
  refine ⟨rfl, ?_⟩
  have e : (decide (V.str s = V.str t)) = decide (s = t) := by
    by_cases h : s = t
    · rw [h]; simp
    · simp [h]
  rw [e]
  exact q _ _ (R.drop.drop.push (v := .bl (decide (s = t))) rfl)⟩
/-- is None -/
def isNoneD : D → Bool
  | .none => true
  | _ => false
theorem dp_none {H : Hp} {v : V} {d : D} (h : Dp K H v d) : decide (v = .non) = isNoneD d := by
  cases h <;> first | rfl | simp [isNoneD]
def oIsN : OD := fun a b P => b = .none ∧ P (.bool (isNoneD a))
def oNotN : OD := fun a b P => b = .none ∧ P (.bool (!isNoneD a))
theorem so_isN : SO K (fun x y H Q => y = .non ∧ Q (.bl (decide (x = .non))) H) oIsN := ⟨fun a b P P' h ⟨e2, q⟩ => ⟨e2, h _ q⟩, fun F σ H ρ vs ds x y a b Q R ⟨e2, q⟩ => by
  subst e2
  refine ⟨R.non, ?_⟩
  rw [dp_none R.drop.dp]
  exact q _ _ (R.drop.drop.push (v := .bl (isNoneD a)) rfl)⟩
theorem so_notN : SO K (fun x y H Q => y = .non ∧ Q (.bl (!decide (x = .non))) H) oNotN := ⟨fun a b P P' h ⟨e2, q⟩ => ⟨e2, h _ q⟩, fun F σ H ρ vs ds x y a b Q R ⟨e2, q⟩ => by
  subst e2
  refine ⟨R.non, ?_⟩
  rw [dp_none R.drop.dp]
  exact q _ _ (R.drop.drop.push (v := .bl (!isNoneD a)) rfl)⟩
/-- is, is not of bools -/
def oIsB (n : Bool) : OD := fun a b P => ∃ x y, a = .bool x ∧ b = .bool y ∧ P (.bool (if n = true then !decide (x = y) else decide (x = y)))
theorem so_isB : SO K rIsB (oIsB false) := ⟨fun a b P P' h ⟨x, y, e1, e2, q⟩ => ⟨x, y, e1, e2, h _ q⟩, fun F σ H ρ vs ds x y a b Q R ⟨s, t, e1, e2, q⟩ => by
  subst e1 e2
  exact ⟨s, t, R.drop.bl, R.bl, q _ _ (R.drop.drop.push (v := .bl (decide (s = t))) rfl)⟩⟩
theorem so_notB : SO K rNotB (oIsB true) := ⟨fun a b P P' h ⟨x, y, e1, e2, q⟩ => ⟨x, y, e1, e2, h _ q⟩, fun F σ H ρ vs ds x y a b Q R ⟨s, t, e1, e2, q⟩ => by
  subst e1 e2
  exact ⟨s, t, R.drop.bl, R.bl, q _ _ (R.drop.drop.push (v := .bl (!decide (s = t))) rfl)⟩⟩
/-! subscripts -/
theorem atI_pick {F : Fx} {σ : L2.St} {H : Hp} {ρ : Rho} {vs xs : List V} {ds es : List D} {i : Int} {d : D} (e : xs.length = es.length) (R : Rel K F σ H ρ (xs ++ vs) (es ++ ds)) (h : atI es i = some d) : ∃ v, atI xs i = some v ∧ Rel K F σ H ρ (v :: vs) (d :: ds) := by
  unfold atI at h ⊢
  rw [e]
  cases hn : ixN es.length i with
  | none => rw [hn] at h; cases h
  | some j =>
    rw [hn] at h
    obtain ⟨v, e1, R1⟩ := R.pick e (i := j) h
    exact ⟨v, e1, R1⟩
def oIxL : OD := fun a b P => ∃ es i d, a = .list es ∧ b = .int i ∧ atI es i = some d ∧ P d
def oIxT : OD := fun a b P => ∃ es i d, a = .tuple es ∧ b = .int i ∧ atI es i = some d ∧ P d
theorem so_ixL : SO K (rIxL K) oIxL := ⟨fun a b P P' h ⟨es, i, d, e1, e2, e3, q⟩ => ⟨es, i, d, e1, e2, e3, h _ q⟩, fun F σ H ρ vs ds x y a b Q R ⟨es, i, d, e1, e2, e3, q⟩ => by
  subst e1 e2
  obtain rfl := R.int
  obtain ⟨p, xs, rfl, e, s, R1⟩ := R.drop.asList
  obtain ⟨v, e4, R2⟩ := atI_pick e R1 e3
  exact ⟨p, xs, i, v, rfl, rfl, s, e4, q _ _ R2.drop2⟩⟩
theorem so_ixT : SO K (rIxT K) oIxT := ⟨fun a b P P' h ⟨es, i, d, e1, e2, e3, q⟩ => ⟨es, i, d, e1, e2, e3, h _ q⟩, fun F σ H ρ vs ds x y a b Q R ⟨es, i, d, e1, e2, e3, q⟩ => by
  subst e1 e2
  obtain rfl := R.int
  obtain ⟨p, xs, rfl, e, s, R1⟩ := R.drop.asTup
  obtain ⟨v, e4, R2⟩ := atI_pick e R1 e3
  exact ⟨p, xs, i, v, rfl, rfl, s, e4, q _ _ R2.drop2⟩⟩
/-! slices -/
def oNo : TDO := fun ρ P => P ρ none
def oPart (a : TD) : TDO := fun ρ P => a ρ fun r d => ∃ i, d = .int i ∧ P r (some i)
theorem sop_none : SOp K tNoPart oNo := ⟨fun ρ P P' h q => h _ _ q, fun F σ H ρ vs ds Q R q => q H R⟩
theorem sop_some {ta : TE} {a : TD} (sa : SE K ta a) : SOp K (tPart ta) (oPart a) := ⟨fun ρ P P' h q => sa.mono _ _ _ (fun _ d ⟨i, e, q⟩ => ⟨i, e, h _ _ q⟩) q, fun F σ H ρ vs ds Q R q =>
  sa.run F σ H ρ vs ds _ R (sa.mono _ _ _ (fun r d q v H1 R1 => by
    obtain ⟨i, rfl, q⟩ := q
    exact ⟨i, R1.int, q H1 R1.drop⟩) q)⟩
def cutD (es : List D) (lo hi : Option Int) : List D := (es.drop (HT.sIx es.length 0 lo)).take (HT.sIx es.length es.length hi - HT.sIx es.length 0 lo)
theorem dpAll_drop {H : Hp} : ∀ (n : Nat) {es : List D} {xs : List V}, DpAll K H xs es → DpAll K H (xs.drop n) (es.drop n)
  | 0, _, _, h => h
  | n + 1, [], _, h => by cases h; exact .nil
  | n + 1, e :: es, _, h => by
    cases h with
    | cons a b => exact dpAll_drop n b
theorem dpAll_take {H : Hp} : ∀ (n : Nat) {es : List D} {xs : List V}, DpAll K H xs es → DpAll K H (xs.take n) (es.take n)
  | 0, _, _, h => .nil
  | n + 1, [], _, h => by cases h; exact .nil
  | n + 1, e :: es, _, h => by
    cases h with
    | cons a b => exact .cons a (dpAll_take n b)
theorem dpAll_rev {H : Hp} {es : List D} {xs : List V} (h : DpAll K H xs es) : DpAll K H xs.reverse es.reverse := by
  have : ∀ (es : List D) (xs : List V) (fs : List D) (ys : List V), DpAll K H xs es → DpAll K H ys fs → DpAll K H (xs.reverseAux ys) (es.reverseAux fs) := by
    intro es
    induction es with
    | nil => intro xs fs ys h k; cases h; exact k
    | cons e es ih =>
      intro xs fs ys h k
      cases h with
      | cons a b =>
        rename_i v ws
        exact ih ws (e :: fs) (v :: ys) b (.cons a k)
  exact this es xs [] [] h .nil
theorem dpAll_cut {H : Hp} {es : List D} {xs : List V} (lo hi : Option Int) (h : DpAll K H xs es) : DpAll K H (cutV xs lo hi) (cutD es lo hi) := by
  unfold cutV cutD
  rw [dpAll_len h]
  exact dpAll_take _ (dpAll_drop _ h)
theorem Rel.cut {F : Fx} {σ : L2.St} {H : Hp} {ρ : Rho} {vs xs : List V} {ds es : List D} (lo hi : Option Int) (e : xs.length = es.length) (R : Rel K F σ H ρ (xs ++ vs) (es ++ ds)) : (cutV xs lo hi).length = (cutD es lo hi).length ∧ Rel K F σ H ρ (cutV xs lo hi ++ vs) (cutD es lo hi ++ ds) := by
  have q := (dpAll_split e R.dpAll).1
  exact ⟨dpAll_len (dpAll_cut lo hi q), R.swap fun _ h => dpAll_app (dpAll_cut lo hi (dpAll_split e h).1) (dpAll_split e h).2⟩
def dSlL (a : TD) (l u : TDO) : TDA := fun ρ P => a ρ fun r1 x => l r1 fun r2 lo => u r2 fun r3 hi => ∃ es, x = .list es ∧ P r3 (cutD es lo hi)
theorem sf_slL {ta : TE} {a : TD} {tl th : TO} {l u : TDO} (sa : SE K ta a) (sl : SOp K tl l) (su : SOp K th u) : SF K (tSl (rSlL K) ta tl th) (dSlL a l u) := by
  refine ⟨fun ρ P P' h q => sa.mono _ _ _ (fun _ x q => sl.mono _ _ _ (fun _ lo q => su.mono _ _ _ (fun _ hi ⟨es, e, q⟩ => ⟨es, e, h _ _ q⟩) q) q) q, fun F σ H ρ vs ds Q R q => ?_⟩
  refine sa.run F σ H ρ vs ds _ R (sa.mono _ _ _ (fun r1 x q1 v H1 R1 => ?_) q)
  refine sl.run F σ H1 r1 _ _ _ R1 (sl.mono _ _ _ (fun r2 lo q2 H2 R2 => ?_) q1)
  refine su.run F σ H2 r2 _ _ _ R2 (su.mono _ _ _ (fun r3 hi q3 H3 R3 => ?_) q2)
  obtain ⟨es, ex, q4⟩ := q3
  subst ex
  obtain ⟨p, xs, rfl, e, s, R4⟩ := R3.asList
  obtain ⟨e5, R5⟩ := R4.cut lo hi e
  exact ⟨p, xs, rfl, s, fun p' hp => q4 _ _ _ e5 (R5.swap fun _ h => by
    obtain ⟨h1, h2⟩ := dpAll_split e5 h
    cases h2 with | cons _ h2 => exact dpAll_app h1 h2) hp⟩
def dSlT (a : TD) (l u : TDO) : TD := fun ρ P => a ρ fun r1 x => l r1 fun r2 lo => u r2 fun r3 hi => ∃ es, x = .tuple es ∧ P r3 (.tuple (cutD es lo hi))
theorem cutD_all {es : List D} {lo hi : Option Int} (h1 : HT.sIx es.length 0 lo = 0) (h2 : HT.sIx es.length es.length hi = es.length) : cutD es lo hi = es := by
  unfold cutD
  rw [h1, h2, Nat.sub_zero]
  exact List.take_length
theorem se_slT {ta : TE} {a : TD} {tl th : TO} {l u : TDO} (sa : SE K ta a) (sl : SOp K tl l) (su : SOp K th u) : SE K (tSl (rSlA K) ta tl th) (dSlT a l u) := by
  refine ⟨fun ρ P P' h q => sa.mono _ _ _ (fun _ x q => sl.mono _ _ _ (fun _ lo q => su.mono _ _ _ (fun _ hi ⟨es, e, q⟩ => ⟨es, e, h _ _ q⟩) q) q) q, fun F σ H ρ vs ds Q R q => ?_⟩
  refine sa.run F σ H ρ vs ds _ R (sa.mono _ _ _ (fun r1 x q1 v H1 R1 => ?_) q)
  refine sl.run F σ H1 r1 _ _ _ R1 (sl.mono _ _ _ (fun r2 lo q2 H2 R2 => ?_) q1)
  refine su.run F σ H2 r2 _ _ _ R2 (su.mono _ _ _ (fun r3 hi q3 H3 R3 => ?_) q2)
  obtain ⟨es, ex, q4⟩ := q3
  subst ex
  obtain ⟨p, xs, rfl, e, s, R4⟩ := R3.asTup
  obtain ⟨e5, R5⟩ := R4.cut lo hi e
  refine ⟨p, xs, rfl, s, fun h => ?_, fun h p' hp => ?_⟩
  · rw [e] at h
    rw [cutD_all h.1 h.2] at q4
    exact q4 _ _ R3
  · exact q4 _ _ ((R5.swap fun _ h => by
      obtain ⟨h1, h2⟩ := dpAll_split e5 h
      cases h2 with | cons _ h2 => exact dpAll_app h1 h2).tup e5 hp)
def dRevL (a : TD) : TDA := fun ρ P => a ρ fun r x => ∃ es, x = .list es ∧ P r es.reverse
theorem sf_revL {ta : TE} {a : TD} (sa : SE K ta a) : SF K (tRevL K ta) (dRevL a) := by
  refine ⟨fun ρ P P' h q => sa.mono _ _ _ (fun _ x ⟨es, e, q⟩ => ⟨es, e, h _ _ q⟩) q, fun F σ H ρ vs ds Q R q => ?_⟩
  refine sa.run F σ H ρ vs ds _ R (sa.mono _ _ _ (fun r1 x q v H1 R1 => ?_) q)
  obtain ⟨es, rfl, q⟩ := q
  obtain ⟨p, xs, rfl, e, s, R4⟩ := R1.asList
  exact ⟨p, xs, rfl, s, fun p' hp => q _ _ _ (by rw [List.length_reverse, List.length_reverse]; exact e) (R4.swap fun _ h => by
    obtain ⟨h1, h2⟩ := dpAll_split e h
    cases h2 with | cons _ h2 => exact dpAll_app (dpAll_rev h1) h2) hp⟩
/-! built-in functions -/
def cLen : CD := fun es P => ∃ fs, (es = [.list fs] ∨ es = [.tuple fs]) ∧ P (.int fs.length)
theorem sc_len : SC K (fun xs H Q => ∃ p ys, xs = [.ref p] ∧ (SqL K H p ys ∨ SqT K H p ys) ∧ Q (.int ys.length) H) cLen := ⟨fun a P P' h ⟨fs, e, q⟩ => ⟨fs, e, h _ q⟩, fun F σ H ρ vs ds xs es Q e R ⟨fs, h, q⟩ => by
  rcases h with rfl | rfl
  · obtain ⟨x, r, rfl, e1⟩ := len_cons e
    obtain rfl := len_nil e1
    obtain ⟨p, ys, rfl, e2, s, R1⟩ := R.asList
    refine ⟨p, ys, rfl, .inl s, ?_⟩
    rw [e2]
    exact q _ _ (Rel.push (v := .int fs.length) R.drop rfl)
  · obtain ⟨x, r, rfl, e1⟩ := len_cons e
    obtain rfl := len_nil e1
    obtain ⟨p, ys, rfl, e2, s, R1⟩ := R.asTup
    refine ⟨p, ys, rfl, .inr s, ?_⟩
    rw [e2]
    exact q _ _ (Rel.push (v := .int fs.length) R.drop rfl)⟩
def cInt : CD := fun es P => ∃ i, es = [.int i] ∧ P (.int i)
theorem sc_int : SC K (fun xs H Q => (∃ i, xs = [.int i] ∧ Q (.int i) H) ∨ ∃ k, xs = [.bl k] ∧ Q (.int (if k then 1 else 0)) H) cInt := ⟨fun a P P' h ⟨fs, e, q⟩ => ⟨fs, e, h _ q⟩, fun F σ H ρ vs ds xs es Q e R ⟨i, h, q⟩ => by
  subst h
  obtain ⟨x, r, rfl, e1⟩ := len_cons e
  obtain rfl := len_nil e1
  obtain rfl := Rel.int R
  exact .inl ⟨i, rfl, q _ _ R⟩⟩
def cAbs : CD := fun es P => ∃ i : Int, es = [.int i] ∧ P (.int (if i < 0 then -i else i))
theorem sc_abs : SC K (fun xs H Q => ∃ i, xs = [.int i] ∧ Q (.int (if i < 0 then -i else i)) H) cAbs := ⟨fun a P P' h ⟨fs, e, q⟩ => ⟨fs, e, h _ q⟩, fun F σ H ρ vs ds xs es Q e R ⟨i, h, q⟩ => by
  subst h
  obtain ⟨x, r, rfl, e1⟩ := len_cons e
  obtain rfl := len_nil e1
  obtain rfl := Rel.int R
  exact ⟨i, rfl, q _ _ (Rel.push (v := .int (if i < 0 then -i else i)) R.drop rfl)⟩⟩
def cMin2 : CD := fun es P => ∃ i j : Int, es = [.int i, .int j] ∧ P (.int (if j < i then j else i))
theorem sc_min2 : SC K (fun xs H Q => ∃ i j, xs = [.int i, .int j] ∧ Q (.int (if j < i then j else i)) H) cMin2 := ⟨fun a P P' h ⟨i, j, e, q⟩ => ⟨i, j, e, h _ q⟩, fun F σ H ρ vs ds xs es Q e R ⟨i, j, h, q⟩ => by
  subst h
  obtain ⟨x, r, rfl, e1⟩ := len_cons e
  obtain ⟨y, r, rfl, e2⟩ := len_cons e1
  obtain rfl := len_nil e2
  have ex := Rel.int R
  have ey := Rel.int R.drop
  subst ex ey
  exact ⟨i, j, rfl, q _ _ (Rel.push (v := .int (if j < i then j else i)) R.drop.drop rfl)⟩⟩
/-- list(x) -/
def cList : CF := fun es P => ∃ fs, (es = [.list fs] ∨ es = [.tuple fs]) ∧ P fs
theorem scf_list : SCF K (fun xs H Q => ∃ p ys, xs = [.ref p] ∧ (SqL K H p ys ∨ SqT K H p ys) ∧ ∀ l, H l = none → Q (.ref l) (upd H l (.lst ys))) cList := ⟨fun a P P' h ⟨fs, e, q⟩ => ⟨fs, e, h _ q⟩, fun F σ H ρ vs ds xs es Q e R ⟨fs, h, q⟩ => by
  rcases h with rfl | rfl
  · obtain ⟨x, r, rfl, e1⟩ := len_cons e
    obtain rfl := len_nil e1
    obtain ⟨p, ys, rfl, e2, s, R1⟩ := R.asList
    exact ⟨p, ys, rfl, .inl s, fun l hl => q _ _ _ e2 (R1.swap fun _ h => by
      obtain ⟨h1, h2⟩ := dpAll_split e2 h
      cases h2 with | cons _ h2 => exact dpAll_app h1 h2) hl⟩
  · obtain ⟨x, r, rfl, e1⟩ := len_cons e
    obtain rfl := len_nil e1
    obtain ⟨p, ys, rfl, e2, s, R1⟩ := R.asTup
    exact ⟨p, ys, rfl, .inr s, fun l hl => q _ _ _ e2 (R1.swap fun _ h => by
      obtain ⟨h1, h2⟩ := dpAll_split e2 h
      cases h2 with | cons _ h2 => exact dpAll_app h1 h2) hl⟩⟩
/-- tuple(x) -/
def cTuple : CD := fun es P => ∃ fs, (es = [.list fs] ∨ es = [.tuple fs]) ∧ P (.tuple fs)
theorem sc_tuple : SC K (fun xs H Q => ∃ p ys, xs = [.ref p] ∧ ((SqL K H p ys ∧ ∀ l, H l = none → Q (.ref l) (upd H l (.tup ys))) ∨ (SqT K H p ys ∧ Q (.ref p) H))) cTuple := ⟨fun a P P' h ⟨fs, e, q⟩ => ⟨fs, e, h _ q⟩, fun F σ H ρ vs ds xs es Q e R ⟨fs, h, q⟩ => by
  rcases h with rfl | rfl
  · obtain ⟨x, r, rfl, e1⟩ := len_cons e
    obtain rfl := len_nil e1
    obtain ⟨p, ys, rfl, e2, s, R1⟩ := R.asList
    exact ⟨p, ys, rfl, .inl ⟨s, fun l hl => q _ _ ((R1.swap fun _ h => by
      obtain ⟨h1, h2⟩ := dpAll_split e2 h
      cases h2 with | cons _ h2 => exact dpAll_app h1 h2).tup e2 hl)⟩⟩
  · obtain ⟨x, r, rfl, e1⟩ := len_cons e
    obtain rfl := len_nil e1
    obtain ⟨p, ys, rfl, e2, s, R1⟩ := R.asTup
    exact ⟨p, ys, rfl, .inr ⟨s, q _ _ R⟩⟩⟩
end
end LD

/-! LD4: slots forgotten; things being made; targets; walks; list comprehensions. -/
namespace LD
open PySem PySem.Spec L2
def wipeR (ρ : Rho) : List Nat → Rho
  | [] => ρ
  | j :: js => (wipeR ρ js).set j .no
theorem wipeR_len (ρ : Rho) : ∀ js, (wipeR ρ js).length = ρ.length
  | [] => rfl
  | j :: js => by unfold wipeR; rw [List.length_set, wipeR_len ρ js]
theorem wipeR_out {ρ : Rho} {j : Nat} : ∀ {js : List Nat}, j ∉ js → (wipeR ρ js)[j]? = ρ[j]?
  | [], _ => rfl
  | k :: js, h => by
    unfold wipeR
    rw [List.getElem?_set_ne (fun e => h (by rw [e]; exact List.mem_cons_self)), wipeR_out fun z => h (List.mem_cons_of_mem _ z)]
theorem wipeR_in {ρ : Rho} {j : Nat} {x : DV} : ∀ {js : List Nat}, j ∈ js → (wipeR ρ js)[j]? = some x → x = .no
  | k :: js, h, e => by
    unfold wipeR at e
    by_cases hk : k = j
    · subst hk
      have hl : k < (wipeR ρ js).length := by
        have := (List.getElem?_eq_some_iff.mp e).1
        rwa [List.length_set] at this
      rw [List.getElem?_set_self hl] at e
      cases e
      rfl
    · rw [List.getElem?_set_ne hk] at e
      rcases List.mem_cons.mp h with z | z
      · exact absurd z.symm hk
      · exact wipeR_in z e
theorem wipe_out {σ : L2.St} {j : Nat} : ∀ {js : List Nat}, j ∉ js → (wipe σ js)[j]? = σ[j]?
  | [], _ => rfl
  | k :: js, h => by
    unfold wipe
    rw [List.getElem?_set_ne (fun e => h (by rw [e]; exact List.mem_cons_self)), wipe_out fun z => h (List.mem_cons_of_mem _ z)]
theorem wipe_in {σ : L2.St} {j : Nat} (hl : j < σ.length) : ∀ {js : List Nat}, j ∈ js → (wipe σ js)[j]? = some none
  | k :: js, h => by
    unfold wipe
    by_cases hk : k = j
    · subst hk
      rw [List.getElem?_set_self (by rw [wipe_length]; exact hl)]
    · rw [List.getElem?_set_ne hk]
      rcases List.mem_cons.mp h with z | z
      · exact absurd z.symm hk
      · exact wipe_in hl z
theorem wipe_eq {σ σ' : L2.St} {js : List Nat} (hl : σ'.length = σ.length) (h : ∀ j, j ∉ js → σ'[j]? = σ[j]?) : wipe σ' js = wipe σ js := by
  refine List.ext_getElem? fun j => ?_
  by_cases hj : j ∈ js
  · by_cases hlt : j < σ.length
    · rw [wipe_in (by rw [hl]; exact hlt) hj, wipe_in hlt hj]
    · rw [List.getElem?_eq_none_iff.mpr (by rw [wipe_length, hl]; omega), List.getElem?_eq_none_iff.mpr (by rw [wipe_length]; omega)]
  · rw [wipe_out hj, wipe_out hj, h j hj]
section
variable {K : PySem.W.Frag} {F : Fx} {σ σ' : L2.St} {H : Hp} {ρ : Rho} {vs ws xs : List V} {ds es : List D}
theorem Rel.len (R : Rel K F σ H ρ vs ds) : σ.length = ρ.length := by
  obtain ⟨_, _, R⟩ := R
  exact R.len
theorem Rel.resig (R : Rel K F σ H ρ vs ds) (hl : σ'.length = σ.length) (h : ∀ (j : Nat) (x : DV), ρ[j]? = some x → x = DV.no ∨ σ'[j]? = σ[j]?) : Rel K F σ' H ρ vs ds := by
  obtain ⟨Hi, own, R⟩ := R
  refine ⟨Hi, own, ⟨R.base, R.sub, R.new, R.keep, R.dom, hl.trans R.len, fun i x e => ?_, R.free, R.held, R.nown, R.sep, R.nls, R.pin, R.tmp⟩⟩
  rcases h i x e with z | z
  · rw [z]; trivial
  · rw [z]; exact R.slot i x e
theorem Rel.wipe {js : List Nat} (R : Rel K F σ H ρ vs ds) : Rel K F (wipe σ js) H (wipeR ρ js) vs ds := by
  obtain ⟨Hi, own, R⟩ := R
  refine ⟨Hi, own, ⟨R.base, R.sub, R.new, R.keep, R.dom, by rw [wipe_length, wipeR_len]; exact R.len, fun i x e => ?_, R.free, R.held, R.nown, R.sep, fun i es e => ?_, R.pin, R.tmp⟩⟩
  · by_cases hi : i ∈ js
    · rw [wipeR_in hi e]; trivial
    · rw [wipe_out hi]
      rw [wipeR_out hi] at e
      exact R.slot i x e
  · by_cases hi : i ∈ js
    · cases wipeR_in hi e
    · rw [wipeR_out hi] at e
      exact R.nls i es e

/-! ### what is being made -/
def Fx.mk1 (F : Fx) (p : Addr) (o : HO) : Fx := { F with Z := (p, o) :: F.Z }
theorem Rel.pinNew {p : Addr} {o : HO} (R : Rel K F σ H ρ vs ds) (hp : H p = none) : Rel K (F.mk1 p o) σ (upd H p o) ρ vs ds := by
  obtain ⟨Hi, own, R⟩ := R
  have ne : ∀ i, ∀ a ∈ own i, a ≠ p := fun i a ha z => R.held i a ha (by rw [z]; exact hp)
  refine ⟨Hi, own, ⟨R.base, R.sub.trans (same_upd hp), R.new, fun b q h hn => ?_, fun b h => ?_, R.len, fun i x h => ?_, R.free, fun i a ha => ?_, R.nown, R.sep, R.nls, fun z hz => ?_, R.tmp⟩⟩
  · rw [upd_ne (ne_of_none (R.keep b q h hn) hp)]; exact R.keep b q h hn
  · by_cases hbp : b = p
    · rw [hbp, upd_same]; simp
    · rw [upd_ne hbp]; exact R.dom b h
  · exact (R.slot i x h).grow (Same.refl _) fun a ha o q => by rw [upd_ne (ne i a ha)]; exact q
  · rw [upd_ne (ne i a ha)]; exact R.held i a ha
  · rcases List.mem_cons.mp hz with e | hz
    · rw [e]
      exact ⟨upd_same, R.noSub hp, fun i hi => ne i p hi rfl⟩
    · obtain ⟨z1, z2, z3⟩ := R.pin z hz
      exact ⟨by rw [upd_ne (ne_of_none z1 hp)]; exact z1, z2, z3⟩
theorem Rel.repin {p : Addr} {o o' : HO} (R : Rel K (F.mk1 p o) σ H ρ vs ds) (h0 : F.H0 p = none) (hz : ∀ z ∈ F.Z, z.1 ≠ p) : Rel K (F.mk1 p o') σ (upd H p o') ρ vs ds := by
  obtain ⟨Hi, own, R⟩ := R
  obtain ⟨p1, p2, p3⟩ := R.pin (p, o) List.mem_cons_self
  have ne : ∀ i, ∀ a ∈ own i, a ≠ p := fun i a ha z => p3 i (by rw [z] at ha; exact ha)
  refine ⟨Hi, own, ⟨R.base, fun b x e => ?_, R.new, fun b q h hn => ?_, fun b h => ?_, R.len, fun i x h => ?_, R.free, fun i a ha => ?_, R.nown, R.sep, R.nls, fun z hz' => ?_, R.tmp⟩⟩
  · have nb : b ≠ p := fun z => by rw [z, p2] at e; cases e
    rw [upd_ne nb]; exact R.sub b x e
  · have nb : b ≠ p := fun z => by rw [z] at h; exact absurd (h.symm.trans h0) (by simp)
    rw [upd_ne nb]; exact R.keep b q h hn
  · by_cases hbp : b = p
    · rw [hbp, upd_same]; simp
    · rw [upd_ne hbp]; exact R.dom b h
  · exact (R.slot i x h).grow (Same.refl _) fun a ha o q => by rw [upd_ne (ne i a ha)]; exact q
  · rw [upd_ne (ne i a ha)]; exact R.held i a ha
  · rcases List.mem_cons.mp hz' with e | hz'
    · rw [e]
      exact ⟨upd_same, p2, p3⟩
    · obtain ⟨z1, z2, z3⟩ := R.pin z (List.mem_cons_of_mem _ hz')
      exact ⟨by rw [upd_ne (hz z hz')]; exact z1, z2, z3⟩
def hide (H : Hp) (p : Addr) : Hp := fun b => if b = p then none else H b
theorem Rel.unpin {p : Addr} {o : HO} (R : Rel K (F.mk1 p o) σ H ρ vs ds) (h0 : F.H0 p = none) (hz : ∀ z ∈ F.Z, z.1 ≠ p) : (hide H p) p = none ∧ H = upd (hide H p) p o ∧ Rel K F σ (hide H p) ρ vs ds := by
  obtain ⟨Hi, own, R⟩ := R
  obtain ⟨p1, p2, p3⟩ := R.pin (p, o) List.mem_cons_self
  have ne : ∀ i, ∀ a ∈ own i, a ≠ p := fun i a ha z => p3 i (by rw [z] at ha; exact ha)
  have out : ∀ b, b ≠ p → hide H p b = H b := fun b h => by unfold hide; rw [if_neg h]
  refine ⟨by unfold hide; rw [if_pos rfl], ?_, Hi, own, ⟨R.base, fun b x e => ?_, R.new, fun b q h hn => ?_, fun b h => ?_, R.len, fun i x h => ?_, R.free, fun i a ha => ?_, R.nown, R.sep, R.nls, fun z hz' => ?_, R.tmp⟩⟩
  · funext b
    by_cases hb : b = p
    · rw [hb, upd_same]; exact p1
    · rw [upd_ne hb, out b hb]
  · have nb : b ≠ p := fun z => by rw [z, p2] at e; cases e
    rw [out b nb]; exact R.sub b x e
  · have nb : b ≠ p := fun z => by rw [z] at h; exact absurd (h.symm.trans h0) (by simp)
    rw [out b nb]; exact R.keep b q h hn
  · have nb : b ≠ p := fun z => by rw [z] at h; exact h h0
    rw [out b nb]; exact R.dom b h
  · exact (R.slot i x h).grow (Same.refl _) fun a ha o q => by rw [out a (ne i a ha)]; exact q
  · rw [out a (ne i a ha)]; exact R.held i a ha
  · obtain ⟨z1, z2, z3⟩ := R.pin z (List.mem_cons_of_mem _ hz')
    exact ⟨by rw [out _ (hz z hz')]; exact z1, z2, z3⟩
theorem Rel.pinFree {p : Addr} (R : Rel K F σ H ρ vs ds) (hp : H p = none) : F.H0 p = none ∧ ∀ z ∈ F.Z, z.1 ≠ p := by
  obtain ⟨Hi, own, R⟩ := R
  exact ⟨R.no0 hp, fun z hz => ne_of_none (R.pin z hz).1 hp⟩
theorem Rel.pinAt {p : Addr} {o : HO} (R : Rel K (F.mk1 p o) σ H ρ vs ds) : H p = some o := by
  obtain ⟨Hi, own, R⟩ := R
  exact (R.pin (p, o) List.mem_cons_self).1
end

/-! ### targets -/
abbrev DG := D → Rho → (Rho → Prop) → Prop
abbrev DGs := List D → Rho → (Rho → Prop) → Prop
def Apart (js : List Nat) (σ σ' : L2.St) (ρ ρ' : Rho) : Prop := σ'.length = σ.length ∧ (∀ j, j ∉ js → σ'[j]? = σ[j]?) ∧ ρ'.length = ρ.length ∧ ∀ j, j ∉ js → ρ'[j]? = ρ[j]?
theorem Apart.refl {js : List Nat} {σ : L2.St} {ρ : Rho} : Apart js σ σ ρ ρ := ⟨rfl, fun _ _ => rfl, rfl, fun _ _ => rfl⟩
theorem Apart.trans {js ks : List Nat} {σ σ1 σ2 : L2.St} {ρ ρ1 ρ2 : Rho} (a : Apart js σ σ1 ρ ρ1) (b : Apart ks σ1 σ2 ρ1 ρ2) : Apart (js ++ ks) σ σ2 ρ ρ2 :=
  ⟨b.1.trans a.1, fun j h => (b.2.1 j fun z => h (List.mem_append_right _ z)).trans (a.2.1 j fun z => h (List.mem_append_left _ z)), b.2.2.1.trans a.2.2.1, fun j h => (b.2.2.2 j fun z => h (List.mem_append_right _ z)).trans (a.2.2.2 j fun z => h (List.mem_append_left _ z))⟩
structure SG (K : PySem.W.Frag) (js : List Nat) (g : TG) (dg : DG) : Prop where
  mono : ∀ d ρ P P', (∀ r, P r → P' r) → dg d ρ P → dg d ρ P'
  run : ∀ F σ H ρ vs ds x d Q, Rel K F σ H ρ (x :: vs) (d :: ds) → dg d ρ (fun r => ∀ σ' H', Rel K F σ' H' r vs ds → Apart js σ σ' ρ r → Q σ' H') → g x σ H Q
structure SGs (K : PySem.W.Frag) (js : List Nat) (g : TGs) (dg : DGs) : Prop where
  mono : ∀ d ρ P P', (∀ r, P r → P' r) → dg d ρ P → dg d ρ P'
  run : ∀ F σ H ρ vs ds xs es Q, xs.length = es.length → Rel K F σ H ρ (xs ++ vs) (es ++ ds) → dg es ρ (fun r => ∀ σ' H', Rel K F σ' H' r vs ds → Apart js σ σ' ρ r → Q σ' H') → g xs σ H Q
section
variable {K : PySem.W.Frag}
def dgName (i : Nat) : DG := fun d ρ P => i < ρ.length ∧ P (ρ.set i (.sh d))
theorem sg_name (i : Nat) : SG K [i] (gName i) (dgName i) := ⟨fun d ρ P P' h q => ⟨q.1, h _ q.2⟩, fun F σ H ρ vs ds x d Q R q =>
  q.2 _ _ (R.store q.1) ⟨List.length_set .., fun j h => List.getElem?_set_ne (fun e => h (by rw [e]; simp)), List.length_set .., fun j h => List.getElem?_set_ne (fun e => h (by rw [e]; simp))⟩⟩
def dgNil : DGs := fun es ρ P => es = [] ∧ P ρ
def dgCons (g : DG) (gs : DGs) : DGs := fun es ρ P => ∃ d r, es = d :: r ∧ g d ρ fun ρ1 => gs r ρ1 P
theorem sgs_nil : SGs K [] gNil dgNil := ⟨fun d ρ P P' h q => ⟨q.1, h _ q.2⟩, fun F σ H ρ vs ds xs es Q e R q => by
  obtain ⟨e1, q⟩ := q
  subst e1
  obtain rfl := len_nil e
  exact ⟨rfl, q _ _ R .refl⟩⟩
theorem sgs_cons {js ks : List Nat} {g : TG} {dg : DG} {gs : TGs} {dgs : DGs} (s : SG K js g dg) (ss : SGs K ks gs dgs) : SGs K (js ++ ks) (gCons g gs) (dgCons dg dgs) := by
  refine ⟨fun es ρ P P' h ⟨d, r, e, q⟩ => ⟨d, r, e, s.mono _ _ _ _ (fun _ q => ss.mono _ _ _ _ h q) q⟩, fun F σ H ρ vs ds xs es Q e R q => ?_⟩
  obtain ⟨d, r, e1, q⟩ := q
  subst e1
  obtain ⟨x, xr, rfl, e2⟩ := len_cons e
  refine ⟨x, xr, rfl, ?_⟩
  refine s.run F σ H ρ (xr ++ vs) (r ++ ds) x d _ R (s.mono _ _ _ _ (fun ρ1 q σ1 H1 R1 A1 => ?_) q)
  exact ss.run F σ1 H1 ρ1 vs ds xr r Q e2 R1 (ss.mono _ _ _ _ (fun ρ2 q σ2 H2 R2 A2 => q σ2 H2 R2 (A1.trans A2)) q)
def dgTup (n : Nat) (gs : DGs) : DG := fun d ρ P => ∃ es, d = .tuple es ∧ es.length = n ∧ gs es ρ P
theorem sg_tup {js : List Nat} {n : Nat} {gs : TGs} {dgs : DGs} (ss : SGs K js gs dgs) : SG K js (gTup K n gs) (dgTup n dgs) := by
  refine ⟨fun d ρ P P' h ⟨es, e, el, q⟩ => ⟨es, e, el, ss.mono _ _ _ _ h q⟩, fun F σ H ρ vs ds x d Q R q => ?_⟩
  obtain ⟨es, e, el, q⟩ := q
  subst e
  obtain ⟨p, xs, rfl, e2, s, R1⟩ := R.asTup
  refine ⟨p, xs, rfl, s, e2.trans el, ?_⟩
  refine ss.run F σ H ρ vs ds xs es Q e2 (R1.swap fun _ h => ?_) q
  obtain ⟨h1, h2⟩ := dpAll_split e2 h
  cases h2 with
  | cons _ h2 => exact dpAll_app h1 h2
end

/-! ### what is walked -/
abbrev TDI := Rho → KL → Prop
/-- while ws stand for es, J walks the items -/
def Walks (K : PySem.W.Frag) (J : It) (items : List D) (ws : List V) (es : List D) : Prop :=
  ∀ F σ H ρ vs ds i, Rel K F σ H ρ (ws ++ vs) (es ++ ds) → (∀ d, items[i]? = some d → J.go i H ∧ ∀ x H', J.yld i H x H' → Rel K F σ H' ρ (x :: (ws ++ vs)) (d :: (es ++ ds))) ∧ (items.length ≤ i → J.stop i H)
structure SI (K : PySem.W.Frag) (wi : TI) (di : TDI) : Prop where
  mono : ∀ ρ P P', (∀ r d, P r d → P' r d) → di ρ P → di ρ P'
  run : ∀ F σ H ρ vs ds Q, Rel K F σ H ρ vs ds → di ρ (fun r items => ∀ J H1 ws es, ws.length = es.length → Walks K J items ws es → Rel K F σ H1 r (ws ++ vs) (es ++ ds) → Q J H1) → wi σ H Q
section
variable {K : PySem.W.Frag}
def iL (a : TD) : TDI := fun ρ P => a ρ fun r d => ∃ es, d = .list es ∧ P r es
def iT (a : TD) : TDI := fun ρ P => a ρ fun r d => ∃ es, d = .tuple es ∧ P r es
theorem walks_list {p : Addr} {es : List D} : Walks K (Itl K p) es [.ref p] [.list es] := by
  intro F σ H ρ vs ds i R
  obtain ⟨p', xs, e, e2, s, R1⟩ := Rel.asList (vs := vs) (ds := ds) R
  cases e
  refine ⟨fun d hd => ?_, fun h => ⟨xs, s, by rw [e2]; exact h⟩⟩
  obtain ⟨v, e3, R2⟩ := R1.pick e2 hd
  refine ⟨⟨xs, v, s, e3⟩, fun x H' hy => ?_⟩
  obtain ⟨rfl, hy⟩ := hy
  have := (hy xs s).symm.trans e3
  cases this
  exact R2
theorem walks_tup {p : Addr} {es : List D} : Walks K (Itt K p) es [.ref p] [.tuple es] := by
  intro F σ H ρ vs ds i R
  obtain ⟨p', xs, e, e2, s, R1⟩ := Rel.asTup (vs := vs) (ds := ds) R
  cases e
  refine ⟨fun d hd => ?_, fun h => ⟨xs, s, by rw [e2]; exact h⟩⟩
  obtain ⟨v, e3, R2⟩ := R1.pick e2 hd
  refine ⟨⟨xs, v, s, e3⟩, fun x H' hy => ?_⟩
  obtain ⟨rfl, hy⟩ := hy
  have := (hy xs s).symm.trans e3
  cases this
  exact R2
theorem si_list {ta : TE} {a : TD} (sa : SE K ta a) : SI K (iList K ta) (iL a) := by
  refine ⟨fun ρ P P' h q => sa.mono _ _ _ (fun _ d ⟨es, e, q⟩ => ⟨es, e, h _ _ q⟩) q, fun F σ H ρ vs ds Q R q => ?_⟩
  refine sa.run F σ H ρ vs ds _ R (sa.mono _ _ _ (fun r d q v H1 R1 => ?_) q)
  obtain ⟨es, e, q⟩ := q
  subst e
  obtain ⟨p, xs, rfl, e2, s, R2⟩ := R1.asList
  exact ⟨p, rfl, ⟨xs, s⟩, q _ _ [.ref p] [.list es] rfl walks_list R1⟩
theorem si_tup {ta : TE} {a : TD} (sa : SE K ta a) : SI K (iTup K ta) (iT a) := by
  refine ⟨fun ρ P P' h q => sa.mono _ _ _ (fun _ d ⟨es, e, q⟩ => ⟨es, e, h _ _ q⟩) q, fun F σ H ρ vs ds Q R q => ?_⟩
  refine sa.run F σ H ρ vs ds _ R (sa.mono _ _ _ (fun r d q v H1 R1 => ?_) q)
  obtain ⟨es, e, q⟩ := q
  subst e
  obtain ⟨p, xs, rfl, e2, s, R2⟩ := R1.asTup
  exact ⟨p, rfl, ⟨xs, s⟩, q _ _ [.ref p] [.tuple es] rfl walks_tup R1⟩
def rngD (lo : Int) (n : Nat) : List D := (List.range n).map fun (k : Nat) => PyData.int (lo + (k : Int))
theorem walks_rng {lo : Int} {n : Nat} : Walks K (Itr lo n) (rngD lo n) [] [] := by
  intro F σ H ρ vs ds i R
  refine ⟨fun d hd => ?_, fun h => ?_⟩
  · unfold rngD at hd
    rw [List.getElem?_map] at hd
    have hi : i < n := by
      cases e : (List.range n)[i]? with
      | none => rw [e] at hd; cases hd
      | some k => have := (List.getElem?_eq_some_iff.mp e).1; rwa [List.length_range] at this
    rw [List.getElem?_range hi] at hd
    cases hd
    refine ⟨hi, fun x H' hy => ?_⟩
    obtain ⟨rfl, rfl⟩ := hy
    exact R.push (v := .int (lo + i)) rfl
  · unfold rngD at h
    rw [List.length_map, List.length_range] at h
    exact h
def iR1 (t : TDA) : TDI := fun ρ P => t ρ fun r es => ∃ j : Int, es = [.int j] ∧ -(2 ^ 62) ≤ j ∧ j < 2 ^ 62 ∧ P r (rngD 0 j.toNat)
def iR2 (t : TDA) : TDI := fun ρ P => t ρ fun r es => ∃ i j : Int, es = [.int i, .int j] ∧ (-(2 ^ 62) ≤ i ∧ i < 2 ^ 62 ∧ -(2 ^ 62) ≤ j ∧ j < 2 ^ 62) ∧ P r (rngD i (j - i).toNat)
theorem si_rng1 {ta : TA} {t : TDA} (sa : SA K ta t) : SI K (iRng1 ta) (iR1 t) := by
  refine ⟨fun ρ P P' h q => sa.mono _ _ _ (fun _ d ⟨j, e, h1, h2, q⟩ => ⟨j, e, h1, h2, h _ _ q⟩) q, fun F σ H ρ vs ds Q R q => ?_⟩
  refine sa.run F σ H ρ vs ds _ R (sa.mono _ _ _ (fun r es q xs H1 e R1 => ?_) q)
  obtain ⟨j, e1, h1, h2, q⟩ := q
  subst e1
  obtain ⟨x, xr, rfl, e2⟩ := len_cons e
  obtain rfl := len_nil e2
  obtain rfl := Rel.int R1
  exact ⟨j, rfl, h1, h2, q _ _ [] [] rfl walks_rng R1.drop⟩
theorem si_rng2 {ta : TA} {t : TDA} (sa : SA K ta t) : SI K (iRng2 ta) (iR2 t) := by
  refine ⟨fun ρ P P' h q => sa.mono _ _ _ (fun _ d ⟨i, j, e, h1, q⟩ => ⟨i, j, e, h1, h _ _ q⟩) q, fun F σ H ρ vs ds Q R q => ?_⟩
  refine sa.run F σ H ρ vs ds _ R (sa.mono _ _ _ (fun r es q xs H1 e R1 => ?_) q)
  obtain ⟨i, j, e1, h1, q⟩ := q
  subst e1
  obtain ⟨x, xr, rfl, e2⟩ := len_cons e
  obtain ⟨y, yr, rfl, e3⟩ := len_cons e2
  obtain rfl := len_nil e3
  have ex := Rel.int R1
  have ey := Rel.int (Rel.drop R1)
  subst ex ey
  exact ⟨i, j, rfl, h1, q _ _ [] [] rfl walks_rng (Rel.drop (Rel.drop R1))⟩

/-! ### list comprehensions -/
def compW (f : D → Rho → (Rho → Option D → Prop) → Prop) (js : List Nat) : List D → Rho → List D → KL → Prop
  | [], ρ, acc, P => P ρ acc
  | d :: r, ρ, acc, P => f d ρ fun ρ1 o => match o with
    | none => compW f js r (wipeR ρ1 js) acc P
    | some y => compW f js r (wipeR ρ1 js) (acc ++ [y]) P
def compF (dg : DG) (dt : TDT) (de : TD) : D → Rho → (Rho → Option D → Prop) → Prop := fun d r k => dg d r fun r1 => dt r1 fun r2 b => if b = true then de r2 (fun r3 y => k r3 (some y)) else k r2 none
def dLc (di : TDI) (dg : DG) (dt : TDT) (de : TD) (js : List Nat) : TDA := fun ρ P => di ρ fun ρ0 items => items.length ≤ sizeLine ∧ (∀ j ∈ js, ρ0[j]? = some .no) ∧ compW (compF dg dt de) js items ρ0 [] P
theorem compW_mono {f : D → Rho → (Rho → Option D → Prop) → Prop} (hf : ∀ d ρ k k', (∀ r o, k r o → k' r o) → f d ρ k → f d ρ k') {js : List Nat} : ∀ {items : List D} {ρ : Rho} {acc : List D} {P P' : KL}, (∀ r d, P r d → P' r d) → compW f js items ρ acc P → compW f js items ρ acc P'
  | [], _, _, _, _, h, q => h _ _ q
  | d :: r, ρ, acc, P, P', h, q => by
    unfold compW at q ⊢
    refine hf _ _ _ _ (fun r1 o q => ?_) q
    cases o with
    | none => exact compW_mono hf h q
    | some y => exact compW_mono hf h q
theorem compF_mono {js : List Nat} {g : TG} {dg : DG} {tt : TT} {dt : TDT} {te : TE} {de : TD} (sg : SG K js g dg) (st : ST K tt dt) (se : SE K te de) : ∀ d ρ k k', (∀ r o, k r o → k' r o) → compF dg dt de d ρ k → compF dg dt de d ρ k' := by
  intro d ρ k k' h q
  refine sg.mono _ _ _ _ (fun r1 q => st.mono _ _ _ (fun r2 b q => ?_) q) q
  cases b with
  | true => exact se.mono _ _ _ (fun r3 y q => h _ _ q) q
  | false => exact h _ _ q
theorem swapFront {H : Hp} {y : V} {d : D} {ws acc vs : List V} {es ys ds : List D} (e1 : ws.length = es.length) (e2 : acc.length = ys.length) (h : DpAll K H (y :: (ws ++ (acc ++ vs))) (d :: (es ++ (ys ++ ds)))) :
    DpAll K H (ws ++ ((acc ++ [y]) ++ vs)) (es ++ ((ys ++ [d]) ++ ds)) := by
  cases h with
  | cons a b =>
    obtain ⟨b1, b2⟩ := dpAll_split e1 b
    obtain ⟨b3, b4⟩ := dpAll_split e2 b2
    exact dpAll_app b1 (dpAll_app (dpAll_app b3 (.cons a .nil)) b4)
theorem sf_lc {js : List Nat} {wi : TI} {di : TDI} {g : TG} {dg : DG} {tt : TT} {dt : TDT} {te : TE} {de : TD} {jg : List Nat} (si : SI K wi di) (sg : SG K jg g dg) (st : ST K tt dt) (se : SE K te de) (hj : ∀ j ∈ jg, j ∈ js := by decide) : SF K (tLc wi g tt te js) (dLc di dg dt de js) := by
  refine ⟨fun ρ P P' h q => si.mono _ _ _ (fun r items ⟨q1, q2, q3⟩ => ⟨q1, q2, compW_mono (compF_mono sg st se) h q3⟩) q, fun F σ H ρ vs ds Q R q => ?_⟩
  refine si.run F σ H ρ vs ds _ R (si.mono _ _ _ (fun ρ0 items q J H1 ws es ew hw R1 => ?_) q)
  obtain ⟨q1, q2, q3⟩ := q
  intro Dp hD
  obtain ⟨f0, fz⟩ := R1.pinFree hD
  have hno : ∀ {ρ : Rho}, (∀ j ∈ js, ρ[j]? = some .no) → wipeR ρ js = ρ := fun {ρ} h => by
    refine List.ext_getElem? fun j => ?_
    by_cases hj : j ∈ js
    · rw [h j hj]
      cases e : (wipeR ρ js)[j]? with
      | none =>
        have h1 := List.getElem?_eq_none_iff.mp e
        rw [wipeR_len] at h1
        have h2 := (List.getElem?_eq_some_iff.mp (h j hj)).1
        omega
      | some x => rw [wipeR_in hj e]
    · exact wipeR_out hj
  refine ⟨fun i m H => ∃ ρ1 acc ys, i + m = items.length ∧ acc.length = ys.length ∧ ys.length ≤ i ∧ (∀ j x, j ∈ js → ρ1[j]? = some x → x = .no) ∧ Rel K (F.mk1 Dp (.lst acc)) (L2.wipe σ js) H ρ1 (ws ++ (acc ++ vs)) (es ++ (ys ++ ds)) ∧
      compW (compF dg dt de) js (items.drop i) ρ1 ys (fun r es => ∀ xs H' p, xs.length = es.length → Rel K F σ H' r (xs ++ vs) (es ++ ds) → H' p = none → Q (.ref p) (upd H' p (.lst xs))), ⟨items.length, ρ0, [], [], Nat.zero_add _, rfl, Nat.le_refl _, fun j x hj e => ?_, ?_, q3⟩, fun i m H2 hW => ?_⟩
  · rw [q2 j hj] at e; cases e; rfl
  · have R2 := (R1.pinNew (o := .lst []) hD).wipe (js := js)
    rw [hno q2] at R2
    exact R2
  · obtain ⟨ρ1, acc, ys, em, el, eli, hn, R2, q4⟩ := hW
    by_cases hi : i < items.length
    · -- one more
      right
      have hd : items[i]? = some items[i] := List.getElem?_eq_getElem hi
      rw [List.drop_eq_getElem_cons hi] at q4
      unfold compW at q4
      obtain ⟨hgo, hy⟩ := (hw (F.mk1 Dp (.lst acc)) (L2.wipe σ js) H2 ρ1 (acc ++ vs) (ys ++ ds) i R2).1 _ hd
      refine ⟨hgo, fun H => ∃ ρ1 acc ys, (i + 1) + (m - 1) = items.length ∧ acc.length = ys.length ∧ ys.length ≤ i + 1 ∧ (∀ j x, j ∈ js → ρ1[j]? = some x → x = .no) ∧ Rel K (F.mk1 Dp (.lst acc)) (L2.wipe σ js) H ρ1 (ws ++ (acc ++ vs)) (es ++ (ys ++ ds)) ∧
        compW (compF dg dt de) js (items.drop (i + 1)) ρ1 ys (fun r es => ∀ xs H' p, xs.length = es.length → Rel K F σ H' r (xs ++ vs) (es ++ ds) → H' p = none → Q (.ref p) (upd H' p (.lst xs))), fun H' h' => ⟨m - 1, by omega, h'⟩, fun x H' hx => ?_⟩
      have R3 := hy x H' hx
      refine sg.run (F.mk1 Dp (.lst acc)) _ H' ρ1 _ _ x _ _ R3 (sg.mono _ _ _ _ (fun r1 q σ2 H3 R4 A => ?_) q4)
      have ew2 : L2.wipe σ2 js = L2.wipe σ js := by
        have e1 : L2.wipe σ2 js = L2.wipe (L2.wipe σ js) js := wipe_eq A.1 fun j hjn => A.2.1 j fun z => hjn (hj j z)
        rw [e1]
        exact wipe_eq (wipe_length ..) fun j hjn => wipe_out hjn
      refine ⟨ew2, st.run (F.mk1 Dp (.lst acc)) σ2 H3 r1 _ _ _ R4 (st.mono _ _ _ (fun r2 b q H4 R5 => ?_) q)⟩
      cases b with
      | false =>
        refine ⟨wipeR r2 js, acc, ys, by omega, el, by omega, fun j x hj e => wipeR_in hj e, ?_, q⟩
        have R6 := R5.wipe (js := js)
        rw [ew2] at R6
        exact R6
      | true =>
        refine se.run (F.mk1 Dp (.lst acc)) σ2 H4 r2 _ _ _ R5 (se.mono _ _ _ (fun r3 y q yv H5 R6 => ?_) q)
        refine ⟨acc, R6.pinAt, by rw [el]; omega, wipeR r3 js, acc ++ [yv], ys ++ [y], by omega, by rw [List.length_append, List.length_append, el]; rfl, by rw [List.length_append]; show ys.length + 1 ≤ i + 1; omega, fun j x hj e => wipeR_in hj e, ?_, q⟩
        have R7 := (R6.repin (o' := .lst (acc ++ [yv])) f0 fz).wipe (js := js)
        rw [ew2] at R7
        exact R7.swap fun _ h => swapFront ew el h
    · -- the end
      left
      have ei : items.drop i = [] := List.drop_eq_nil_iff.mpr (by omega)
      rw [ei] at q4
      obtain ⟨_, hs⟩ := hw (F.mk1 Dp (.lst acc)) (L2.wipe σ js) H2 ρ1 (acc ++ vs) (ys ++ ds) i R2
      refine ⟨hs (by omega), ?_⟩
      obtain ⟨u1, u2, u3⟩ := R2.unpin f0 fz
      rw [u2]
      refine q4 acc _ Dp el ?_ u1
      refine (u3.dropN ew).resig (wipe_length ..).symm fun j x e => ?_
      by_cases hjs : j ∈ js
      · exact .inl (hn j x hjs e)
      · exact .inr (wipe_out hjs).symm
end
end LD

/-! LD5: statements, loops, lists that a slot owns. -/
namespace LD
open PySem PySem.Spec L2
structure DE where
  nx : Rho → Prop
  rt : Rho → D → Prop
  bk : Rho → Prop := fun _ => False
  ct : Rho → Prop := fun _ => False
  rm : Rho → Prop := fun _ => False
  /-- what slot i holds is handed back -/
  ro : Rho → Nat → Prop := fun _ _ => False
  /-- an error of the class at C leaves, which keeps d -/
  ex : Rho → Addr → D → Prop := fun _ _ _ => False
  /-- what is wished of it outside -/
  xw : Value → Option Addr → St → Hp → Prop := fun _ _ _ _ => False
abbrev TDS := DE → Rho → Prop
structure DE.Le (a b : DE) : Prop where
  nx : ∀ ρ, a.nx ρ → b.nx ρ
  rt : ∀ ρ d, a.rt ρ d → b.rt ρ d
  bk : ∀ ρ, a.bk ρ → b.bk ρ
  ct : ∀ ρ, a.ct ρ → b.ct ρ
  rm : ∀ ρ, a.rm ρ → b.rm ρ
  ro : ∀ ρ i, a.ro ρ i → b.ro ρ i
  ex : a.xw = b.xw ∧ ∀ ρ C d, a.ex ρ C d → b.ex ρ C d
structure Glue (K : PySem.W.Frag) (F : Fx) (vs : List V) (ds : List D) (E : Ends) (dn : DE) : Prop where
  nx : ∀ σ H ρ, Rel K F σ H ρ vs ds → dn.nx ρ → E.nx σ H
  rt : ∀ σ H ρ v d, Rel K F σ H ρ (v :: vs) (d :: ds) → dn.rt ρ d → E.rt v H
  bk : ∀ σ H ρ, Rel K F σ H ρ vs ds → dn.bk ρ → E.bk σ H
  ct : ∀ σ H ρ, Rel K F σ H ρ vs ds → dn.ct ρ → E.ct σ H
  rm : ∀ σ H ρ a l ns b, Rel K F σ H ρ vs ds → a ≠ l → H a = none → H l = none → DealOk ns b → dn.rm ρ → E.rt (.ref a) (upd (upd H l (.lst (ns.map V.int))) a (.lst [.ref l, .int b]))
  ro : ∀ σ H ρ i v, Rel K F σ H ρ vs ds → σ[i]? = some (some v) → dn.ro ρ i → E.rt v H
  ex : ∀ σ H ρ C x v p, Rel K F σ H ρ (v :: vs) (x :: ds) → H p = none → dn.ex ρ C x → dn.xw (.ref C) (some p) σ (upd H p (.xd [("at", v)]))
structure SS (K : PySem.W.Frag) (ts : TS) (t : TDS) : Prop where
  mono : ∀ a b ρ, DE.Le a b → t a ρ → t b ρ
  run : ∀ F σ H ρ vs ds E dn, Glue K F vs ds E dn → Rel K F σ H ρ vs ds → t dn ρ → ts E σ H
section
variable {K : PySem.W.Frag} {ts us : TS} {t u : TDS} {te : TE} {e : TD}
def dNext : TDS := fun dn ρ => dn.nx ρ
theorem ss_nil : SS K tNext dNext := ⟨fun a b ρ h q => h.nx _ q, fun F σ H ρ vs ds E dn G R q => G.nx _ _ _ R q⟩
def dSeq (t u : TDS) : TDS := fun dn ρ => t { dn with nx := u dn } ρ
theorem ss_cons (s : SS K ts t) (s' : SS K us u) : SS K (tSeq ts us) (dSeq t u) := ⟨fun a b ρ h q => s.mono { a with nx := u a } { b with nx := u b } _ ⟨fun ρ q => s'.mono _ _ _ h q, h.rt, h.bk, h.ct, h.rm, h.ro, h.ex⟩ q, fun F σ H ρ vs ds E dn G R q =>
  s.run F σ H ρ vs ds { E with nx := us E } { dn with nx := u dn } ⟨fun σ H ρ R q => s'.run F σ H ρ vs ds E dn G R q, G.rt, G.bk, G.ct, G.rm, G.ro, G.ex⟩ R q⟩
def dBreak : TDS := fun dn ρ => dn.bk ρ
def dCont : TDS := fun dn ρ => dn.ct ρ
theorem ss_break : SS K tBreak dBreak := ⟨fun a b ρ h q => h.bk _ q, fun F σ H ρ vs ds E dn G R q => G.bk _ _ _ R q⟩
theorem ss_cont : SS K tCont dCont := ⟨fun a b ρ h q => h.ct _ q, fun F σ H ρ vs ds E dn G R q => G.ct _ _ _ R q⟩
def dRet (e : TD) : TDS := fun dn ρ => e ρ fun r d => dn.rt r d
theorem ss_ret (s : SE K te e) : SS K (tRet te) (dRet e) := ⟨fun a b ρ h q => s.mono _ _ _ (fun _ _ q => h.rt _ _ q) q, fun F σ H ρ vs ds E dn G R q =>
  s.run F σ H ρ vs ds _ R (s.mono _ _ _ (fun r d q v H' R' => G.rt _ _ _ _ _ R' q) q)⟩
def dDrop (e : TD) : TDS := fun dn ρ => e ρ fun r _ => dn.nx r
theorem ss_drop (s : SE K te e) : SS K (tDrop te) (dDrop e) := ⟨fun a b ρ h q => s.mono _ _ _ (fun _ _ q => h.nx _ q) q, fun F σ H ρ vs ds E dn G R q =>
  s.run F σ H ρ vs ds _ R (s.mono _ _ _ (fun r d q v H' R' => G.nx _ _ _ R'.drop q) q)⟩
def dIfS (c : TDT) (t u : TDS) : TDS := fun dn ρ => c ρ fun r b => if b = true then t dn r else u dn r
theorem ss_if {tc : TT} {c : TDT} (sc : ST K tc c) (s : SS K ts t) (s' : SS K us u) : SS K (tIfS tc ts us) (dIfS c t u) := by
  refine ⟨fun a b ρ h q => sc.mono _ _ _ (fun r k q => ?_) q, fun F σ H ρ vs ds E dn G R q => sc.run F σ H ρ vs ds _ R (sc.mono _ _ _ (fun r k q H1 R1 => ?_) q)⟩
  · cases k with
    | true => exact s.mono _ _ _ h q
    | false => exact s'.mono _ _ _ h q
  · cases k with
    | true => exact s.run F σ H1 r vs ds E dn G R1 q
    | false => exact s'.run F σ H1 r vs ds E dn G R1 q
/-- target = value, the value shared -/
def dAsg (e : TD) (g : DG) : TDS := fun dn ρ => e ρ fun r d => g d r dn.nx
theorem ss_asg {js : List Nat} {g : TG} {dg : DG} (s : SE K te e) (sg : SG K js g dg) : SS K (tAsg te g) (dAsg e dg) := ⟨fun a b ρ h q => s.mono _ _ _ (fun r d q => sg.mono _ _ _ _ h.nx q) q, fun F σ H ρ vs ds E dn G R q =>
  s.run F σ H ρ vs ds _ R (s.mono _ _ _ (fun r d q v H' R' => sg.run F σ H' r vs ds v d _ R' (sg.mono _ _ _ _ (fun r q σ2 H2 R2 _ => G.nx _ _ _ R2 q) q)) q)⟩
/-- name = a list made new, kept in this slot alone -/
def dOwn (e : TDA) (i : Nat) : TDS := fun dn ρ => e ρ fun r es => i < r.length ∧ dn.nx (r.set i (.ls es))
theorem ss_own {i : Nat} {e : TDA} (s : SF K te e) : SS K (tAsg te (gName i)) (dOwn e i) := ⟨fun a b ρ h q => s.mono _ _ _ (fun r d q => ⟨q.1, h.nx _ q.2⟩) q, fun F σ H ρ vs ds E dn G R q =>
  s.run F σ H ρ vs ds _ R (s.mono _ _ _ (fun r es q xs H' p el R' hp => G.nx _ _ _ (R'.keepOwn el hp q.1) q.2) q)⟩
/-- a, b = x, y -/
def dPar (i j : Nat) (t : TDA) : TDS := fun dn ρ => t ρ fun r es => ∃ d e, es = [d, e] ∧ i < r.length ∧ j < r.length ∧ dn.nx ((r.set i (.sh d)).set j (.sh e))
theorem ss_par {i j : Nat} {ta : TA} {a : TDA} (s : SA K ta a) : SS K (tPar i j ta) (dPar i j a) := ⟨fun a b ρ h q => s.mono _ _ _ (fun r es ⟨d, e, e1, h1, h2, q⟩ => ⟨d, e, e1, h1, h2, h.nx _ q⟩) q, fun F σ H ρ vs ds E dn G R q =>
  s.run F σ H ρ vs ds _ R (s.mono _ _ _ (fun r es q xs H' el R' => by
    obtain ⟨d, e, e1, h1, h2, q⟩ := q
    subst e1
    obtain ⟨x, xr, rfl, e2⟩ := len_cons el
    obtain ⟨y, yr, rfl, e3⟩ := len_cons e2
    obtain rfl := len_nil e3
    refine ⟨x, y, rfl, G.nx _ _ _ ?_ q⟩
    have R2 : Rel K F σ H' r (x :: y :: vs) (d :: e :: ds) := R'
    exact (R2.store h1).store (by rw [List.length_set]; exact h2)) q)⟩
/-- the list of slot i will not change any more; slot i is forgotten -/
def dFrz (i : Nat) (t : TDS) : TDS := fun dn ρ => ∃ es, ρ[i]? = some (.ls es) ∧ t dn (ρ.set i (.sh (.list es)))
theorem ss_frz (i : Nat) (s : SS K ts t) : SS K ts (dFrz i t) := ⟨fun a b ρ h ⟨es, e, q⟩ => ⟨es, e, s.mono _ _ _ h q⟩, fun F σ H ρ vs ds E dn G R ⟨es, e, q⟩ => s.run F σ H _ vs ds E dn G (R.freeze e) q⟩
def dFgt (js : List Nat) (t : TDS) : TDS := fun dn ρ => t dn (wipeR ρ js)
theorem ss_fgt (js : List Nat) (s : SS K ts t) : SS K ts (dFgt js t) := ⟨fun a b ρ h q => s.mono _ _ _ h q, fun F σ H ρ vs ds E dn G R q => by
  refine s.run F σ H _ vs ds E dn G ((R.wipe (js := js)).resig (wipe_length ..).symm fun j x e => ?_) q
  by_cases hj : j ∈ js
  · exact .inl (wipeR_in hj e)
  · exact .inr (wipe_out hj).symm⟩
/-! loops -/
theorem Rel.dropMid {F : Fx} {σ : L2.St} {H : Hp} {ρ : Rho} {vs ws : List V} {ds es : List D} {v : V} {d : D} (R : Rel K F σ H ρ (v :: (ws ++ vs)) (d :: (es ++ ds))) (e : ws.length = es.length) : Rel K F σ H ρ (v :: vs) (d :: ds) := R.swap fun _ h => by
  cases h with
  | cons a b => exact .cons a (dpAll_split e b).2
def dFor (di : TDI) (dg : DG) (tb : TDS) : TDS := fun dn ρ => di ρ fun ρ0 items => ∃ I : Nat → Rho → Prop, I 0 ρ0 ∧ (∀ i d r, items[i]? = some d → I i r → dg d r fun r1 => tb { nx := I (i + 1), rt := dn.rt, bk := dn.nx, ct := I (i + 1), rm := dn.rm, ro := dn.ro, ex := dn.ex, xw := dn.xw } r1) ∧ ∀ r, I items.length r → dn.nx r
theorem ss_for {js : List Nat} {wi : TI} {di : TDI} {g : TG} {dg : DG} (si : SI K wi di) (sg : SG K js g dg) (s : SS K ts t) : SS K (tFor wi g ts) (dFor di dg t) := by
  refine ⟨fun a b ρ h q => si.mono _ _ _ (fun r items ⟨I, q1, q2, q3⟩ => ⟨I, q1, fun i d r e hI => sg.mono _ _ _ _ (fun r q => s.mono { nx := I (i + 1), rt := a.rt, bk := a.nx, ct := I (i + 1), rm := a.rm, ro := a.ro, ex := a.ex, xw := a.xw } { nx := I (i + 1), rt := b.rt, bk := b.nx, ct := I (i + 1), rm := b.rm, ro := b.ro, ex := b.ex, xw := b.xw } _ ⟨fun _ z => z, h.rt, h.nx, fun _ z => z, h.rm, h.ro, h.ex⟩ q) (q2 i d r e hI), fun r z => h.nx _ (q3 r z)⟩) q, fun F σ H ρ vs ds E dn G R q => ?_⟩
  refine si.run F σ H ρ vs ds _ R (si.mono _ _ _ (fun ρ0 items q J H1 ws es ew hw R1 => ?_) q)
  obtain ⟨I, q1, q2, q3⟩ := q
  refine ⟨fun i m σ H => ∃ r, i + m = items.length ∧ Rel K F σ H r (ws ++ vs) (es ++ ds) ∧ I i r, ⟨items.length, ρ0, Nat.zero_add _, R1, q1⟩, fun i m σ H hW => ?_⟩
  obtain ⟨r, em, R2, hI⟩ := hW
  by_cases hi : i < items.length
  · right
    have hd : items[i]? = some items[i] := List.getElem?_eq_getElem hi
    obtain ⟨hgo, hy⟩ := (hw F σ H r vs ds i R2).1 _ hd
    refine ⟨hgo, fun σ H => ∃ r, Rel K F σ H r (ws ++ vs) (es ++ ds) ∧ I (i + 1) r, fun σ' H' ⟨r, R3, h3⟩ => ⟨m - 1, by omega, r, by omega, R3, h3⟩, fun x H' hx => ?_⟩
    have R3 := hy x H' hx
    refine sg.run F σ H' r (ws ++ vs) (es ++ ds) x _ _ R3 (sg.mono _ _ _ _ (fun r1 q σ2 H2 R4 _ => ?_) (q2 i _ r hd hI))
    refine s.run F σ2 H2 r1 (ws ++ vs) (es ++ ds) _ { nx := I (i + 1), rt := dn.rt, bk := dn.nx, ct := I (i + 1), rm := dn.rm, ro := dn.ro, ex := dn.ex, xw := dn.xw } ⟨fun σ H ρ R q => ⟨ρ, R, q⟩, fun σ H ρ v d R q => G.rt _ _ _ _ _ (R.dropMid ew) q, fun σ H ρ R q => G.nx _ _ _ (R.dropN ew) q, fun σ H ρ R q => ⟨ρ, R, q⟩, fun σ H ρ a l ns b R n h1 h2 ok q => G.rm _ _ _ _ _ _ _ (R.dropN ew) n h1 h2 ok q, fun σ H ρ i v R e q => G.ro _ _ _ _ _ (R.dropN ew) e q, fun σ H ρ C x v p R hp q => G.ex _ _ _ _ _ _ _ (R.dropMid ew) hp q⟩ R4 q
  · left
    have ei : i = items.length := by omega
    refine ⟨(hw F σ H r vs ds i R2).2 (by omega), G.nx _ _ _ (R2.dropN ew) (q3 r (ei ▸ hI))⟩
def dWhile (c : TDT) (tb : TDS) : TDS := fun dn ρ => ∃ (I : Rho → Prop) (μ : Rho → Nat), I ρ ∧ ∀ r, I r → c r fun r1 b => if b = true then tb { nx := fun r2 => I r2 ∧ μ r2 < μ r, rt := dn.rt, bk := dn.nx, ct := fun r2 => I r2 ∧ μ r2 < μ r, rm := dn.rm, ro := dn.ro, ex := dn.ex, xw := dn.xw } r1 else dn.nx r1
theorem ss_while {tc : TT} {c : TDT} (sc : ST K tc c) (s : SS K ts t) : SS K (tWhile tc ts) (dWhile c t) := by
  refine ⟨fun a b ρ h ⟨I, μ, q1, q2⟩ => ⟨I, μ, q1, fun r hI => sc.mono _ _ _ (fun r1 k q => ?_) (q2 r hI)⟩, fun F σ H ρ vs ds E dn G R q => ?_⟩
  · cases k with
    | true => exact s.mono { nx := fun r2 => I r2 ∧ μ r2 < μ r, rt := a.rt, bk := a.nx, ct := fun r2 => I r2 ∧ μ r2 < μ r, rm := a.rm, ro := a.ro, ex := a.ex, xw := a.xw } { nx := fun r2 => I r2 ∧ μ r2 < μ r, rt := b.rt, bk := b.nx, ct := fun r2 => I r2 ∧ μ r2 < μ r, rm := b.rm, ro := b.ro, ex := b.ex, xw := b.xw } _ ⟨fun _ z => z, h.rt, h.nx, fun _ z => z, h.rm, h.ro, h.ex⟩ q
    | false => exact h.nx _ q
  · obtain ⟨I, μ, q1, q2⟩ := q
    refine ⟨fun m σ H => ∃ r, m = μ r ∧ Rel K F σ H r vs ds ∧ I r, ⟨μ ρ, ρ, rfl, R, q1⟩, fun m σ H hW => ?_⟩
    obtain ⟨r, em, R1, hI⟩ := hW
    refine sc.run F σ H r vs ds _ R1 (sc.mono _ _ _ (fun r1 b q H1 R2 => ?_) (q2 r hI))
    cases b with
    | false => exact G.nx _ _ _ R2 q
    | true =>
      refine ⟨fun σ' H' => ∃ r2, Rel K F σ' H' r2 vs ds ∧ I r2 ∧ μ r2 < μ r, fun σ' H' ⟨r2, R3, h1, h2⟩ => ⟨μ r2, by rw [em]; exact h2, r2, rfl, R3, h1⟩, ?_⟩
      exact s.run F σ H1 r1 vs ds _ { nx := fun r2 => I r2 ∧ μ r2 < μ r, rt := dn.rt, bk := dn.nx, ct := fun r2 => I r2 ∧ μ r2 < μ r, rm := dn.rm, ro := dn.ro, ex := dn.ex, xw := dn.xw } ⟨fun σ H ρ R q => ⟨ρ, R, q.1, q.2⟩, G.rt, G.nx, fun σ H ρ R q => ⟨ρ, R, q.1, q.2⟩, G.rm, G.ro, G.ex⟩ R2 q
/-! lists that a slot owns -/
theorem Rel.ownAt {F : Fx} {σ : L2.St} {H : Hp} {ρ : Rho} {vs : List V} {ds es : List D} {i : Nat} (R : Rel K F σ H ρ vs ds) (h : ρ[i]? = some (.ls es)) : ∃ p xs, σ[i]? = some (some (.ref p)) ∧ H p = some (.lst xs) ∧ xs.length = es.length ∧ Dp K H (.ref p) (.list es) := by
  obtain ⟨Hi, own, R⟩ := R
  obtain ⟨p, xs, e, eo, hp, q⟩ := R.slot i _ h
  have e' : σ[i]? = some (some (.ref p)) := by
    cases z : σ[i]? with
    | none => rw [z] at e; cases e
    | some y => rw [z] at e; exact congrArg some e
  exact ⟨p, xs, e', hp, dpAll_len q, .lst (.inl (.inl hp)) (dpAll_mono R.sub _ _ q)⟩
/-- what stands in slot i's own list is turned: ys for fs, of what was there or is at hand -/
theorem Rel.turn {F : Fx} {σ : L2.St} {H : Hp} {ρ : Rho} {vs ws : List V} {ds es fs gs : List D} {i : Nat} {p : Addr} {xs ys : List V} (R : Rel K F σ H ρ vs ds) (h : ρ[i]? = some (.ls es)) (hs : σ[i]? = some (some (.ref p))) (hp : H p = some (.lst xs))
    (hy : ∀ Hi, DpAll K Hi xs es → DpAll K Hi vs ds → DpAll K Hi ys fs ∧ DpAll K Hi ws gs) : Rel K F σ (upd H p (.lst ys)) (ρ.set i (.ls fs)) ws gs := by
  obtain ⟨Hi, own, R⟩ := R
  obtain ⟨p', xs', e, eo, hp', q⟩ := R.slot i _ h
  have e2 : p' = p := by rw [hs] at e; cases e; rfl
  subst e2
  rw [hp] at hp'
  cases hp'
  have hi : i < ρ.length := (List.getElem?_eq_some_iff.mp h).1
  obtain ⟨y1, y2⟩ := hy Hi q R.tmp
  have np : Hi p' = none := R.free i p' (by rw [eo]; simp)
  have no : ∀ j, j ≠ i → ∀ a ∈ own j, a ≠ p' := fun j hj a ha z => R.sep j i hj a ha (by rw [eo, z]; simp)
  refine ⟨Hi, own, ⟨R.base, fun b x z => ?_, R.new, fun b o z hn => ?_, fun b z => ?_, by rw [List.length_set]; exact R.len, fun j x z => ?_, R.free, fun j a ha => ?_, R.nown, R.sep, fun j es' z => ?_, fun z hz => ?_, y2⟩⟩
  · rw [upd_ne (fun w => by rw [w, np] at z; cases z)]; exact R.sub b x z
  · have nb : b ≠ p' := fun w => by
      have := R.nls i es h p' (by rw [eo]; simp)
      rw [w, this] at z; cases z
    rw [upd_ne nb]; exact R.keep b o z hn
  · by_cases hb : b = p'
    · rw [hb, upd_same]; simp
    · rw [upd_ne hb]; exact R.dom b z
  · by_cases hj : j = i
    · subst hj
      rw [List.getElem?_set_self hi] at z
      cases z
      exact ⟨p', ys, e, eo, upd_same, y1⟩
    · rw [List.getElem?_set_ne (Ne.symm hj)] at z
      exact (R.slot j x z).grow (Same.refl _) fun a ha o w => by rw [upd_ne (no j hj a ha)]; exact w
  · by_cases hap : a = p'
    · rw [hap, upd_same]; simp
    · rw [upd_ne hap]; exact R.held j a ha
  · by_cases hj : j = i
    · subst hj
      exact R.nls j es h
    · rw [List.getElem?_set_ne (Ne.symm hj)] at z
      exact R.nls j es' z
  · obtain ⟨z1, z2, z3⟩ := R.pin z hz
    have nz : z.1 ≠ p' := fun w => z3 i (by rw [eo, w]; simp)
    exact ⟨by rw [upd_ne nz]; exact z1, z2, z3⟩
/-- len of it -/
def dLenO (i : Nat) : TD := fun ρ P => ∃ es, ρ[i]? = some (.ls es) ∧ P ρ (.int es.length)
theorem se_lenO (i : Nat) : SE K (tCB (fun xs H Q => ∃ p ys, xs = [.ref p] ∧ (SqL K H p ys ∨ SqT K H p ys) ∧ Q (.int ys.length) H) (tCons (tVar i) tNil)) (dLenO i) := ⟨fun ρ P P' h ⟨es, e, q⟩ => ⟨es, e, h _ _ q⟩, fun F σ H ρ vs ds Q R ⟨es, e, q⟩ => by
  obtain ⟨p, xs, e1, hp, el, _⟩ := R.ownAt e
  refine ⟨.ref p, e1, p, xs, rfl, .inl (.inl (.inl hp)), ?_⟩
  rw [el]
  exact q _ _ (R.push (v := .int es.length) rfl)⟩
/-- it stands at the left of an operator that looks at it alone -/
structure SOv (K : PySem.W.Frag) (r : R2) (o : OD) : Prop where
  mono : ∀ a b P P', (∀ d, P d → P' d) → o a b P → o a b P'
  run : ∀ F σ H ρ vs ds x y a b Q, Dp K H x a → Rel K F σ H ρ (y :: vs) (b :: ds) → o a b (fun d => ∀ v H', Rel K F σ H' ρ (v :: vs) (d :: ds) → Q v H') → r x y H Q
theorem sov_eqD : SOv K (rEqD K) oEq := ⟨fun a b P P' h ⟨e1, e2, q⟩ => ⟨e1, e2, h _ q⟩, fun F σ H ρ vs ds x y a b Q hx R ⟨e1, e2, q⟩ =>
  ⟨a, b, hx, R.dp, e1, e2, q _ _ (R.drop.push (v := .bl (PyData.eqv a b)) rfl)⟩⟩
theorem sov_neD : SOv K (rNeD K) oNe := ⟨fun a b P P' h ⟨e1, e2, q⟩ => ⟨e1, e2, h _ q⟩, fun F σ H ρ vs ds x y a b Q hx R ⟨e1, e2, q⟩ =>
  ⟨a, b, hx, R.dp, e1, e2, q _ _ (R.drop.push (v := .bl (!PyData.eqv a b)) rfl)⟩⟩
def dOpO (o : OD) (i : Nat) (b : TD) : TD := fun ρ P => (∃ es, ρ[i]? = some (.ls es)) ∧ b ρ fun r y => ∃ es, r[i]? = some (.ls es) ∧ o (.list es) y (P r)
theorem se_opO {r : R2} {o : OD} {tb : TE} {b : TD} (i : Nat) (so : SOv K r o) (sb : SE K tb b) : SE K (tOp r (tVar i) tb) (dOpO o i b) := by
  refine ⟨fun ρ P P' h ⟨q0, q⟩ => ⟨q0, sb.mono _ _ _ (fun r y ⟨es, e, q⟩ => ⟨es, e, so.mono _ _ _ _ (h _) q⟩) q⟩, fun F σ H ρ vs ds Q R q => ?_⟩
  obtain ⟨⟨es0, e0⟩, q⟩ := q
  obtain ⟨p, xs, e1, hp, el, _⟩ := R.ownAt e0
  refine ⟨.ref p, e1, sb.run F σ H ρ vs ds _ R (sb.mono _ _ _ (fun r y q v H1 R1 => ?_) q)⟩
  obtain ⟨es, e, q⟩ := q
  obtain ⟨p2, xs2, e2, hp2, el2, hd⟩ := R1.ownAt e
  rw [e1] at e2
  cases e2
  exact so.run F σ H1 r vs ds _ v _ y Q hd R1 q
/-- an item of it -/
def dIxO (i : Nat) (b : TD) : TD := fun ρ P => (∃ es, ρ[i]? = some (.ls es)) ∧ b ρ fun r y => ∃ es k d, r[i]? = some (.ls es) ∧ y = .int k ∧ atI es k = some d ∧ P r d
theorem se_ixO {tb : TE} {b : TD} (i : Nat) (sb : SE K tb b) : SE K (tOp (rIxL K) (tVar i) tb) (dIxO i b) := by
  refine ⟨fun ρ P P' h ⟨q0, q⟩ => ⟨q0, sb.mono _ _ _ (fun r y ⟨es, k, d, e, e1, e2, q⟩ => ⟨es, k, d, e, e1, e2, h _ _ q⟩) q⟩, fun F σ H ρ vs ds Q R q => ?_⟩
  obtain ⟨⟨es0, e0⟩, q⟩ := q
  obtain ⟨p, xs, e1, hp, el, _⟩ := R.ownAt e0
  refine ⟨.ref p, e1, sb.run F σ H ρ vs ds _ R (sb.mono _ _ _ (fun r y q v H1 R1 => ?_) q)⟩
  obtain ⟨es, k, d, e, ey, ea, q⟩ := q
  subst ey
  obtain rfl := R1.int
  obtain ⟨Hi, own, R2⟩ := R1.drop
  obtain ⟨p2, xs2, e2, eo, hp2, q2⟩ := R2.slot i _ e
  have e3 : p2 = p := by rw [e1] at e2; cases e2; rfl
  subst e3
  have R3 : Rel K F σ H1 r (xs2 ++ vs) (es ++ ds) := ⟨Hi, own, R2.tmpTo (dpAll_app q2 R2.tmp)⟩
  obtain ⟨v, e4, R4⟩ := atI_pick (dpAll_len q2) R3 ea
  exact ⟨p2, xs2, k, v, rfl, rfl, .inl (.inl hp2), e4, q _ _ R4⟩
/-- name.append(e) -/
def dApp (i : Nat) (b : TD) : TDS := fun dn ρ => (∃ es, ρ[i]? = some (.ls es)) ∧ b ρ fun r d => ∃ es, r[i]? = some (.ls es) ∧ es.length < sizeLine ∧ dn.nx (r.set i (.ls (es ++ [d])))
theorem ss_app {tb : TE} {b : TD} (i : Nat) (sb : SE K tb b) : SS K (tDrop (tBM K "list" rAppend (tVar i) (tCons tb tNil))) (dApp i b) := by
  refine ⟨fun a b ρ h ⟨q0, q⟩ => ⟨q0, sb.mono _ _ _ (fun r y ⟨es, e, e1, q⟩ => ⟨es, e, e1, h.nx _ q⟩) q⟩, fun F σ H ρ vs ds E dn G R q => ?_⟩
  obtain ⟨⟨es0, e0⟩, q⟩ := q
  obtain ⟨p, xs, e1, hp, el, _⟩ := R.ownAt e0
  refine ⟨.ref p, e1, .inl ⟨rfl, xs, .inl (.inl hp)⟩, sb.run F σ H ρ vs ds _ R (sb.mono _ _ _ (fun r y q v H1 R1 => ?_) q)⟩
  obtain ⟨es, e, ez, q⟩ := q
  obtain ⟨p2, xs2, e2, hp2, el2, hd⟩ := R1.ownAt e
  rw [e1] at e2
  cases e2
  refine ⟨p, xs2, v, rfl, rfl, hp2, by rw [el2]; exact ez, G.nx _ _ _ (R1.turn e e1 hp2 fun Hi h1 h2 => ?_) q⟩
  cases h2 with
  | cons a b => exact ⟨dpAll_app h1 (.cons a .nil), b⟩
/-- name[k] = e -/
theorem dpAll_set {H : Hp} {d : D} {v : V} (hv : Dp K H v d) : ∀ {es : List D} {xs : List V} (j : Nat), DpAll K H xs es → DpAll K H (xs.set j v) (es.set j d)
  | [], _, j, h => by cases h; exact .nil
  | e :: es, _, 0, h => by cases h with | cons a b => exact .cons hv b
  | e :: es, _, j + 1, h => by cases h with | cons a b => exact .cons a (dpAll_set hv j b)
def dSetI (i : Nat) (b k : TD) : TDS := fun dn ρ => b ρ fun r d => (∃ es, r[i]? = some (.ls es)) ∧ k r fun r2 z => ∃ es n j, r2[i]? = some (.ls es) ∧ z = .int n ∧ ixN es.length n = some j ∧ dn.nx (r2.set i (.ls (es.set j d)))
theorem ss_setI {tb tk : TE} {b k : TD} (i : Nat) (sb : SE K tb b) (sk : SE K tk k) : SS K (tAsg tb (gSub (tVar i) tk rSetL)) (dSetI i b k) := by
  refine ⟨fun a b ρ h q => sb.mono _ _ _ (fun r y ⟨q0, q⟩ => ⟨q0, sk.mono _ _ _ (fun r2 z ⟨es, n, j, e, e1, e2, q⟩ => ⟨es, n, j, e, e1, e2, h.nx _ q⟩) q⟩) q, fun F σ H ρ vs ds E dn G R q => ?_⟩
  refine sb.run F σ H ρ vs ds _ R (sb.mono _ _ _ (fun r d q v H1 R1 => ?_) q)
  obtain ⟨⟨es0, e0⟩, q⟩ := q
  obtain ⟨p, xs, e1, hp, el, _⟩ := R1.ownAt e0
  refine ⟨.ref p, e1, sk.run F σ H1 r _ _ _ R1 (sk.mono _ _ _ (fun r2 z q w H2 R2 => ?_) q)⟩
  obtain ⟨es, n, j, e, ez, ej, q⟩ := q
  subst ez
  obtain rfl := R2.int
  obtain ⟨p2, xs2, e2, hp2, el2, hd⟩ := R2.ownAt e
  rw [e1] at e2
  cases e2
  refine ⟨p, xs2, n, j, rfl, rfl, hp2, by rw [el2]; exact ej, G.nx _ _ _ (R2.drop.turn e e1 hp2 fun Hi h1 h2 => ?_) q⟩
  cases h2 with
  | cons a b => exact ⟨dpAll_set a j h1, b⟩
/-- name.pop(k) -/
theorem dpAll_erase {H : Hp} : ∀ {es : List D} {xs : List V} (j : Nat), DpAll K H xs es → DpAll K H (xs.eraseIdx j) (es.eraseIdx j)
  | [], _, j, h => by cases h; exact .nil
  | e :: es, _, 0, h => by cases h with | cons a b => exact b
  | e :: es, _, j + 1, h => by cases h with | cons a b => exact .cons a (dpAll_erase j b)
def dPopI (i : Nat) (k : TD) : TD := fun ρ P => (∃ es, ρ[i]? = some (.ls es)) ∧ k ρ fun r z => ∃ es n j d, r[i]? = some (.ls es) ∧ z = .int n ∧ (-(2 ^ 63) ≤ n ∧ n < 2 ^ 63) ∧ seqIndex? n es.length = some j ∧ es[j]? = some d ∧ P (r.set i (.ls (es.eraseIdx j))) d
theorem se_popI {tk : TE} {k : TD} (i : Nat) (sk : SE K tk k) : SE K (tBM K "list" rPopAt (tVar i) (tCons tk tNil)) (dPopI i k) := by
  refine ⟨fun ρ P P' h ⟨q0, q⟩ => ⟨q0, sk.mono _ _ _ (fun r z ⟨es, n, j, d, e, e1, e2, e3, e4, q⟩ => ⟨es, n, j, d, e, e1, e2, e3, e4, h _ _ q⟩) q⟩, fun F σ H ρ vs ds Q R q => ?_⟩
  obtain ⟨⟨es0, e0⟩, q⟩ := q
  obtain ⟨p, xs, e1, hp, el, _⟩ := R.ownAt e0
  refine ⟨.ref p, e1, .inl ⟨rfl, xs, .inl (.inl hp)⟩, sk.run F σ H ρ vs ds _ R (sk.mono _ _ _ (fun r z q w H1 R1 => ?_) q)⟩
  obtain ⟨es, n, j, d, e, ez, en, ej, ed, q⟩ := q
  subst ez
  obtain rfl := R1.int
  obtain ⟨Hi, own, R2⟩ := R1.drop
  obtain ⟨p2, xs2, e2, eo, hp2, q2⟩ := R2.slot i _ e
  have e3 : p2 = p := by rw [e1] at e2; cases e2; rfl
  subst e3
  obtain ⟨v, hv, hd⟩ := dpAll_at q2 ed
  have R3 : Rel K F σ H1 r (v :: vs) (d :: ds) := ⟨Hi, own, R2.tmpTo (.cons hd R2.tmp)⟩
  refine ⟨p2, xs2, n, j, v, rfl, rfl, hp2, en.1, en.2, by rw [dpAll_len q2]; exact ej, hv, q _ _ (R3.turn e e1 hp2 fun Hi h1 h2 => ⟨dpAll_erase j h1, h2⟩)⟩
end
end LD

/-! LD6: what a def promises over data; its calls; its entry. -/
namespace LD
open PySem PySem.Spec L2
/-- what has come between: nothing tracked is lost, what was laid is new -/
def Fresh (Hi Hi' H : Hp) : Prop := ∀ b, Hi' b ≠ none → Hi b ≠ none ∨ H b = none
/-- a def of data alone -/
def spD (K : PySem.W.Frag) (g : CD) : Sp := fun vs H Q _ => ∃ Hi ds, Same Hi H ∧ DpAll K Hi vs ds ∧ g ds fun d => ∀ v H' Hi', Same Hi Hi' → Same Hi' H' → Same H H' → Fresh Hi Hi' H → Dp K Hi' v d → Q v H'
/-- a def that draws: the source first -/
def spW (K : PySem.W.Frag) (g : CD) : Sp := fun vs H Q _ => ∃ Hi a l vs' ds, vs = .ref a :: vs' ∧ a ≠ l ∧ Same Hi H ∧ Hi a = none ∧ Hi l = none ∧ DealAt H a l ∧ DpAll K Hi vs' ds ∧
  g ds fun d => ∀ v H' Hi', Same Hi Hi' → Same Hi' H' → (∀ c o, H c = some o → c ≠ a → c ≠ l → H' c = some o) → (∀ c, H c ≠ none → H' c ≠ none) → Fresh Hi Hi' H → DealAt H' a l → Dp K Hi' v d → Q v H'
/-- a def that makes a source -/
def spM (K : PySem.W.Frag) (g : List D → Prop) : Sp := fun vs H Q _ => ∃ Hi ds, Same Hi H ∧ DpAll K Hi vs ds ∧ g ds ∧
  ∀ a l ns b H', a ≠ l → H' a = none → H' l = none → Same H H' → DealOk ns b → Q (.ref a) (upd (upd H' l (.lst (ns.map V.int))) a (.lst [.ref l, .int b]))
section
variable {K : PySem.W.Frag} {F : Fx} {σ : L2.St} {H H' : Hp} {ρ : Rho} {vs ws xs : List V} {ds es : List D}
/-- behind a call that only adds -/
theorem RelI.after {Hi Hi' : Hp} {own : Nat → List Addr} (R : RelI K F σ H ρ vs ds Hi own) (h1 : Same Hi Hi') (h2 : Same Hi' H') (h3 : Same H H') (h4 : Fresh Hi Hi' H) (h : DpAll K Hi' ws es) : RelI K F σ H' ρ ws es Hi' own := by
  have dom : ∀ b, H b ≠ none → H' b ≠ none := fun b hb => by
    cases q : H b with
    | none => exact absurd q hb
    | some o => rw [h3 b o q]; simp
  refine ⟨R.base.trans h1, h2, fun b hb => ?_, fun b o e hn => h3 b o (R.keep b o e hn), fun b e => dom b (R.dom b e), R.len, fun i x e => (R.slot i x e).grow h1 fun a ha o q => h3 a o q, fun i a ha => ?_, fun i a ha => dom a (R.held i a ha), R.nown, R.sep, R.nls, fun z hz => ?_, h⟩
  · rcases h4 b hb with z | z
    · exact R.new b z
    · exact .inr (R.no0 z)
  · cases q : Hi' a with
    | none => rfl
    | some o =>
      rcases h4 a (by rw [q]; simp) with z | z
      · exact absurd (R.free i a ha) z
      · exact absurd z (R.held i a ha)
  · obtain ⟨z1, z2, z3⟩ := R.pin z hz
    refine ⟨h3 _ _ z1, ?_, z3⟩
    cases q : Hi' z.1 with
    | none => rfl
    | some o =>
      rcases h4 z.1 (by rw [q]; simp) with w | w
      · exact absurd z2 w
      · rw [z1] at w; cases w
theorem se_call {g : CD} {ta : TA} {t : TDA} {E : XK} (hg : ∀ es P P', (∀ d, P d → P' d) → g es P → g es P') (s : SA K ta t) : SE K (tCall (spD K g) [] E ta) (dCall g t) := by
  refine ⟨fun ρ P P' h q => s.mono _ _ _ (fun _ es q => hg _ _ _ (h _) q) q, fun F σ H ρ vs ds Q R q => s.run F σ H ρ vs ds _ R (s.mono _ _ _ (fun r es q xs H1 e R1 => ?_) q)⟩
  show spD K g (xs ++ []) H1 Q E
  rw [List.append_nil]
  obtain ⟨Hi, own, R2⟩ := R1
  obtain ⟨t1, t2⟩ := dpAll_split e R2.tmp
  exact ⟨Hi, es, R2.sub, t1, hg _ _ _ (fun d q v H' Hi' h1 h2 h3 h4 h5 => q v H' ⟨Hi', own, R2.after h1 h2 h3 h4 (.cons h5 (dpAll_mono h1 _ _ t2))⟩) q⟩
/-- .. with the source in slot i first -/
def dCallW (i : Nat) (g : CD) (t : TDA) : TD := fun ρ P => (∃ a l, ρ[i]? = some (.dl a l)) ∧ t ρ fun r es => (∃ a l, r[i]? = some (.dl a l)) ∧ g es (P r)
theorem Rel.dealAt {i : Nat} {a l : Addr} (R : Rel K F σ H ρ vs ds) (h : ρ[i]? = some (.dl a l)) : σ[i]? = some (some (.ref a)) := by
  obtain ⟨Hi, own, R⟩ := R
  obtain ⟨e, _⟩ := R.slot i _ h
  cases z : σ[i]? with
  | none => rw [z] at e; cases e
  | some y => rw [z] at e; exact congrArg some e
theorem se_callW {i : Nat} {g : CD} {ta : TA} {t : TDA} {E : XK} (hg : ∀ es P P', (∀ d, P d → P' d) → g es P → g es P') (s : SA K ta t) : SE K (tCall (spW K g) [] E (tCons (tVar i) ta)) (dCallW i g t) := by
  refine ⟨fun ρ P P' h q => ⟨q.1, s.mono _ _ _ (fun _ es q => ⟨q.1, hg _ _ _ (h _) q.2⟩) q.2⟩, fun F σ H ρ vs ds Q R q => ?_⟩
  obtain ⟨⟨a, l, e0⟩, q⟩ := q
  have s0 := R.dealAt e0
  refine ⟨.ref a, s0, s.run F σ H ρ vs ds _ R (s.mono _ _ _ (fun r es q xs H1 e R1 => ?_) q)⟩
  show spW K g (V.ref a :: xs ++ []) H1 Q E
  rw [List.append_nil]
  obtain ⟨⟨a', l', e1⟩, q⟩ := q
  have s1 := R1.dealAt e1
  rw [s0] at s1
  cases s1
  obtain ⟨Hi, own, R2⟩ := R1
  obtain ⟨t1, t2⟩ := dpAll_split e R2.tmp
  obtain ⟨_, eo, nal, da⟩ := R2.slot i _ e1
  have ia : a ∈ own i := by rw [eo]; simp
  have il : l' ∈ own i := by rw [eo]; simp
  refine ⟨Hi, a, l', xs, es, rfl, nal, R2.sub, R2.free i a ia, R2.free i l' il, da, t1, hg _ _ _ (fun d q v H' Hi' h1 h2 h3 h3' h4 hda h5 => q v H' ⟨Hi', own, ?_⟩) q⟩
  have notA : ∀ {c : Addr}, F.H0 c ≠ none → c ∉ F.P → c ≠ a ∧ c ≠ l' := fun {c} hc hp => ⟨fun z => by
    rcases R2.nown i a ia with w | w
    · exact hc (by rw [z]; exact w)
    · exact hp (by rw [z]; exact w), fun z => by
    rcases R2.nown i l' il with w | w
    · exact hc (by rw [z]; exact w)
    · exact hp (by rw [z]; exact w)⟩
  refine ⟨R2.base.trans h1, h2, fun b hb => ?_, fun b o z hn => ?_, fun b z => h3' b (R2.dom b z), R2.len, fun j x z => ?_, fun j c hc => ?_, fun j c hc => h3' c (R2.held j c hc), R2.nown, R2.sep, R2.nls, fun z hz => ?_, .cons h5 (dpAll_mono h1 _ _ t2)⟩
  · rcases h4 b hb with z | z
    · exact R2.new b z
    · exact .inr (R2.no0 z)
  · obtain ⟨n1, n2⟩ := notA (c := b) (by rw [z]; simp) hn
    exact h3 b o (R2.keep b o z hn) n1 n2
  · by_cases hj : j = i
    · subst hj
      rw [e1] at z
      cases z
      obtain ⟨g1, g2, g3, _⟩ := R2.slot j _ e1
      exact ⟨g1, g2, g3, hda⟩
    · exact (R2.slot j x z).grow h1 fun c hc o w => h3 c o w (fun y => R2.sep j i hj c hc (by rw [y]; exact ia)) (fun y => R2.sep j i hj c hc (by rw [y]; exact il))
  · cases w : Hi' c with
    | none => rfl
    | some o =>
      rcases h4 c (by rw [w]; simp) with z | z
      · exact absurd (R2.free j c hc) z
      · exact absurd z (R2.held j c hc)
  · obtain ⟨z1, z2, z3⟩ := R2.pin z hz
    refine ⟨h3 _ _ z1 (fun y => z3 i (by rw [y]; exact ia)) (fun y => z3 i (by rw [y]; exact il)), ?_, z3⟩
    cases w : Hi' z.1 with
    | none => rfl
    | some o =>
      rcases h4 z.1 (by rw [w]; simp) with y | y
      · exact absurd z2 y
      · rw [z1] at y; cases y
/-- name = a new source -/
def dMk (g : List D → Prop) (t : TDA) (i : Nat) : TDS := fun dn ρ => t ρ fun r es => i < r.length ∧ g es ∧ ∀ a l, dn.nx (r.set i (.dl a l))
theorem ss_mk {i : Nat} {g : List D → Prop} {ta : TA} {t : TDA} {E : XK} (s : SA K ta t) : SS K (tAsg (tCall (spM K g) [] E ta) (gName i)) (dMk g t i) := by
  refine ⟨fun a b ρ h q => s.mono _ _ _ (fun r es q => ⟨q.1, q.2.1, fun a l => h.nx _ (q.2.2 a l)⟩) q, fun F σ H ρ vs ds En dn G R q => s.run F σ H ρ vs ds _ R (s.mono _ _ _ (fun r es q xs H1 e R1 => ?_) q)⟩
  show spM K g (xs ++ []) H1 _ E
  rw [List.append_nil]
  obtain ⟨hi, q0, q⟩ := q
  obtain ⟨Hi, own, R2⟩ := R1
  obtain ⟨t1, t2⟩ := dpAll_split e R2.tmp
  refine ⟨Hi, es, R2.sub, t1, q0, fun a l ns b H' nal ha hl hs ok => G.nx _ _ _ ?_ (q a l)⟩
  have fr : ∀ {c : Addr}, H' c = none → H1 c = none := fun {c} hc => hs.free hc
  have ne : ∀ {c p : Addr} {o : HO}, H1 c = some o → H' p = none → c ≠ p := fun {c p o} h1 h2 => ne_of_none h1 (fr h2)
  have hH : ∀ c o, H1 c = some o → (upd (upd H' l (.lst (ns.map V.int))) a (.lst [.ref l, .int b])) c = some o := fun c o h => by
    rw [upd_ne (ne h ha), upd_ne (ne h hl)]; exact hs _ _ h
  have dom : ∀ c, H1 c ≠ none → (upd (upd H' l (.lst (ns.map V.int))) a (.lst [.ref l, .int b])) c ≠ none := fun c hc => by
    cases w : H1 c with
    | none => exact absurd w hc
    | some o => rw [hH c o w]; simp
  have no : ∀ {j : Nat} {c : Addr}, c ∈ own j → c ≠ a ∧ c ≠ l := fun {j c} hc => ⟨fun z => R2.held j c hc (by rw [z]; exact fr ha), fun z => R2.held j c hc (by rw [z]; exact fr hl)⟩
  refine ⟨Hi, fun j => if j = i then [a, l] else own j, ⟨R2.base, fun c o h => hH c o (R2.sub c o h), R2.new, fun c o h hn => hH c o (R2.keep c o h hn), fun c h => dom c (R2.dom c h), by rw [List.length_set, List.length_set]; exact R2.len, fun j x z => ?_, fun j c hc => ?_, fun j c hc => ?_, fun j c hc => ?_, fun j k hjk c hc hk => ?_, fun j es' z c hc => ?_, fun z hz => ?_, t2⟩⟩
  · by_cases hj : j = i
    · subst hj
      rw [List.getElem?_set_self hi] at z
      cases z
      rw [List.getElem?_set_self (by rw [R2.len]; exact hi), if_pos rfl]
      exact ⟨rfl, rfl, nal, ns, b, ok, upd_same, by rw [upd_ne (Ne.symm nal), upd_same]⟩
    · rw [List.getElem?_set_ne (Ne.symm hj)] at z ⊢
      rw [if_neg hj]
      exact (R2.slot j x z).grow (Same.refl _) fun c hc o w => hH c o w
  · by_cases hj : j = i
    · rw [if_pos hj] at hc
      rcases List.mem_cons.mp hc with rfl | hc
      · exact R2.noSub (fr ha)
      · obtain rfl : c = l := by simpa using hc
        exact R2.noSub (fr hl)
    · rw [if_neg hj] at hc; exact R2.free j c hc
  · by_cases hj : j = i
    · rw [if_pos hj] at hc
      rcases List.mem_cons.mp hc with rfl | hc
      · rw [upd_same]; simp
      · obtain rfl : c = l := by simpa using hc
        rw [upd_ne (Ne.symm nal), upd_same]; simp
    · rw [if_neg hj] at hc; exact dom c (R2.held j c hc)
  · by_cases hj : j = i
    · rw [if_pos hj] at hc
      rcases List.mem_cons.mp hc with rfl | hc
      · exact .inl (R2.no0 (fr ha))
      · obtain rfl : c = l := by simpa using hc
        exact .inl (R2.no0 (fr hl))
    · rw [if_neg hj] at hc; exact R2.nown j c hc
  · by_cases hj : j = i
    · rw [if_pos hj] at hc
      rw [if_neg (fun z => hjk (hj.trans z.symm))] at hk
      rcases List.mem_cons.mp hc with z | hc
      · exact (no hk).1 z
      · exact (no hk).2 (by simpa using hc)
    · rw [if_neg hj] at hc
      by_cases hki : k = i
      · rw [if_pos hki] at hk
        rcases List.mem_cons.mp hk with z | hk
        · exact (no hc).1 z
        · exact (no hc).2 (by simpa using hk)
      · rw [if_neg hki] at hk; exact R2.sep j k hjk c hc hk
  · by_cases hj : j = i
    · subst hj
      rw [List.getElem?_set_self hi] at z
      cases z
    · rw [if_neg hj] at hc
      rw [List.getElem?_set_ne (Ne.symm hj)] at z
      exact R2.nls j es' z c hc
  · obtain ⟨z1, z2, z3⟩ := R2.pin z hz
    refine ⟨hH _ _ z1, z2, fun j hj => ?_⟩
    by_cases hji : j = i
    · rw [if_pos hji] at hj
      rcases List.mem_cons.mp hj with w | w
      · exact ne z1 ha w
      · exact ne z1 hl (by simpa using w)
    · rw [if_neg hji] at hj; exact z3 j hj
/-! ### the entry of a def -/
theorem start_sh {N : List Str} {Hi : Hp} : ∀ {ds : List D} {vs : List V} {n : Nat} {i : Nat} {x : DV}, DpAll K Hi vs ds → (ds.map DV.sh ++ List.replicate n DV.no)[i]? = some x → x = .no ∨ ∃ d v, x = .sh d ∧ (vs.map some ++ List.replicate n none)[i]? = some (some v) ∧ Dp K Hi v d
  | [], _, n, i, x, h, e => by
    cases h
    left
    have := List.mem_of_getElem? e
    exact (List.mem_replicate.mp (by simpa using this)).2
  | d :: ds, _, n, 0, x, h, e => by
    cases h with
    | cons a b =>
      cases e
      exact .inr ⟨d, _, rfl, rfl, a⟩
  | d :: ds, _, n, i + 1, x, h, e => by
    cases h with
    | cons a b => exact start_sh (N := N) (i := i) b e
def rho0 (ds : List D) (n : Nat) : Rho := ds.map DV.sh ++ List.replicate n DV.no
theorem run_D {N : List Str} {ts : TS} {t : TDS} {Hi : Hp} {Q : VK} {P : D → Prop} (s : SS K ts t) (h1 : Same Hi H) (h2 : DpAll K Hi vs ds) (hq : ∀ d, P d → ∀ v H' Hi', Same Hi Hi' → Same Hi' H' → Same H H' → Fresh Hi Hi' H → Dp K Hi' v d → Q v H')
    (ht : t { nx := fun _ => P .none, rt := fun _ d => P d } (rho0 ds (N.length - ds.length))) : ts { nx := fun _ H' => Q .non H', rt := Q } (start N vs) H := by
  have el := dpAll_len h2
  have back : ∀ σ' H' ρ' v d, Rel K ⟨Hi, H, [], []⟩ σ' H' ρ' [v] [d] → P d → Q v H' := fun σ' H' ρ' v d R p => by
    obtain ⟨Hi', own, R⟩ := R
    have q := R.tmp
    cases q with
    | cons a _ => exact hq d p v H' Hi' R.base R.sub (fun b o e => R.keep b o e (by simp)) (fun b hb => R.new b hb) a
  refine s.run ⟨Hi, H, [], []⟩ (start N vs) H (rho0 ds (N.length - ds.length)) [] [] { nx := fun _ H' => Q .non H', rt := Q } { nx := fun _ => P .none, rt := fun _ d => P d } ⟨fun σ' H' ρ' R p => back σ' H' ρ' .non .none (R.push (v := .non) rfl) p, fun σ' H' ρ' v d R p => back σ' H' ρ' v d R p, fun _ _ _ _ z => z.elim, fun _ _ _ _ z => z.elim, fun _ _ _ _ _ _ _ _ _ _ _ _ z => z.elim, fun _ _ _ _ _ _ _ z => z.elim, fun _ _ _ _ _ _ _ _ _ z => z.elim⟩ ⟨Hi, fun _ => [], ?_⟩ ht
  refine ⟨Same.refl _, h1, fun b hb => .inl hb, fun b o e _ => e, fun b e => e, ?_, fun i x e => ?_, fun i a ha => (by cases ha), fun i a ha => (by cases ha), fun i a ha => (by cases ha), fun i j _ a ha => (by cases ha), fun i es e a ha => (by cases ha), fun z hz => (by cases hz), DpAll.nil⟩
  · unfold L2.start rho0
    rw [List.length_append, List.length_append, List.length_map, List.length_map, List.length_replicate, List.length_replicate, el]
  · unfold rho0 at e
    rcases start_sh (N := N) h2 e with z | ⟨d, v, z, e2, q⟩
    · rw [z]; trivial
    · rw [z]
      refine ⟨v, ?_, q⟩
      unfold L2.start
      rw [el, e2]
      rfl
theorem run_W {N : List Str} {ts : TS} {t : TDS} {Hi : Hp} {a l : Addr} {Q : VK} {P : D → Prop} (s : SS K ts t) (nal : a ≠ l) (h1 : Same Hi H) (ha : Hi a = none) (hl : Hi l = none) (hd : DealAt H a l) (h2 : DpAll K Hi vs ds)
    (hq : ∀ d, P d → ∀ v H' Hi', Same Hi Hi' → Same Hi' H' → (∀ c o, H c = some o → c ≠ a → c ≠ l → H' c = some o) → (∀ c, H c ≠ none → H' c ≠ none) → Fresh Hi Hi' H → DealAt H' a l → Dp K Hi' v d → Q v H')
    (hN : 1 + ds.length ≤ N.length) (ht : t { nx := fun r => r[0]? = some (.dl a l) ∧ P .none, rt := fun r d => r[0]? = some (.dl a l) ∧ P d } (.dl a l :: rho0 ds (N.length - 1 - ds.length))) : ts { nx := fun _ H' => Q .non H', rt := Q } (start N (.ref a :: vs)) H := by
  have el := dpAll_len h2
  have back : ∀ σ' H' ρ' v d, Rel K ⟨Hi, H, [a, l], []⟩ σ' H' ρ' [v] [d] → ρ'[0]? = some (.dl a l) ∧ P d → Q v H' := fun σ' H' ρ' v d R ⟨e, p⟩ => by
    obtain ⟨Hi', own, R⟩ := R
    obtain ⟨_, _, _, da⟩ := R.slot 0 _ e
    have q := R.tmp
    cases q with
    | cons x _ => exact hq d p v H' Hi' R.base R.sub (fun c o e n1 n2 => R.keep c o e (by simp [n1, n2])) R.dom (fun b hb => R.new b hb) da x
  refine s.run ⟨Hi, H, [a, l], []⟩ (start N (.ref a :: vs)) H (.dl a l :: rho0 ds (N.length - 1 - ds.length)) [] [] { nx := fun _ H' => Q .non H', rt := Q } { nx := fun r => r[0]? = some (.dl a l) ∧ P .none, rt := fun r d => r[0]? = some (.dl a l) ∧ P d } ⟨fun σ' H' ρ' R p => back σ' H' ρ' .non .none (R.push (v := .non) rfl) p, fun σ' H' ρ' v d R p => back σ' H' ρ' v d R p, fun _ _ _ _ z => z.elim, fun _ _ _ _ z => z.elim, fun _ _ _ _ _ _ _ _ _ _ _ _ z => z.elim, fun _ _ _ _ _ _ _ z => z.elim, fun _ _ _ _ _ _ _ _ _ z => z.elim⟩ ⟨Hi, fun j => if j = 0 then [a, l] else [], ?_⟩ ht
  have hda := hd
  obtain ⟨ns, b, _, g1, g2⟩ := hda
  refine ⟨Same.refl _, h1, fun b hb => .inl hb, fun b o e _ => e, fun b e => e, ?_, fun i x e => ?_, fun i c hc => ?_, fun i c hc => ?_, fun i c hc => ?_, fun i j hij c hc hk => ?_, fun i es e c hc => ?_, fun z hz => (by cases hz), DpAll.nil⟩
  · unfold L2.start rho0
    simp only [List.length_append, List.length_map, List.length_cons, List.length_replicate]
    omega
  · cases i with
    | zero =>
      cases e
      exact ⟨rfl, rfl, nal, hd⟩
    | succ i =>
      unfold rho0 at e
      rcases start_sh (N := N) h2 e with z | ⟨d, v, z, e2, q⟩
      · rw [z]; trivial
      · rw [z]
        refine ⟨v, ?_, q⟩
        unfold L2.start
        have en : N.length - (V.ref a :: vs).length = N.length - 1 - ds.length := by rw [List.length_cons, el]; omega
        rw [en]
        show ((vs.map some ++ _)[i]?).join = _
        rw [e2]
        rfl
  · by_cases hi : i = 0
    · rw [if_pos hi] at hc
      rcases List.mem_cons.mp hc with rfl | hc
      · exact ha
      · obtain rfl : c = l := by simpa using hc
        exact hl
    · rw [if_neg hi] at hc; cases hc
  · by_cases hi : i = 0
    · rw [if_pos hi] at hc
      rcases List.mem_cons.mp hc with rfl | hc
      · rw [g1]; simp
      · obtain rfl : c = l := by simpa using hc
        rw [g2]; simp
    · rw [if_neg hi] at hc; cases hc
  · by_cases hi : i = 0
    · rw [if_pos hi] at hc; exact .inr hc
    · rw [if_neg hi] at hc; cases hc
  · by_cases hi : i = 0
    · rw [if_neg (fun z => hij (hi.trans z.symm))] at hk; cases hk
    · rw [if_neg hi] at hc; cases hc
  · by_cases hi : i = 0
    · rw [hi] at e; cases e
    · rw [if_neg hi] at hc; cases hc
end
end LD

/-! LD7: more operators and built-in functions: repr, isinstance, + of lists and tuples, chains of comparisons, keywords alone. -/
namespace LD
open PySem PySem.Spec L2
/-! ### rules of the layer below -/
def rCatL (K : PySem.W.Frag) : R2 := fun x y H Q => ∃ a b xs ys, x = .ref a ∧ y = .ref b ∧ SqL K H a xs ∧ SqL K H b ys ∧ xs.length + ys.length ≤ sizeLine ∧ ∀ p, H p = none → Q (.ref p) (upd H p (.lst (xs ++ ys)))
def rReprS : List V → Hp → VK → Prop := fun xs H Q => (∃ i, xs = [.int i] ∧ i.natAbs.log2 < 1920 ∧ Q (.str (PyData.shown (.int i))) H) ∨ ∃ b, xs = [.bl b] ∧ Q (.str (PyData.shown (.bool b))) H
def rReprD (K : PySem.W.Frag) : List V → Hp → VK → Prop := fun xs H Q => ∃ v d, xs = [v] ∧ Dp K H v d ∧ d.showable = true ∧ d.hasDict = false ∧ d.depth ≤ 60 ∧ d.shown.length ≤ sizeLine ∧ Q (.str d.shown) H
section
variable {X : Cx}
theorem op_catL : OpR X (binaryOp .Add) (rCatL X.K) := by
  intro pins s σ H x y v u Q I rx ry h
  obtain ⟨a, b, xs, ys, rfl, rfl, ha, hb, hz, q⟩ := h
  cases rx
  cases ry
  obtain ⟨i1, r1, p1, z1⟩ := I.list ha
  obtain ⟨i2, r2, p2, z2⟩ := I.list hb
  obtain ⟨m, F⟩ := I.fr
  have rr := r1.append r2
  have hl := rr.length
  rw [List.length_append, List.length_append] at hl
  obtain ⟨o1, n1, g1, c1, d1, q1⟩ := p1
  obtain ⟨o2, n2, g2, c2, d2, q2⟩ := p2
  obtain ⟨k1, u1, w1, sl1⟩ := o1
  obtain ⟨k2, u2, w2, sl2⟩ := o2
  simp only at c1 d1 q1 c2 d2 q2
  subst c1 d1 q1 c2 d2 q2
  have hz' : i1.toArray.size + i2.toArray.size ≤ sizeLine := by
    rw [List.size_toArray, List.size_toArray]
    omega
  refine concat_meets ⟨_, g1, rfl⟩ ⟨_, g2, rfl⟩
    noFill_list_add seq_list_add
    PySem.F.slot_list_add PySem.F.entry_list_add
    (PySem.F.args_list_add_2 _ _)
    (PyProof.Rows.list_addW a b i1.toArray i2.toArray n1 n2 none none sl1 sl2 hz') ⟨g1, g2, ?_⟩
  have ea : i1.toArray ++ i2.toArray = (i1 ++ i2).toArray := by simp
  rw [ea]
  exact ⟨.ref _, _, I.lnew (t' := s.toks) rr (by rw [List.length_append]; omega), rfl, q _ I.fresh⟩
theorem call_reprS : CallR X (.builtin "repr") rReprS := by
  intro pins s σ H xs us Q I r h
  rcases h with ⟨i, rfl, hz, q⟩ | ⟨b, rfl, q⟩
  · obtain ⟨u, rfl, t, rfl⟩ := vals1 r
    exact PySem.P.repr_of_int hz ⟨.str _, H, I.tok _, ⟨_, rfl⟩, q⟩
  · obtain ⟨u, rfl, ru⟩ := vals1 r
    cases ru
    exact PySem.P.repr_of_bool ⟨.str _, H, I.tok _, ⟨_, rfl⟩, q⟩
theorem call_reprD (hg : X.A.guards = some []) (hu : X.A.units + 64 < cLine) : CallR X (.builtin "repr") (rReprD X.K) := by
  intro pins s σ H xs us Q I r h
  obtain ⟨v, d, rfl, hd, hs, hn, hdp, hsz, q⟩ := h
  obtain ⟨u, rfl, ru⟩ := vals1 r
  have hR := Dp.reads I d v u hd ru
  cases hd with
  | non => cases ru; exact PySem.P.repr_of_none ⟨.str _, H, I.tok _, ⟨_, rfl⟩, q⟩
  | bl b => cases ru; exact PySem.P.repr_of_bool ⟨.str _, H, I.tok _, ⟨_, rfl⟩, q⟩
  | int i => obtain ⟨t, rfl⟩ := ru; exact PySem.P.repr_of_int (of_decide_eq_true hs) ⟨.str _, H, I.tok _, ⟨_, rfl⟩, q⟩
  | str x => obtain ⟨t, rfl⟩ := ru; exact PySem.P.repr_of_str ⟨.str _, H, I.tok _, ⟨_, rfl⟩, q⟩ hsz
  | lst a b =>
    cases ru
    obtain ⟨as, rd⟩ := hR
    exact repr_of_reads' rd hs (fun e => by rw [hn] at e; cases e) hg (by omega) (fun _ _ e => e) (fun h' u tk hk => ⟨.str _, H, I.kept (t' := tk) hk, ⟨u, rfl⟩, q⟩) hsz
  | tup a b =>
    cases ru
    obtain ⟨as, rd⟩ := hR
    exact repr_of_reads' rd hs (fun e => by rw [hn] at e; cases e) hg (by omega) (fun _ _ e => e) (fun h' u tk hk => ⟨.str _, H, I.kept (t' := tk) hk, ⟨u, rfl⟩, q⟩) hsz
variable {CX : CXT} {k : Nat} {f : Addr} {fd : FuncData} {ps ks : List Str} {sp : Sp} {E : XK} {x : Str} {p pos : Pos} {kws : List Keyword} {tk : TA} {g : List Value → List Value → List Value} {gV : List V → List V → List V}
/-- f(k = v, ..) -/
theorem pe_callK0 (F : FnOk X.prog X.w X.K X.mg X.base CX k f fd ps sp) (hr : Room k X.A) (hg : Gl X x) (hm : X.mg x = some (.ref f)) (hk : PySem.W.keepIn X.K (.ref f) = true) (hb : KBinds X.K fd ps ks g gV) (hx : Passes CX X E) (hkw : PK X kws tk)
    (hall : (backToKw pos (keywordEach kws X.env)).all (·.1.isSome) = true := by rfl) (hks : (backToKw pos (keywordEach kws X.env)).filterMap (·.1) = ks := by rfl) (hdb : (x == ("__debug__" : Str)) = false := by decide)
    (hpl : ((backTo pos (starEach [] X.env)).any (·.1) || (backToKw pos (keywordEach kws X.env)).any (·.1.isNone)) = false := by rfl) : PE X (.Call (.Name x p) [] kws pos) (tCallK sp gV E tNil tk) := by
  refine ⟨fun pins s σ H Q I h => wpAny_Call_Name_kw (ld_glob I hg hm ?_ hdb)⟩
  refine PySem.W.callWith_KW0 (h₀ := X.base) I.ok.mod.kin hk hall (thn (hkw.run pos pins s σ H _ I h) fun ws s2 ⟨zs, H2, I2, rz, q2⟩ => ⟨I2.kIn, ?_⟩) hpl
  rw [hks]
  exact run_fnk (us := []) F hr hb hx I2 .nil rz q2
end
/-! ### over data -/
section
variable {K : PySem.W.Frag} {ta tb tc te : TE} {a b c e : TD}
def cReprS : CD := fun es P => (∃ i : Int, es = [.int i] ∧ i.natAbs.log2 < 1920 ∧ P (.str (PyData.shown (.int i)))) ∨ ∃ b, es = [.bool b] ∧ P (.str (PyData.shown (.bool b)))
theorem sc_reprS : SC K rReprS cReprS := by
  refine ⟨fun a P P' h q => ?_, fun F σ H ρ vs ds xs es Q e R q => ?_⟩
  · rcases q with ⟨i, e, z, q⟩ | ⟨b, e, q⟩
    · exact .inl ⟨i, e, z, h _ q⟩
    · exact .inr ⟨b, e, h _ q⟩
  · rcases q with ⟨i, e1, z, q⟩ | ⟨b, e1, q⟩
    · subst e1
      obtain ⟨x, r, rfl, e2⟩ := len_cons e
      obtain rfl := len_nil e2
      obtain rfl := Rel.int R
      exact .inl ⟨i, rfl, z, q _ _ (Rel.push (v := .str (PyData.shown (.int i))) R.drop rfl)⟩
    · subst e1
      obtain ⟨x, r, rfl, e2⟩ := len_cons e
      obtain rfl := len_nil e2
      obtain rfl := Rel.bl R
      exact .inr ⟨b, rfl, q _ _ (Rel.push (v := .str (PyData.shown (.bool b))) R.drop rfl)⟩
def cReprD : CD := fun es P => ∃ d : D, es = [d] ∧ d.showable = true ∧ d.hasDict = false ∧ d.depth ≤ 60 ∧ d.shown.length ≤ sizeLine ∧ P (.str d.shown)
theorem sc_reprD : SC K (rReprD K) cReprD := by
  refine ⟨fun a P P' h ⟨d, e, h1, h2, h3, h4, q⟩ => ⟨d, e, h1, h2, h3, h4, h _ q⟩, fun F σ H ρ vs ds xs es Q e R ⟨d, e1, h1, h2, h3, h4, q⟩ => ?_⟩
  subst e1
  obtain ⟨x, r, rfl, e2⟩ := len_cons e
  obtain rfl := len_nil e2
  exact ⟨x, d, rfl, Rel.dp R, h1, h2, h3, h4, q _ _ (Rel.push (v := .str d.shown) (Rel.drop R) rfl)⟩
/-! isinstance -/
def typD : D → String
  | .none => "NoneType" | .bool _ => "bool" | .int _ => "int" | .str _ => "str" | .list _ => "list" | .tuple _ => "tuple" | .dict _ => "dict"
theorem tyx_of {H : Hp} {v : V} {d : D} (h : Dp K H v d) : TyX K H v (.type (typD d)) := by
  cases h with
  | non => exact .base .non
  | bl b => exact .base (.bl b)
  | int i => exact .base (.int i)
  | str x => exact .base (.str x)
  | lst s _ =>
    rcases s with (s | ⟨o, s⟩) | ⟨o, its, n, s, c, _⟩
    · exact .base (.lst s)
    · exact .base (.frz s)
    · exact .kList s c
  | tup s _ =>
    rcases s with (s | ⟨o, s⟩) | ⟨o, its, n, s, c, _⟩
    · exact .base (.tup s)
    · exact .fTuple s
    · exact .kTuple s c
/-- x is an instance of the class of this name -/
structure IsiD (K : PySem.W.Frag) (n : String) (f : D → Bool) : Prop where
  ok : ∀ d, PySem.W.kitOne K (.type (typD d)) (.type n) = some (f d)
def dIsi (f : D → Bool) (a : TD) : TD := fun ρ P => a ρ fun r d => P r (.bool (f d))
theorem se_isi {n : String} {f : D → Bool} (k : IsiD K n f) (s : SE K te e) : SE K (tCB (rIsi K) (tCons te (tCons (tC (.ty n)) tNil))) (dIsi f e) := ⟨fun ρ P P' h q => s.mono _ _ _ (fun _ d q => h _ _ q) q, fun F σ H ρ vs ds Q R q =>
  s.run F σ H ρ vs ds _ R (s.mono _ _ _ (fun r d q v H1 R1 => ⟨v, .ty n, _, _, f d, rfl, .ty n, tyx_of R1.dp, k.ok d, q _ _ (Rel.push (v := .bl (f d)) R1.drop rfl)⟩) q)⟩
def dIsiT (f : D → Bool) (a : TD) : TD := dIsi f a
/-- + -/
def dCatL (a b : TD) : TDA := fun ρ P => a ρ fun r1 x => b r1 fun r2 y => ∃ es fs, x = .list es ∧ y = .list fs ∧ es.length + fs.length ≤ sizeLine ∧ P r2 (es ++ fs)
theorem sf_catL (sa : SE K ta a) (sb : SE K tb b) : SF K (tOp (rCatL K) ta tb) (dCatL a b) := by
  refine ⟨fun ρ P P' h q => sa.mono _ _ _ (fun _ x q => sb.mono _ _ _ (fun _ y ⟨es, fs, e1, e2, z, q⟩ => ⟨es, fs, e1, e2, z, h _ _ q⟩) q) q, fun F σ H ρ vs ds Q R q => ?_⟩
  refine sa.run F σ H ρ vs ds _ R (sa.mono _ _ _ (fun r1 x q1 v H1 R1 => ?_) q)
  refine sb.run F σ H1 r1 _ _ _ R1 (sb.mono _ _ _ (fun r2 y q2 u H2 R2 => ?_) q1)
  obtain ⟨es, fs, e1, e2, z, q3⟩ := q2
  subst e1 e2
  obtain ⟨Hi, own, R5⟩ := R2
  have t := R5.tmp
  cases t with
  | cons t2 t =>
    cases t with
    | cons t1 t =>
      cases t1 with
      | lst w1 g1 =>
        cases t2 with
        | lst w2 g2 =>
          have g3 := dpAll_app g1 g2
          exact ⟨_, _, _, _, rfl, rfl, R5.sub.seq w1, R5.sub.seq w2, by rw [dpAll_len g1, dpAll_len g2]; exact z, fun p hp => q3 _ _ p (dpAll_len g3) ⟨Hi, own, R5.tmpTo (dpAll_app g3 t)⟩ hp⟩
end
end LD

/-! LD8: chains of comparisons, keywords, + of tuples, returns of a new source; short words for a whole def. -/
namespace LD
open PySem PySem.Spec L2
section
variable {K : PySem.W.Frag} {ta tb tc te : TE} {a b c e : TD}
def dChain (o o' : OD) (a b c : TD) : TD := fun ρ P => a ρ fun r1 x => b r1 fun r2 y => o x y fun z => ∃ k, z = .bool k ∧ if k = true then c r2 (fun r3 w => o' y w (P r3)) else P r2 (.bool false)
theorem se_chain {r r' : R2} {o o' : OD} (so : SO K r o) (so' : SO K r' o') (sa : SE K ta a) (sb : SE K tb b) (sc : SE K tc c) : SE K (tChain r r' ta tb tc) (dChain o o' a b c) := by
  refine ⟨fun ρ P P' h q => sa.mono _ _ _ (fun _ x q => sb.mono _ _ _ (fun _ y q => so.mono _ _ _ _ (fun z q => ?_) q) q) q, fun F σ H ρ vs ds Q R q => ?_⟩
  · obtain ⟨k, e, q⟩ := q
    refine ⟨k, e, ?_⟩
    cases k with
    | true => exact sc.mono _ _ _ (fun _ w q => so'.mono _ _ _ _ (h _) q) q
    | false => exact h _ _ q
  · refine sa.run F σ H ρ vs ds _ R (sa.mono _ _ _ (fun r1 x q v H1 R1 => ?_) q)
    refine sb.run F σ H1 r1 _ _ _ R1 (sb.mono _ _ _ (fun r2 y q u H2 R2 => ?_) q)
    refine so.run F σ H2 r2 (u :: vs) (y :: ds) v u x y _ (R2.swap fun _ h => ?_) (so.mono _ _ _ _ (fun z q w H3 R3 => ?_) q)
    · cases h with
      | cons h1 h => cases h with | cons h2 h => exact .cons h1 (.cons h2 (.cons h1 h))
    · obtain ⟨k, e, q⟩ := q
      subst e
      refine ⟨k, R3.bl, ?_⟩
      cases k with
      | true =>
        refine sc.run F σ H3 r2 _ _ _ R3.drop (sc.mono _ _ _ (fun r3 w q w' H4 R4 => ?_) q)
        exact so'.run F σ H4 r3 vs ds u w' y w Q R4 q
      | false => exact q _ _ (R3.drop.drop.push (v := .bl false) rfl)
/-- + of tuples -/
def oCatT : OD := fun a b P => ∃ es fs, a = .tuple es ∧ b = .tuple fs ∧ es.length + fs.length ≤ sizeLine ∧ P (.tuple (es ++ fs))
theorem so_catT : SO K (rCatA K) oCatT := by
  refine ⟨fun a b P P' h ⟨es, fs, e1, e2, z, q⟩ => ⟨es, fs, e1, e2, z, h _ q⟩, fun F σ H ρ vs ds x y a b Q R q => ?_⟩
  obtain ⟨es, fs, e1, e2, z, q⟩ := q
  subst e1 e2
  obtain ⟨Hi, own, R5⟩ := R
  have t := R5.tmp
  cases t with
  | cons t2 t =>
    cases t with
    | cons t1 t =>
      cases t1 with
      | tup w1 g1 =>
        cases t2 with
        | tup w2 g2 =>
          have g3 := dpAll_app g1 g2
          have l1 := dpAll_len g1
          have l2 := dpAll_len g2
          refine ⟨_, _, _, _, rfl, rfl, sqT_mono R5.sub w1, sqT_mono R5.sub w2, by rw [l1, l2]; exact z, fun h => ?_, fun _ h => ?_, fun _ _ p hp => ?_⟩
          · rw [h] at l1
            have e : es = [] := List.length_eq_zero_iff.mp l1.symm
            subst e
            exact q _ _ ⟨Hi, own, R5.tmpTo (.cons (.tup w2 g2) t)⟩
          · rw [h] at l2
            have e : fs = [] := List.length_eq_zero_iff.mp l2.symm
            subst e
            rw [List.append_nil] at q
            exact q _ _ ⟨Hi, own, R5.tmpTo (.cons (.tup w1 g1) t)⟩
          · exact q _ _ (Rel.tup ⟨Hi, own, R5.tmpTo (dpAll_app g3 t)⟩ (dpAll_len g3) hp)
/-! keywords -/
def ordP {α : Type} (n m : Nat) (o : List Nat) (xs zs : List α) : List α := if xs.length = n ∧ zs.length = m then o.filterMap fun i => (xs ++ zs)[i]? else []
theorem dpAll_pick {H : Hp} {es : List D} {xs : List V} (h : DpAll K H xs es) : ∀ o : List Nat, DpAll K H (o.filterMap fun i => xs[i]?) (o.filterMap fun i => es[i]?)
  | [] => .nil
  | i :: o => by
    have hl := dpAll_len h
    cases he : es[i]? with
    | none =>
      have hx : xs[i]? = none := by
        have := List.getElem?_eq_none_iff.mp he
        exact List.getElem?_eq_none_iff.mpr (by omega)
      rw [List.filterMap_cons_none hx, List.filterMap_cons_none he]
      exact dpAll_pick h o
    | some d =>
      obtain ⟨v, hv, q⟩ := dpAll_at h he
      rw [List.filterMap_cons_some hv, List.filterMap_cons_some he]
      exact .cons q (dpAll_pick h o)
theorem vals_pick {xs : List V} {us : List Value} (h : Vals xs us) : ∀ o : List Nat, Vals (o.filterMap fun i => xs[i]?) (o.filterMap fun i => us[i]?)
  | [] => .nil
  | i :: o => by
    cases he : xs[i]? with
    | none =>
      rw [List.filterMap_cons_none he, List.filterMap_cons_none (h.none_of he)]
      exact vals_pick h o
    | some d =>
      obtain ⟨v, hv, q⟩ := h.get he
      rw [List.filterMap_cons_some he, List.filterMap_cons_some hv]
      exact .cons q (vals_pick h o)
theorem dpAll_ord {H : Hp} {es fs : List D} {xs zs : List V} (h : DpAll K H xs es) (k : DpAll K H zs fs) (n m : Nat) (o : List Nat) : DpAll K H (ordP n m o xs zs) (ordP n m o es fs) := by
  unfold ordP
  rw [dpAll_len h, dpAll_len k]
  split
  · exact dpAll_pick (dpAll_app h k) o
  · exact .nil
theorem vals_ord {xs zs : List V} {us ws : List Value} (h : Vals xs us) (k : Vals zs ws) (n m : Nat) (o : List Nat) : Vals (ordP n m o xs zs) (ordP n m o us ws) := by
  unfold ordP
  rw [h.length, k.length]
  split
  · exact vals_pick (h.append k) o
  · exact .nil
/-- how a call with n arguments by place and the keywords ks binds -/
theorem kb_mk {x qual : Str} {st : Stmt} {f : Addr} {fd : FuncData} {ps ks : List Str} {n m : Nat} {o : List Nat} (F : Fun K x qual st f fd) (hp : ps ≠ [])
    (h : ∀ (kV doc pm : Value) (an : Option Addr) (cdv ct : Value) (us ws : List Value), us.length = n → ws.length = m → bindArgs (PySem.W.fnOf x qual (defArgs st) (defBody st) (defScope st) .none kV doc pm an cdv ct) ⟨us, ks.zip ws⟩ = pure (ps.zip (ordP n m o us ws))) : KBinds K fd ps ks (ordP n m o) (ordP n m o) := by
  obtain ⟨oc, od, kV, doc, pm, an, cdv, ct, osl, rfl, lk, hcd⟩ := F.ex
  refine ⟨fun s us ws hK hl => .of_eq (h _ _ _ _ _ _ us ws ?_ ?_), fun r k => vals_ord r k n m o⟩
  all_goals
    by_cases hc : us.length = n ∧ ws.length = m
    · first | exact hc.1 | exact hc.2
    · unfold ordP at hl
      rw [if_neg hc] at hl
      exact absurd (List.length_eq_zero_iff.mp hl.symm) hp
def dCallK (n m : Nat) (o : List Nat) (g : CD) (t tk : TDA) : TD := fun ρ P => t ρ fun r es => tk r fun r2 fs => g (ordP n m o es fs) (P r2)
theorem se_callK {n m : Nat} {o : List Nat} {g : CD} {ta tk : TA} {t u : TDA} {E : XK} (hg : ∀ es P P', (∀ d, P d → P' d) → g es P → g es P') (s : SA K ta t) (s' : SA K tk u) : SE K (tCallK (spD K g) (ordP n m o) E ta tk) (dCallK n m o g t u) := by
  refine ⟨fun ρ P P' h q => s.mono _ _ _ (fun _ es q => s'.mono _ _ _ (fun _ fs q => hg _ _ _ (h _) q) q) q, fun F σ H ρ vs ds Q R q => s.run F σ H ρ vs ds _ R (s.mono _ _ _ (fun r es q xs H1 e R1 => ?_) q)⟩
  refine s'.run F σ H1 r _ _ _ R1 (s'.mono _ _ _ (fun r2 fs q zs H2 e2 R2 => ?_) q)
  obtain ⟨Hi, own, R3⟩ := R2
  obtain ⟨t1, t2⟩ := dpAll_split e2 R3.tmp
  obtain ⟨t3, t4⟩ := dpAll_split e t2
  exact ⟨Hi, ordP n m o es fs, R3.sub, dpAll_ord t3 t1 n m o, hg _ _ _ (fun d q v H' Hi' h1 h2 h3 h4 h5 => q v H' ⟨Hi', own, R3.after h1 h2 h3 h4 (.cons h5 (dpAll_mono h1 _ _ t4))⟩) q⟩
/-! return [great numbers, a mixed number] -/
def dRetM (t : TDA) (e : TD) : TDS := fun dn ρ => t ρ fun r es => e r fun r2 d => ∃ ns b, es = ns.map PyData.int ∧ d = .int b ∧ DealOk ns b ∧ dn.rm r2
theorem ss_retM {tf : TE} {t : TDA} (sf : SF K tf t) (se : SE K te e) : SS K (tRet (tLst (tCons tf (tCons te tNil)))) (dRetM t e) := by
  refine ⟨fun a b ρ h q => sf.mono _ _ _ (fun _ es q => se.mono _ _ _ (fun _ d ⟨ns, k, e1, e2, ok, q⟩ => ⟨ns, k, e1, e2, ok, h.rm _ q⟩) q) q, fun F σ H ρ vs ds E dn G R q => ?_⟩
  refine sf.run F σ H ρ vs ds _ R (sf.mono _ _ _ (fun r es q xs H1 p el R1 hp => ?_) q)
  have f0 := R1.pinFree hp
  refine se.run (F.mk1 p (.lst xs)) σ _ r _ _ _ (R1.pinNew hp) (se.mono _ _ _ (fun r2 d q4 v H2 R2 => ?_) q)
  obtain ⟨ns, b, e1, e2, ok, q5⟩ := q4
  subst e1 e2
  obtain rfl := R2.int
  refine ⟨by show 2 ≤ sizeLine; decide, fun p2 hp2 => ?_⟩
  obtain ⟨u1, u2, u3⟩ := R2.unpin f0.1 f0.2
  have ex : xs = ns.map V.int := ints_of (K := K) ns xs (dpAll_split el u3.drop.dpAll).1
  have n2 : p2 ≠ p := fun z => by rw [z, R2.pinAt] at hp2; cases hp2
  have h3 : (hide H2 p) p2 = none := by unfold hide; rw [if_neg n2]; exact hp2
  rw [u2, ex]
  exact G.rm _ _ _ p2 p ns b (u3.drop.dropN el) n2 h3 u1 ok q5
/-- the entry of a def that makes a source -/
theorem run_M {N : List Str} {ts : TS} {t : TDS} {Hi H : Hp} {vs : List V} {ds : List D} {Q : VK} (s : SS K ts t) (h1 : Same Hi H) (h2 : DpAll K Hi vs ds)
    (hq : ∀ a l ns b H', a ≠ l → H' a = none → H' l = none → Same H H' → DealOk ns b → Q (.ref a) (upd (upd H' l (.lst (ns.map V.int))) a (.lst [.ref l, .int b])))
    (ht : t { nx := fun _ => False, rt := fun _ _ => False, rm := fun _ => True } (rho0 ds (N.length - ds.length))) : ts { nx := fun _ H' => Q .non H', rt := Q } (L2.start N vs) H := by
  have el := dpAll_len h2
  refine s.run ⟨Hi, H, [], []⟩ (L2.start N vs) H (rho0 ds (N.length - ds.length)) [] [] { nx := fun _ H' => Q .non H', rt := Q } { nx := fun _ => False, rt := fun _ _ => False, rm := fun _ => True } ⟨fun _ _ _ _ z => z.elim, fun _ _ _ _ _ _ z => z.elim, fun _ _ _ _ z => z.elim, fun _ _ _ _ z => z.elim, fun σ' H' ρ' a l ns b R n ha hl ok _ => ?_, fun _ _ _ _ _ _ _ z => z.elim, fun _ _ _ _ _ _ _ _ _ z => z.elim⟩ ⟨Hi, fun _ => [], ?_⟩ ht
  · obtain ⟨Hi', own, R⟩ := R
    exact hq a l ns b H' n ha hl (fun b o e => R.keep b o e (by simp)) ok
  · refine ⟨Same.refl _, h1, fun b hb => .inl hb, fun b o e _ => e, fun b e => e, ?_, fun i x e => ?_, fun i a ha => (by cases ha), fun i a ha => (by cases ha), fun i a ha => (by cases ha), fun i j _ a ha => (by cases ha), fun i es e a ha => (by cases ha), fun z hz => (by cases hz), DpAll.nil⟩
    · unfold L2.start rho0
      rw [List.length_append, List.length_append, List.length_map, List.length_map, List.length_replicate, List.length_replicate, el]
    · unfold rho0 at e
      rcases start_sh (N := N) h2 e with z | ⟨d, v, z, e2, q⟩
      · rw [z]; trivial
      · rw [z]
        refine ⟨v, ?_, q⟩
        unfold L2.start
        rw [el, e2]
        rfl
end
/-! ### a whole def -/
section
variable {P : Program} {w : World} {K : PySem.W.Frag} {mg : Str → Option Value} {base : Heap}
theorem ok_D {x qual : Str} {st : Stmt} {f : Addr} {fd : FuncData} {N ps : List Str} {k : Nat} {g : CD} (F : Fun K x qual st f fd) (S : FnScope N ps (defScope st)) (hl : ∀ ds P, g ds P → ds.length = ps.length)
    (hbody : ∀ (cdv : Value) (A : Around) (outer : List Env) (s : Shared) (H : Hp) (E : XK), Room k (A.deeper (PyProof.Rows.envOfC qual (defScope st) s.heap.objs.size f cdv)) →
      ∃ ts t, PSs (cxOf CX0 P w K mg base N qual (defScope st) f cdv A outer s H E).nox (defBody st) ts ∧ SS K ts t ∧ ∀ ds Pd, g ds Pd → t { nx := fun _ => Pd .none, rt := fun _ d => Pd d } (rho0 ds (N.length - ds.length))) : FnOk P w K mg base CX0 (k + 1) f fd ps (spD K g) := by
  refine F.ok S (fun vs H Q E h => ?_) (fun cdv A outer s H vs Q E hr h => ?_)
  · obtain ⟨Hi, ds, _, h2, hg⟩ := h
    rw [dpAll_len h2]
    exact hl _ _ hg
  · obtain ⟨ts, t, h1, h2, h3⟩ := hbody cdv A outer s H E hr
    obtain ⟨Hi, ds, e1, e2, hg⟩ := h
    exact ⟨ts, h1, run_D h2 e1 e2 (fun d q => q) (h3 ds _ hg)⟩
theorem ok_W {x qual : Str} {st : Stmt} {f : Addr} {fd : FuncData} {N ps : List Str} {k : Nat} {g : CD} (F : Fun K x qual st f fd) (S : FnScope N ps (defScope st)) (hl : ∀ ds P, g ds P → 1 + ds.length = ps.length) (hN : ps.length ≤ N.length)
    (hbody : ∀ (cdv : Value) (A : Around) (outer : List Env) (s : Shared) (H : Hp) (E : XK), Room k (A.deeper (PyProof.Rows.envOfC qual (defScope st) s.heap.objs.size f cdv)) →
      ∃ ts t, PSs (cxOf CX0 P w K mg base N qual (defScope st) f cdv A outer s H E).nox (defBody st) ts ∧ SS K ts t ∧ ∀ a l ds Pd, g ds Pd → t { nx := fun r => r[0]? = some (.dl a l) ∧ Pd .none, rt := fun r d => r[0]? = some (.dl a l) ∧ Pd d } (.dl a l :: rho0 ds (N.length - 1 - ds.length))) : FnOk P w K mg base CX0 (k + 1) f fd ps (spW K g) := by
  refine F.ok S (fun vs H Q E h => ?_) (fun cdv A outer s H vs Q E hr h => ?_)
  · obtain ⟨Hi, a, l, vs', ds, rfl, _, _, _, _, _, h2, hg⟩ := h
    rw [List.length_cons, dpAll_len h2, ← hl _ _ hg]
    omega
  · obtain ⟨ts, t, h1, h2, h3⟩ := hbody cdv A outer s H E hr
    obtain ⟨Hi, a, l, vs', ds, rfl, n, e1, ea, el, ed, e2, hg⟩ := h
    exact ⟨ts, h1, run_W h2 n e1 ea el ed e2 (fun d q => q) (by rw [hl _ _ hg]; exact hN) (h3 a l ds _ hg)⟩
theorem ok_M {x qual : Str} {st : Stmt} {f : Addr} {fd : FuncData} {N ps : List Str} {k : Nat} {g : List D → Prop} (F : Fun K x qual st f fd) (S : FnScope N ps (defScope st)) (hl : ∀ ds, g ds → ds.length = ps.length)
    (hbody : ∀ (cdv : Value) (A : Around) (outer : List Env) (s : Shared) (H : Hp) (E : XK), Room k (A.deeper (PyProof.Rows.envOfC qual (defScope st) s.heap.objs.size f cdv)) →
      ∃ ts t, PSs (cxOf CX0 P w K mg base N qual (defScope st) f cdv A outer s H E).nox (defBody st) ts ∧ SS K ts t ∧ ∀ ds, g ds → t { nx := fun _ => False, rt := fun _ _ => False, rm := fun _ => True } (rho0 ds (N.length - ds.length))) : FnOk P w K mg base CX0 (k + 1) f fd ps (spM K g) := by
  refine F.ok S (fun vs H Q E h => ?_) (fun cdv A outer s H vs Q E hr h => ?_)
  · obtain ⟨Hi, ds, _, h2, hg, _⟩ := h
    rw [dpAll_len h2]
    exact hl _ hg
  · obtain ⟨ts, t, h1, h2, h3⟩ := hbody cdv A outer s H E hr
    obtain ⟨Hi, ds, e1, e2, hg, hq⟩ := h
    exact ⟨ts, h1, run_M h2 e1 e2 hq (h3 ds hg)⟩
end
end LD

/-! LD9: defs by name, with keywords too. -/
namespace LD
open PySem PySem.Spec L2
theorem st_yes {K : PySem.W.Frag} : ST K tYes (fun ρ P => P ρ true) := ⟨fun ρ P P' h q => h _ _ q, fun F σ H ρ vs ds Q R q => q H R⟩
theorem bools_of {K : PySem.W.Frag} {H : Hp} : ∀ (ns : List Bool) (vs : List V), DpAll K H vs (ns.map PyData.bool) → vs = ns.map V.bl
  | [], _, h => by cases h; rfl
  | n :: ns, _, h => by
    cases h with
    | cons a b =>
      cases a
      rw [bools_of ns _ b]
      rfl
def cAll : CD := fun es P => ∃ bs : List Bool, es = [.list (bs.map PyData.bool)] ∧ P (.bool (bs.all id))
def cAny : CD := fun es P => ∃ bs : List Bool, es = [.list (bs.map PyData.bool)] ∧ P (.bool (bs.any id))
def cSum : CD := fun es P => ∃ ns : List Int, es = [.list (ns.map PyData.int)] ∧ P (.int ns.sum)
theorem sc_all {K : PySem.W.Frag} : SC K (rAll K) cAll := ⟨fun a P P' h ⟨bs, e, q⟩ => ⟨bs, e, h _ q⟩, fun F σ H ρ vs ds xs es Q e R ⟨bs, h, q⟩ => by
  subst h
  obtain ⟨x, r, rfl, e1⟩ := len_cons e
  obtain rfl := len_nil e1
  obtain ⟨p, ys, rfl, e2, s, R1⟩ := Rel.asList R
  have ey := bools_of (K := K) bs ys (dpAll_split e2 R1.dpAll).1
  subst ey
  exact ⟨p, bs, rfl, s, q _ _ (Rel.push (v := .bl (bs.all id)) (Rel.drop R) rfl)⟩⟩
theorem sc_any {K : PySem.W.Frag} : SC K (rAny K) cAny := ⟨fun a P P' h ⟨bs, e, q⟩ => ⟨bs, e, h _ q⟩, fun F σ H ρ vs ds xs es Q e R ⟨bs, h, q⟩ => by
  subst h
  obtain ⟨x, r, rfl, e1⟩ := len_cons e
  obtain rfl := len_nil e1
  obtain ⟨p, ys, rfl, e2, s, R1⟩ := Rel.asList R
  have ey := bools_of (K := K) bs ys (dpAll_split e2 R1.dpAll).1
  subst ey
  exact ⟨p, bs, rfl, s, q _ _ (Rel.push (v := .bl (bs.any id)) (Rel.drop R) rfl)⟩⟩
theorem sc_sum {K : PySem.W.Frag} : SC K (rSum K) cSum := ⟨fun a P P' h ⟨bs, e, q⟩ => ⟨bs, e, h _ q⟩, fun F σ H ρ vs ds xs es Q e R ⟨bs, h, q⟩ => by
  subst h
  obtain ⟨x, r, rfl, e1⟩ := len_cons e
  obtain rfl := len_nil e1
  obtain ⟨p, ys, rfl, e2, s, R1⟩ := Rel.asList R
  have ey := ints_of (K := K) bs ys (dpAll_split e2 R1.dpAll).1
  subst ey
  exact ⟨p, bs, rfl, s, q _ _ (Rel.push (v := .int bs.sum) (Rel.drop R) rfl)⟩⟩
structure CalK (P : Program) (w : World) (K : PySem.W.Frag) (mg : Str → Option Value) (base : Heap) (k : Nat) (x : Str) (ks : List Str) (n m : Nat) (o : List Nat) (sp : Sp) : Prop where
  ex : ∃ (f : Addr) (fd : FuncData) (ps : List Str), FnOk P w K mg base CX0 k f fd ps sp ∧ mg x = some (.ref f) ∧ PySem.W.keepIn K (.ref f) = true ∧ KBinds K fd ps ks (ordP n m o) (ordP n m o)
section
variable {X : Cx} {k j n m : Nat} {o : List Nat} {ks : List Str} {sp : Sp} {x : Str} {p pos : Pos} {e : Expr} {es : List Expr} {kws : List Keyword} {t tk : TA}
theorem pe_cK0 (c : CalK X.prog X.w X.K X.mg X.base k x ks n m o sp) (hr : Room j X.A) (hk : k ≤ j) (hg : Gl X x) (hkw : PK X kws tk)
    (hall : (backToKw pos (keywordEach kws X.env)).all (·.1.isSome) = true := by rfl) (hks : (backToKw pos (keywordEach kws X.env)).filterMap (·.1) = ks := by rfl) (hdb : (x == ("__debug__" : Str)) = false := by decide)
    (hpl : ((backTo pos (starEach [] X.env)).any (·.1) || (backToKw pos (keywordEach kws X.env)).any (·.1.isNone)) = false := by rfl) : PE X (.Call (.Name x p) [] kws pos) (tCallK sp (ordP n m o) E0 tNil tk) := by
  obtain ⟨f, fd, ps, F, hm, kp, b⟩ := c.ex
  exact pe_callK0 F (hr.mono hk) hg hm kp b pass0 hkw hall hks hdb hpl
end
section
variable {P : Program} {w : World} {K : PySem.W.Frag} {mg : Str → Option Value} {base : Heap} {k : Nat} {x : Str} {f : Addr} {fd : FuncData} {ps : List Str} {sp : Sp}
theorem cal_of (F : FnOk P w K mg base CX0 k f fd ps sp) (g : mg x = some (.ref f)) (kp : PySem.W.keepIn K (.ref f) = true) (b : Binds K fd ps []) : C8.Cal P w K mg base k x sp [] := ⟨⟨f, fd, ps, [], F, g, kp, b, .nil⟩⟩
theorem calK_of {ks : List Str} {n m : Nat} {o : List Nat} (F : FnOk P w K mg base CX0 k f fd ps sp) (g : mg x = some (.ref f)) (kp : PySem.W.keepIn K (.ref f) = true) (b : KBinds K fd ps ks (ordP n m o) (ordP n m o)) : CalK P w K mg base k x ks n m o sp := ⟨⟨f, fd, ps, F, g, kp, b⟩⟩
end
end LD

/-! LD10: comprehensions told as lists; small facts for readings. -/
namespace LD
open PySem PySem.Spec L2
/-- one statement after another, by what holds between them -/
def dSeqM (t u : TDS) : TDS := fun dn ρ => ∃ J : Rho → Prop, t { dn with nx := J } ρ ∧ ∀ r, J r → u dn r
theorem ss_consM {K : PySem.W.Frag} {ts us : TS} {t u : TDS} (s : SS K ts t) (s' : SS K us u) : SS K (tSeq ts us) (dSeqM t u) := ⟨fun a b ρ h ⟨J, q, q'⟩ => ⟨J, s.mono { a with nx := J } { b with nx := J } _ ⟨fun _ z => z, h.rt, h.bk, h.ct, h.rm, h.ro, h.ex⟩ q, fun r z => s'.mono _ _ _ h (q' r z)⟩, fun F σ H ρ vs ds E dn G R ⟨J, q, q'⟩ =>
  s.run F σ H ρ vs ds { E with nx := us E } { dn with nx := J } ⟨fun σ H ρ R z => s'.run F σ H ρ vs ds E dn G R (q' ρ z), G.rt, G.bk, G.ct, G.rm, G.ro, G.ex⟩ R q⟩
theorem compW_det {f : D → Rho → (Rho → Option D → Prop) → Prop} {js : List Nat} {ρ : Rho} (h : D → Option D) : ∀ {items acc : List D} {P : KL}, (∀ d ∈ items, ∀ k : Rho → Option D → Prop, (∀ r, wipeR r js = ρ → k r (h d)) → f d ρ k) → P ρ (acc ++ items.filterMap h) → compW f js items ρ acc P
  | [], acc, P, _, q => by
    rw [List.filterMap_nil, List.append_nil] at q
    exact q
  | d :: r, acc, P, hf, q => by
    unfold compW
    refine hf d List.mem_cons_self _ fun r1 e => ?_
    cases hd : h d with
    | none =>
      rw [List.filterMap_cons_none hd] at q
      show compW f js r (wipeR r1 js) acc P
      rw [e]
      exact compW_det h (fun d hd => hf d (List.mem_cons_of_mem _ hd)) q
    | some y =>
      rw [List.filterMap_cons_some hd] at q
      show compW f js r (wipeR r1 js) (acc ++ [y]) P
      rw [e]
      refine compW_det h (fun d hd => hf d (List.mem_cons_of_mem _ hd)) ?_
      rw [List.append_assoc]
      exact q
theorem compW_any {f : D → Rho → (Rho → Option D → Prop) → Prop} {js : List Nat} {ρ : Rho} (Pr : D → Prop) : ∀ {items acc : List D} {P : KL}, (∀ d ∈ items, ∀ k : Rho → Option D → Prop, (∀ r y, wipeR r js = ρ → Pr y → k r (some y)) → f d ρ k) → (∀ y ∈ acc, Pr y) →
    (∀ ys : List D, ys.length = acc.length + items.length → (∀ y ∈ ys, Pr y) → P ρ ys) → compW f js items ρ acc P
  | [], acc, P, _, ha, q => q acc rfl ha
  | d :: r, acc, P, hf, ha, q => by
    unfold compW
    refine hf d List.mem_cons_self _ fun r1 y e hy => ?_
    show compW f js r (wipeR r1 js) (acc ++ [y]) P
    rw [e]
    refine compW_any Pr (fun d hd => hf d (List.mem_cons_of_mem _ hd)) (fun z hz => ?_) fun ys hl hy => q ys ?_ hy
    · rcases List.mem_append.mp hz with hz | hz
      · exact ha z hz
      · have : z = y := by simpa using hz
        rw [this]; exact hy
    · rw [hl, List.length_append, List.length_cons]
      show acc.length + 1 + r.length = acc.length + (r.length + 1)
      omega
theorem isi_of {K : PySem.W.Frag} {n : String} {f : String → Bool} (h : ∀ s ∈ ["NoneType", "bool", "int", "str", "list", "tuple", "dict"], kitB s n = some (f s)) : IsiD K n fun d => f (typD d) := ⟨fun d => kit_ty (h _ (by cases d <;> simp [typD]))⟩
def oInt (F : Int → Option D) : D → Option D
  | .int k => F k
  | _ => none
theorem fm_oInt (F : Int → Option D) : ∀ ns : List Int, (ns.map PyData.int).filterMap (oInt F) = ns.filterMap F
  | [] => rfl
  | x :: xs => by
    rw [List.map_cons]
    cases h : F x with
    | none => rw [List.filterMap_cons_none (show oInt F (.int x) = none from h), List.filterMap_cons_none h, fm_oInt F xs]
    | some y => rw [List.filterMap_cons_some (show oInt F (.int x) = some y from h), List.filterMap_cons_some h, fm_oInt F xs]
theorem fm_some (g : Int → Int) : ∀ ns : List Int, ns.filterMap (fun k => some (PyData.int (g k))) = (ns.map g).map PyData.int
  | [] => rfl
  | x :: xs => by
    rw [List.map_cons, List.map_cons, ← fm_some g xs]
    exact List.filterMap_cons_some (f := fun k => some (PyData.int (g k))) rfl
theorem fm_if (p : Int → Bool) : ∀ ns : List Int, ns.filterMap (fun k => if p k = true then some (PyData.int k) else none) = (ns.filter p).map PyData.int
  | [] => rfl
  | x :: xs => by
    cases h : p x with
    | true => rw [List.filter_cons_of_pos h, List.map_cons, ← fm_if p xs, List.filterMap_cons_some (b := PyData.int x) (by rw [if_pos h])]
    | false => rw [List.filter_cons_of_neg (by rw [h]; decide), ← fm_if p xs, List.filterMap_cons_none (by rw [if_neg (by rw [h]; decide)])]
theorem mem_int {ns : List Int} {d : D} (h : d ∈ ns.map PyData.int) : ∃ n, d = .int n ∧ n ∈ ns := by
  obtain ⟨n, hn, rfl⟩ := List.mem_map.mp h
  exact ⟨n, rfl, hn⟩
theorem ifT {c : Bool} {A B : Prop} (h : c = true) (x : A) : if c = true then A else B := by
  rw [if_pos h]
  exact x
theorem ifF {c : Bool} {A B : Prop} (h : c = false) (x : B) : if c = true then A else B := by
  rw [h]
  exact iteF x
theorem sh_int (i : Int) : SeqAt.shaped (.int i) = true := rfl
theorem eqv_int (i j : Int) : PyData.eqv (.int i) (.int j) = decide (i = j) := by
  simp only [PyData.eqv]
  by_cases h : i = j
  · rw [h]; simp
  · simp [h]
theorem mem_rngD {lo : Int} {n : Nat} {d : D} (h : d ∈ rngD lo n) : ∃ k : Int, d = .int k ∧ lo ≤ k ∧ k < lo + n := by
  unfold rngD at h
  obtain ⟨k, hk, rfl⟩ := List.mem_map.mp h
  have := List.mem_range.mp hk
  exact ⟨_, rfl, by omega, by omega⟩
theorem rngD_len (lo : Int) (n : Nat) : (rngD lo n).length = n := by unfold rngD; rw [List.length_map, List.length_range]
theorem rngD_at {lo : Int} {n i : Nat} {d : D} (h : (rngD lo n)[i]? = some d) : d = .int (lo + i) ∧ i < n := by
  unfold rngD at h
  rw [List.getElem?_map] at h
  have hi : i < n := by
    cases e : (List.range n)[i]? with
    | none => rw [e] at h; cases h
    | some k => have := (List.getElem?_eq_some_iff.mp e).1; rwa [List.length_range] at this
  rw [List.getElem?_range hi] at h
  cases h
  exact ⟨rfl, hi⟩
end LD

/-! LD11: enumerate of a tuple; min, sorted over data; sum of a tuple. -/
namespace LD
open PySem PySem.Spec L2
/-! ### enumerate of what begins -/
set_option maxHeartbeats 1000000 in
theorem newEnum1 {v : Value} {o : Obj} {W : Heap → Prop} (B : Begins v o W) : Meets (Builtin.«enumerate.__new__» ⟨[.type "enumerate", v], []⟩) fun _ R s => W s.heap ∧
      R (.ok (.ret (.ref (s.heap.push o).objs.size))) { s with heap := (s.heap.push o).push { cls := .type "enumerate", data := .fields #[.none, .bool false, .ref s.heap.objs.size, rawInt 0, .none, .none] } } :=
  .of_wp fun prog w A R s h => by
    obtain ⟨hp, g, d, tk, os⟩ := s
    obtain ⟨h1, h⟩ := h
    have hsub := sub_enumerate
    have go : ∀ {A' : Around} {E Q : Value → Shared → Prop}, Q (.ref hp.objs.size) ⟨hp.push o, g, d, tk, os⟩ → wpAny (model prog w) A' (pyIter v) Q E ⟨hp, g, d, tk, os⟩ := fun q => B.iter prog w _ _ ⟨hp, g, d, tk, os⟩ _ h1 q
    wp_walk using go
    refine wpAny_stack_any fun st => wpAny_pure ?_
    split
    · rename_i c _ _ _ _ _
      cases (c == Value.type "enumerate") <;> (wp_walk using go; exact ⟨_, rfl, h⟩)
    · wp_walk using go
      exact ⟨_, rfl, h⟩
section
variable {prog : Program} {w : World} {A : Around} {E : Value → Shared → Prop} {s : Shared}
theorem enum1 {v : Value} {o : Obj} {W : Heap → Prop} {Q : Value → Shared → Prop} (B : Begins v o W) (h1 : W s.heap)
    (h : ∀ h', IsEnum h' (s.heap.objs.size + 1) s.heap.objs.size 0 .none → h'.get? s.heap.objs.size = some o → (∀ b x, s.heap.get? b = some x → h'.get? b = some x) → Q (.ref (s.heap.objs.size + 1)) { s with heap := h' }) :
    wpAny (model prog w) A (call (.type "enumerate") [v]) Q E s := by
  refine callType_new F.called_enumerate (by decide) (F.typeCall_enumerate_1 _) (F.newCall_enumerate_1 _) (fun x => F.args_object_init_2 x _) F.entry_enumerate_new (newEnum1 B) ⟨h1, ?_⟩
  have hz : (s.heap.push o).objs.size = s.heap.objs.size + 1 := Heap.size_push ..
  show _ ∧ _
  rw [hz]
  have he : IsEnum ((s.heap.push o).push { cls := .type "enumerate", data := .fields #[.none, .bool false, .ref s.heap.objs.size, rawInt 0, .none, .none] }) (s.heap.objs.size + 1) s.heap.objs.size 0 .none := by
    have e := Heap.get?_push_size (s.heap.push o) (o := { cls := .type "enumerate", data := .fields #[.none, .bool false, .ref s.heap.objs.size, rawInt 0, .none, .none] }) rfl
    rw [hz] at e
    exact e
  exact ⟨⟨_, he, rfl⟩, h _ he (Heap.get?_push_of_some _ (Heap.get?_push_size _ B.free)) fun b x e => Heap.get?_push_of_some _ (Heap.get?_push_of_some _ e)⟩
end
/-- the tuple at a, each item in a new pair with its number -/
def ItN (K : PySem.W.Frag) (a : Addr) : It where
  go i H := ∃ xs x, SqT K H a xs ∧ xs[i]? = some x
  yld i H v H' := ∃ T x, v = .ref T ∧ H T = none ∧ H' = upd H T (.tup [.int (i : Nat), x]) ∧ ∀ xs, SqT K H a xs → xs[i]? = some x
  stop i H := ∃ xs, SqT K H a xs ∧ xs.length ≤ i
theorem turn_numT {P : Program} {w : World} {K : PySem.W.Frag} {es : List Expr} {j : Nat} {tp : Pos} (a e it : Addr) :
    Turn P w K (.Tuple es j tp) (ItN K a) [e, it] e fun i h => (∃ old, IsEnum h e it ((i : Nat) : Int) old) ∧ h.IsTupleIter it a i ∧ e ≠ it ∧ a ≠ it ∧ a ≠ e where
  mem := by simp
  obj i h st b hb := by
    obtain ⟨⟨old, he⟩, ⟨o, ho, hc, hd⟩, _⟩ := st
    rcases (by simpa using hb : b = e ∨ b = it) with z | z
    · exact z ▸ ⟨_, he, fun v q => nomatch q⟩
    · exact z ▸ ⟨o, ho, fun v q => by rw [hd] at q; cases q⟩
  keep i h h' st k := by
    obtain ⟨⟨old, he⟩, hi, n⟩ := st
    exact ⟨⟨old, k e (by simp) _ he⟩, hi.at fun o q => k it (by simp) o q, n⟩
  item := by
    intro X hP hw hK hc i pins s σ H E I hf st hg
    subst hP hw hK
    obtain ⟨⟨old, he⟩, hit, hne, n1, n2⟩ := st
    obtain ⟨xs, x, hq, hx⟩ := hg
    obtain ⟨its, rv, p, hz⟩ := I.tuple hq
    obtain ⟨u, hu, ru⟩ := rv.get hx
    have p' : s.heap.IsTuple a its.toArray := p
    have hel : e < s.heap.objs.size := Heap.lt_size he
    have hil : it < s.heap.objs.size := by
      obtain ⟨_, q, _⟩ := hit
      exact Heap.lt_size q
    have li : i < its.toArray.size := by
      have := (List.getElem?_eq_some_iff.mp hu).1
      rw [List.size_toArray]
      exact this
    refine wpAny_pyNext_enum_itemD (Draws.tuple (A := X.A.in1) (I.ok.hd hc) it a n1 its.toArray) he ⟨hit, p'⟩ li hne (by simp [hne, Ne.symm n2]) fun y h' tk hy ho hit' hT hsz hk => ?_
    have ey : y = u := by
      have h2 : its[i]? = some y := by simpa using hy
      rw [hu] at h2
      exact (Option.some.inj h2).symm
    subst ey
    refine ⟨_, rfl, wpAny_letOwnedTupleGo_enum (s := { s with heap := h', toks := tk + 1 }) ho fun h2 he' sb => ?_⟩
    have hT2 : h2.get? s.heap.objs.size = some { cls := .type "tuple", data := .seq #[.int i tk, y] } := (sb.2 _ (Nat.ne_of_gt hel)).trans hT
    have new : ObjOk X.prog X.w (upd H s.heap.objs.size (.tup [.int (i : Nat), x])) h2 s.heap.objs.size (.tup [.int (i : Nat), x]) :=
      ⟨by show 2 ≤ sizeLine; decide, [.int i tk, y], .cons ⟨_, rfl⟩ (.cons ru .nil), ⟨_, hT2, rfl, _, rfl⟩⟩
    have I1 : Inv X pins σ (upd H s.heap.objs.size (.tup [.int (i : Nat), x])) { s with heap := h2, toks := tk + 1 } :=
      I.turnedNew (ch := [e, it]) (fun b o hb q => (sb.2 b fun z => hb (by simp [z])).trans (hk b o (fun z => hb (by simp [z])) (fun z => hb (by simp [z])) q)) hf (Nat.le_refl _) new
    refine ⟨.ref s.heap.objs.size, _, I1, rfl, ⟨_, x, rfl, I.hok.fresh (Nat.le_refl _), rfl, fun ys hy => by rw [I.tuple_inj hy hq]; exact hx⟩, ⟨⟨y, ?_⟩, hit'.1.at fun o q => (sb.2 it (Ne.symm hne)).trans q, hne, n1, n2⟩, fun b hb => ?_⟩
    · rw [show ((i + 1 : Nat) : Int) = (i : Int) + 1 by omega]
      exact he'
    · have hb' : b < s.heap.objs.size := by
        rcases (by simpa using hb : b = e ∨ b = it) with z | z
        · exact z ▸ hel
        · exact z ▸ hil
      rw [upd_ne (Nat.ne_of_lt hb')]
      exact (hf b hb).1
  done := by
    intro X hP hw hK hc i pins s σ H E I hf st hg
    subst hP hw hK
    obtain ⟨⟨old, he⟩, hit, hne, n1, n2⟩ := st
    obtain ⟨xs, hq, hx⟩ := hg
    obtain ⟨its, rv, p, hz⟩ := I.tuple hq
    have p' : s.heap.IsTuple a its.toArray := p
    obtain ⟨f0, f1, f2, f3, f4, f5⟩ := hf it (by simp)
    have hl := rv.length
    have T : s.TypeIs (.ref e) "enumerate" := ⟨_, he, rfl⟩
    unfold pyNext
    refine wpAny_bind (wpAny_attempt (wpAny_callSpecial?_slot (name := Str.ofString "__next__") T F.slot_enumerate_next (wpAny_call_entry F.slot_enumerate_next T F.entry_enumerate_next ?_ (F.args_enumerate_next_1 _))))
    show wpAny _ _ (field (.ref e) 2 >>= _) _ _ _
    refine wpAny_bind (wpAny_field he rfl (x := .ref it) rfl ?_)
    refine wpAny_bind (wpAny_nextOf_tuple_end (I.ok.hd hc) hit p' (by simp; omega) fun h' x eb hx' => ?_)
    obtain ⟨o, ho, hcl⟩ := hx'
    refine wpAny_bind (wpAny_isInstance (T := "StopIteration") (b := true) ⟨o, ho, hcl⟩ isSubtype_stop (wpAny_pure ⟨rfl, ?_⟩))
    exact I.turned (t' := s.toks) (fun b o hb q => eb b o hb q) f0 f1 f3 f4 f5
  self A i s Q E st h := by
    obtain ⟨⟨_, he⟩, _⟩ := st
    exact wpAny_pyIter_enum he h
def iNumT (K : PySem.W.Frag) (ta : TA) : TI := fun σ H R => ta σ H fun vs H1 => ∃ a xs, vs = [.ref a] ∧ SqT K H1 a xs ∧ R (ItN K a) H1
theorem pi_numT {X : Cx} {e : Expr} {ta : TA} {p pos tp : Pos} {es : List Expr} {j : Nat} (hg : Gl X "enumerate") (hm : X.mg "enumerate" = none) (ha : PA X [e] ta) (hs : starEach [e] X.env = [(false, eval e X.env)] := by rfl) :
    PI X (.Tuple es j tp) (.Call (.Name "enumerate" p) [e] [] pos) (iNumT X.K ta) := by
  refine ⟨fun pins s σ H R I h => PyProof.Rows.Call_ (ld_blt I hg hm PyProof.Rows.boot_enumerate (PyProof.Rows.callWith_type1 (thn (ha.run pos pins s σ H _ I h) fun us s1 ⟨vs, H1, I1, r1, q1⟩ => ?_) hs rfl))⟩
  obtain ⟨a, xs, ex, hq, q⟩ := q1
  subst ex
  obtain ⟨u, rfl, ru⟩ := vals1 r1
  obtain rfl : u = Value.ref a := ru
  obtain ⟨its, rv, p', hz⟩ := I1.tuple hq
  have p2 : s1.heap.IsTuple a its.toArray := p'
  have la : a < s1.heap.objs.size := by
    obtain ⟨_, q, _⟩ := p2
    exact Heap.lt_size q
  refine enum1 (begins_tuple a its.toArray) p2 fun h' he hit hk => wpAny_pyIter_enum he ?_
  have I2 : Inv X pins σ H1 { s1 with heap := h' } := I1.kept (t' := s1.toks) hk
  refine ⟨s1.heap.objs.size + 1, [s1.heap.objs.size + 1, s1.heap.objs.size], _, _, H1, rfl, I2, turn_numT a (s1.heap.objs.size + 1) s1.heap.objs.size, ⟨⟨.none, he⟩, ⟨_, hit, rfl, rfl⟩, Nat.succ_ne_self _, Nat.ne_of_lt la, Nat.ne_of_lt (Nat.lt_succ_of_lt la)⟩, fun b hb => ?_, q⟩
  have hle : s1.heap.objs.size ≤ b := by
    rcases (by simpa using hb : b = s1.heap.objs.size + 1 ∨ b = s1.heap.objs.size) with z | z
    · rw [z]; exact Nat.le_add_right _ _
    · rw [z]; exact Nat.le_refl _
  exact I1.fpOk hle (I1.hok.fresh hle)

/-! ### min of a list of data that can be compared -/
def rMinD (K : PySem.W.Frag) : List V → Hp → VK → Prop := fun vs H Q => ∃ (a : Addr) (xs : List V) (d : D) (ds : List D), vs = [.ref a] ∧ SqL K H a xs ∧ DpAll K H xs (d :: ds) ∧ PySem.W.AlikeAll (d :: ds) ∧ PyData.depthAll (d :: ds) ≤ 50 ∧
  ∀ (i : Nat) (v : V), xs[i]? = some v → (d :: ds)[i]? = some (PySem.W.minD d ds) → Q v H
def rMaxD (K : PySem.W.Frag) : List V → Hp → VK → Prop := fun vs H Q => ∃ (a : Addr) (xs : List V) (d : D) (ds : List D), vs = [.ref a] ∧ SqL K H a xs ∧ DpAll K H xs (d :: ds) ∧ PySem.W.AlikeAll (d :: ds) ∧ PyData.depthAll (d :: ds) ≤ 50 ∧
  ∀ (i : Nat) (v : V), xs[i]? = some v → (d :: ds)[i]? = some (PySem.W.maxD d ds) → Q v H
theorem getD_some {α : Type} {xs : List α} {i : Nat} {x z : α} (hi : i < xs.length) (e : xs.getD i x = z) : xs[i]? = some z := by
  rw [List.getD_eq_getElem?_getD, List.getElem?_eq_getElem hi] at e
  rw [List.getElem?_eq_getElem hi]
  exact congrArg some e
theorem vals_back {xs : List V} {us : List Value} {i : Nat} {u : Value} (r : Vals xs us) (h : us[i]? = some u) : ∃ x, xs[i]? = some x ∧ RelV x u := by
  have hi : i < xs.length := by
    rw [r.length]
    exact (List.getElem?_eq_some_iff.mp h).1
  obtain ⟨u', e, q⟩ := r.get (List.getElem?_eq_getElem hi)
  rw [h] at e
  cases e
  exact ⟨_, List.getElem?_eq_getElem hi, q⟩
theorem cr_minD {X : Cx} (hc : X.calm = true) (hu : X.A.units + 64 < cLine) : CallR X (.builtin "min") (rMinD X.K) := by
  intro pins s σ H vs us Q I r h
  obtain ⟨a, xs, d, ds, rfl, hs, hd, ha, hz, q⟩ := h
  obtain ⟨its, rv, hl, _⟩ := I.list hs
  rw [Vals.ref1 r]
  obtain ⟨as, hr⟩ := Dp.readsAll I _ xs its hd rv
  have hn : its.length = ds.length + 1 := by rw [← rv.length, dpAll_len hd]; rfl
  have hr' : ReadsAll s.heap its.toArray.toList (d :: ds) as := hr
  refine PySem.call_min_walkH (PySem.W.iter_listW (A := X.A.in1) (I.ok.hd hc) hl.isList fun s₂ e W st hfp hw hk => ?_)
  refine ⟨_, _, _, _, _, _, _, s.heap, _, rfl, W, st, hfp, by rw [List.size_toArray]; omega, hw, hk, PySem.W.cmpIn_lt (A := X.A.in1) hr' ha (by show X.A.units + 1 + _ < _; omega), fun v s' hP m => ?_⟩
  obtain ⟨h', tk, rfl, hk'⟩ := PySem.W.moved_old e rfl m
  have e1 : its.toArray.size - 1 = ds.length := by rw [List.size_toArray]; omega
  obtain ⟨e3, e2⟩ := PySem.W.argBest_fold PySem.W.dataLt PyData.none d ds ds.length (Nat.le_refl _)
  rw [List.take_length] at e2
  rw [e1] at hP
  rw [List.getElem?_toArray] at hP
  obtain ⟨x, hx, rx⟩ := vals_back rv hP
  exact ⟨x, H, I.kept hk', rx, q _ x hx (getD_some (Nat.lt_succ_of_le e3) e2)⟩
theorem cr_maxD {X : Cx} (hc : X.calm = true) (hu : X.A.units + 64 < cLine) : CallR X (.builtin "max") (rMaxD X.K) := by
  intro pins s σ H vs us Q I r h
  obtain ⟨a, xs, d, ds, rfl, hs, hd, ha, hz, q⟩ := h
  obtain ⟨its, rv, hl, _⟩ := I.list hs
  rw [Vals.ref1 r]
  obtain ⟨as, hr⟩ := Dp.readsAll I _ xs its hd rv
  have hn : its.length = ds.length + 1 := by rw [← rv.length, dpAll_len hd]; rfl
  have hr' : ReadsAll s.heap its.toArray.toList (d :: ds) as := hr
  refine PySem.call_max_walkH (PySem.W.iter_listW (A := X.A.in1) (I.ok.hd hc) hl.isList fun s₂ e W st hfp hw hk => ?_)
  refine ⟨_, _, _, _, _, _, _, s.heap, _, rfl, W, st, hfp, by rw [List.size_toArray]; omega, hw, hk, PySem.W.cmpIn_gt (A := X.A.in1) hr' ha (by show X.A.units + 1 + _ < _; omega), fun v s' hP m => ?_⟩
  obtain ⟨h', tk, rfl, hk'⟩ := PySem.W.moved_old e rfl m
  have e1 : its.toArray.size - 1 = ds.length := by rw [List.size_toArray]; omega
  obtain ⟨e3, e2⟩ := PySem.W.argBest_fold (fun a b => PySem.W.dataLt b a) PyData.none d ds ds.length (Nat.le_refl _)
  rw [List.take_length] at e2
  rw [e1] at hP
  rw [List.getElem?_toArray] at hP
  obtain ⟨x, hx, rx⟩ := vals_back rv hP
  exact ⟨x, H, I.kept hk', rx, q _ x hx (getD_some (Nat.lt_succ_of_le e3) e2)⟩
/-! ### sorted of data that can be compared -/
def leD (x y : D) : Bool := !PySem.W.dataLt y x
def rSortD (K : PySem.W.Frag) : List V → Hp → VK → Prop := fun vs H Q => ∃ (a : Addr) (xs : List V) (ds : List D), vs = [.ref a] ∧ SqL K H a xs ∧ DpAll K H xs ds ∧ PySem.W.AllAlike ds ∧ PySem.W.Sortable ds ∧ PyData.depthAll ds ≤ 50 ∧
  ∀ (ys : List V) (p : Addr), ys.length = ds.length → (∀ Hi, DpAll K Hi xs ds → DpAll K Hi ys (ds.mergeSort leD)) → H p = none → Q (.ref p) (upd H p (.lst ys))
theorem each_vals : ∀ {xs : List V} {us : List Value} {ds : List D}, Vals xs us → xs.length = ds.length → PySem.W.EachIs (fun u (b : V × D) => RelV b.1 u) us (xs.zip ds)
  | [], _, [], r, _ => by cases r; exact .nil
  | [], _, _ :: _, _, e => by cases e
  | _ :: _, _, [], _, e => by cases e
  | x :: xs, _, d :: ds, r, e => by
    cases r with
    | cons r1 r2 => exact .cons r1 (each_vals r2 (Nat.succ.inj e))
theorem each_reads {h : Heap} : ∀ {xs : List V} {us : List Value} {ds : List D} {as : List Addr}, ReadsAll h us ds as → xs.length = ds.length → PySem.W.EachIs (fun u (b : V × D) => ∃ as, Reads h u b.2 as) us (xs.zip ds)
  | [], _, [], _, r, _ => by cases r; exact .nil
  | [], _, _ :: _, _, _, e => by cases e
  | _ :: _, _, [], _, _, e => by cases e
  | x :: xs, _, d :: ds, _, r, e => by
    cases r with
    | cons r1 r2 => exact .cons ⟨_, r1⟩ (each_reads r2 (Nat.succ.inj e))
theorem vals_each : ∀ {us : List Value} {zs : List (V × D)}, PySem.W.EachIs (fun u (b : V × D) => RelV b.1 u) us zs → Vals (zs.map Prod.fst) us
  | _, [], h => by cases h; exact .nil
  | _, z :: zs, h => by
    cases h with
    | cons a b => exact .cons a (vals_each b)
theorem dp_zip {K : PySem.W.Frag} {Hi : Hp} : ∀ {xs : List V} {ds : List D}, DpAll K Hi xs ds → ∀ z ∈ xs.zip ds, Dp K Hi z.1 z.2
  | _, [], h, z, hz => by cases h; cases hz
  | _, d :: ds, h, z, hz => by
    cases h with
    | cons a b =>
      rcases List.mem_cons.mp hz with e | hz
      · rw [e]; exact a
      · exact dp_zip b z hz
theorem dp_unzip {K : PySem.W.Frag} {Hi : Hp} : ∀ {zs : List (V × D)}, (∀ z ∈ zs, Dp K Hi z.1 z.2) → DpAll K Hi (zs.map Prod.fst) (zs.map Prod.snd)
  | [], _ => .nil
  | z :: zs, h => .cons (h z List.mem_cons_self) (dp_unzip fun y hy => h y (List.mem_cons_of_mem _ hy))
theorem depth_mem : ∀ {ds : List D} {d : D}, d ∈ ds → d.depth ≤ PyData.depthAll ds
  | e :: ds, d, h => by
    unfold PyData.depthAll
    rcases List.mem_cons.mp h with z | z
    · rw [z]; exact Nat.le_max_left _ _
    · exact Nat.le_trans (depth_mem z) (Nat.le_max_right _ _)
theorem cr_sortD {X : Cx} (hu : X.A.units + 64 < cLine) : CallR X (.builtin "sorted") (rSortD X.K) := by
  intro pins s σ H vs us Q I r h
  obtain ⟨a, xs, ds, rfl, hs, hd, ha, hb, hz, q⟩ := h
  obtain ⟨its, rv, hl, hsz⟩ := I.list hs
  rw [Vals.ref1 r]
  obtain ⟨as, hr⟩ := Dp.readsAll I _ xs its hd rv
  have el := dpAll_len hd
  have em : (xs.zip ds).map Prod.snd = ds := List.map_snd_zip (by omega)
  have en : (xs.zip ds).length = ds.length := by rw [List.length_zip]; omega
  refine PySem.W.sorted_data (bs := xs.zip ds) (enc := Prod.snd) hl.isList (each_vals rv el) (each_reads hr el) (by rw [em]; exact ha) (by rw [em]; exact hb) (by rw [en, ← el]; exact hsz) (fun b hb => ?_) fun out ho he => ?_
  · have := depth_mem (List.of_mem_zip (a := b.1) (b := b.2) hb).2
    omega
  have hv := vals_each he
  generalize hzs : (xs.zip ds).mergeSort (PySem.W.dataLe false Prod.snd) = zs at hv
  have hp : ∀ z ∈ zs, z ∈ xs.zip ds := fun z h => by
    rw [← hzs] at h
    exact (List.mergeSort_perm _ _).mem_iff.mp h
  have hlz : zs.length = ds.length := by rw [← hzs, (List.mergeSort_perm _ _).length_eq, en]
  have es : zs.map Prod.snd = ds.mergeSort leD := by
    rw [← hzs, List.map_mergeSort (s := leD) (fun x _ y _ => by rw [PySem.W.dataLe_eq]; rfl), em]
  obtain ⟨ep, he'⟩ := PyProof.Rows.sortedAll_at s.heap its out.toArray
  have hlen : (zs.map Prod.fst).length ≤ sizeLine := by rw [List.length_map, hlz, ← el]; exact hsz
  refine ⟨.ref _, upd H (s.heap.objs.size + 1) (.lst (zs.map Prod.fst)), I.laid (t' := s.toks) (fun _ _ => PyProof.Rows.sortedAll_old) (Nat.le_succ _) ⟨hlen, out, ep, hv, he'⟩, rfl, q _ _ (by rw [List.length_map, hlz]) (fun Hi h => ?_) (I.hok.fresh (Nat.le_succ _))⟩
  rw [← es]
  exact dp_unzip fun z hz => dp_zip h z (hp z hz)
/-! ### sum of a tuple -/
def rSumT (K : PySem.W.Frag) : List V → Hp → VK → Prop := fun vs H Q => ∃ (a : Addr) (ns : List Int), vs = [V.ref a] ∧ SqT K H a (ns.map V.int) ∧ Q (.int ns.sum) H
theorem preSum_take (ns : List Int) : ∀ k, k ≤ ns.length → preSum (fun i => ns.getD i 0) k = (ns.take k).sum
  | 0, _ => by rw [List.take_zero]; rfl
  | k + 1, h => by
    rw [List.take_add_one, List.sum_append, ← preSum_take ns k (Nat.le_of_succ_le h), List.getElem?_eq_getElem h]
    show _ + ns.getD k 0 = _
    rw [List.getD_eq_getElem?_getD, List.getElem?_eq_getElem h]
    simp
theorem cr_sumT {X : Cx} (hc : X.calm = true) : CallR X (.builtin "sum") (rSumT X.K) := by
  intro pins s σ H vs us Q I r h
  obtain ⟨a, ns, rfl, hs, q⟩ := h
  obtain ⟨its, rv, hl, _⟩ := I.tuple hs
  rw [Vals.ref1 r]
  have hl' : s.heap.IsTuple a its.toArray := hl
  have hn : its.length = ns.length := by rw [← rv.length, List.length_map]
  refine PySem.call_sum_walkAnyS (PySem.W.iter_tupleW (A := X.A.in1) (I.ok.hd hc) hl' fun s₂ e W st hfp hw hk => ?_)
  refine ⟨_, _, _, _, _, _, _, fun i => ns.getD i 0, rfl, W, st, hfp, fun i v hv => ?_, fun s' t' m => ?_⟩
  · obtain ⟨x, hx, rx⟩ := vals_back rv (by simpa using hv)
    rw [List.getElem?_map] at hx
    cases hi : ns[i]? with
    | none => rw [hi] at hx; cases hx
    | some n =>
      rw [hi] at hx
      cases hx
      obtain ⟨t, rfl⟩ := rx
      exact ⟨t, by show _ = Value.int (ns.getD i 0) t; rw [List.getD_eq_getElem?_getD, hi]; rfl⟩
  · obtain ⟨h', tk, rfl, hk'⟩ := PySem.W.moved_old e rfl m
    refine ⟨.int ns.sum, H, I.kept hk', ⟨t', ?_⟩, q⟩
    rw [List.size_toArray, hn, preSum_take ns _ (Nat.le_refl _), List.take_length]
end LD

/-! LD12: defs in which the text of a list or tuple is asked: no such text is under way around them. -/
namespace LD
open PySem PySem.Spec L2 PyProof.Rows
/-- as FnOk, where no repr is under way -/
structure FnQ (P : Program) (w : World) (K : PySem.W.Frag) (mg : Str → Option Value) (base : Heap) (CX : CXT) (k : Nat) (f : Addr) (fd : FuncData) (ps : List Str) (sp : Sp) : Prop where
  len : ∀ vs H Q E, sp vs H Q E → vs.length = ps.length
  run : ∀ {A : Around} {outer : List Env} {s : Shared} {H : Hp} {args : Args} {us : List Value} {vs : List V} {Q : VK} {E : XK}, A.guards = some [] → Room k A → Env0 P w K mg base A outer s H →
    BindsTo s fd args (ps.zip us) → Vals vs us → sp vs H Q E → codeAny (model P w) A (.call (.ref f) args) (CR CX outer P w H s Q E) s
section
variable {P : Program} {w : World} {K : PySem.W.Frag} {mg : Str → Option Value} {base : Heap} {CX : CXT} {k : Nat} {f : Addr} {fd : FuncData} {ps N : List Str} {sp : Sp}
theorem FnQ.of (F : FnOk P w K mg base CX k f fd ps sp) : FnQ P w K mg base CX k f fd ps sp := ⟨F.len, fun _ hr e b r h => F.run _ _ _ _ _ _ _ _ _ hr e b r h⟩
theorem FnQ.mono {j : Nat} (F : FnQ P w K mg base CX j f fd ps sp) (h : j ≤ k) : FnQ P w K mg base CX k f fd ps sp := ⟨F.len, fun g hr => F.run g (hr.mono h)⟩
/-- a def by its body -/
theorem okQ {x qual : Str} {st : Stmt} (F : Fun K x qual st f fd) (S : FnScope N ps (defScope st)) (len : ∀ vs H Q E, sp vs H Q E → vs.length = ps.length)
    (hbody : ∀ (cdv : Value) (A : Around) (outer : List Env) (s : Shared) (H : Hp) (vs : List V) (Q : VK) (E : XK), (A.deeper (envOfC qual (defScope st) s.heap.objs.size f cdv)).guards = some [] → Room k (A.deeper (envOfC qual (defScope st) s.heap.objs.size f cdv)) → sp vs H Q E →
      ∃ t, PSs (cxOf CX0 P w K mg base N qual (defScope st) f cdv A outer s H E).nox (defBody st) t ∧ t { nx := fun _ H' => Q .non H', rt := Q } (start N vs) H) : FnQ P w K mg base CX0 (k + 1) f fd ps sp := by
  obtain ⟨oc, od, kV, doc, pm, an, cdv, ct, osl, rfl, lk, hcd⟩ := F.ex
  refine ⟨len, fun {A outer s H args us vs Q E} hg hr e0 hb r hsp => ?_⟩
  have hl := len _ _ _ _ hsp
  have old : ∀ b o, base.get? b = some o → s.heap.get? b = some o := fun b o e => (e0.bs b o e).1
  have KX := e0.mod.kin.keeps old
  refine codeAny_call_function hr.depth (KX _ _ lk) rfl S.co S.gen rfl (PySem.W.codeRec_of KX hcd) (hb _ _ _ _ ?_)
  refine wpAny_newFunctionEnv_cells S.kind (fun y hy => ?_) fun env he s1 x => ?_
  · have hm : y.1 ∈ ps := by
      obtain ⟨n, v⟩ := y
      exact (List.of_mem_zip hy).1
    rcases S.par _ hm with q | q
    · exact .inl q
    · exact .inr ⟨q, PySem.W.cellsFrom_some _ _ _ (.inl q)⟩
  subst he
  refine ⟨(e0.mod.nolimit.keeps old).keeps x.toInCall.keep, codeAny_func ?_⟩
  obtain ⟨t, ht, hq⟩ := hbody cdv A outer s H vs Q E hg (hr.deeper _) hsp
  have I := inv_start (CX := CX0) (E := E) S hr.hd e0 hl r x
  refine wpAny_mono (ht.nox.run [] s1 (start N vs) H _ I hq) (fun fl s' hs => ?_) fun e s' hs => hs
  cases fl with
  | ret u =>
    obtain ⟨v, σ', H', J, rv, q⟩ := hs
    exact ⟨v, H', J.os, J.bare, J.base, J.hok, rv, q⟩
  | next =>
    obtain ⟨σ', H', J, q⟩ := hs
    exact ⟨.non, H', J.os, J.bare, J.base, J.hok, rfl, q⟩
  | brk =>
    obtain ⟨_, _, _, q⟩ := hs
    exact q.elim
  | cont =>
    obtain ⟨_, _, _, q⟩ := hs
    exact q.elim
end
/-! ### calls of such defs -/
section
variable {X : Cx} {k : Nat} {f : Addr} {fd : FuncData} {ps : List Str} {sp : Sp}
theorem runQ {pins : List (Addr × Obj)} {σ : L2.St} {H : Hp} {s : Shared} {Q : VK} {us : List Value} {vs : List V} (F : FnQ X.prog X.w X.K X.mg X.base CX0 k f fd ps sp) (hg : X.A.guards = some []) (hr : Room k X.A) (hb : Binds X.K fd ps [])
    (I : Inv X pins σ H s) (r : Vals vs us) (h : sp vs H Q E0) : wpAny (model X.prog X.w) X.A (call (.ref f) us) (EP X pins σ Q) X.xe s := by
  have hl : us.length = ps.length := (r.length).symm.trans (F.len _ _ _ _ h)
  have b := hb s us I.kIn (by rw [List.append_nil]; exact hl)
  rw [List.append_nil] at b
  refine wpAny_call (codeAny_mono (F.run hg hr I.env0 b r h) fun o s' hq => ?_)
  cases o with
  | error e => exact hq.elim
  | ok fl =>
    cases fl with
    | ret u => exact I.after hq
    | next => exact hq.elim
    | brk => exact hq.elim
    | cont => exact hq.elim
structure CalQ (P : Program) (w : World) (K : PySem.W.Frag) (mg : Str → Option Value) (base : Heap) (k : Nat) (x : Str) (sp : Sp) : Prop where
  ex : ∃ (f : Addr) (fd : FuncData) (ps : List Str), FnQ P w K mg base CX0 k f fd ps sp ∧ mg x = some (.ref f) ∧ PySem.W.keepIn K (.ref f) = true ∧ Binds K fd ps []
theorem pe_q {x : Str} {p pos : Pos} {e : Expr} {es : List Expr} {j : Nat} {t : TA} (c : CalQ X.prog X.w X.K X.mg X.base k x sp) (hgd : X.A.guards = some []) (hr : Room j X.A) (hk : k ≤ j) (hg : Gl X x) (ha : PA X (e :: es) t)
    (hdb : (x == ("__debug__" : Str)) = false := by decide) (he : starEach (e :: es) X.env = (false, eval e X.env) :: starEach es X.env := by rfl) (hpl : (backTo pos (starEach es X.env)).any (·.1) = false := by rfl) :
    PE X (.Call (.Name x p) (e :: es) [] pos) (tCall sp [] E0 t) := by
  obtain ⟨f, fd, ps, F, hm, kp, b⟩ := c.ex
  refine ⟨fun pins s σ H Q I h => wpAny_Call_Name_kw (ld_glob I hg hm ?_ hdb)⟩
  refine PySem.W.callWith_K (h₀ := X.base) I.ok.mod.kin kp (thn (ha.run pos pins s σ H _ I h) fun us s1 ⟨vs, H1, I1, r, q⟩ => ⟨I1.kIn, ?_⟩) he hpl
  have q2 : sp (vs ++ []) H1 Q E0 := q
  rw [List.append_nil] at q2
  exact runQ F hgd (hr.mono hk) b I1 r q2
theorem calQ_of {P : Program} {w : World} {K : PySem.W.Frag} {mg : Str → Option Value} {base : Heap} {x : Str} (F : FnQ P w K mg base CX0 k f fd ps sp) (g : mg x = some (.ref f)) (kp : PySem.W.keepIn K (.ref f) = true) (b : Binds K fd ps []) : CalQ P w K mg base k x sp := ⟨⟨f, fd, ps, F, g, kp, b⟩⟩
end
/-! ### the law's own call: no repr is under way around it -/
theorem lawQ {P : Program} {w : World} {K : PySem.W.Frag} {mg mb : Str → Option Value} {k : Nat} {fa a : Addr} {fd : FuncData} {x : Str} {sp : Sp} {s : Shared} {vs : List Value} {ns : List Int}
    (KX : K.In s.heap) (hns : s.heap.Ns mainGlobals mg) (hb : s.heap.Ns builtinsNs mb) (hbb : ∀ x : Str, x ≠ "__name__" → mb x = bootBuiltins x) (hlim : s.heap.NoLimit) (hg : s.gens = #[])
    (ha : s.heap.get? a = some { cls := .type "list", data := .seq vs.toArray }) (hi : IntsAre vs ns) (hl : ns.length ≤ sizeLine) (hr : Room k callerA)
    (F : ∀ base : Heap, K.In base → base.Ns mainGlobals mg → FnQ P w K mg base CX0 k fa fd [x] sp) (hbind : ∀ (s : Shared) (u : Value), BindsTo s fd ⟨[u], []⟩ [(x, u)])
    (hsp : ∀ H : Hp, Only H → SqL K H a (ns.map V.int) → sp [.ref a] H (fun v _ => v = .bl true) fun _ _ _ => False) :
    codeAny (model P w) callerA (.call (.ref fa) ⟨[.ref a], []⟩) (fun r s' => r = .ok (.ret (.bool true)) ∧ OldK s.heap s'.heap ∧ s'.os = s.os ∧ AllBare s'.gens) s := by
  have rv := vals_ints hi
  have lenV := hi.length
  have run : ∀ H : Hp, Only H → SqL K H a (ns.map V.int) → HOk P w H s.heap → (∀ b, b ≠ a → H b = none) → (H a = none ∨ K.lookup a = none) →
      codeAny (model P w) callerA (.call (.ref fa) ⟨[.ref a], []⟩) (fun r s' => r = .ok (.ret (.bool true)) ∧ OldK s.heap s'.heap ∧ s'.os = s.os ∧ AllBare s'.gens) s := by
    intro H hO hS hok hA hK
    have dictFree : ∀ {b : Addr} {o : Obj} {es : Array DictEntry} {ep : Nat}, s.heap.get? b = some o → o.data = .dict es ep → H b = none := fun {b o es ep} e d => by
      by_cases z : b = a
      · subst z
        rw [ha] at e
        cases e
        have d' : Data.seq vs.toArray _ = Data.dict es ep := d
        cases d'
      · exact hA b z
    have ns2 : ∀ {b : Addr} {m : Str → Option Value}, s.heap.Ns b m → (hidT s.heap H).Ns b m := fun ⟨o, es, ep, e, d, r⟩ => ⟨o, es, ep, hidT_get e (dictFree e d), d, r⟩
    have kin2 : K.In (hidT s.heap H) := fun b o e => hidT_get (KX b o e) (by
      by_cases z : b = a
      · rcases hK with q | q
        · rw [z]; exact q
        · rw [z, q] at e; cases e
      · exact hA b z)
    obtain ⟨mc, c1, c2⟩ := hlim
    have e0 : Env0 P w K mg (hidT s.heap H) callerA [] s H := ⟨rfl, ⟨kin2, ns2 hns, ⟨mb, ns2 hb, hbb⟩, ⟨mc, ns2 c1, c2⟩⟩, fun b o e => of_hidT e, Nat.le_of_eq (hidT_size _ _), trivial, fun b hb => (by cases hb), hok, .of_eq hg⟩
    refine codeAny_mono ((F _ kin2 (ns2 hns)).run (us := [.ref a]) (vs := [V.ref a]) rfl hr e0 (hbind s (.ref a)) (.cons rfl .nil) (hsp H hO hS)) fun r s' h => ?_
    cases r with
    | error e => exact h.elim
    | ok fl =>
      cases fl with
      | next => exact h.elim
      | brk => exact h.elim
      | cont => exact h.elim
      | ret u =>
        obtain ⟨v, H', os, bare, un, hok', r', q⟩ := h
        obtain rfl : v = .bl true := q
        obtain rfl : u = Value.bool true := r'
        refine ⟨rfl, OldK.of_keep fun b o e => ?_, os, bare⟩
        cases z : H b with
        | none => exact un.keep b o e z (fun y => by cases y) (fun y => by cases y)
        | some y =>
          rcases hO b with c | ⟨ob, xs, c⟩
          · rw [z] at c; cases c
          · have e1 := (hok b _ c).1
            have e2 := (hok' b _ (un.frzs b ob _ c)).1
            rw [e] at e1
            cases e1
            exact e2
  cases hk : K.lookup a with
  | some o =>
    have e := KX a o hk
    rw [ha] at e
    cases e
    exact run (fun _ => none) (fun _ => .inl rfl) (.inr ⟨_, vs.toArray, _, hk, rfl, rfl, rfl, by rw [List.size_toArray, lenV]; exact hl, by simpa using rv⟩) (fun b u z => by have z' : (none : Option HO) = some u := z; cases z') (fun b _ => rfl) (.inl rfl)
  | none =>
    let o : HO := .frz { cls := .type "list", data := .seq vs.toArray } (.lst (ns.map V.int))
    have at_a : (upd (fun _ => none) a o) a = some o := upd_same
    have off : ∀ b, b ≠ a → (upd (fun _ => none) a o) b = none := fun b hb => upd_ne hb
    refine run (upd (fun _ => none) a o) (fun b => ?_) (.inl (.inr ⟨_, at_a⟩)) (fun b u z => ?_) off (.inr hk)
    · by_cases hb : b = a
      · exact .inr ⟨_, _, by rw [hb]; exact at_a⟩
      · exact .inl (off b hb)
    · by_cases hb : b = a
      · subst hb
        rw [at_a] at z
        cases z
        exact ⟨ha, by rw [List.length_map]; exact hl, vs, _, rv, ha⟩
      · rw [off b hb] at z
        cases z
theorem walkQ {l : PySem.W.OpenLaw} {n k : Nat} {q : Program} {loose : List Str} {XP : (Str → Option Value) → Heap → Prop} {YP : World → Heap → Prop} {d : DefRec} {K : Params → PySem.W.Frag} {sp : World → Sp} {x : Str}
    (hn : l.most = some n) (hn2 : n ≤ sizeLine) (hdf : d.params.defaults = []) (hr : Room k callerA) (hY : ∀ (w : World) (h : Heap), YP w h → (K w.params).In h)
    (F : ∀ (w : World) (mg : Str → Option Value) (fa : Addr) (h : Heap), (K w.params).In h → h.Ns mainGlobals mg → mg d.name = some (.ref fa) →
      ∃ fd : FuncData, (∀ (s : Shared) (u : Value), BindsTo s fd ⟨[u], []⟩ [(x, u)]) ∧ ∀ base : Heap, (K w.params).In base → base.Ns mainGlobals mg → FnQ l.prog w (K w.params) mg base CX0 k fa fd [x] (sp w))
    (hsp : ∀ (w : World) (H : Hp) (a : Addr) (ns : List Int), ns.length ≤ n → Only H → SqL (K w.params) H a (ns.map V.int) → sp w [.ref a] H (fun v _ => v = .bl true) fun _ _ _ => False) :
    PySem.W.WalkO q loose XP YP l.row.toRowW d [] (fun f vs => PySem.call f vs) :=
  Att.attach_call hn hdf fun w s0 s1 mg mb fa o pm cd doc a vs ns G Y ho hd hcd hmg hobj hints hlen hg =>
    have KX := hY w _ Y
    let ⟨fd, hb, hF⟩ := F w mg fa _ KX G.T.g hmg
    lawQ KX G.T.g G.T.b G.T.builtins G.T.nolimit hg hobj hints (Nat.le_trans hlen hn2) hr hF hb fun H hO hS => hsp w H a ns hlen hO hS
end LD

/-! LD13: readings over data of what LD11 and LD12 bring. -/
namespace LD
open PySem PySem.Spec L2
section
variable {K : PySem.W.Frag} {ta tb : TE} {a b : TD}
/-! enumerate of a tuple -/
def numD (es : List D) : List D := (List.range es.length).map fun i => .tuple [.int (i : Nat), es.getD i .none]
theorem numD_len (es : List D) : (numD es).length = es.length := by unfold numD; rw [List.length_map, List.length_range]
theorem numD_at {es : List D} {i : Nat} {d : D} (h : (numD es)[i]? = some d) : ∃ x, es[i]? = some x ∧ d = .tuple [.int (i : Nat), x] := by
  unfold numD at h
  rw [List.getElem?_map] at h
  cases hi : (List.range es.length)[i]? with
  | none => rw [hi] at h; cases h
  | some j =>
    have hl : i < es.length := by have := (List.getElem?_eq_some_iff.mp hi).1; rwa [List.length_range] at this
    rw [List.getElem?_range hl] at h
    refine ⟨es[i], List.getElem?_eq_getElem hl, ?_⟩
    rw [← Option.some.inj h]
    show PyData.tuple [.int (i : Nat), es.getD i .none] = _
    rw [List.getD_eq_getElem?_getD, List.getElem?_eq_getElem hl]
    rfl
theorem walks_num {p : Addr} {es : List D} : Walks K (ItN K p) (numD es) [.ref p] [.tuple es] := by
  intro F σ H ρ vs ds i R
  obtain ⟨p', xs, e, e2, s, R1⟩ := Rel.asTup (vs := vs) (ds := ds) R
  cases e
  refine ⟨fun d hd => ?_, fun h => ⟨xs, s, by rw [e2, ← numD_len es]; exact h⟩⟩
  obtain ⟨z, hz, rfl⟩ := numD_at hd
  obtain ⟨v, e3, R2⟩ := R1.pick e2 hz
  refine ⟨⟨xs, v, s, e3⟩, fun x H' hy => ?_⟩
  obtain ⟨T, x', rfl, hT, rfl, hy⟩ := hy
  have := (hy xs s).symm.trans e3
  cases this
  exact Rel.tup (xs := [.int (i : Nat), v]) (es := [.int (i : Nat), z]) (R2.swap fun Hi h => .cons (.int _) h) rfl hT
def iN (t : TDA) : TDI := fun ρ P => t ρ fun r es => ∃ fs, es = [.tuple fs] ∧ P r (numD fs)
theorem si_numT {ta : TA} {t : TDA} (sa : SA K ta t) : SI K (iNumT K ta) (iN t) := by
  refine ⟨fun ρ P P' h q => sa.mono _ _ _ (fun _ es ⟨fs, e, q⟩ => ⟨fs, e, h _ _ q⟩) q, fun F σ H ρ vs ds Q R q => ?_⟩
  refine sa.run F σ H ρ vs ds _ R (sa.mono _ _ _ (fun r es q xs H1 e R1 => ?_) q)
  obtain ⟨fs, e1, q⟩ := q
  subst e1
  obtain ⟨x, xr, rfl, e2⟩ := len_cons e
  obtain rfl := len_nil e2
  obtain ⟨p, ys, rfl, e3, s, R2⟩ := Rel.asTup R1
  exact ⟨p, ys, rfl, s, q _ _ [.ref p] [.tuple fs] rfl walks_num R1⟩
/-! min, max, sorted of data; sum of a tuple -/
def cMinD : CD := fun es P => ∃ d ds, es = [.list (d :: ds)] ∧ PySem.W.AlikeAll (d :: ds) ∧ PyData.depthAll (d :: ds) ≤ 50 ∧ P (PySem.W.minD d ds)
theorem sc_minD : SC K (rMinD K) cMinD := ⟨fun a P P' h ⟨d, ds, e, h1, h2, q⟩ => ⟨d, ds, e, h1, h2, h _ q⟩, fun F σ H ρ vs ds xs es Q e R ⟨d, fs, h, h1, h2, q⟩ => by
  subst h
  obtain ⟨x, r, rfl, e1⟩ := len_cons e
  obtain rfl := len_nil e1
  obtain ⟨p, ys, rfl, e2, s, R1⟩ := Rel.asList R
  refine ⟨p, ys, d, fs, rfl, s, (dpAll_split e2 R1.dpAll).1, h1, h2, fun i v hv hd => ?_⟩
  obtain ⟨w, hw, R2⟩ := R1.pick e2 hd
  rw [hv] at hw
  cases hw
  exact q _ _ R2.drop2⟩
def cMaxD : CD := fun es P => ∃ d ds, es = [.list (d :: ds)] ∧ PySem.W.AlikeAll (d :: ds) ∧ PyData.depthAll (d :: ds) ≤ 50 ∧ P (PySem.W.maxD d ds)
theorem sc_maxD : SC K (rMaxD K) cMaxD := ⟨fun a P P' h ⟨d, ds, e, h1, h2, q⟩ => ⟨d, ds, e, h1, h2, h _ q⟩, fun F σ H ρ vs ds xs es Q e R ⟨d, fs, h, h1, h2, q⟩ => by
  subst h
  obtain ⟨x, r, rfl, e1⟩ := len_cons e
  obtain rfl := len_nil e1
  obtain ⟨p, ys, rfl, e2, s, R1⟩ := Rel.asList R
  refine ⟨p, ys, d, fs, rfl, s, (dpAll_split e2 R1.dpAll).1, h1, h2, fun i v hv hd => ?_⟩
  obtain ⟨w, hw, R2⟩ := R1.pick e2 hd
  rw [hv] at hw
  cases hw
  exact q _ _ R2.drop2⟩
def cSortD : CF := fun es P => ∃ ds, es = [.list ds] ∧ PySem.W.AllAlike ds ∧ PySem.W.Sortable ds ∧ PyData.depthAll ds ≤ 50 ∧ P (ds.mergeSort leD)
theorem scf_sortD : SCF K (rSortD K) cSortD := ⟨fun a P P' h ⟨ds, e, h1, h2, h3, q⟩ => ⟨ds, e, h1, h2, h3, h _ q⟩, fun F σ H ρ vs ds xs es Q e R ⟨fs, h, h1, h2, h3, q⟩ => by
  subst h
  obtain ⟨x, r, rfl, e1⟩ := len_cons e
  obtain rfl := len_nil e1
  obtain ⟨p, ys, rfl, e2, s, R1⟩ := Rel.asList R
  refine ⟨p, ys, fs, rfl, s, (dpAll_split e2 R1.dpAll).1, h1, h2, h3, fun zs l hz hd hl => q zs H l (by rw [(List.mergeSort_perm _ _).length_eq]; exact hz) (R1.swap fun Hi h => ?_) hl⟩
  obtain ⟨g1, g2⟩ := dpAll_split e2 h
  cases g2 with | cons _ g2 => exact dpAll_app (hd Hi g1) g2⟩
def cSumT : CD := fun es P => ∃ ns : List Int, es = [.tuple (ns.map PyData.int)] ∧ P (.int ns.sum)
theorem sc_sumT : SC K (rSumT K) cSumT := ⟨fun a P P' h ⟨bs, e, q⟩ => ⟨bs, e, h _ q⟩, fun F σ H ρ vs ds xs es Q e R ⟨bs, h, q⟩ => by
  subst h
  obtain ⟨x, r, rfl, e1⟩ := len_cons e
  obtain rfl := len_nil e1
  obtain ⟨p, ys, rfl, e2, s, R1⟩ := Rel.asTup R
  have ey := ints_of (K := K) bs ys (dpAll_split e2 R1.dpAll).1
  subst ey
  exact ⟨p, bs, rfl, s, q _ _ (Rel.push (v := .int bs.sum) (Rel.drop R) rfl)⟩⟩
/-! a tuple so many times -/
def oRepT : OD := fun a b P => ∃ es k, a = .tuple es ∧ b = .int k ∧ es ≠ [] ∧ 2 ≤ k ∧ k ≤ 1000 ∧ es.length ≤ 1000 ∧ P (.tuple (List.replicate k.toNat es).flatten)
theorem dpAll_rep {Hi : Hp} {xs : List V} {es : List D} (h : DpAll K Hi xs es) : ∀ n, DpAll K Hi (List.replicate n xs).flatten (List.replicate n es).flatten
  | 0 => .nil
  | n + 1 => by
    rw [List.replicate_succ, List.replicate_succ, List.flatten_cons, List.flatten_cons]
    exact dpAll_app h (dpAll_rep h n)
theorem so_repT : SO K (rRepT K) oRepT := by
  refine ⟨fun a b P P' h ⟨es, k, e1, e2, h1, h2, h3, h4, q⟩ => ⟨es, k, e1, e2, h1, h2, h3, h4, h _ q⟩, fun F σ H ρ vs ds x y a b Q R q => ?_⟩
  obtain ⟨es, k, e1, e2, h1, h2, h3, h4, q⟩ := q
  subst e1 e2
  obtain rfl := R.int
  obtain ⟨p, xs, rfl, e, s, R1⟩ := R.drop.asTup
  refine ⟨p, k, xs, rfl, rfl, s, fun z => h1 ?_, h2, h3, by rw [e]; exact h4, fun t ht => q _ _ ?_⟩
  · rw [z] at e
    exact List.length_eq_zero_iff.mp e.symm
  · have R2 : Rel K F σ H ρ ((List.replicate k.toNat xs).flatten ++ vs) ((List.replicate k.toNat es).flatten ++ ds) := R1.swap fun Hi h => by
      obtain ⟨g1, g2⟩ := dpAll_split e h
      cases g2 with | cons _ g2 => exact dpAll_app (dpAll_rep g1 _) g2
    exact R2.tup (by rw [List.length_flatten, List.length_flatten, List.map_replicate, List.map_replicate, e]) ht
/-! list(range(..)) -/
theorem rgV_dp {Hi : Hp} (i j : Int) : DpAll K Hi (rgV i j) (rngD i (j - i).toNat) := by
  unfold rgV rngD
  generalize List.range (j - i).toNat = l
  induction l with
  | nil => exact .nil
  | cons x l ih => exact .cons (.int _) ih
def dRg1 (a : TD) : TDA := fun ρ P => a ρ fun r d => ∃ n, d = .int n ∧ RgOk 0 n ∧ P r (rngD 0 n.toNat)
theorem sf_rg1 (sa : SE K ta a) : SF K (tLstRg (tRg1 ta)) (dRg1 a) := by
  refine ⟨fun ρ P P' h q => sa.mono _ _ _ (fun _ x ⟨n, e, h1, q⟩ => ⟨n, e, h1, h _ _ q⟩) q, fun F σ H ρ vs ds Q R q => ?_⟩
  refine sa.run F σ H ρ vs ds _ R (sa.mono _ _ _ (fun r x q v H1 R1 => ?_) q)
  obtain ⟨n, e, h1, q⟩ := q
  subst e
  obtain rfl := R1.int
  refine ⟨n, rfl, h1, fun p hp => q _ _ _ ?_ (R1.drop.swap fun Hi h => ?_) hp⟩
  · rw [rgV_length, rngD_len, Int.sub_zero]
  · have := rgV_dp (K := K) (Hi := Hi) 0 n
    rw [Int.sub_zero] at this
    exact dpAll_app this h
def dRg2 (a b : TD) : TDA := fun ρ P => a ρ fun r x => b r fun r2 y => ∃ i j, x = .int i ∧ y = .int j ∧ RgOk i j ∧ P r2 (rngD i (j - i).toNat)
theorem sf_rg2 (sa : SE K ta a) (sb : SE K tb b) : SF K (tLstRg (tRg2 ta tb)) (dRg2 a b) := by
  refine ⟨fun ρ P P' h q => sa.mono _ _ _ (fun _ x q => sb.mono _ _ _ (fun _ y ⟨i, j, e, e2, h1, q⟩ => ⟨i, j, e, e2, h1, h _ _ q⟩) q) q, fun F σ H ρ vs ds Q R q => ?_⟩
  refine sa.run F σ H ρ vs ds _ R (sa.mono _ _ _ (fun r x q v H1 R1 => ?_) q)
  refine sb.run F σ H1 r _ _ _ R1 (sb.mono _ _ _ (fun r2 y q u H2 R2 => ?_) q)
  obtain ⟨i, j, e, e2, h1, q3⟩ := q
  subst e e2
  have ej := R2.int
  have ei := R2.drop.int
  subst ei ej
  refine ⟨i, j, rfl, rfl, h1, fun p hp => q3 _ _ _ ?_ (R2.drop.drop.swap fun Hi h => dpAll_app (rgV_dp i j) h) hp⟩
  rw [rgV_length, rngD_len]
end
/-! a whole def in which the text of data is asked -/
section
variable {P : Program} {w : World} {K : PySem.W.Frag} {mg : Str → Option Value} {base : Heap}
theorem ok_Q {x qual : Str} {st : Stmt} {f : Addr} {fd : FuncData} {N ps : List Str} {k : Nat} {g : CD} (F : Fun K x qual st f fd) (S : FnScope N ps (defScope st)) (hl : ∀ ds P, g ds P → ds.length = ps.length)
    (hbody : ∀ (cdv : Value) (A : Around) (outer : List Env) (s : Shared) (H : Hp) (E : XK), (A.deeper (PyProof.Rows.envOfC qual (defScope st) s.heap.objs.size f cdv)).guards = some [] → Room k (A.deeper (PyProof.Rows.envOfC qual (defScope st) s.heap.objs.size f cdv)) →
      ∃ ts t, PSs (cxOf CX0 P w K mg base N qual (defScope st) f cdv A outer s H E).nox (defBody st) ts ∧ SS K ts t ∧ ∀ ds Pd, g ds Pd → t { nx := fun _ => Pd .none, rt := fun _ d => Pd d } (rho0 ds (N.length - ds.length))) : FnQ P w K mg base CX0 (k + 1) f fd ps (spD K g) := by
  refine okQ F S (fun vs H Q E h => ?_) (fun cdv A outer s H vs Q E hgd hr h => ?_)
  · obtain ⟨Hi, ds, _, h2, hg⟩ := h
    rw [dpAll_len h2]
    exact hl _ _ hg
  · obtain ⟨ts, t, h1, h2, h3⟩ := hbody cdv A outer s H E hgd hr
    obtain ⟨Hi, ds, e1, e2, hg⟩ := h
    exact ⟨ts, h1, run_D h2 e1 e2 (fun d q => q) (h3 ds _ hg)⟩
end
end LD

/-! LD14: what the draws promise; facts that more than one law asks. -/
namespace LD
open PySem PySem.Spec L2
def g_any : CD := fun ds P => ∃ m : Int, ds = [.int m] ∧ 0 < m ∧ m.natAbs.log2 < 9000 ∧ ∀ x, 0 ≤ x → x < m → P (.int x)
theorem g_any_mono : ∀ es P P', (∀ d, P d → P' d) → g_any es P → g_any es P' := fun es P P' h ⟨m, e, h1, h2, q⟩ => ⟨m, e, h1, h2, fun x a b => h _ (q x a b)⟩
def g_of : CD := fun ds P => ∃ es : List D, ds = [.list es] ∧ es ≠ [] ∧ es.length ≤ 1000000 ∧ ∀ d ∈ es, P d
theorem g_of_mono : ∀ es P P', (∀ d, P d → P' d) → g_of es P → g_of es P' := fun es P P' h ⟨m, e, h1, h2, q⟩ => ⟨m, e, h1, h2, fun x a => h _ (q x a)⟩
def g_draw : List D → Prop := fun ds => ∃ (ns : List Int) (s : Int), ds = [.list (ns.map PyData.int), .int s] ∧ ns.length ≤ 63 ∧ 0 ≤ s ∧ s < 1000
theorem fm_map {α β γ : Type} {g : α → β} {h : β → Option γ} {k : α → γ} (hk : ∀ x, h (g x) = some (k x)) : ∀ xs : List α, (xs.map g).filterMap h = xs.map k
  | [] => rfl
  | x :: xs => by rw [List.map_cons, List.filterMap_cons_some (hk x), fm_map hk xs, List.map_cons]
theorem cut48 (ns : List Int) : ∃ ms : List Int, cutD (ns.map PyData.int) none (some 48) = ms.map PyData.int ∧ ms.length ≤ 48 := by
  refine ⟨ns.take 48, ?_, List.length_take_le ..⟩
  unfold cutD
  rw [HT.sIx_none, List.drop_zero, Nat.sub_zero, List.length_map, List.map_take]
  rw [show HT.sIx ns.length ns.length (some 48) = min 48 ns.length from HT.sIx_nat ns.length ns.length 48]
  by_cases h : 48 ≤ ns.length
  · rw [Nat.min_eq_left h]
  · rw [Nat.min_eq_right (by omega), List.take_of_length_le (by rw [List.length_map]; omega), List.take_of_length_le (by rw [List.length_map]; omega)]
/-! ### the source of draws, on the heap -/
structure DX (H H' : Hp) (a l : Addr) (ns : List Int) (b : Int) : Prop where
  keep : ∀ c o, H c = some o → c ≠ a → c ≠ l → H' c = some o
  dom : ∀ c, H c ≠ none → H' c ≠ none
  nal : a ≠ l
  at_a : H' a = some (.lst [.ref l, .int b])
  at_l : H' l = some (.lst (ns.map V.int))
theorem DX.new {H H' : Hp} {a l p : Addr} {o : HO} {ns : List Int} {b : Int} (d : DX H H' a l ns b) (hp : H' p = none) : DX H (upd H' p o) a l ns b :=
  ⟨fun c x e n1 n2 => same_upd hp c x (d.keep c x e n1 n2), fun c e => by
    cases q : H' c with
    | none => exact absurd q (d.dom c e)
    | some x => rw [same_upd hp c x q]; simp, d.nal, same_upd hp _ _ d.at_a, same_upd hp _ _ d.at_l⟩
theorem DX.setL {H H' : Hp} {a l : Addr} {ns ms : List Int} {b : Int} (d : DX H H' a l ns b) : DX H (upd H' l (.lst (ms.map V.int))) a l ms b :=
  ⟨fun c x e n1 n2 => by rw [upd_ne n2]; exact d.keep c x e n1 n2, fun c e => by
    by_cases hc : c = l
    · rw [hc, upd_same]; simp
    · rw [upd_ne hc]; exact d.dom c e, d.nal, by rw [upd_ne d.nal]; exact d.at_a, upd_same⟩
theorem DX.setA {H H' : Hp} {a l : Addr} {ns : List Int} {b c : Int} (d : DX H H' a l ns b) : DX H (upd H' a (.lst [.ref l, .int c])) a l ns c :=
  ⟨fun c x e n1 n2 => by rw [upd_ne n1]; exact d.keep c x e n1 n2, fun c e => by
    by_cases hc : c = a
    · rw [hc, upd_same]; simp
    · rw [upd_ne hc]; exact d.dom c e, d.nal, upd_same, by rw [upd_ne (Ne.symm d.nal)]; exact d.at_l⟩
theorem canLay_ints : ∀ ns : List Int, PyData.canLayAll0 (ns.map PyData.int) = true
  | [] => rfl
  | n :: ns => by
    rw [List.map_cons]
    simp only [PyData.canLayAll0, PyData.canLay0, canLay_ints ns, Bool.and_self]
theorem depth_ints : ∀ ns : List Int, PyData.depthAll (ns.map PyData.int) = 0
  | [] => rfl
  | n :: ns => by
    rw [List.map_cons]
    simp only [PyData.depthAll, PyData.depth, depth_ints ns, Nat.max_self]
theorem sh_ints (ns : List Int) : SeqAt.shaped (.list (ns.map PyData.int)) = true := by
  unfold SeqAt.shaped
  simp only [PyData.canLay0, PyData.depth, canLay_ints, depth_ints]
  rfl
theorem eqv_nil (ns : List Int) : PyData.eqv (.list (ns.map PyData.int)) (.list []) = ns.isEmpty := by
  cases ns with
  | nil => simp [PyData.eqv, PyData.eqvAll]
  | cons x xs => simp [PyData.eqv, PyData.eqvAll]
theorem snoc_or (ns : List Int) : ns = [] ∨ ∃ ms z, ns = ms ++ [z] := by
  cases ns with
  | nil => exact .inl rfl
  | cons x xs => exact .inr ⟨(x :: xs).dropLast, (x :: xs).getLast (List.cons_ne_nil _ _), (List.dropLast_concat_getLast _).symm⟩
def rngI (lo : Int) (n : Nat) : List Int := (List.range n).map fun (k : Nat) => lo + (k : Int)
theorem rngD_I (lo : Int) (n : Nat) : rngD lo n = (rngI lo n).map PyData.int := by
  unfold rngD rngI
  rw [List.map_map]
  rfl
theorem small_log {n : Int} (h1 : -(2 ^ 200) < n) (h2 : n < 2 ^ 200) : n.natAbs.log2 < 1920 := Nat.lt_trans (PySem.Flt.log2_lt_of (k := 200) (by decide) (by omega)) (by decide)
theorem ints_all {p : Int → Prop} : ∀ {ys : List D}, (∀ y ∈ ys, ∃ i : Int, y = .int i ∧ p i) → ∃ ns : List Int, ys = ns.map PyData.int ∧ ∀ n ∈ ns, p n
  | [], _ => ⟨[], rfl, fun _ h => by cases h⟩
  | y :: ys, h => by
    obtain ⟨i, rfl, q⟩ := h y List.mem_cons_self
    obtain ⟨ns, rfl, q2⟩ := ints_all fun z hz => h z (List.mem_cons_of_mem _ hz)
    refine ⟨i :: ns, rfl, fun n hn => ?_⟩
    rcases List.mem_cons.mp hn with e | hn
    · rw [e]; exact q
    · exact q2 n hn
/-- what stands ready for the draws -/
structure TB (K : PySem.W.Frag) (mg : Str → Option Value) : Prop where
  b_int : mg "int" = none
  b_abs : mg "abs" = none
  b_len : mg "len" = none
structure TA (P : Program) (w : World) (K : PySem.W.Frag) (mg : Str → Option Value) (base : Heap) : Prop extends TB K mg where
  d_law_any : C8.Cal P w K mg base 1 "_law_any" (spW K g_any) []
/-! texts that are short -/
structure RepOk (d : D) : Prop where
  show_ : d.showable = true
  flat : d.hasDict = false
  deep : d.depth ≤ 60
  len : d.shown.length ≤ sizeLine
def Mid (n : Int) : Prop := -999999999999 ≤ n ∧ n ≤ 999999999999
theorem rep_int {i : Int} (h : Mid i) : RepOk (.int i) := by
  have h1 := h.1
  have h2 := h.2
  refine ⟨?_, rfl, Nat.zero_le _, ?_⟩
  · simp only [PyData.showable, decide_eq_true_eq]
    exact small_log (by omega) (by omega)
  · exact Nat.le_trans (PyData.shown_int_le2 h1 h2) (by rw [sizeLine_eq]; decide)
theorem ints_show : ∀ {ns : List Int}, (∀ n ∈ ns, Mid n) → PyData.showableAll (ns.map PyData.int) = true ∧ PyData.hasDictAll (ns.map PyData.int) = false ∧ PyData.leavesShortAll 13 (ns.map PyData.int) = true ∧ PyData.bulkAll (ns.map PyData.int) = ns.length
  | [], _ => ⟨rfl, rfl, rfl, rfl⟩
  | n :: ns, h => by
    obtain ⟨a, b, c, d⟩ := ints_show fun m hm => h m (List.mem_cons_of_mem _ hm)
    have hn := h n List.mem_cons_self
    have r := rep_int hn
    have l := PyData.shown_int_le2 hn.1 hn.2
    rw [List.map_cons]
    refine ⟨?_, ?_, ?_, ?_⟩
    · simp only [PyData.showableAll, r.show_, a, Bool.and_self]
    · simp only [PyData.hasDictAll, r.flat, b, Bool.or_self]
    · simp only [PyData.leavesShortAll, PyData.leavesShort, c, Bool.and_true, decide_eq_true_eq]
      exact l
    · simp only [PyData.bulkAll, PyData.bulk, d, List.length_cons]
      omega
theorem rep_tup {ns : List Int} (h : ∀ n ∈ ns, Mid n) (hl : ns.length ≤ 1000000) : RepOk (.tuple (ns.map PyData.int)) := by
  obtain ⟨a, b, c, d⟩ := ints_show h
  refine ⟨?_, ?_, ?_, PyData.shown_fits_bulk (B := 13) (by decide) (by decide) ?_ ?_⟩
  · simp only [PyData.showable, a]
  · simp only [PyData.hasDict, b]
  · simp only [PyData.depth, depth_ints]
    omega
  · simp only [PyData.leavesShort, c]
  · simp only [PyData.bulk, d]
    omega
theorem eqv_bool (a b : Bool) : PyData.eqv (.bool a) (.bool b) = (a == b) := by
  cases a <;> cases b <;> simp [PyData.eqv]
end LD

/-! LD15: dicts whose keys are tuples of ints, wherever the tuples come from: rules below the data. -/
namespace LD
open PySem PySem.Spec L2
abbrev XT := List (List Int × Addr × Value)
theorem hash_one (P : Program) (w : World) (P' : Program) (w' : World) (x : List Int × Addr × Value) : entryOfKey (tupleKind (mixKind P w)) (keyX x) = entryOfKey (tupleKind (mixKind P' w')) (keyX x) := by
  unfold entryOfKey
  congr 1
  show tupleKeyHash (mixKind P w) (x.1.map Sum.inl) = tupleKeyHash (mixKind P' w') (x.1.map Sum.inl)
  unfold tupleKeyHash
  rw [List.map_map, List.map_map]
  rfl
/-- the keys' tuples stand -/
def KeysIn (K : PySem.W.Frag) (H : Hp) (xs : XT) : Prop := ∀ x ∈ xs, SqT K H x.2.1 (x.1.map V.int)
section
variable {X : Cx} {pins : List (Addr × Obj)} {σ : L2.St} {H : Hp} {s : Shared} {a b : Addr} {xs : XT} {k : List Int}
theorem map_kV (k : List Int) : (k.map Sum.inl).map kV = k.map V.int := by
  rw [List.map_map]
  rfl
theorem keyIn (I : Inv X pins σ H s) (h : SqT X.K H b (k.map V.int)) : (tupleKind (mixKind X.prog X.w)).is s.heap (k.map Sum.inl) b := by
  obtain ⟨its, r, ⟨o, h1, h2, n, h3⟩, _⟩ := I.tuple h
  refine ⟨o, its.toArray, n, h1, h2, h3, ?_⟩
  rw [← map_kV] at r
  simpa using items_are r
theorem raw_of (I : Inv X pins σ H s) (h : H a = some (.ext (RawT a xs))) : RawT a xs s.heap := (show ObjOk X.prog X.w H s.heap a (.ext (RawT a xs)) from I.hok a _ h).1
theorem nodup_keyX {xs : XT} (h : (xs.map (·.1)).Nodup) : ((xs.map keyX).map (·.1)).Nodup := by
  rw [List.map_map]
  have e : ((fun x : List L2.Key × Addr × Value => x.1) ∘ keyX) = (fun k : List Int => k.map Sum.inl) ∘ fun x : List Int × Addr × Value => x.1 := rfl
  rw [e, ← List.map_map]
  exact List.Pairwise.map _ (fun p q hpq z => hpq (by
    have := congrArg (List.map fun k : L2.Key => match k with | .inl i => i | .inr _ => (0 : Int)) z
    rw [List.map_map, List.map_map] at this
    simpa [Function.comp_def] using this)) h
theorem dictIn (I : Inv X pins σ H s) (R : RawT a xs s.heap) (hk : KeysIn X.K H xs) : s.heap.DictOfH (tupleKind (mixKind X.prog X.w)) a (xs.map keyX) := by
  obtain ⟨o, es, ep, h1, h2, h3, h4⟩ := R.raw
  refine ⟨o, es, ep, h1, h2, h3, ?_, fun x hx => ?_, nodup_keyX R.one⟩
  · rw [h4 X.prog X.w, List.map_map]
    rfl
  · obtain ⟨y, hy, rfl⟩ := List.mem_map.mp hx
    exact keyIn I (hk y hy)
/-- what stands at the key -/
def atX (xs : XT) (k : List Int) : Option (Addr × Value) := (xs.find? fun x => decide (x.1 = k)).map (·.2)
theorem inl_inj {k l : List Int} : (k.map Sum.inl : List L2.Key) = l.map Sum.inl ↔ k = l := by
  constructor
  · intro z
    have := congrArg (List.map fun k : L2.Key => match k with | .inl i => i | .inr _ => (0 : Int)) z
    rw [List.map_map, List.map_map] at this
    simpa [Function.comp_def] using this
  · rintro rfl; rfl
theorem atKey_X (k : List Int) : ∀ xs : XT, atKey (xs.map keyX) (k.map Sum.inl) = atX xs k
  | [] => rfl
  | x :: xs => by
    have ih := atKey_X k xs
    unfold atKey atX at ih ⊢
    rw [List.map_cons, List.find?_cons, List.find?_cons]
    have e : decide ((keyX x).1 = k.map Sum.inl) = decide (x.1 = k) := decide_eq_decide.mpr inl_inj
    rw [e]
    cases decide (x.1 = k) with
    | true => rfl
    | false => exact ih
def putX (xs : XT) (k : List Int) (b : Addr) (u : Value) : XT := if (atX xs k).isSome then xs.map fun x => if x.1 = k then (x.1, x.2.1, u) else x else xs ++ [(k, b, u)]
theorem stored_X (xs : XT) (k : List Int) (b : Addr) (u : Value) : storedH (xs.map keyX) (k.map Sum.inl) b u = (putX xs k b u).map keyX := by
  unfold storedH putX
  rw [atKey_X]
  split
  · rw [List.map_map, List.map_map]
    refine List.map_congr_left fun x _ => ?_
    show putAt (k.map Sum.inl) u (keyX x) = keyX (if x.1 = k then (x.1, x.2.1, u) else x)
    unfold putAt
    by_cases h : x.1 = k
    · rw [if_pos h, if_pos (show (keyX x).1 = k.map Sum.inl from inl_inj.mpr h)]
      rfl
    · rw [if_neg h, if_neg (show ¬ (keyX x).1 = k.map Sum.inl from fun z => h (inl_inj.mp z))]
  · rw [List.map_append]
    rfl
theorem put_len (xs : XT) (k : List Int) (b : Addr) (u : Value) : (putX xs k b u).length ≤ xs.length + 1 := by
  unfold putX
  split
  · rw [List.length_map]; omega
  · rw [List.length_append]; exact Nat.le_refl _
theorem put_keys (xs : XT) (k : List Int) (b : Addr) (u : Value) : (putX xs k b u).map (·.1) = if (atX xs k).isSome then xs.map (·.1) else xs.map (·.1) ++ [k] := by
  unfold putX
  split
  · rw [List.map_map]
    refine List.map_congr_left fun x _ => ?_
    show (if x.1 = k then (x.1, x.2.1, u) else x).1 = x.1
    split <;> rfl
  · rw [List.map_append]
    rfl
theorem atX_none {xs : XT} {k : List Int} (h : (atX xs k).isSome = false) : k ∉ xs.map (·.1) := fun hk => by
  obtain ⟨x, hx, e⟩ := List.mem_map.mp hk
  unfold atX at h
  rw [Option.isSome_map] at h
  have hn : (xs.find? fun x => decide (x.1 = k)) = none := by
    cases q : xs.find? fun x => decide (x.1 = k) with
    | none => rfl
    | some y => rw [q] at h; cases h
  exact List.find?_eq_none.mp hn x hx (decide_eq_true e)
theorem put_one {xs : XT} {k : List Int} {b : Addr} {u : Value} (h : (xs.map (·.1)).Nodup) : ((putX xs k b u).map (·.1)).Nodup := by
  rw [put_keys]
  cases q : (atX xs k).isSome with
  | true => exact h
  | false =>
    rw [if_neg (by decide)]
    exact List.nodup_append.mpr ⟨h, List.nodup_cons.mpr ⟨by simp, List.nodup_nil⟩, fun x hx y hy e => atX_none q (by
      have : y = k := by simpa using hy
      rw [← this, ← e]; exact hx)⟩
end
/-! ### the rules -/
theorem rawT_local {a : Addr} {xs : XT} (h1 h2 : Heap) (R : RawT a xs h1) (k : ∀ o, h1.get? a = some o → h2.get? a = some o) : RawT a xs h2 := by
  obtain ⟨⟨o, es, ep, e1, e2⟩, r1, r2, r3⟩ := R
  exact ⟨⟨o, es, ep, k o e1, e2⟩, r1, r2, r3⟩
/-- {} -/
def tNewX : TE := fun _ H Q => ∀ p, H p = none → Q (.ref p) (upd H p (.ext (RawT p [])))
theorem pe_newX {X : Cx} {pos : Pos} : PE X (.Dict [] [] pos) tNewX := ⟨fun pins s σ H Q I h => by
  refine wpAny_Dict_empty ⟨.ref s.heap.objs.size, _, I.laid (a := s.heap.objs.size) (o := .ext (RawT s.heap.objs.size [])) (t' := s.toks) (fun _ _ q => Heap.get?_push_of_some _ q) (Nat.le_refl _) ?_, rfl, h _ (I.hok.fresh (Nat.le_refl _))⟩
  refine ⟨⟨⟨_, #[], 0, Heap.get?_push_size _ rfl, ⟨rfl, rfl, rfl⟩, rfl, fun _ _ => rfl⟩, List.nodup_nil, Nat.zero_le _, beq_eq_false_iff_ne.mpr (Ne.symm (Nat.ne_of_lt I.big))⟩, ⟨_, Heap.get?_push_size _ rfl⟩, fun h1 h2 R k => rawT_local h1 h2 R k⟩⟩
/-- d[k], there -/
def rIxX (K : PySem.W.Frag) : R2 := fun x y H Q => ∃ a xs b k c u v, x = .ref a ∧ y = .ref b ∧ H a = some (.ext (RawT a xs)) ∧ KeysIn K H xs ∧ SqT K H b (k.map V.int) ∧ atX xs k = some (c, u) ∧ RelV v u ∧ Q v H
section
variable {X : Cx} {o i e f value : Expr} {pos pos' apos cpos : Pos} {td ty tv tx : TE}
theorem pe_ixX (hu : X.A.units + 1 < cLine) (ho : PE X o td) (hi : PE X i ty) (hs : NoSl i) : PE X (.Subscript o i pos) (tOp (rIxX X.K) td ty) := by
  refine ⟨fun pins s σ H Q I h => ?_⟩
  refine subD_of PySem.F.slot_dict_getitem.lookup hs (thn (ho.run pins s σ H _ I h) fun u s1 ⟨x, H1, I1, rx, q1⟩ => thn (hi.run pins s1 σ H1 _ I1 q1) fun iv s2 ⟨y, H2, I2, ry, q2⟩ => ?_)
  obtain ⟨a, xs, b, k, c, w, v, ex, ey, ha, hk, hb, hat, rv, q⟩ := q2
  subst ex ey
  obtain rfl : u = Value.ref a := rx
  obtain rfl : iv = Value.ref b := ry
  have D := dictIn I2 (raw_of I2 ha) hk
  refine ⟨D.typeIs, wpAny_getItem_heap (p := (c, w)) (tupleKind_room_in1 hu) (keyIn I2 hb) D (by rw [atKey_X]; exact hat) ⟨v, H2, I2.tok _, rv, q⟩⟩
/-- d[k] = v -/
def rSetX (K : PySem.W.Frag) : TSet := fun o i v H Q => ∃ a xs b k, o = .ref a ∧ i = .ref b ∧ H a = some (.ext (RawT a xs)) ∧ KeysIn K H xs ∧ SqT K H b (k.map V.int) ∧ xs.length < sizeLine ∧ ∀ u, RelV v u → Q (upd H a (.ext (RawT a (putX xs k b u))))
theorem set_X (hu : X.A.units + 1 < cLine) : PSet X (rSetX X.K) := by
  intro pins s σ H o i v ov iv u Q I ro ri rv h
  obtain ⟨a, xs, b, k, rfl, rfl, ha, hk, hb, hz, q⟩ := h
  obtain rfl : ov = Value.ref a := ro
  obtain rfl : iv = Value.ref b := ri
  have R := raw_of I ha
  have D := dictIn I R hk
  refine wpAny_setItem_heap (hsz := by rw [List.length_map]; exact R.few) (tupleKind_room_in1 hu) (keyIn I hb) D fun h' dd hs => ?_
  rw [stored_X] at dd
  obtain ⟨ob, es, ep, g1, g2, g3, g4, _, g5⟩ := dd
  have R' : RawT a (putX xs k b u) h' := ⟨⟨ob, es, ep, g1, g2, g3, fun P w => by
    rw [g4, List.map_map]
    refine List.map_congr_left fun x _ => hash_one _ _ _ _ x⟩, put_one R.one, by have := put_len xs k b u; omega, R.own⟩
  exact ⟨_, d_write I (by rw [ha]; exact True.intro) hs ⟨ob, g1⟩ (show ObjOk X.prog X.w (upd H a (.ext (RawT a (putX xs k b u)))) h' a (.ext (RawT a (putX xs k b u))) from ⟨R', ⟨ob, g1⟩, fun h1 h2 => rawT_local h1 h2⟩), q u rv⟩
/-- d.get(k, x) -/
def tGetX (K : PySem.W.Frag) (td ty tx : TE) : TE := fun σ H Q => td σ H fun x H1 => (∃ a xs, x = .ref a ∧ H1 a = some (.ext (RawT a xs)) ∧ KeysIn K H1 xs) ∧ ty σ H1 fun y H2 => tx σ H2 fun z H3 =>
  ∃ a xs b k, x = .ref a ∧ y = .ref b ∧ H3 a = some (.ext (RawT a xs)) ∧ KeysIn K H3 xs ∧ SqT K H3 b (k.map V.int) ∧ (∀ c u, atX xs k = some (c, u) → ∃ v, RelV v u ∧ Q v H3) ∧ (atX xs k = none → Q z H3)
theorem pe_getX (hu : X.A.units + 1 < cLine) (ho : PE X o td) (he : PE X e ty) (hf : PE X f tx) (m : M2 X o "get" apos e f cpos) : PE X (.Call (.Attribute o "get" apos) [e, f] [] cpos) (tGetX X.K td ty tx) := by
  refine ⟨fun pins s σ H Q I h => ?_⟩
  refine wpAny_Call_method m.base m.few m.line PySem.F.plainAttrs_dict PySem.F.slot_dict_get PySem.F.type_dict_get (thn (ho.run pins s σ H _ I h) fun u s1 ⟨x, H1, I1, rx, q0, q1⟩ => ?_)
  obtain ⟨a, xs, ex, ha, hk⟩ := q0
  subst ex
  obtain rfl : u = Value.ref a := rx
  have D1 := dictIn I1 (raw_of I1 ha) hk
  refine ⟨D1.typeIs, fun c z => ?_, ?_⟩
  · cases z
    obtain ⟨ob, _, _, h1, h2, _⟩ := D1
    exact ⟨ob, h1, h2.2.1⟩
  rw [m.trees]
  refine Calls.callWith_builtin rfl (Calls.evalArgs_plain (Calls.spliced_cons (thn (he.run pins s1 σ H1 _ I1 q1) fun iv s2 ⟨y, H2, I2, ry, q2⟩ =>
    Calls.spliced_cons (thn (hf.run pins s2 σ H2 _ I2 q2) fun fv s3 ⟨z, H3, I3, rz, q3⟩ => Calls.spliced_nil ?_))))
  obtain ⟨a', ys, b, k, ex, ey, ha', hk', hb, q4, q5⟩ := q3
  cases ex
  subst ey
  obtain rfl : iv = Value.ref b := ry
  have R := raw_of I3 ha'
  have D := dictIn I3 R hk'
  refine call_meetsIn PySem.F.slot_dict_get D.typeIs PySem.F.entry_dict_get (PySem.F.args_dict_get_3 _ _ _) (meetsH_dict_get_default (tupleKind (mixKind X.prog X.w)) a b R.own fv) ⟨tupleKind_room_in1 hu, _, _, keyIn I3 hb, D, ?_⟩
  rw [atKey_X]
  cases hat : atX ys k with
  | none => exact ⟨z, H3, I3.tok _, rz, q5 hat⟩
  | some p =>
    obtain ⟨c, w⟩ := p
    obtain ⟨v, rv, q6⟩ := q4 c w hat
    exact ⟨v, H3, I3.tok _, rv, q6⟩
end
/-! ### sorted(d) -/
def keyD (xs : XT) : List D := xs.map fun x => .tuple (x.1.map PyData.int)
theorem reads_ints {h : Heap} : ∀ {k : List Int} {vs : List Value} {as : List Addr}, ReadsAll h vs (k.map PyData.int) as → as = []
  | [], _, _, r => by cases r; rfl
  | i :: k, _, _, r => by
    cases r with
    | cons a b =>
      cases a
      rw [reads_ints b]
      rfl
theorem reads_key {h : Heap} {k : List Int} {u : Value} {as : List Addr} (r : Reads h u (.tuple (k.map PyData.int)) as) : as = [] := by
  cases r with
  | tuple _ _ _ r => exact reads_ints r
theorem dpAll_keys {K : PySem.W.Frag} {H : Hp} : ∀ {xs : XT}, KeysIn K H xs → DpAll K H (xs.map fun x => V.ref x.2.1) (keyD xs)
  | [], _ => .nil
  | x :: xs, h => .cons (.tup (h x List.mem_cons_self) (dpAll_ints _)) (dpAll_keys fun y hy => h y (List.mem_cons_of_mem _ hy))
theorem vals_refsX : ∀ xs : XT, Vals (xs.map fun x => V.ref x.2.1) (xs.map fun x => Value.ref x.2.1)
  | [] => .nil
  | x :: xs => .cons rfl (vals_refsX xs)
def rSortX (K : PySem.W.Frag) : List V → Hp → VK → Prop := fun vs H Q => ∃ (a : Addr) (xs : XT), vs = [.ref a] ∧ H a = some (.ext (RawT a xs)) ∧ KeysIn K H xs ∧ PySem.W.AllAlike (keyD xs) ∧ PySem.W.Sortable (keyD xs) ∧
  ∀ (ys : List V) (p : Addr), ys.length = xs.length → (∀ Hi, DpAll K Hi (xs.map fun x => V.ref x.2.1) (keyD xs) → DpAll K Hi ys ((keyD xs).mergeSort leD)) → H p = none → Q (.ref p) (upd H p (.lst ys))
theorem depth_key {d : D} {xs : XT} (h : d ∈ keyD xs) : d.depth ≤ 1 := by
  obtain ⟨x, _, rfl⟩ := List.mem_map.mp h
  simp only [PyData.depth, depth_ints]
  exact Nat.le_refl _
open PySem.Calls PySem.W PyProof.Rows in
theorem cr_sortX {X : Cx} (hc : X.calm = true) (hu : X.A.units + 64 < cLine) : CallR X (.builtin "sorted") (rSortX X.K) := by
  intro pins s σ H vs us Q I r h
  obtain ⟨a, xs, rfl, ha, hk, hal, hso, q⟩ := h
  rw [Vals.ref1 r]
  have R := raw_of I ha
  obtain ⟨o, es, ep, h1, h2, h3, h4⟩ := R.raw
  have hes : es.size = xs.length := by
    have := congrArg List.length (h4 X.prog X.w)
    rw [Array.length_toList, List.length_map] at this
    exact this
  refine call_function_entry kind_sorted plain_sorted entry_sorted (args_sorted1 _) ?_
  unfold Builtin.«sorted»
  refine wpAny_bind (m := checkCount "sorted" 1 1 _) (wpAny_pure ?_)
  refine wpAny_bind (kdu_collect (A := X.A.in1) (KdlSrc.rawDict (es := es) (ep := ep) R.own) (I.ok.hd hc) ⟨o, h1, h2, h3⟩ (by rw [hes]; exact R.few) fun h' tk acc hkp hacc => ?_)
  have el : acc.toList.length = xs.length := by rw [Array.length_toList, ← hes]; exact hacc.1
  have ea : acc.toList = xs.map fun x => Value.ref x.2.1 := by
    refine List.ext_getElem? fun j => ?_
    rw [List.getElem?_map]
    cases hj : acc.toList[j]? with
    | none =>
      rw [List.getElem?_eq_none_iff] at hj
      rw [List.getElem?_eq_none_iff.mpr (by omega)]
      rfl
    | some v =>
      obtain ⟨hi, e⟩ := hacc.2 j v (by rw [← Array.getElem?_toList]; exact hj)
      have e2 : es.toList[j]? = some es[j] := by rw [Array.getElem?_toList, Array.getElem?_eq_getElem hi]
      rw [h4 X.prog X.w, List.getElem?_map] at e2
      cases hx : xs[j]? with
      | none => rw [hx] at e2; cases e2
      | some x =>
        rw [hx] at e2
        have e3 : entryOfKey (tupleKind (mixKind X.prog X.w)) (keyX x) = es[j] := Option.some.inj e2
        rw [e, ← e3]
        rfl
  refine wpAny_bind (wpAny_newList ?_ (by rw [el]; exact R.few))
  have I1 : Inv X pins σ H { s with heap := h', toks := tk } := I.kept (t' := tk) hkp
  have old2 : ∀ b ob, h'.get? b = some ob → (h'.push { cls := .type "list", data := .seq acc.toList.toArray }).get? b = some ob := fun b ob e => Heap.get?_push_of_some _ e
  have D1 := dpAll_keys hk
  have edl : (keyD xs).length = xs.length := by unfold keyD; rw [List.length_map]
  have evl : (xs.map fun x => V.ref x.2.1).length = xs.length := List.length_map ..
  obtain ⟨as, hr⟩ := Dp.readsAll I1 _ _ _ D1 (vals_refsX xs)
  have em : ((xs.map fun x => V.ref x.2.1).zip (keyD xs)).map Prod.snd = keyD xs := List.map_snd_zip (by omega)
  have en : ((xs.map fun x => V.ref x.2.1).zip (keyD xs)).length = xs.length := by rw [List.length_zip]; omega
  have er : EachIs (fun v b => ∃ as, Reads (h'.push { cls := .type "list", data := .seq acc.toList.toArray }) v b.2 as ∧ h'.objs.size ∉ as) acc.toList ((xs.map fun x => V.ref x.2.1).zip (keyD xs)) := by
    have z0 := each_reads hr (show (xs.map fun x => V.ref x.2.1).length = (keyD xs).length by omega)
    rw [← ea] at z0
    refine (each_mem z0).mono fun v b z => ?_
    obtain ⟨⟨as, r⟩, hb⟩ := z
    obtain ⟨x, _, hx⟩ := List.mem_map.mp (List.of_mem_zip (a := b.1) (b := b.2) hb).2
    rw [← hx] at r ⊢
    exact ⟨as, Reads.keeps old2 r, by rw [reads_key r]; simp⟩
  have hob : (h'.push { cls := .type "list", data := .seq acc.toList.toArray }).get? h'.objs.size = some (seqObj "list" acc.toList.toArray 0) := Heap.get?_push_size _ rfl
  refine wpAny_bind (wpAny_holding (wpAny_mono (list_sort_data (A := X.A.in1) (bs := (xs.map fun x => V.ref x.2.1).zip (keyD xs)) (enc := Prod.snd) hob (by rw [ea]; exact each_vals (vals_refsX xs) (by omega)) er (by rw [em]; exact hal) (by rw [em]; exact hso) (by rw [en]; exact R.few) (fun b hb => ?_)
    (Q := fun _ s' => EP X pins σ Q (.ref h'.objs.size) s') fun out ho he => ?_) (fun _ s' x => ?_) fun _ _ e => e))
  · have := depth_key (List.of_mem_zip (a := b.1) (b := b.2) hb).2
    show X.A.units + 1 + 1 + b.2.depth < cLine
    omega
  · have hv := vals_each he
    generalize hzs : ((xs.map fun x => V.ref x.2.1).zip (keyD xs)).mergeSort (dataLe false Prod.snd) = zs at hv
    have hp : ∀ z ∈ zs, z ∈ (xs.map fun x => V.ref x.2.1).zip (keyD xs) := fun z h => by
      rw [← hzs] at h
      exact (List.mergeSort_perm _ _).mem_iff.mp h
    have hlz : zs.length = xs.length := by rw [← hzs, (List.mergeSort_perm _ _).length_eq, en]
    have es2 : zs.map Prod.snd = (keyD xs).mergeSort leD := by
      rw [← hzs, List.map_mergeSort (s := leD) (fun x _ y _ => by rw [dataLe_eq]; rfl), em]
    obtain ⟨ep2, he'⟩ := sortedHeap_at (vs := acc.toList) (out := out.toArray) hob
    have hlen : (zs.map Prod.fst).length ≤ sizeLine := by rw [List.length_map, hlz]; exact R.few
    have fresh : H h'.objs.size = none := I1.hok.fresh (Nat.le_refl _)
    refine ⟨.ref h'.objs.size, upd H h'.objs.size (.lst (zs.map Prod.fst)), I1.laid (a := h'.objs.size) (t' := tk) (fun b ob e => ?_) (Nat.le_refl _) (show ObjOk X.prog X.w _ _ _ (.lst (zs.map Prod.fst)) from ⟨hlen, out, ep2, hv, he'⟩), rfl, q _ _ (by rw [List.length_map, hlz]) (fun Hi h => ?_) fresh⟩
    · exact (sortedHeap_old (Nat.ne_of_lt (Heap.lt_size e)) (Heap.lt_size (old2 b ob e))).trans (old2 b ob e)
    · rw [← es2]
      exact dp_unzip fun z hz => dp_zip h z (hp z hz)
  · exact wpAny_pure ⟨_, rfl, x⟩
end LD

/-! LD16: readings over data: dicts that one slot keeps, keys are tuples of ints. -/
namespace LD
open PySem PySem.Spec L2
section
variable {K : PySem.W.Frag} {F : Fx} {σ : L2.St} {H : Hp} {ρ : Rho} {vs ws : List V} {ds es : List D}
/-- slot i keeps what was just laid -/
theorem Rel.keepNew {p : Addr} {i : Nat} {o : HO} {x : DV} (R : Rel K F σ H ρ vs ds) (hp : H p = none) (hi : i < ρ.length) (hx : ∀ Hi, Same Hi H → SlotOk K Hi (upd H p o) (some (.ref p)) [p] x) : Rel K F (σ.set i (some (.ref p))) (upd H p o) (ρ.set i x) vs ds := by
  obtain ⟨Hi, own, R⟩ := R
  have ne : ∀ i, ∀ a ∈ own i, a ≠ p := fun i a ha z => R.held i a ha (by rw [z]; exact hp)
  refine ⟨Hi, fun j => if j = i then [p] else own j, ⟨R.base, R.sub.trans (same_upd hp), R.new, fun b q h hn => ?_, fun b h => ?_, ?_, fun j y h => ?_, fun j a ha => ?_, fun j a ha => ?_, fun j a ha => ?_, fun j k hjk a ha hk => ?_, fun j es' h a ha => ?_, fun z hz => ?_, R.tmp⟩⟩
  · rw [upd_ne (ne_of_none (R.keep b q h hn) hp)]; exact R.keep b q h hn
  · by_cases hbp : b = p
    · rw [hbp, upd_same]; simp
    · rw [upd_ne hbp]; exact R.dom b h
  · rw [List.length_set, List.length_set]; exact R.len
  · by_cases hj : j = i
    · subst hj
      rw [List.getElem?_set_self hi] at h
      cases h
      have e1 : (σ.set j (some (V.ref p)))[j]? = some (some (.ref p)) := List.getElem?_set_self (by rw [R.len]; exact hi)
      rw [e1, if_pos rfl]
      exact hx Hi R.sub
    · rw [List.getElem?_set_ne (Ne.symm hj)] at h ⊢
      rw [if_neg hj]
      exact (R.slot j y h).grow (Same.refl _) fun a ha o q => by rw [upd_ne (ne j a ha)]; exact q
  all_goals try (by_cases hj : j = i)
  · rw [if_pos hj] at ha
    obtain rfl : a = p := by simpa using ha
    exact R.noSub hp
  · rw [if_neg hj] at ha; exact R.free j a ha
  · rw [if_pos hj] at ha
    obtain rfl : a = p := by simpa using ha
    rw [upd_same]; simp
  · rw [if_neg hj] at ha; rw [upd_ne (ne j a ha)]; exact R.held j a ha
  · rw [if_pos hj] at ha
    obtain rfl : a = p := by simpa using ha
    exact .inl (R.no0 hp)
  · rw [if_neg hj] at ha; exact R.nown j a ha
  · rw [if_pos hj] at ha
    obtain rfl : a = p := by simpa using ha
    rw [if_neg (fun z => hjk (hj.trans z.symm))] at hk
    exact ne k a hk rfl
  · rw [if_neg hj] at ha
    by_cases hki : k = i
    · rw [if_pos hki] at hk
      obtain rfl : a = p := by simpa using hk
      exact ne j a ha rfl
    · rw [if_neg hki] at hk; exact R.sep j k hjk a ha hk
  · rw [if_pos hj] at ha
    obtain rfl : a = p := by simpa using ha
    exact R.no0 hp
  · rw [if_neg hj] at ha
    rw [List.getElem?_set_ne (Ne.symm hj)] at h
    exact R.nls j es' h a ha
  · obtain ⟨z1, z2, z3⟩ := R.pin z hz
    have nz : z.1 ≠ p := ne_of_none z1 hp
    refine ⟨by rw [upd_ne nz]; exact z1, z2, fun j hj => ?_⟩
    by_cases hji : j = i
    · rw [if_pos hji] at hj
      exact nz (by simpa using hj)
    · rw [if_neg hji] at hj; exact z3 j hj
/-- the dict of slot i is turned -/
theorem Rel.turnX {i : Nat} {p : Addr} {zs zs' : List Ent} (R : Rel K F σ H ρ vs ds) (h : ρ[i]? = some (.dt p zs))
    (hz : ∀ Hi, Same Hi H → DpAll K Hi vs ds → (∀ z ∈ zs, Dp K Hi (.ref z.b) (.tuple (z.k.map PyData.int)) ∧ RelV z.v z.u ∧ Dp K Hi z.v z.d) → (∀ z ∈ zs', Dp K Hi (.ref z.b) (.tuple (z.k.map PyData.int)) ∧ RelV z.v z.u ∧ Dp K Hi z.v z.d) ∧ DpAll K Hi ws es) :
    Rel K F σ (upd H p (.ext (RawT p (zs'.map Ent.x)))) (ρ.set i (.dt p zs')) ws es := by
  obtain ⟨Hi, own, R⟩ := R
  obtain ⟨e, eo, hp, q⟩ := R.slot i _ h
  have hi : i < ρ.length := (List.getElem?_eq_some_iff.mp h).1
  obtain ⟨y1, y2⟩ := hz Hi R.sub R.tmp q
  have np : Hi p = none := R.free i p (by rw [eo]; simp)
  have no : ∀ j, j ≠ i → ∀ a ∈ own j, a ≠ p := fun j hj a ha z => R.sep j i hj a ha (by rw [eo, z]; simp)
  refine ⟨Hi, own, ⟨R.base, fun b x z => ?_, R.new, fun b o z hn => ?_, fun b z => ?_, by rw [List.length_set]; exact R.len, fun j x z => ?_, R.free, fun j a ha => ?_, R.nown, R.sep, fun j es' z => ?_, fun z hz => ?_, y2⟩⟩
  · rw [upd_ne (fun w => by rw [w, np] at z; cases z)]; exact R.sub b x z
  · have nb : b ≠ p := fun w => by
      rcases R.nown i p (by rw [eo]; simp) with q | q
      · rw [w, q] at z; cases z
      · exact hn (by rw [w]; exact q)
    rw [upd_ne nb]; exact R.keep b o z hn
  · by_cases hb : b = p
    · rw [hb, upd_same]; simp
    · rw [upd_ne hb]; exact R.dom b z
  · by_cases hj : j = i
    · subst hj
      rw [List.getElem?_set_self hi] at z
      cases z
      exact ⟨e, eo, upd_same, y1⟩
    · rw [List.getElem?_set_ne (Ne.symm hj)] at z
      exact (R.slot j x z).grow (Same.refl _) fun a ha o w => by rw [upd_ne (no j hj a ha)]; exact w
  · by_cases hap : a = p
    · rw [hap, upd_same]; simp
    · rw [upd_ne hap]; exact R.held j a ha
  · by_cases hj : j = i
    · subst hj
      rw [List.getElem?_set_self hi] at z
      cases z
    · rw [List.getElem?_set_ne (Ne.symm hj)] at z
      exact R.nls j es' z
  · obtain ⟨z1, z2, z3⟩ := R.pin z hz
    have nz : z.1 ≠ p := fun w => z3 i (by rw [eo, w]; simp)
    exact ⟨by rw [upd_ne nz]; exact z1, z2, z3⟩
theorem Rel.dtAt {i : Nat} {p : Addr} {zs : List Ent} (R : Rel K F σ H ρ vs ds) (h : ρ[i]? = some (.dt p zs)) : σ[i]? = some (some (.ref p)) ∧ H p = some (.ext (RawT p (zs.map Ent.x))) ∧ KeysIn K H (zs.map Ent.x) := by
  obtain ⟨Hi, own, R⟩ := R
  obtain ⟨e, eo, hp, q⟩ := R.slot i _ h
  have e' : σ[i]? = some (some (.ref p)) := by
    cases z : σ[i]? with
    | none => rw [z] at e; cases e
    | some y => rw [z] at e; exact congrArg some e
  refine ⟨e', hp, fun x hx => ?_⟩
  obtain ⟨z, hz, rfl⟩ := List.mem_map.mp hx
  have h1 := (q z hz).1
  cases h1 with
  | tup s g =>
    have := ints_of (K := K) z.k _ g
    subst this
    exact sqT_mono R.sub s
/-- what stands at a key -/
def lookE (zs : List Ent) (k : List Int) : Option Ent := zs.find? fun z => decide (z.k = k)
theorem look_X (zs : List Ent) (k : List Int) : atX (zs.map Ent.x) k = (lookE zs k).map fun z => (z.b, z.u) := by
  unfold atX lookE
  rw [List.find?_map]
  cases h : zs.find? ((fun x : List Int × Addr × Value => decide (x.1 = k)) ∘ Ent.x) with
  | none =>
    have : (zs.find? fun z => decide (z.k = k)) = none := h
    rw [this]; rfl
  | some z =>
    have : (zs.find? fun z => decide (z.k = k)) = some z := h
    rw [this]; rfl
def lookD (kvs : List (List Int × D)) (k : List Int) : Option D := (kvs.find? fun p => decide (p.1 = k)).map (·.2)
theorem look_D (zs : List Ent) (k : List Int) : lookD (zs.map Ent.kv) k = (lookE zs k).map (·.d) := by
  unfold lookD lookE
  rw [List.find?_map]
  cases h : zs.find? ((fun p : List Int × D => decide (p.1 = k)) ∘ Ent.kv) with
  | none =>
    have : (zs.find? fun z => decide (z.k = k)) = none := h
    rw [this]; rfl
  | some z =>
    have : (zs.find? fun z => decide (z.k = k)) = some z := h
    rw [this]; rfl
def putD (kvs : List (List Int × D)) (k : List Int) (d : D) : List (List Int × D) := if (lookD kvs k).isSome then kvs.map fun p => if p.1 = k then (p.1, d) else p else kvs ++ [(k, d)]
def putE (zs : List Ent) (k : List Int) (b : Addr) (u : Value) (v : V) (d : D) : List Ent := if (lookE zs k).isSome then zs.map fun z => if z.k = k then { z with u := u, v := v, d := d } else z else zs ++ [⟨k, b, u, v, d⟩]
theorem put_X (zs : List Ent) (k : List Int) (b : Addr) (u : Value) (v : V) (d : D) : (putE zs k b u v d).map Ent.x = putX (zs.map Ent.x) k b u := by
  unfold putE putX
  rw [look_X, Option.isSome_map]
  split
  · rw [List.map_map, List.map_map]
    refine List.map_congr_left fun z _ => ?_
    show Ent.x (if z.k = k then { z with u := u, v := v, d := d } else z) = if z.k = k then (z.k, z.b, u) else Ent.x z
    split <;> rfl
  · rw [List.map_append]; rfl
theorem put_D (zs : List Ent) (k : List Int) (b : Addr) (u : Value) (v : V) (d : D) : (putE zs k b u v d).map Ent.kv = putD (zs.map Ent.kv) k d := by
  unfold putE putD
  rw [look_D, Option.isSome_map]
  split
  · rw [List.map_map, List.map_map]
    refine List.map_congr_left fun z _ => ?_
    show Ent.kv (if z.k = k then { z with u := u, v := v, d := d } else z) = if z.k = k then (z.k, d) else Ent.kv z
    split <;> rfl
  · rw [List.map_append]; rfl
theorem lookE_mem {zs : List Ent} {k : List Int} {z : Ent} (h : lookE zs k = some z) : z ∈ zs ∧ z.k = k := ⟨List.mem_of_find?_eq_some h, of_decide_eq_true (List.find?_some (p := fun z : Ent => decide (z.k = k)) h)⟩
end
section
variable {K : PySem.W.Frag} {tb tk : TE} {b k : TD}
/-- x = {} -/
def dNewX (i : Nat) : TDS := fun dn ρ => i < ρ.length ∧ ∀ p, dn.nx (ρ.set i (.dt p []))
theorem ss_newX {i : Nat} : SS K (tAsg tNewX (gName i)) (dNewX i) := ⟨fun a b ρ h q => ⟨q.1, fun p => h.nx _ (q.2 p)⟩, fun F σ H ρ vs ds E dn G R q p hp => G.nx _ _ _ (R.keepNew (x := .dt p []) hp q.1 fun Hi s => ⟨rfl, rfl, upd_same, fun z hz => by cases hz⟩) (q.2 p)⟩
/-- x[e] -/
def dIxX (i : Nat) (b : TD) : TD := fun ρ P => (∃ p zs, ρ[i]? = some (.dt p zs)) ∧ b ρ fun r y => ∃ p zs k d, r[i]? = some (.dt p zs) ∧ y = .tuple (k.map PyData.int) ∧ lookD (zs.map Ent.kv) k = some d ∧ P r d
theorem se_ixX (i : Nat) (sb : SE K tb b) : SE K (tOp (rIxX K) (tVar i) tb) (dIxX i b) := by
  refine ⟨fun ρ P P' h ⟨q0, q⟩ => ⟨q0, sb.mono _ _ _ (fun r y ⟨p, zs, k, d, e, e1, e2, q⟩ => ⟨p, zs, k, d, e, e1, e2, h _ _ q⟩) q⟩, fun F σ H ρ vs ds Q R q => ?_⟩
  obtain ⟨⟨p, zs0, e0⟩, q⟩ := q
  obtain ⟨e1, _, _⟩ := R.dtAt e0
  refine ⟨.ref p, e1, sb.run F σ H ρ vs ds _ R (sb.mono _ _ _ (fun r y q v H1 R1 => ?_) q)⟩
  obtain ⟨p2, zs, k, d, e, ey, el, q3⟩ := q
  subst ey
  obtain ⟨e2, hp, hk⟩ := R1.dtAt e
  rw [e1] at e2
  cases e2
  rw [look_D] at el
  cases hz : lookE zs k with
  | none => rw [hz] at el; cases el
  | some z =>
    rw [hz] at el
    obtain rfl : z.d = d := Option.some.inj el
    obtain ⟨zm, zk⟩ := lookE_mem hz
    obtain ⟨Hi, own, R2⟩ := R1
    obtain ⟨_, _, _, g⟩ := R2.slot i _ e
    obtain ⟨_, g2, g3⟩ := g z zm
    have t := R2.tmp
    cases t with
    | cons t1 t2 =>
      cases t1 with
      | tup s gk =>
        have := ints_of (K := K) k _ gk
        subst this
        exact ⟨p, _, _, k, z.b, z.u, z.v, rfl, rfl, hp, hk, sqT_mono R2.sub s, by rw [look_X, hz]; rfl, g2, q3 _ _ ⟨Hi, own, R2.tmpTo (.cons g3 t2)⟩⟩
/-- x[k] = e -/
def dSetX (i : Nat) (b k : TD) : TDS := fun dn ρ => b ρ fun r d => (∃ p zs, r[i]? = some (.dt p zs)) ∧ k r fun r2 y => ∃ p zs ks, r2[i]? = some (.dt p zs) ∧ y = .tuple (ks.map PyData.int) ∧ zs.length < sizeLine ∧ ∀ zs', zs'.map Ent.kv = putD (zs.map Ent.kv) ks d → dn.nx (r2.set i (.dt p zs'))
theorem ss_setX (i : Nat) (sb : SE K tb b) (sk : SE K tk k) : SS K (tAsg tb (gSub (tVar i) tk (rSetX K))) (dSetX i b k) := by
  refine ⟨fun a b ρ h q => sb.mono _ _ _ (fun r d ⟨q0, q⟩ => ⟨q0, sk.mono _ _ _ (fun r2 y ⟨p, zs, ks, e, e1, e2, q⟩ => ⟨p, zs, ks, e, e1, e2, fun zs' hz => h.nx _ (q zs' hz)⟩) q⟩) q, fun F σ H ρ vs ds E dn G R q => ?_⟩
  refine sb.run F σ H ρ vs ds _ R (sb.mono _ _ _ (fun r d q v H1 R1 => ?_) q)
  obtain ⟨⟨p, zs0, e0⟩, q⟩ := q
  obtain ⟨e1, _, _⟩ := R1.dtAt e0
  refine ⟨.ref p, e1, sk.run F σ H1 r _ _ _ R1 (sk.mono _ _ _ (fun r2 y q w H2 R2 => ?_) q)⟩
  obtain ⟨p2, zs, ks, e, ey, ez, q3⟩ := q
  subst ey
  obtain ⟨e2, hp, hk⟩ := R2.dtAt e
  rw [e1] at e2
  cases e2
  have R2' := R2
  obtain ⟨Hi, own, R4⟩ := R2'
  have t := R4.tmp
  cases t with
  | cons t1 t2 =>
    cases t1 with
    | tup s gk =>
      rename_i b' _
      have := ints_of (K := K) ks _ gk
      subst this
      refine ⟨p, _, b', ks, rfl, rfl, hp, hk, sqT_mono R4.sub s, by rw [List.length_map]; exact ez, fun u ru => ?_⟩
      rw [← put_X zs ks b' u v d]
      refine G.nx _ _ _ (R2.turnX (zs' := putE zs ks b' u v d) e fun Hi2 s2 t3 g => ?_) (q3 _ (put_D _ _ _ _ _ _))
      cases t3 with
      | cons t4 t5 =>
        cases t5 with
        | cons t6 t7 =>
          refine ⟨fun z hz => ?_, t7⟩
          unfold putE at hz
          split at hz
          · obtain ⟨z0, hz0, rfl⟩ := List.mem_map.mp hz
            by_cases hc : z0.k = ks
            · rw [if_pos hc]
              exact ⟨(g z0 hz0).1, ru, t6⟩
            · rw [if_neg hc]
              exact g z0 hz0
          · rcases List.mem_append.mp hz with hz | hz
            · exact g z hz
            · obtain rfl : z = ⟨ks, b', u, v, d⟩ := by simpa using hz
              exact ⟨t4, ru, t6⟩
/-- x.get(k, e) -/
def dGetX (i : Nat) (k b : TD) : TD := fun ρ P => (∃ p zs, ρ[i]? = some (.dt p zs)) ∧ k ρ fun r y => b r fun r2 d => ∃ p zs ks, r2[i]? = some (.dt p zs) ∧ y = .tuple (ks.map PyData.int) ∧ P r2 ((lookD (zs.map Ent.kv) ks).getD d)
theorem se_getX (i : Nat) (sk : SE K tk k) (sb : SE K tb b) : SE K (tGetX K (tVar i) tk tb) (dGetX i k b) := by
  refine ⟨fun ρ P P' h ⟨q0, q⟩ => ⟨q0, sk.mono _ _ _ (fun r y q => sb.mono _ _ _ (fun r2 d ⟨p, zs, ks, e, e1, q⟩ => ⟨p, zs, ks, e, e1, h _ _ q⟩) q) q⟩, fun F σ H ρ vs ds Q R q => ?_⟩
  obtain ⟨⟨p, zs0, e0⟩, q⟩ := q
  obtain ⟨e1, hp0, hk0⟩ := R.dtAt e0
  refine ⟨.ref p, e1, ⟨p, _, rfl, hp0, hk0⟩, sk.run F σ H ρ vs ds _ R (sk.mono _ _ _ (fun r y q w H1 R1 => ?_) q)⟩
  refine sb.run F σ H1 r _ _ _ R1 (sb.mono _ _ _ (fun r2 d q v H2 R2 => ?_) q)
  obtain ⟨p2, zs, ks, e, ey, q3⟩ := q
  subst ey
  obtain ⟨e2, hp, hk⟩ := R2.dtAt e
  rw [e1] at e2
  cases e2
  obtain ⟨Hi, own, R4⟩ := R2
  have t := R4.tmp
  cases t with
  | cons t4 t5 =>
    cases t5 with
    | cons t6 t7 =>
      cases t6 with
      | tup s gk =>
        have := ints_of (K := K) ks _ gk
        subst this
        refine ⟨p, _, _, ks, rfl, rfl, hp, hk, sqT_mono R4.sub s, fun c u hat => ?_, fun hat => ?_⟩
        · rw [look_X] at hat
          cases hz : lookE zs ks with
          | none => rw [hz] at hat; cases hat
          | some z =>
            rw [hz] at hat
            cases hat
            obtain ⟨_, _, _, g⟩ := R4.slot i _ e
            obtain ⟨_, g2, g3⟩ := g z (lookE_mem hz).1
            rw [look_D, hz] at q3
            exact ⟨z.v, g2, q3 _ _ ⟨Hi, own, R4.tmpTo (.cons g3 t7)⟩⟩
        · rw [look_X] at hat
          cases hz : lookE zs ks with
          | some z => rw [hz] at hat; cases hat
          | none =>
            rw [look_D, hz] at q3
            exact q3 _ _ ⟨Hi, own, R4.tmpTo (.cons t4 t7)⟩
/-- sorted(x) -/
def keysD (kvs : List (List Int × D)) : List D := kvs.map fun p => .tuple (p.1.map PyData.int)
def dSortX (i : Nat) : TDA := fun ρ P => ∃ p zs, ρ[i]? = some (.dt p zs) ∧ PySem.W.AllAlike (keysD (zs.map Ent.kv)) ∧ PySem.W.Sortable (keysD (zs.map Ent.kv)) ∧ P ρ ((keysD (zs.map Ent.kv)).mergeSort leD)
theorem keysD_X (zs : List Ent) : keyD (zs.map Ent.x) = keysD (zs.map Ent.kv) := by
  unfold keyD keysD
  rw [List.map_map, List.map_map]
  rfl
theorem sf_sortX (i : Nat) : SF K (tCB (rSortX K) (tCons (tVar i) tNil)) (dSortX i) := by
  refine ⟨fun ρ P P' h ⟨p, zs, e, h1, h2, q⟩ => ⟨p, zs, e, h1, h2, h _ _ q⟩, fun F σ H ρ vs ds Q R q => ?_⟩
  obtain ⟨p, zs, e, h1, h2, q⟩ := q
  obtain ⟨e1, hp, hk⟩ := R.dtAt e
  refine ⟨.ref p, e1, p, _, rfl, hp, hk, by rw [keysD_X]; exact h1, by rw [keysD_X]; exact h2, fun ys l hl hy hn => ?_⟩
  rw [keysD_X] at hy
  have el : ys.length = ((keysD (zs.map Ent.kv)).mergeSort leD).length := by
    rw [hl, (List.mergeSort_perm _ _).length_eq, List.length_map]
    unfold keysD
    rw [List.length_map, List.length_map]
  obtain ⟨Hi, own, R4⟩ := R
  obtain ⟨_, _, _, g⟩ := R4.slot i _ e
  have dk : DpAll K Hi ((zs.map Ent.x).map fun x => V.ref x.2.1) (keysD (zs.map Ent.kv)) := by
    have : ∀ zs : List Ent, (∀ z ∈ zs, Dp K Hi (.ref z.b) (.tuple (z.k.map PyData.int))) → DpAll K Hi ((zs.map Ent.x).map fun x => V.ref x.2.1) (keysD (zs.map Ent.kv)) := by
      intro zs
      induction zs with
      | nil => intro _; exact .nil
      | cons z zs ih => intro h; exact .cons (h z List.mem_cons_self) (ih fun y hy => h y (List.mem_cons_of_mem _ hy))
    exact this zs fun z hz => (g z hz).1
  exact q _ _ _ el ⟨Hi, own, R4.tmpTo (dpAll_app (hy Hi dk) R4.tmp)⟩ hn
end
end LD

/-! LD17: defs that are given a value and a dict, and only read the dict. -/
namespace LD
open PySem PySem.Spec L2
abbrev CT := D → List (List Int × D) → (D → Prop) → Prop
def EntsOk (K : PySem.W.Frag) (Hi : Hp) (zs : List Ent) : Prop := ∀ z ∈ zs, Dp K Hi (.ref z.b) (.tuple (z.k.map PyData.int)) ∧ RelV z.v z.u ∧ Dp K Hi z.v z.d
def spT (K : PySem.W.Frag) (g : CT) : Sp := fun vs H Q _ => ∃ (Hi : Hp) (a : Addr) (zs : List Ent) (v : V) (d : D), vs = [v, .ref a] ∧ Same Hi H ∧ Hi a = none ∧ H a = some (.ext (RawT a (zs.map Ent.x))) ∧ EntsOk K Hi zs ∧ Dp K Hi v d ∧
  g d (zs.map Ent.kv) fun r => ∀ v' H' Hi', Same Hi Hi' → Same Hi' H' → Same H H' → Fresh Hi Hi' H → Dp K Hi' v' r → Q v' H'
section
variable {K : PySem.W.Frag} {te : TE} {e : TD} {E : XK}
/-- f(e, x), x the dict of slot i -/
def dCallT (i : Nat) (g : CT) (e : TD) : TD := fun ρ P => e ρ fun r d => ∃ p zs, r[i]? = some (.dt p zs) ∧ g d (zs.map Ent.kv) (P r)
theorem se_callT {i : Nat} {g : CT} (hg : ∀ d kvs P P', (∀ r, P r → P' r) → g d kvs P → g d kvs P') (s : SE K te e) : SE K (tCall (spT K g) [] E (tCons te (tCons (tVar i) tNil))) (dCallT i g e) := by
  refine ⟨fun ρ P P' h q => s.mono _ _ _ (fun r d ⟨p, zs, e, q⟩ => ⟨p, zs, e, hg _ _ _ _ (h _) q⟩) q, fun F σ H ρ vs ds Q R q => ?_⟩
  refine s.run F σ H ρ vs ds _ R (s.mono _ _ _ (fun r d q v H1 R1 => ?_) q)
  obtain ⟨p', zs, e, q⟩ := q
  obtain ⟨e1, hp, hk⟩ := R1.dtAt e
  refine ⟨.ref p', e1, ?_⟩
  obtain ⟨Hi, own, R2⟩ := R1
  obtain ⟨_, eo, hp', q2⟩ := R2.slot i _ e
  have t := R2.tmp
  cases t with
  | cons t1 t2 =>
    exact ⟨Hi, p', zs, v, d, rfl, R2.sub, R2.free i p' (by rw [eo]; simp), hp', q2, t1, hg _ _ _ _ (fun d' q v' H' Hi' h1 h2 h3 h4 h5 => q v' H' ⟨Hi', own, R2.after h1 h2 h3 h4 (.cons h5 (dpAll_mono h1 _ _ t2))⟩) q⟩
/-- the entry of such a def -/
theorem run_T {N : List Str} {ts : TS} {t : TDS} {Hi H : Hp} {a : Addr} {zs : List Ent} {v : V} {d : D} {Q : VK} {P : D → Prop} (s : SS K ts t) (h1 : Same Hi H) (ha : Hi a = none) (hd : H a = some (.ext (RawT a (zs.map Ent.x)))) (hz : EntsOk K Hi zs) (h2 : Dp K Hi v d)
    (hq : ∀ r, P r → ∀ v' H' Hi', Same Hi Hi' → Same Hi' H' → Same H H' → Fresh Hi Hi' H → Dp K Hi' v' r → Q v' H')
    (ht : t { nx := fun r => r[1]? = some (.dt a zs) ∧ P .none, rt := fun r d => r[1]? = some (.dt a zs) ∧ P d } (.sh d :: .dt a zs :: List.replicate (N.length - 2) .no)) : ts { nx := fun _ H' => Q .non H', rt := Q } (start N [v, .ref a]) H := by
  have back : ∀ σ' H' ρ' v' d', Rel K ⟨Hi, H, [a], []⟩ σ' H' ρ' [v'] [d'] → ρ'[1]? = some (.dt a zs) ∧ P d' → Q v' H' := fun σ' H' ρ' v' d' R ⟨e, p⟩ => by
    obtain ⟨Hi', own, R⟩ := R
    have q := R.tmp
    cases q with
    | cons x _ =>
      refine hq d' p v' H' Hi' R.base R.sub (fun c o ec => ?_) (fun b hb => R.new b hb) x
      by_cases hc : c = a
      · subst hc
        obtain ⟨_, _, hp, _⟩ := R.slot 1 _ e
        rw [hd] at ec
        cases ec
        exact hp
      · exact R.keep c o ec (by simp [hc])
  refine s.run ⟨Hi, H, [a], []⟩ (start N [v, .ref a]) H (.sh d :: .dt a zs :: List.replicate (N.length - 2) .no) [] [] { nx := fun _ H' => Q .non H', rt := Q } { nx := fun r => r[1]? = some (.dt a zs) ∧ P .none, rt := fun r d => r[1]? = some (.dt a zs) ∧ P d } ⟨fun σ' H' ρ' R p => back σ' H' ρ' .non .none (R.push (v := .non) rfl) p, fun σ' H' ρ' v d R p => back σ' H' ρ' v d R p, fun _ _ _ _ z => z.elim, fun _ _ _ _ z => z.elim, fun _ _ _ _ _ _ _ _ _ _ _ _ z => z.elim, fun _ _ _ _ _ _ _ z => z.elim, fun _ _ _ _ _ _ _ _ _ z => z.elim⟩ ⟨Hi, fun j => if j = 1 then [a] else [], ?_⟩ ht
  refine ⟨Same.refl _, h1, fun b hb => .inl hb, fun b o e _ => e, fun b e => e, ?_, fun i x e => ?_, fun i c hc => ?_, fun i c hc => ?_, fun i c hc => ?_, fun i j hij c hc hk => ?_, fun i es e c hc => ?_, fun z hz => (by cases hz), DpAll.nil⟩
  · unfold L2.start
    simp only [List.length_append, List.length_map, List.length_cons, List.length_nil, List.length_replicate]
    omega
  · match i, e with
    | 0, e => cases e; exact ⟨v, rfl, h2⟩
    | 1, e => cases e; exact ⟨rfl, rfl, hd, hz⟩
    | i + 2, e =>
      have : x = .no := (List.mem_replicate.mp (List.mem_of_getElem? (show (List.replicate (N.length - 2) DV.no)[i]? = some x from e))).2
      rw [this]
      trivial
  all_goals try (by_cases hi : i = 1)
  · rw [if_pos hi] at hc
    obtain rfl : c = a := by simpa using hc
    exact ha
  · rw [if_neg hi] at hc; cases hc
  · rw [if_pos hi] at hc
    obtain rfl : c = a := by simpa using hc
    rw [hd]; simp
  · rw [if_neg hi] at hc; cases hc
  · rw [if_pos hi] at hc; exact .inr hc
  · rw [if_neg hi] at hc; cases hc
  · rw [if_neg (fun z => hij (hi.trans z.symm))] at hk; cases hk
  · rw [if_neg hi] at hc; cases hc
  · rw [hi] at e; cases e
  · rw [if_neg hi] at hc; cases hc
end
section
variable {P : Program} {w : World} {K : PySem.W.Frag} {mg : Str → Option Value} {base : Heap}
theorem ok_T {x qual : Str} {st : Stmt} {f : Addr} {fd : FuncData} {N ps : List Str} {k : Nat} {g : CT} (F : Fun K x qual st f fd) (S : FnScope N ps (defScope st)) (hl : ps.length = 2) (hN : 2 ≤ N.length)
    (hbody : ∀ (cdv : Value) (A : Around) (outer : List Env) (s : Shared) (H : Hp) (E : XK), Room k (A.deeper (PyProof.Rows.envOfC qual (defScope st) s.heap.objs.size f cdv)) →
      ∃ ts t, PSs (cxOf CX0 P w K mg base N qual (defScope st) f cdv A outer s H E).nox (defBody st) ts ∧ SS K ts t ∧ ∀ a zs d Pd, g d (zs.map Ent.kv) Pd → t { nx := fun r => r[1]? = some (.dt a zs) ∧ Pd .none, rt := fun r d => r[1]? = some (.dt a zs) ∧ Pd d } (.sh d :: .dt a zs :: List.replicate (N.length - 2) .no)) : FnOk P w K mg base CX0 (k + 1) f fd ps (spT K g) := by
  refine F.ok S (fun vs H Q E h => ?_) (fun cdv A outer s H vs Q E hr h => ?_)
  · obtain ⟨Hi, a, zs, v, d, rfl, _⟩ := h
    exact hl.symm
  · obtain ⟨ts, t, h1, h2, h3⟩ := hbody cdv A outer s H E hr
    obtain ⟨Hi, a, zs, v, d, rfl, e1, e2, e3, e4, e5, hg⟩ := h
    exact ⟨ts, h1, run_T h2 e1 e2 e3 e4 e5 (fun r q => q) (h3 a zs d _ hg)⟩
end
end LD

/-! LD18: what the drawn fields, elements, polynomials are. -/
namespace LD
open PySem PySem.Spec L2
def fieldsL : List Int := [0, 2, 3, 5, 7, 11]
def g_law_field : CD := fun ds P => ds = [] ∧ ∀ p ∈ fieldsL, P (.int p)
theorem g_law_field_mono : ∀ es P P', (∀ d, P d → P' d) → g_law_field es P → g_law_field es P' := fun es P P' h ⟨e, q⟩ => ⟨e, fun p hp => h _ (q p hp)⟩
def elemF (p n : Int) : Int := if p = 0 then n else n % p
def g_law_element : CD := fun ds P => ∃ p n : Int, ds = [.int p, .int n] ∧ 0 ≤ p ∧ P (.int (elemF p n))
theorem g_law_element_mono : ∀ es P P', (∀ d, P d → P' d) → g_law_element es P → g_law_element es P' := fun es P P' h ⟨p, n, e, h1, q⟩ => ⟨p, n, e, h1, h _ q⟩
def g_law_some : CD := fun ds P => ∃ p : Int, ds = [.int p] ∧ 0 ≤ p ∧ p < 1000 ∧ ∀ x : Int, -6 ≤ x → x < 1000 → (0 < p → 0 ≤ x ∧ x < p) → P (.int x)
theorem g_law_some_mono : ∀ es P P', (∀ d, P d → P' d) → g_law_some es P → g_law_some es P' := fun es P P' h ⟨p, e, h1, h2, q⟩ => ⟨p, e, h1, h2, fun x a b c => h _ (q x a b c)⟩
/-! terms -/
def tupK (k : List Int) : D := .tuple (k.map PyData.int)
def termD (t : List Int × Int) : D := .tuple [tupK t.1, .int t.2]
def lookI (kis : List (List Int × Int)) (k : List Int) : Option Int := (kis.find? fun x => decide (x.1 = k)).map (·.2)
def leL (k l : List Int) : Bool := !decide (l < k)
def kisD (kis : List (List Int × Int)) : List (List Int × D) := kis.map fun x => (x.1, PyData.int x.2)
def termF (p : Int) (kis : List (List Int × Int)) (k : List Int) : Option (List Int × Int) := if elemF p ((lookI kis k).getD 0) = 0 then none else some (k, elemF p ((lookI kis k).getD 0))
def tidyF (p : Int) (kis : List (List Int × Int)) : List (List Int × Int) := ((kis.map (·.1)).mergeSort leL).filterMap (termF p kis)
def g_law_tidy : CT := fun d kvs P => ∃ (p : Int) (kis : List (List Int × Int)), d = .int p ∧ 0 ≤ p ∧ kvs = kisD kis ∧ (∀ x ∈ kis, x.1 ≠ []) ∧ kis.length ≤ 100000 ∧ P (.tuple ((tidyF p kis).map termD))
theorem g_law_tidy_mono : ∀ d kvs P P', (∀ r, P r → P' r) → g_law_tidy d kvs P → g_law_tidy d kvs P' := fun d kvs P P' h ⟨p, kis, e1, e2, e3, e4, e5, q⟩ => ⟨p, kis, e1, e2, e3, e4, e5, h _ q⟩
theorem look_kis (kis : List (List Int × Int)) (k : List Int) : lookD (kisD kis) k = (lookI kis k).map PyData.int := by
  unfold lookD lookI kisD
  induction kis with
  | nil => rfl
  | cons x kis ih =>
    rw [List.map_cons, List.find?_cons, List.find?_cons]
    cases h : decide (x.1 = k) with
    | true => rfl
    | false => exact ih
theorem look_some {kis : List (List Int × Int)} {k : List Int} (h : k ∈ kis.map (·.1)) : ∃ n, lookI kis k = some n ∧ (k, n) ∈ kis := by
  unfold lookI
  induction kis with
  | nil => cases h
  | cons x kis ih =>
    rw [List.find?_cons]
    by_cases hx : x.1 = k
    · rw [decide_eq_true hx]
      exact ⟨x.2, rfl, by rw [← hx]; exact List.mem_cons_self⟩
    · rw [decide_eq_false hx]
      rw [List.map_cons] at h
      rcases List.mem_cons.mp h with z | z
      · exact absurd z.symm hx
      · obtain ⟨n, e, m⟩ := ih z
        exact ⟨n, e, List.mem_cons_of_mem _ m⟩
theorem keys_kis (kis : List (List Int × Int)) : keysD (kisD kis) = (kis.map (·.1)).map tupK := by
  unfold keysD kisD
  rw [List.map_map, List.map_map]
  rfl
theorem lt_tupK (k l : List Int) : PySem.W.dataLt (tupK k) (tupK l) = decide (k < l) := by
  unfold tupK
  rw [PySem.W.dataLt_tuple]
  exact PySem.W.dataLt_ints k l
theorem sort_tupK (ks : List (List Int)) : (ks.map tupK).mergeSort leD = (ks.mergeSort leL).map tupK := (List.map_mergeSort (f := tupK) fun k _ l _ => by unfold leL leD; rw [lt_tupK]).symm
theorem alike_ints : ∀ k l : List Int, PySem.W.alikeAll (k.map PyData.int) (l.map PyData.int) = true
  | [], _ => by simp [PySem.W.alikeAll]
  | _ :: _, [] => by simp [PySem.W.alikeAll]
  | x :: k, y :: l => by simp [PySem.W.alikeAll, PySem.W.alike, alike_ints k l]
theorem alike_tupK (k l : List Int) : PySem.W.alike (tupK k) (tupK l) = true := by
  unfold tupK
  simp [PySem.W.alike, alike_ints]
theorem keys_ok {ks : List (List Int)} (h : ∀ k ∈ ks, k ≠ []) : PySem.W.AllAlike (ks.map tupK) ∧ PySem.W.Sortable (ks.map tupK) := by
  refine ⟨fun x hx y hy => ?_, .inl fun x hx => ?_⟩
  · obtain ⟨k, _, rfl⟩ := List.mem_map.mp hx
    obtain ⟨l, _, rfl⟩ := List.mem_map.mp hy
    exact alike_tupK k l
  · obtain ⟨k, hk, rfl⟩ := List.mem_map.mp hx
    cases k with
    | nil => exact absurd rfl (h _ hk)
    | cons i k => exact ⟨_, _, rfl⟩
def intOf : D → Int
  | .int i => i
  | _ => 0
theorem intOf_map (k : List Int) : (k.map PyData.int).map intOf = k := by
  rw [List.map_map]
  exact List.map_id k
def termO (p : Int) (kis : List (List Int × Int)) : D → Option D
  | .tuple es => (termF p kis (es.map intOf)).map termD
  | _ => none
theorem termO_tup (p : Int) (kis : List (List Int × Int)) (k : List Int) : termO p kis (tupK k) = (termF p kis k).map termD := by
  unfold termO tupK
  show (termF p kis ((k.map PyData.int).map intOf)).map termD = _
  rw [intOf_map]
theorem fm_term (p : Int) (kis : List (List Int × Int)) : ∀ ks : List (List Int), (ks.map tupK).filterMap (termO p kis) = (ks.filterMap (termF p kis)).map termD
  | [] => rfl
  | k :: ks => by
    rw [List.map_cons]
    cases h : termF p kis k with
    | none => rw [List.filterMap_cons_none (by rw [termO_tup, h]; rfl), List.filterMap_cons_none h, fm_term p kis ks]
    | some t => rw [List.filterMap_cons_some (b := termD t) (by rw [termO_tup, h]; rfl), List.filterMap_cons_some h, fm_term p kis ks, List.map_cons]
/-! drawn polynomials -/
def putI (kis : List (List Int × Int)) (k : List Int) (n : Int) : List (List Int × Int) := if (lookI kis k).isSome then kis.map fun x => if x.1 = k then (x.1, n) else x else kis ++ [(k, n)]
theorem put_kis (kis : List (List Int × Int)) (k : List Int) (n : Int) : putD (kisD kis) k (.int n) = kisD (putI kis k n) := by
  unfold putD putI
  rw [look_kis, Option.isSome_map]
  unfold kisD
  split
  · rw [List.map_map, List.map_map]
    refine List.map_congr_left fun x _ => ?_
    show (if x.1 = k then (x.1, PyData.int n) else (x.1, PyData.int x.2)) = ((if x.1 = k then (x.1, n) else x).1, PyData.int (if x.1 = k then (x.1, n) else x).2)
    split <;> rfl
  · rw [List.map_append]; rfl
theorem putI_len (kis : List (List Int × Int)) (k : List Int) (n : Int) : (putI kis k n).length ≤ kis.length + 1 := by
  unfold putI
  split
  · rw [List.length_map]; omega
  · rw [List.length_append]; exact Nat.le_refl _
theorem putI_mem {kis : List (List Int × Int)} {k : List Int} {n : Int} {x : List Int × Int} (h : x ∈ putI kis k n) : x ∈ kis ∨ x = (k, n) := by
  unfold putI at h
  split at h
  · obtain ⟨y, hy, rfl⟩ := List.mem_map.mp h
    by_cases hc : y.1 = k
    · rw [if_pos hc]; exact .inr (by rw [hc])
    · rw [if_neg hc]; exact .inl hy
  · rcases List.mem_append.mp h with h | h
    · exact .inl h
    · exact .inr (by simpa using h)
theorem putI_nodup {kis : List (List Int × Int)} {k : List Int} {n : Int} (h : (kis.map (·.1)).Nodup) : ((putI kis k n).map (·.1)).Nodup := by
  unfold putI
  cases hl : lookI kis k with
  | some m =>
    rw [if_pos (show (some m).isSome = true from rfl), List.map_map]
    have e : (fun x : List Int × Int => (if x.1 = k then (x.1, n) else x).1) = fun x => x.1 := by
      funext x
      split <;> rfl
    show (kis.map fun x : List Int × Int => (if x.1 = k then (x.1, n) else x).1).Nodup
    rw [e]
    exact h
  | none =>
    rw [if_neg (by decide), List.map_append]
    refine List.nodup_append.mpr ⟨h, List.nodup_cons.mpr ⟨by simp, List.nodup_nil⟩, fun x hx y hy e => ?_⟩
    have ey : y = k := by simpa using hy
    rw [e, ey] at hx
    obtain ⟨m, em, _⟩ := look_some hx
    rw [hl] at em
    cases em
/-- the terms of a polynomial: keys upwards, powers, factors -/
structure Poly (p : Int) (n : Nat) (power : Int) (ts : List (List Int × Int)) : Prop where
  up : (ts.map (·.1)).Pairwise (· < ·)
  at_ : ∀ t ∈ ts, t.1.length = n ∧ (∀ e ∈ t.1, 0 ≤ e ∧ e ≤ power) ∧ t.2 ≠ 0 ∧ (0 < p → 0 ≤ t.2 ∧ t.2 < p) ∧ -1000 < t.2 ∧ t.2 < 1000
structure KisOk (p : Int) (n : Nat) (power : Int) (kis : List (List Int × Int)) : Prop where
  one : (kis.map (·.1)).Nodup
  at_ : ∀ x ∈ kis, x.1.length = n ∧ (∀ e ∈ x.1, 0 ≤ e ∧ e ≤ power) ∧ (0 < p → 0 ≤ x.2 ∧ x.2 < p) ∧ -1000 < x.2 ∧ x.2 < 1000
theorem sort_up {ks : List (List Int)} (h : ks.Nodup) : (ks.mergeSort leL).Pairwise (· < ·) := by
  have h1 : (ks.mergeSort leL).Pairwise (fun a b => leL a b = true) := List.pairwise_mergeSort (fun a b c h1 h2 => by
    unfold leL at *
    simp only [Bool.not_eq_true', decide_eq_false_iff_not] at *
    exact List.not_lt.mpr (List.le_trans (List.not_lt.mp h1) (List.not_lt.mp h2))) (fun a b => by
    unfold leL
    simp only [Bool.or_eq_true, Bool.not_eq_true', decide_eq_false_iff_not]
    rcases List.le_total a b with h | h
    · exact .inl (List.not_lt.mpr h)
    · exact .inr (List.not_lt.mpr h)) ks
  have h2 : (ks.mergeSort leL).Nodup := (List.mergeSort_perm _ _).nodup_iff.mpr h
  refine (h1.and h2).imp fun {a b} ⟨x, y⟩ => ?_
  unfold leL at x
  simp only [Bool.not_eq_true', decide_eq_false_iff_not] at x
  rcases Classical.em (a < b) with z | z
  · exact z
  · exact absurd (List.le_antisymm (List.not_lt.mp x) (List.not_lt.mp z)) y
theorem tidy_fst {p : Int} {kis : List (List Int × Int)} : ∀ ks : List (List Int), ((ks.filterMap (termF p kis)).map (·.1)).Sublist ks
  | [] => .slnil
  | k :: ks => by
    have ih := tidy_fst (p := p) (kis := kis) ks
    cases h : termF p kis k with
    | none =>
      rw [List.filterMap_cons_none h]
      exact ih.cons _
    | some t =>
      rw [List.filterMap_cons_some h, List.map_cons]
      have e : t.1 = k := by
        unfold termF at h
        split at h
        · cases h
        · cases h; rfl
      rw [e]
      exact ih.cons₂ _
theorem tidy_poly {p : Int} {n : Nat} {power : Int} {kis : List (List Int × Int)} (hp : 0 ≤ p) (hp2 : p < 1000) (h : KisOk p n power kis) : Poly p n power (tidyF p kis) ∧ (tidyF p kis).length ≤ kis.length := by
  refine ⟨⟨(sort_up h.one).sublist (tidy_fst _), fun t ht => ?_⟩, ?_⟩
  · obtain ⟨k, hk, e⟩ := List.mem_filterMap.mp ht
    have hk2 : k ∈ kis.map (·.1) := (List.mergeSort_perm _ _).mem_iff.mp hk
    obtain ⟨m, em, mem⟩ := look_some hk2
    unfold termF at e
    rw [em] at e
    have e' : (if elemF p m = 0 then none else some (k, elemF p m)) = some t := e
    obtain ⟨a, b, c, d, f⟩ := h.at_ _ mem
    by_cases hz : elemF p m = 0
    · rw [if_pos hz] at e'; cases e'
    · rw [if_neg hz] at e'
      cases e'
      refine ⟨a, b, hz, fun h0 => ?_, ?_⟩
      · unfold elemF
        rw [if_neg (by omega)]
        exact ⟨Int.emod_nonneg _ (by omega), Int.emod_lt_of_pos _ h0⟩
      · show -1000 < elemF p m ∧ elemF p m < 1000
        unfold elemF
        split
        · exact ⟨d, f⟩
        · have := Int.emod_nonneg m (show p ≠ 0 by omega)
          have := Int.emod_lt_of_pos m (show 0 < p by omega)
          omega
  · unfold tidyF
    refine Nat.le_trans (List.length_filterMap_le _ _) ?_
    rw [(List.mergeSort_perm _ _).length_eq, List.length_map]
    exact Nat.le_refl _
def g_law_polynomial : CD := fun ds P => ∃ p n terms power : Int, ds = [.int p, .int n, .int terms, .int power] ∧ (0 ≤ p ∧ p < 1000) ∧ (1 ≤ n ∧ n ≤ 1000) ∧ (0 ≤ terms ∧ terms ≤ 10000) ∧ (0 ≤ power ∧ power ≤ 1000) ∧
  ∀ ts, Poly p n.toNat power ts → (ts.length : Int) ≤ terms → P (.tuple (ts.map termD))
theorem g_law_polynomial_mono : ∀ es P P', (∀ d, P d → P' d) → g_law_polynomial es P → g_law_polynomial es P' := fun es P P' h ⟨p, n, t, w, e, h1, h2, h3, h4, q⟩ => ⟨p, n, t, w, e, h1, h2, h3, h4, fun ts a b => h _ (q ts a b)⟩
structure TC (P : Program) (w : World) (K : PySem.W.Frag) (mg : Str → Option Value) (base : Heap) : Prop extends TA P w K mg base where
  d_law_of : C8.Cal P w K mg base 2 "_law_of" (spW K g_of) []
  b_sorted : mg "sorted" = none
  b_tuple : mg "tuple" = none
  b_range : mg "range" = none
  d_law_element : C8.Cal P w K mg base 1 "_law_element" (spD K g_law_element) []
structure TPl (P : Program) (w : World) (K : PySem.W.Frag) (mg : Str → Option Value) (base : Heap) : Prop extends TC P w K mg base where
  d_law_some : C8.Cal P w K mg base 2 "_law_some" (spW K g_law_some) []
  d_law_tidy : C8.Cal P w K mg base 2 "_law_tidy" (spT K g_law_tidy) []
end LD

/-! LD19: two lists made at once; mixed lists, rows of lists. -/
namespace LD
open PySem PySem.Spec L2
section
variable {K : PySem.W.Frag} {tf tg : TE} {f g : TDA}
/-- a, b = [..], [..], each kept in its slot alone -/
def dParO (i j : Nat) (f g : TDA) : TDS := fun dn ρ => f ρ fun r es => g r fun r2 fs => i < r2.length ∧ j < r2.length ∧ dn.nx ((r2.set i (.ls es)).set j (.ls fs))
theorem ss_parO {i j : Nat} (sf : SF K tf f) (sg : SF K tg g) : SS K (tPar i j (tCons tf (tCons tg tNil))) (dParO i j f g) := by
  refine ⟨fun a b ρ h q => sf.mono _ _ _ (fun _ es q => sg.mono _ _ _ (fun _ fs ⟨h1, h2, q⟩ => ⟨h1, h2, h.nx _ q⟩) q) q, fun F σ H ρ vs ds E dn G R q => ?_⟩
  refine sf.run F σ H ρ vs ds _ R (sf.mono _ _ _ (fun r es q xs H1 p el R1 hp => ?_) q)
  have f0 := R1.pinFree hp
  refine sg.run (F.mk1 p (.lst xs)) σ _ r _ _ _ (R1.pinNew hp) (sg.mono _ _ _ (fun r2 fs q4 ys H2 p2 el2 R2 hp2 => ?_) q)
  obtain ⟨h1, h2, q5⟩ := q4
  obtain ⟨u1, u2, u3⟩ := R2.unpin f0.1 f0.2
  refine ⟨_, _, rfl, G.nx _ _ _ ?_ q5⟩
  have R3 : Rel K F σ (hide H2 p) r2 (xs ++ (ys ++ vs)) (es ++ (fs ++ ds)) := u3.swap fun Hi h => by
    obtain ⟨a1, a2⟩ := dpAll_split el2 h
    obtain ⟨a3, a4⟩ := dpAll_split el a2
    exact dpAll_app a3 (dpAll_app a1 a4)
  have R4 := R3.keepOwn el u1 h1
  rw [← u2] at R4
  exact R4.keepOwn el2 hp2 (by rw [List.length_set]; exact h2)
end
def g_law_mixed : CD := fun ds P => ∃ ns : List Int, ds = [.list (ns.map PyData.int)] ∧ ns.length ≤ 1000 ∧ ∀ ms : List Int, ms.Perm ns → P (.list (ms.map PyData.int))
theorem g_law_mixed_mono : ∀ es P P', (∀ d, P d → P' d) → g_law_mixed es P → g_law_mixed es P' := fun es P P' h ⟨ns, e, h1, q⟩ => ⟨ns, e, h1, fun ms a => h _ (q ms a)⟩
theorem ixN_nat' {n j : Nat} (h : j < n) : ixN n (j : Int) = some j := by
  unfold ixN
  rw [if_pos (by omega), if_pos (by omega)]
  rfl
theorem seq_nat {n j : Nat} (h : j < n) : seqIndex? (j : Int) n = some j := (ixN_seq (ixN_nat' h)).1
theorem erase_perm {α : Type} {xs : List α} {j : Nat} (h : j < xs.length) : (xs[j] :: xs.eraseIdx j).Perm xs := by
  have e : xs = xs.take j ++ xs[j] :: xs.drop (j + 1) := by rw [← List.drop_eq_getElem_cons h, List.take_append_drop]
  have p : (xs.take j ++ xs[j] :: xs.drop (j + 1)).Perm (xs[j] :: (xs.take j ++ xs.drop (j + 1))) := List.perm_middle
  rw [List.eraseIdx_eq_take_drop_succ]
  rw [← e] at p
  exact p.symm
theorem erase_map {α β : Type} (f : α → β) (xs : List α) (j : Nat) : (xs.map f).eraseIdx j = (xs.eraseIdx j).map f := by
  rw [List.eraseIdx_eq_take_drop_succ, List.eraseIdx_eq_take_drop_succ, List.map_append, List.map_take, List.map_drop]
theorem cut_to (ns : List Int) (k : Nat) : cutD (ns.map PyData.int) none (some (k : Int)) = (ns.take k).map PyData.int := by
  unfold cutD
  rw [HT.sIx_none, List.drop_zero, Nat.sub_zero, List.length_map, List.map_take]
  rw [show HT.sIx ns.length ns.length (some (k : Int)) = min k ns.length from HT.sIx_nat ns.length ns.length k]
  by_cases h : k ≤ ns.length
  · rw [Nat.min_eq_left h]
  · rw [Nat.min_eq_right (by omega), List.take_of_length_le (by rw [List.length_map]; omega), List.take_of_length_le (by rw [List.length_map]; omega)]
def leI (a b : Int) : Bool := !decide (b < a)
theorem sort_ints (ks : List Int) : (ks.map PyData.int).mergeSort leD = (ks.mergeSort leI).map PyData.int := (List.map_mergeSort (f := PyData.int) fun k _ l _ => by unfold leI leD; rw [PySem.W.dataLt_int]).symm
theorem sortI_up {ks : List Int} (h : ks.Nodup) : (ks.mergeSort leI).Pairwise (· < ·) := by
  have h1 : (ks.mergeSort leI).Pairwise (fun a b => leI a b = true) := List.pairwise_mergeSort (fun a b c h1 h2 => by
    unfold leI at *
    simp only [Bool.not_eq_true', decide_eq_false_iff_not] at *
    omega) (fun a b => by
    unfold leI
    simp only [Bool.or_eq_true, Bool.not_eq_true', decide_eq_false_iff_not]
    omega) ks
  have h2 : (ks.mergeSort leI).Nodup := (List.mergeSort_perm _ _).nodup_iff.mpr h
  refine (h1.and h2).imp fun {a b} ⟨x, y⟩ => ?_
  unfold leI at x
  simp only [Bool.not_eq_true', decide_eq_false_iff_not] at x
  omega
theorem alike_ii (ks : List Int) : PySem.W.AllAlike (ks.map PyData.int) ∧ PySem.W.Sortable (ks.map PyData.int) ∧ PyData.depthAll (ks.map PyData.int) ≤ 50 := by
  refine ⟨fun x hx y hy => ?_, .inr fun x hx => ?_, by rw [depth_ints]; decide⟩
  · obtain ⟨i, rfl, _⟩ := mem_int hx
    obtain ⟨j, rfl, _⟩ := mem_int hy
    rfl
  · obtain ⟨i, rfl, _⟩ := mem_int hx
    exact ⟨(fun z => by cases z), (fun es z => by cases z)⟩
theorem rngI_nodup (lo : Int) (n : Nat) : (rngI lo n).Nodup := by
  unfold rngI
  refine List.Pairwise.map _ (fun a b h z => h ?_) List.nodup_range
  omega
theorem rngI_mem' {lo x : Int} {n : Nat} (h : x ∈ rngI lo n) : lo ≤ x ∧ x < lo + n := by
  unfold rngI at h
  obtain ⟨i, hi, rfl⟩ := List.mem_map.mp h
  have := List.mem_range.mp hi
  omega
theorem rngI_len' (lo : Int) (n : Nat) : (rngI lo n).length = n := by unfold rngI; rw [List.length_map, List.length_range]
structure TL (P : Program) (w : World) (K : PySem.W.Frag) (mg : Str → Option Value) (base : Heap) : Prop extends TA P w K mg base where
  b_list : mg "list" = none
/-- rows of a list of lists -/
structure RowOk (p : Int) (r : List Int) : Prop where
  ne : r ≠ []
  up : r.Pairwise (· < ·)
  at_ : ∀ x ∈ r, (p = 0 → -5 ≤ x ∧ x ≤ 5) ∧ (0 < p → 0 ≤ x ∧ x < p)
def rowD (r : List Int) : D := .tuple (r.map PyData.int)
def g_law_lists : CD := fun ds P => ∃ p n most : Int, ds = [.int p, .int n, .int most] ∧ (0 ≤ p ∧ p < 1000 ∧ p ≠ 1) ∧ (0 ≤ n ∧ n ≤ 1000) ∧ (1 ≤ most ∧ most ≤ 1000) ∧
  ∀ rows : List (List Int), (rows.length : Int) = n → (∀ r ∈ rows, RowOk p r ∧ (r.length : Int) ≤ most) → P (.tuple (rows.map rowD))
theorem g_law_lists_mono : ∀ es P P', (∀ d, P d → P' d) → g_law_lists es P → g_law_lists es P' := fun es P P' h ⟨p, n, m, e, h1, h2, h3, q⟩ => ⟨p, n, m, e, h1, h2, h3, fun rs a b => h _ (q rs a b)⟩
structure TM (P : Program) (w : World) (K : PySem.W.Frag) (mg : Str → Option Value) (base : Heap) : Prop extends TPl P w K mg base where
  b_list : mg "list" = none
  b_min : mg "min" = none
  d_law_mixed : C8.Cal P w K mg base 2 "_law_mixed" (spW K g_law_mixed) []
end LD

/-! LD20: zip of two tuples. -/
namespace LD
open PySem PySem.Spec L2
/-- the tuples at a and b, of n and m items, item by item in new pairs -/
def ItZ (K : PySem.W.Frag) (a b : Addr) (n m : Nat) : It where
  go i H := ∃ xs ys x y, SqT K H a xs ∧ SqT K H b ys ∧ xs.length = n ∧ ys.length = m ∧ xs[i]? = some x ∧ ys[i]? = some y
  yld i H v H' := ∃ T x y, v = .ref T ∧ H T = none ∧ H' = upd H T (.tup [x, y]) ∧ (∀ xs, SqT K H a xs → xs[i]? = some x) ∧ ∀ ys, SqT K H b ys → ys[i]? = some y
  stop i H := ∃ xs ys, SqT K H a xs ∧ SqT K H b ys ∧ xs.length = n ∧ ys.length = m ∧ (n ≤ i ∨ m ≤ i)
theorem turn_zipT {P : Program} {w : World} {K : PySem.W.Frag} {es : List Expr} {j : Nat} {tp : Pos} {a b z TI TO i1 i2 : Addr} {n m : Nat} (S : ZipSep2 z TI TO i1 i2 [i1, a] [i2, b]) :
    Turn P w K (.Tuple es j tp) (ItZ K a b n m) [z, TI, TO, i1, i2] z fun i h => IsZip h z TI TO .none ∧ IsTupOf2 h TI (.ref i1) (.ref i2) ∧ (∃ x y, IsTupOf2 h TO x y) ∧ h.IsTupleIter i1 a i ∧ h.IsTupleIter i2 b i ∧ i ≤ n ∧ i ≤ m where
  mem := by simp
  obj i h st c hc := by
    obtain ⟨hz, hTI, ⟨x, y, hTO⟩, ⟨o1, e1, _, d1⟩, ⟨o2, e2, _, d2⟩, _⟩ := st
    rcases (by simpa using hc : c = z ∨ c = TI ∨ c = TO ∨ c = i1 ∨ c = i2) with q | q | q | q | q
    · exact q ▸ ⟨_, hz, fun v q => nomatch q⟩
    · exact q ▸ ⟨_, hTI, fun v q => nomatch q⟩
    · exact q ▸ ⟨_, hTO, fun v q => nomatch q⟩
    · exact q ▸ ⟨o1, e1, fun v q => by rw [d1] at q; cases q⟩
    · exact q ▸ ⟨o2, e2, fun v q => by rw [d2] at q; cases q⟩
  keep i h h' st k := by
    obtain ⟨hz, hTI, ⟨x, y, hTO⟩, h1, h2, l⟩ := st
    exact ⟨k z (by simp) _ hz, k TI (by simp) _ hTI, ⟨x, y, k TO (by simp) _ hTO⟩, h1.at fun o q => k i1 (by simp) o q, h2.at fun o q => k i2 (by simp) o q, l⟩
  item := by
    intro X hP hw hK hc i pins s σ H E I hf st hg
    subst hP hw hK
    obtain ⟨hz, hTI, ⟨x0, y0, hTO⟩, h1, h2, l1, l2⟩ := st
    obtain ⟨xs, ys, x, y, hqx, hqy, nx, ny, hx, hy⟩ := hg
    obtain ⟨its, rv, p, _⟩ := I.tuple hqx
    obtain ⟨its2, rv2, p2, _⟩ := I.tuple hqy
    have p' : s.heap.IsTuple a its.toArray := p
    have p2' : s.heap.IsTuple b its2.toArray := p2
    obtain ⟨u, hu, ru⟩ := rv.get hx
    obtain ⟨u2, hu2, ru2⟩ := rv2.get hy
    have hzl : z < s.heap.objs.size := Heap.lt_size hz
    have hs1 : its.toArray.size = n := by rw [List.size_toArray, ← rv.length, nx]
    have hs2 : its2.toArray.size = m := by rw [List.size_toArray, ← rv2.length, ny]
    have li1 : i < its.toArray.size := by rw [List.size_toArray]; exact (List.getElem?_eq_some_iff.mp hu).1
    have li2 : i < its2.toArray.size := by rw [List.size_toArray]; exact (List.getElem?_eq_some_iff.mp hu2).1
    have ne1 : a ≠ i1 := fun e => by
      obtain ⟨o, q, c, _⟩ := p'
      obtain ⟨o2, q2, c2, _⟩ := h1
      rw [e] at q
      rw [q] at q2
      cases q2
      rw [c] at c2
      exact absurd (Value.type.inj c2) (by decide)
    have ne2 : b ≠ i2 := fun e => by
      obtain ⟨o, q, c, _⟩ := p2'
      obtain ⟨o2, q2, c2, _⟩ := h2
      rw [e] at q
      rw [q] at q2
      cases q2
      rw [c] at c2
      exact absurd (Value.type.inj c2) (by decide)
    refine wpAny_pyNext_zipD2_item S (Draws.tuple (A := X.A.in1) (I.ok.hd hc) i1 a ne1 its.toArray) (Draws.tuple (A := X.A.in1) (I.ok.hd hc) i2 b ne2 its2.toArray) hz hTI hTO ⟨h1, p'⟩ ⟨h2, p2'⟩ li1 li2 fun v1 v2 h' tk y1 y2 b1 b2 d1 d2 b5 b6 hk => ?_
    have e1 : v1 = u := by
      have q : its[i]? = some v1 := by simpa using y1
      rw [hu] at q
      exact (Option.some.inj q).symm
    have e2 : v2 = u2 := by
      have q : its2[i]? = some v2 := by simpa using y2
      rw [hu2] at q
      exact (Option.some.inj q).symm
    subst e1 e2
    refine ⟨_, rfl, wpAny_letOwnedTupleGo_zip (s := { s with heap := h', toks := tk }) b1 fun h2' z'' sb => ?_⟩
    have hT2 : h2'.get? s.heap.objs.size = some { cls := .type "tuple", data := .seq #[v1, v2] } := (sb.2 _ (Nat.ne_of_gt hzl)).trans b5
    have new : ObjOk X.prog X.w (upd H s.heap.objs.size (.tup [x, y])) h2' s.heap.objs.size (.tup [x, y]) :=
      ⟨by show 2 ≤ sizeLine; decide, [v1, v2], .cons ru (.cons ru2 .nil), ⟨_, hT2, rfl, _, rfl⟩⟩
    have I1 : Inv X pins σ (upd H s.heap.objs.size (.tup [x, y])) { s with heap := h2', toks := tk } :=
      I.turnedNew (t' := tk) (ch := [z, TI, TO, i1, i2]) (fun c o hb q => (sb.2 c fun w => hb (by simp [w])).trans (hk c o (fun w => hb (by simp [w])) (fun w => hb (by simp [w])) (fun w => hb (by simp [w])) (fun w => hb (by simp [w])) q)) hf (Nat.le_refl _) new
    refine ⟨.ref s.heap.objs.size, _, I1, rfl, ⟨_, x, y, rfl, I.hok.fresh (Nat.le_refl _), rfl, fun l hl => by rw [I.tuple_inj hl hqx]; exact hx, fun l hl => by rw [I.tuple_inj hl hqy]; exact hy⟩, ⟨z'', ?_, ⟨v1, v2, ?_⟩, ?_, ?_, by omega, by omega⟩, fun c hcm => ?_⟩
    · exact (sb.2 _ S.TIz).trans (hk _ _ S.TIz S.TITO S.TIi1 S.TIi2 hTI)
    · exact (sb.2 _ S.TOz).trans b2
    · exact d1.1.at fun o q => (sb.2 _ (Ne.symm S.zi1)).trans q
    · exact d2.1.at fun o q => (sb.2 _ (Ne.symm S.zi2)).trans q
    · have hlt : c < s.heap.objs.size := by
        rcases (by simpa using hcm : c = z ∨ c = TI ∨ c = TO ∨ c = i1 ∨ c = i2) with q | q | q | q | q
        · exact q ▸ hzl
        · exact q ▸ Heap.lt_size hTI
        · exact q ▸ Heap.lt_size hTO
        · obtain ⟨_, e, _⟩ := h1
          exact q ▸ Heap.lt_size e
        · obtain ⟨_, e, _⟩ := h2
          exact q ▸ Heap.lt_size e
      rw [upd_ne (Nat.ne_of_lt hlt)]
      exact (hf c hcm).1
  done := by
    intro X hP hw hK hc i pins s σ H E I hf st hg
    subst hP hw hK
    obtain ⟨hz, hTI, ⟨x0, y0, hTO⟩, h1, h2, l1, l2⟩ := st
    obtain ⟨xs, ys, hqx, hqy, nx, ny, hend⟩ := hg
    obtain ⟨its, rv, p, _⟩ := I.tuple hqx
    obtain ⟨its2, rv2, p2, _⟩ := I.tuple hqy
    have p' : s.heap.IsTuple a its.toArray := p
    have p2' : s.heap.IsTuple b its2.toArray := p2
    have hs1 : its.toArray.size = n := by rw [List.size_toArray, ← rv.length, nx]
    have hs2 : its2.toArray.size = m := by rw [List.size_toArray, ← rv2.length, ny]
    have ne1 : a ≠ i1 := fun e => by
      obtain ⟨o, q, c, _⟩ := p'
      obtain ⟨o2, q2, c2, _⟩ := h1
      rw [e] at q
      rw [q] at q2
      cases q2
      rw [c] at c2
      exact absurd (Value.type.inj c2) (by decide)
    have ne2 : b ≠ i2 := fun e => by
      obtain ⟨o, q, c, _⟩ := p2'
      obtain ⟨o2, q2, c2, _⟩ := h2
      rw [e] at q
      rw [q] at q2
      cases q2
      rw [c] at c2
      exact absurd (Value.type.inj c2) (by decide)
    refine wpAny_pyNext_zipD2_end S (Draws.tuple (A := X.A.in1) (I.ok.hd hc) i1 a ne1 its.toArray) (Draws.tuple (A := X.A.in1) (I.ok.hd hc) i2 b ne2 its2.toArray) hz hTI hTO ⟨h1, p'⟩ ⟨h2, p2'⟩ (by omega) (by omega) (by omega) fun h' tk hk => ⟨rfl, I.turnedL (t' := tk) (ch := [z, TI, TO, i1, i2]) (fun c o hb q =>
      hk c o (fun w => hb (by simp [w])) (fun w => hb (by simp [w])) (fun w => hb (by simp [w])) (fun w => hb (by simp [w])) q) hf⟩
  self A i s Q E st h := wpAny_pyIter_zip st.1 h
def iZipTT (K : PySem.W.Frag) (ta : L2.TA) : TI := fun σ H R => ta σ H fun vs H1 => ∃ a b xs ys, vs = [.ref a, .ref b] ∧ SqT K H1 a xs ∧ SqT K H1 b ys ∧ R (ItZ K a b xs.length ys.length) H1
theorem pi_zipT {X : Cx} {e e2 : Expr} {ta : L2.TA} {p pos tp : Pos} {es : List Expr} {j : Nat} (hg : Gl X "zip") (hm : X.mg "zip" = none) (ha : PA X [e, e2] ta)
    (hs : starEach [e, e2] X.env = (false, eval e X.env) :: starEach [e2] X.env := by rfl) (hpl : (backTo pos (starEach [e2] X.env)).any (·.1) = false := by rfl) :
    PI X (.Tuple es j tp) (.Call (.Name "zip" p) [e, e2] [] pos) (iZipTT X.K ta) := by
  refine ⟨fun pins s σ H R I h => PyProof.Rows.Call_ (ld_blt I hg hm PyProof.Rows.boot_zip (PyProof.Rows.callWith_type1 (thn (ha.run pos pins s σ H _ I h) fun us s1 ⟨vs, H1, I1, r1, q1⟩ => ?_) hs hpl))⟩
  obtain ⟨a, b, xs, ys, ex, hqx, hqy, q⟩ := q1
  subst ex
  obtain ⟨u, u2, rfl, ru, ru2⟩ := vals2 r1
  obtain rfl : u = Value.ref a := ru
  obtain rfl : u2 = Value.ref b := ru2
  obtain ⟨its, rv, p1, _⟩ := I1.tuple hqx
  obtain ⟨its2, rv2, p2, _⟩ := I1.tuple hqy
  have p1' : s1.heap.IsTuple a its.toArray := p1
  have p2' : s1.heap.IsTuple b its2.toArray := p2
  have la : a < s1.heap.objs.size := by
    obtain ⟨_, q, _⟩ := p1'
    exact Heap.lt_size q
  have lb : b < s1.heap.objs.size := by
    obtain ⟨_, q, _⟩ := p2'
    exact Heap.lt_size q
  refine zip_begins2 (begins_tuple a its.toArray) (begins_tuple b its2.toArray) p1' p2' fun h' hz hTI hTO g1 g2 hsz hk => wpAny_pyIter_zip hz ?_
  have I2 : Inv X pins σ H1 { s1 with heap := h' } := I1.kept (t' := s1.toks) hk
  have S := zip_sep2 (N := s1.heap.objs.size) (fp1 := [a]) (fp2 := [b]) (fun c hc => by
    obtain rfl : c = a := by simpa using hc
    exact la) (fun c hc => by
    obtain rfl : c = b := by simpa using hc
    exact lb)
  refine ⟨s1.heap.objs.size + 4, [s1.heap.objs.size + 4, s1.heap.objs.size + 2, s1.heap.objs.size + 3, s1.heap.objs.size, s1.heap.objs.size + 1], _, _, H1, rfl, I2, turn_zipT S, ⟨hz, hTI, ⟨_, _, hTO⟩, ⟨_, g1, rfl, rfl⟩, ⟨_, g2, rfl, rfl⟩, Nat.zero_le _, Nat.zero_le _⟩, fun c hcm => ?_, q⟩
  have hle : s1.heap.objs.size ≤ c := by
    rcases (by simpa using hcm : c = s1.heap.objs.size + 4 ∨ c = s1.heap.objs.size + 2 ∨ c = s1.heap.objs.size + 3 ∨ c = s1.heap.objs.size ∨ c = s1.heap.objs.size + 1) with w | w | w | w | w
    · rw [w]; exact Nat.le_add_right _ _
    · rw [w]; exact Nat.le_add_right _ _
    · rw [w]; exact Nat.le_add_right _ _
    · rw [w]; exact Nat.le_refl _
    · rw [w]; exact Nat.le_add_right _ _
  exact I1.fpOk hle (I1.hok.fresh hle)
/-! over data -/
section
variable {K : PySem.W.Frag}
def zipD (es fs : List D) : List D := (es.zip fs).map fun p => .tuple [p.1, p.2]
theorem zipD_at {es fs : List D} {i : Nat} {d : D} (h : (zipD es fs)[i]? = some d) : ∃ x y, es[i]? = some x ∧ fs[i]? = some y ∧ d = .tuple [x, y] := by
  unfold zipD at h
  rw [List.getElem?_map] at h
  cases hz : (es.zip fs)[i]? with
  | none => rw [hz] at h; cases h
  | some p =>
    rw [hz] at h
    have := List.getElem?_zip_eq_some.mp hz
    exact ⟨p.1, p.2, this.1, this.2, (Option.some.inj h).symm⟩
theorem walks_zip {p r : Addr} {es fs : List D} : Walks K (ItZ K p r es.length fs.length) (zipD es fs) [.ref p, .ref r] [.tuple es, .tuple fs] := by
  intro F σ H ρ vs ds i R
  obtain ⟨p', xs, e, e2, s, R1⟩ := Rel.asTup (vs := .ref r :: vs) (ds := .tuple fs :: ds) R
  cases e
  have R' : Rel K F σ H ρ (.ref r :: vs) (.tuple fs :: ds) := Rel.drop R
  obtain ⟨r', ys, e', e2', s', R2⟩ := Rel.asTup R'
  cases e'
  refine ⟨fun d hd => ?_, fun h => ⟨xs, ys, s, s', e2, e2', ?_⟩⟩
  · obtain ⟨x, y, hx, hy, rfl⟩ := zipD_at hd
    obtain ⟨v, e3, _⟩ := R1.pick e2 hx
    obtain ⟨u, e4, _⟩ := R2.pick e2' hy
    refine ⟨⟨xs, ys, v, u, s, s', e2, e2', e3, e4⟩, fun q H' hq => ?_⟩
    obtain ⟨T, v', u', rfl, hT, rfl, h1, h2⟩ := hq
    have := (h1 xs s).symm.trans e3
    cases this
    have := (h2 ys s').symm.trans e4
    cases this
    refine Rel.tup (xs := [v, u]) (es := [x, y]) ?_ rfl hT
    obtain ⟨Hi, own, R3⟩ := R
    have t := R3.tmp
    cases t with
    | cons t1 t2 =>
      cases t2 with
      | cons t3 t4 =>
        cases t1 with
        | tup s1 g1 =>
          cases t3 with
          | tup s2 g2 =>
            obtain ⟨w1, k1, d1⟩ := dpAll_at g1 hx
            obtain ⟨w2, k2, d2⟩ := dpAll_at g2 hy
            have z1 := (h1 _ (sqT_mono R3.sub s1)).symm.trans k1
            have z2 := (h2 _ (sqT_mono R3.sub s2)).symm.trans k2
            cases z1
            cases z2
            exact ⟨Hi, own, R3.tmpTo (.cons d1 (.cons d2 (.cons (.tup s1 g1) (.cons (.tup s2 g2) t4))))⟩
  · unfold zipD at h
    rw [List.length_map, List.length_zip] at h
    omega
def iZ (t : TDA) : TDI := fun ρ P => t ρ fun r es => ∃ fs gs, es = [.tuple fs, .tuple gs] ∧ P r (zipD fs gs)
theorem si_zipT {ta : L2.TA} {t : TDA} (sa : SA K ta t) : SI K (iZipTT K ta) (iZ t) := by
  refine ⟨fun ρ P P' h q => sa.mono _ _ _ (fun _ es ⟨fs, gs, e, q⟩ => ⟨fs, gs, e, h _ _ q⟩) q, fun F σ H ρ vs ds Q R q => ?_⟩
  refine sa.run F σ H ρ vs ds _ R (sa.mono _ _ _ (fun r es q xs H1 e R1 => ?_) q)
  obtain ⟨fs, gs, e1, q⟩ := q
  subst e1
  obtain ⟨x, xr, rfl, e2⟩ := len_cons e
  obtain ⟨y, yr, rfl, e3⟩ := len_cons e2
  obtain rfl := len_nil e3
  obtain ⟨p, ys, rfl, el, s, _⟩ := Rel.asTup R1
  obtain ⟨p2, zs, rfl, el2, s2, _⟩ := Rel.asTup (Rel.drop R1)
  refine ⟨p, p2, ys, zs, rfl, s, s2, ?_⟩
  rw [el, el2]
  exact q _ _ [.ref p, .ref p2] [.tuple fs, .tuple gs] rfl walks_zip R1
end
end LD

/-! LD21: max with default. -/
namespace LD
open PySem PySem.Spec L2
def MaxQ (K : PySem.W.Frag) (Q : VK) (x y : V) (H : Hp) : Prop := ∃ (a : Addr) (xs : List V) (ds : List D), x = .ref a ∧ SqL K H a xs ∧ DpAll K H xs ds ∧ PySem.W.AlikeAll ds ∧ PyData.depthAll ds ≤ 50 ∧ (ds = [] → Q y H) ∧
  ∀ (d : D) (fs : List D) (i : Nat) (v : V), ds = d :: fs → xs[i]? = some v → ds[i]? = some (PySem.W.maxD d fs) → Q v H
def tMaxD (K : PySem.W.Frag) (te td : TE) : TE := fun σ H Q => te σ H fun x H1 => td σ H1 fun y H2 => MaxQ K Q x y H2
theorem callMaxD {X : Cx} {pins : List (Addr × Obj)} {σ : L2.St} {H : Hp} {s : Shared} {a : Addr} {xs : List V} {ds : List D} {dv : Value} {Q : Value → Shared → Prop} (hc : X.calm = true) (hu : X.A.units + 64 < cLine) (I : Inv X pins σ H s) (hs : SqL X.K H a xs) (hd : DpAll X.K H xs ds) (ha : PySem.W.AlikeAll ds) (hz : PyData.depthAll ds ≤ 50)
    (h0 : ds = [] → ∀ s', Inv X pins σ H s' → Q dv s') (h1 : ∀ (d : D) (fs : List D) (i : Nat) (x : V) (u : Value) (s' : Shared), ds = d :: fs → xs[i]? = some x → ds[i]? = some (PySem.W.maxD d fs) → RelV x u → Inv X pins σ H s' → Q u s') :
    wpAny (model X.prog X.w) X.A (call (.builtin "max") [.ref a] [(Str.ofString "default", dv)]) Q X.xe s := by
  obtain ⟨its, rv, hl, _⟩ := I.list hs
  obtain ⟨as, hr⟩ := Dp.readsAll I _ xs its hd rv
  have hn : its.length = ds.length := by rw [← rv.length, dpAll_len hd]
  have hr' : ReadsAll s.heap its.toArray.toList ds as := hr
  refine PySem.call_max_walkD (PySem.W.iter_listW (A := X.A.in1) (I.ok.hd hc) hl.isList fun s₂ e W st hfp hw hk => ?_)
  refine ⟨_, _, _, _, _, _, _, s.heap, (fun i j => PySem.W.dataLt (ds.getD j .none) (ds.getD i .none)), rfl, W, st, hfp, hw, hk, fun hz s' m => ?_, fun hp => ⟨PySem.W.cmpIn_gt (A := X.A.in1) hr' ha (by show X.A.units + 1 + _ < _; omega), fun v s' hP m => ?_⟩⟩
  · obtain ⟨h', tk, rfl, hk'⟩ := PySem.W.moved_old e rfl m
    refine h0 (List.eq_nil_of_length_eq_zero ?_) _ (I.kept hk')
    rw [List.size_toArray] at hz
    omega
  · obtain ⟨h', tk, rfl, hk'⟩ := PySem.W.moved_old e rfl m
    cases ds with
    | nil =>
      rw [List.size_toArray, hn] at hp
      exact absurd hp (Nat.lt_irrefl 0)
    | cons d fs =>
      have e1 : its.toArray.size - 1 = fs.length := by rw [List.size_toArray, hn]; rfl
      obtain ⟨e3, e2⟩ := PySem.W.argBest_fold (fun a b => PySem.W.dataLt b a) PyData.none d fs fs.length (Nat.le_refl _)
      rw [List.take_length] at e2
      rw [e1, List.getElem?_toArray] at hP
      obtain ⟨x, hx, rx⟩ := vals_back rv hP
      exact h1 d fs _ x v _ rfl hx (getD_some (Nat.lt_succ_of_le e3) e2) rx (I.kept hk')
theorem pe_maxD {X : Cx} {e d : Expr} {te td : TE} {p pos kpos : Pos} (hc : X.calm = true) (hu : X.A.units + 64 < cLine) (hg : Gl X "max") (hm : X.mg "max" = none) (he : PE X e te) (hd : PE X d td)
    (hs : starEach [e] X.env = (false, eval e X.env) :: starEach [] X.env := by rfl) (hb : backTo pos (starEach [e] X.env) = (false, eval e X.env) :: backTo pos (starEach [] X.env) := by rfl) (hpl : (backTo pos (starEach [e] X.env)).any (·.1) = false := by rfl)
    (hall : (backToKw pos (keywordEach [⟨some "default", d, kpos⟩] X.env)).all (·.1.isSome) = true := by rfl) (hkw : (backToKw pos (keywordEach [⟨some "default", d, kpos⟩] X.env)).any (·.1.isNone) = false := by rfl)
    (hks : (backToKw pos (keywordEach [⟨some "default", d, kpos⟩] X.env)).filterMap (·.1) = [Str.ofString "default"] := by rfl) : PE X (.Call (.Name "max" p) [e] [⟨some "default", d, kpos⟩] pos) (tMaxD X.K te td) := by
  refine ⟨fun pins s σ H Q I h => wpAny_Call_Name_kw (ld_blt I hg hm (by decide +kernel : bootBuiltins "max" = some (.builtin "max")) ?_)⟩
  refine PyProof.Rows.callWith_kw ?_ hb hpl hall hkw
  have pk := pk_cons (X := X) (nm := some "default") (kpos := kpos) hd pk_nil
  refine thn ((pa_cons he pa_nil hs).run pos pins s σ H (fun vs H1 => match vs with | [x] => td σ H1 fun y H2 => MaxQ X.K Q x y H2 | _ => False) I h) fun us s1 ⟨vs, H1, I1, r1, q1⟩ => ?_
  match vs, r1, q1 with
  | [x], r1, q1 =>
    obtain ⟨u, rfl, ru⟩ := vals1 r1
    refine thn (pk.run pos pins s1 σ H1 (fun vs H2 => match vs with | [y] => MaxQ X.K Q x y H2 | _ => False) I1 q1) fun ks s2 ⟨ws, H2, I2, r2, q2⟩ => ?_
    match ws, r2, q2 with
    | [y], r2, q2 =>
      obtain ⟨k, rfl, rk⟩ := vals1 r2
      obtain ⟨a, xs, ds, ex, h1, h2, h3, h4, h5, h6⟩ := q2
      subst ex
      obtain rfl : u = Value.ref a := ru
      rw [hks]
      exact callMaxD hc hu I2 h1 h2 h3 h4 (fun z s' I3 => ⟨y, H2, I3, rk, h5 z⟩) fun d fs i v w s' e1 e2 e3 rw' I3 => ⟨v, H2, I3, rw', h6 d fs i v e1 e2 e3⟩
section
variable {K : PySem.W.Frag} {te td : TE} {e d : TD}
/-- max(e, default=d) -/
def dMaxD (e d : TD) : TD := fun ρ P => e ρ fun r x => d r fun r2 y => ∃ ds, x = .list ds ∧ PySem.W.AlikeAll ds ∧ PyData.depthAll ds ≤ 50 ∧ match ds with | [] => P r2 y | z :: zs => P r2 (PySem.W.maxD z zs)
theorem se_maxD (se : SE K te e) (sd : SE K td d) : SE K (tMaxD K te td) (dMaxD e d) := by
  refine ⟨fun ρ P P' h q => se.mono _ _ _ (fun _ x q => sd.mono _ _ _ (fun _ y ⟨ds, e1, e2, e3, q⟩ => ⟨ds, e1, e2, e3, match ds, q with | [], q => h _ _ q | _ :: _, q => h _ _ q⟩) q) q, fun F σ H ρ vs es Q R q => ?_⟩
  refine se.run F σ H ρ vs es _ R (se.mono _ _ _ (fun r x q v H1 R1 => ?_) q)
  refine sd.run F σ H1 r _ _ _ R1 (sd.mono _ _ _ (fun r2 y q u H2 R2 => ?_) q)
  obtain ⟨ds, e1, e2, e3, q3⟩ := q
  subst e1
  obtain ⟨p, xs, ev, el, s, R3⟩ := Rel.asList R2.drop
  refine ⟨p, xs, ds, ev, s, (dpAll_split el R3.dpAll).1, e2, e3, fun z => ?_, fun z zs i w hz hw hd => ?_⟩
  · subst z
    exact q3 _ _ R2.drop2
  · subst hz
    obtain ⟨w', hw', R4⟩ := R3.pick el hd
    rw [hw] at hw'
    cases hw'
    exact q3 _ _ R4.drop2
end
end LD

/-! LD22: a text that is a tuple of numbers' own is nobody else's. -/
namespace LD
open PySem PySem.Spec L2
def tx (d : D) : List Nat := d.shown.cps.toList
def Dg (c : Nat) : Prop := 48 ≤ c ∧ c ≤ 57
theorem tx_nat (m : Nat) : tx (.int (m : Int)) = (Nat.toDigits 10 m).map Char.toNat := PySem.W.KIN.signs_num m
theorem dg_nat (m : Nat) : ∀ c ∈ tx (.int (m : Int)), Dg c := fun c hc => by
  rw [tx_nat] at hc
  obtain ⟨ch, hch, e⟩ := List.mem_map.mp hc
  have r := Nat.isDigit_of_mem_toDigits (by decide) (by decide) hch
  rw [← e]
  unfold Char.isDigit at r
  simp only [Bool.and_eq_true, decide_eq_true_eq] at r
  exact ⟨r.1, r.2⟩
theorem ne_nat (m : Nat) : tx (.int (m : Int)) ≠ [] := by
  rw [tx_nat]
  intro h
  exact Nat.toDigits_ne_nil (List.map_eq_nil_iff.mp h)
theorem inj_nat {m n : Nat} (h : tx (.int (m : Int)) = tx (.int (n : Int))) : m = n := by
  rw [tx_nat, tx_nat] at h
  rw [← PySem.W.KIN.val_back m, h, PySem.W.KIN.val_back]
theorem cut_dg : ∀ {xs ys r r' : List Nat}, (∀ c ∈ xs, Dg c) → (∀ c ∈ ys, Dg c) → (∀ c ∈ r.head?, ¬ Dg c) → (∀ c ∈ r'.head?, ¬ Dg c) → xs ++ r = ys ++ r' → xs = ys ∧ r = r'
  | [], [], _, _, _, _, _, _, h => ⟨rfl, h⟩
  | [], y :: ys, r, r', _, hy, hr, _, h => by
    have h' : r = y :: (ys ++ r') := h
    exact absurd (hy y List.mem_cons_self) (hr y (by rw [h']; rfl))
  | x :: xs, [], r, r', hx, _, _, hr, h => by
    have h' : x :: (xs ++ r) = r' := h
    exact absurd (hx x List.mem_cons_self) (hr x (by rw [← h']; rfl))
  | x :: xs, y :: ys, r, r', hx, hy, h1, h2, h => by
    obtain ⟨e, h'⟩ := List.cons.inj h
    obtain ⟨a, b⟩ := cut_dg (fun c hc => hx c (List.mem_cons_of_mem _ hc)) (fun c hc => hy c (List.mem_cons_of_mem _ hc)) h1 h2 h'
    exact ⟨by rw [e, a], b⟩
theorem app_list (a b : Str) : (a ++ b).cps.toList = a.cps.toList ++ b.cps.toList := by
  show (a.cps ++ b.cps).toList = _
  rw [Array.toList_append]
/-- the first sign of any other text is no digit -/
theorem from_head : ∀ (ts : List Str) (k : Nat) (acc : Str), ∃ r, (textFrom k acc ts).cps.toList = acc.cps.toList ++ r
  | [], k, acc => ⟨[], (List.append_nil _).symm⟩
  | t :: ts, k, acc => by
    obtain ⟨r, e⟩ := from_head ts (k + 1) (acc ++ (if k > 0 then ", " else "" : String) ++ t)
    refine ⟨(Str.ofString (if k > 0 then ", " else "" : String)).cps.toList ++ (t.cps.toList ++ r), ?_⟩
    · show (textFrom (k + 1) (acc ++ (if k > 0 then ", " else "" : String) ++ t) ts).cps.toList = _
      rw [e, app_list, app_list, List.append_assoc, List.append_assoc]
theorem fold_head (f : Nat → Array Nat) (x : Array Nat) (q : Nat) : ∃ r, ((x.foldl (fun out c => out ++ f c) #[q]).push q).toList = q :: r := by
  have h : ∀ (l : List Nat) (acc : Array Nat), ∃ r, (l.foldl (fun out c => out ++ f c) acc).toList = acc.toList ++ r := by
    intro l
    induction l with
    | nil => intro acc; exact ⟨[], (List.append_nil _).symm⟩
    | cons c l ih =>
      intro acc
      obtain ⟨r, e⟩ := ih (acc ++ f c)
      exact ⟨(f c).toList ++ r, by rw [List.foldl_cons, e, Array.toList_append, List.append_assoc]⟩
  obtain ⟨r, e⟩ := h x.toList #[q]
  refine ⟨r ++ [q], ?_⟩
  rw [Array.toList_push, ← Array.foldl_toList, e]
  rfl
theorem str_head (x : Str) : ∃ r, (reprText x).cps.toList = reprQuote x :: r := by
  unfold reprText
  exact fold_head _ _ _
theorem head_other (d : D) : (∃ m : Nat, d = .int (m : Int)) ∨ ∃ c r, tx d = c :: r ∧ ¬ Dg c := by
  cases d with
  | none => exact .inr ⟨78, _, rfl, by unfold Dg; omega⟩
  | bool b =>
    cases b with
    | true => exact .inr ⟨84, _, rfl, by unfold Dg; omega⟩
    | false => exact .inr ⟨70, _, rfl, by unfold Dg; omega⟩
  | int i =>
    cases i with
    | ofNat m => exact .inl ⟨m, rfl⟩
    | negSucc m =>
      refine .inr ⟨45, (toString (m + 1)).toList.map Char.toNat, ?_, by unfold Dg; omega⟩
      unfold tx
      show (Str.ofString ("-" ++ (m + 1).repr)).cps.toList = _
      rw [PyProof.Rows.signs_ofString, String.toList_append, List.map_append]
      rfl
  | str x =>
    obtain ⟨r, e⟩ := str_head x
    refine .inr ⟨_, r, e, ?_⟩
    unfold reprQuote Dg
    split <;> omega
  | list xs =>
    obtain ⟨r, e⟩ := from_head (PyData.shownAll xs) 0 "["
    refine .inr ⟨91, r ++ [93], ?_, by unfold Dg; omega⟩
    unfold tx
    show (textFrom 0 "[" (PyData.shownAll xs) ++ ("]" : Str)).cps.toList = _
    rw [app_list, e]
    rfl
  | tuple xs =>
    refine .inr ⟨40, (Str.join ", " (PyData.shownAll xs)).cps.toList ++ (Str.ofString (if (PyData.shownAll xs).length == 1 then ",)" else ")")).cps.toList, ?_, by unfold Dg; omega⟩
    unfold tx
    show (("(" : Str) ++ Str.join ", " (PyData.shownAll xs) ++ (if (PyData.shownAll xs).length == 1 then ",)" else ")" : String)).cps.toList = _
    rw [app_list, app_list]
    rfl
  | dict kvs =>
    refine .inr ⟨123, (Str.join ", " (PyData.shownKv kvs)).cps.toList ++ [125], ?_, by unfold Dg; omega⟩
    unfold tx
    show (("{" : Str) ++ Str.join ", " (PyData.shownKv kvs) ++ ("}" : Str)).cps.toList = _
    rw [app_list, app_list]
    rfl
/-- a number's text, and what follows -/
theorem cut_nat {d : D} {m : Nat} {r r' : List Nat} (h1 : ∀ c ∈ r.head?, ¬ Dg c) (h2 : ∀ c ∈ r'.head?, ¬ Dg c) (h : tx d ++ r = tx (.int (m : Int)) ++ r') : d = .int (m : Int) ∧ r = r' := by
  rcases head_other d with ⟨n, rfl⟩ | ⟨c, q, e, hc⟩
  · obtain ⟨a, b⟩ := cut_dg (dg_nat n) (dg_nat m) h1 h2 h
    rw [inj_nat a]
    exact ⟨rfl, b⟩
  · cases hm : tx (.int (m : Int)) with
    | nil => exact absurd hm (ne_nat m)
    | cons x xs =>
      rw [e, hm] at h
      have := (List.cons.inj h).1
      have hx := dg_nat m x (by rw [hm]; exact List.mem_cons_self)
      rw [← this] at hx
      exact absurd hx hc
def jd (es : List D) : List Nat := (Str.join ", " (PyData.shownAll es)).cps.toList
theorem jd_one (e : D) : jd [e] = tx e := rfl
theorem jd_more (e f : D) (r : List D) : jd (e :: f :: r) = tx e ++ (44 :: 32 :: jd (f :: r)) := by
  unfold jd
  show (PyData.shown e ++ (", " : Str) ++ Str.join ", " (PyData.shownAll (f :: r))).cps.toList = _
  rw [app_list, app_list, List.append_assoc]
  rfl
theorem shownAll_len (es : List D) : (PyData.shownAll es).length = es.length := by
  induction es with
  | nil => rfl
  | cons e es ih => simp only [PyData.shownAll, List.length_cons, ih]
theorem tx_tup (es : List D) : tx (.tuple es) = 40 :: (jd es ++ if es.length = 1 then [44, 41] else [41]) := by
  unfold tx
  show (("(" : Str) ++ Str.join ", " (PyData.shownAll es) ++ (if (PyData.shownAll es).length == 1 then ",)" else ")" : String)).cps.toList = _
  rw [app_list, app_list, shownAll_len]
  by_cases h : es.length = 1
  · rw [if_pos (beq_iff_eq.mpr h), if_pos h]
    rfl
  · rw [if_neg (by simpa using h), if_neg h]
    rfl
def natD (k : List Nat) : List D := k.map fun m : Nat => PyData.int (m : Int)
theorem jd_nat (m n : Nat) (k : List Nat) : jd (natD (m :: n :: k)) = tx (.int (m : Int)) ++ (44 :: 32 :: jd (natD (n :: k))) := jd_more _ _ _
theorem nd41 : ∀ c ∈ ([41] : List Nat).head?, ¬ Dg c := fun c hc => by
  obtain rfl : 41 = c := by simpa using hc
  unfold Dg
  omega
theorem nd44 (r : List Nat) : ∀ c ∈ (44 :: r).head?, ¬ Dg c := fun c hc => by
  obtain rfl : 44 = c := by simpa using hc
  unfold Dg
  omega
theorem jd_inj : ∀ {es : List D} {k : List Nat}, es ≠ [] → k ≠ [] → jd es ++ [41] = jd (natD k) ++ [41] → es = natD k
  | [], _, h, _, _ => absurd rfl h
  | _, [], _, h, _ => absurd rfl h
  | [e], [m], _, _, h => by
    have := cut_nat (d := e) (m := m) nd41 nd41 h
    rw [this.1]
    rfl
  | [e], m :: n :: k, _, _, h => by
    have h2 : tx e ++ [41] = tx (.int (m : Int)) ++ (44 :: 32 :: jd (natD (n :: k)) ++ [41]) := by
      rw [jd_nat, List.append_assoc] at h
      exact h
    have := (cut_nat nd41 (nd44 _) h2).2
    cases this
  | e :: f :: r, [m], _, _, h => by
    have h2 : tx e ++ (44 :: 32 :: jd (f :: r) ++ [41]) = tx (.int (m : Int)) ++ [41] := by
      rw [jd_more, List.append_assoc] at h
      exact h
    have := (cut_nat (nd44 _) nd41 h2).2
    cases this
  | e :: f :: r, m :: n :: k, _, _, h => by
    have h2 : tx e ++ (44 :: 32 :: jd (f :: r) ++ [41]) = tx (.int (m : Int)) ++ (44 :: 32 :: jd (natD (n :: k)) ++ [41]) := by
      rw [jd_more, jd_nat, List.append_assoc, List.append_assoc] at h
      exact h
    obtain ⟨a, b⟩ := cut_nat (nd44 _) (nd44 _) h2
    have b2 : jd (f :: r) ++ [41] = jd (natD (n :: k)) ++ [41] := (List.cons.inj (List.cons.inj b).2).2
    rw [a, jd_inj (List.cons_ne_nil _ _) (List.cons_ne_nil _ _) b2]
    rfl
theorem tup_inj : ∀ {es : List D} {k : List Nat}, tx (.tuple es) = tx (.tuple (natD k)) → es = natD k
  | [], [], _ => rfl
  | [], m :: k, h => by
    rw [tx_tup, tx_tup] at h
    have h2 := (List.cons.inj h).2
    have h3 := congrArg List.length h2
    have hl : 1 ≤ (tx (.int (m : Int))).length := List.length_pos_iff.mpr (ne_nat m)
    cases k with
    | nil =>
      have e : jd (natD [m]) = tx (.int (m : Int)) := rfl
      rw [e] at h3
      have z : (jd []).length = 0 := rfl
      rw [List.length_append, List.length_append, z, if_neg (show ¬ ([] : List D).length = 1 by decide), if_pos (show (natD [m]).length = 1 from rfl)] at h3
      simp only [List.length_cons, List.length_nil] at h3
      omega
    | cons n k =>
      rw [jd_nat] at h3
      have z : (jd []).length = 0 := rfl
      rw [List.length_append, List.length_append, List.length_append, z] at h3
      simp only [List.length_cons, List.length_nil] at h3
      split at h3 <;> split at h3 <;> simp only [List.length_cons, List.length_nil] at h3 <;> omega
  | [e], [], h => by
    rw [tx_tup, tx_tup] at h
    have h3 := congrArg List.length (List.cons.inj h).2
    have z : (jd (natD [])).length = 0 := rfl
    rw [List.length_append, List.length_append, z, if_pos (show [e].length = 1 from rfl), if_neg (show ¬ (natD []).length = 1 by decide)] at h3
    simp only [List.length_cons, List.length_nil] at h3
    omega
  | [e], [m], h => by
    rw [tx_tup, tx_tup] at h
    have h2 : tx e ++ [44, 41] = tx (.int (m : Int)) ++ [44, 41] := (List.cons.inj h).2
    rw [(cut_nat (nd44 _) (nd44 _) h2).1]
    rfl
  | [e], m :: n :: k, h => by
    rw [tx_tup, tx_tup] at h
    have h2 : tx e ++ [44, 41] = jd (natD (m :: n :: k)) ++ [41] := (List.cons.inj h).2
    have h3 : tx e ++ [44, 41] = tx (.int (m : Int)) ++ (44 :: 32 :: jd (natD (n :: k)) ++ [41]) := by
      rw [h2, jd_nat, List.append_assoc]
    have := (cut_nat (nd44 _) (nd44 _) h3).2
    cases this
  | e :: f :: r, [], h => by
    rw [tx_tup, tx_tup, jd_more] at h
    have h3 := congrArg List.length (List.cons.inj h).2
    have z : (jd (natD [])).length = 0 := rfl
    rw [List.length_append, List.length_append, List.length_append, z, if_neg (show ¬ (natD []).length = 1 by decide)] at h3
    simp only [List.length_cons, List.length_nil] at h3
    omega
  | e :: f :: r, [m], h => by
    rw [tx_tup, tx_tup] at h
    have h2 : jd (e :: f :: r) ++ [41] = tx (.int (m : Int)) ++ [44, 41] := by
      have := (List.cons.inj h).2
      rw [if_neg (show ¬ (e :: f :: r).length = 1 by simp)] at this
      exact this
    rw [jd_more, List.append_assoc] at h2
    have := (cut_nat (nd44 _) (nd44 _) h2).2
    cases this
  | e :: f :: r, m :: n :: k, h => by
    rw [tx_tup, tx_tup] at h
    have h2 := (List.cons.inj h).2
    rw [if_neg (show ¬ (e :: f :: r).length = 1 by simp), if_neg (show ¬ (natD (m :: n :: k)).length = 1 by simp [natD])] at h2
    exact jd_inj (List.cons_ne_nil _ _) (List.cons_ne_nil _ _) h2
theorem tupK_nat {k : List Int} (h : ∀ x ∈ k, 0 ≤ x) : tupK k = .tuple (natD (k.map Int.toNat)) := by
  unfold tupK natD
  rw [List.map_map]
  congr 1
  refine List.map_congr_left fun x hx => ?_
  show PyData.int x = .int ((x.toNat : Nat) : Int)
  rw [Int.toNat_of_nonneg (h x hx)]
/-- the text of a tuple of numbers is its own alone -/
theorem shown_inj {d : D} {k : List Int} (hk : ∀ x ∈ k, 0 ≤ x) (h : PyData.shown d = PyData.shown (tupK k)) : d = tupK k := by
  have ht : tx d = tx (tupK k) := congrArg (fun s : Str => s.cps.toList) h
  rw [tupK_nat hk] at ht ⊢
  cases d with
  | tuple es => rw [tup_inj ht]
  | int i =>
    exfalso
    rcases head_other (.int i) with ⟨m, e⟩ | ⟨c, r, e, _⟩
    · rw [e, tx_tup] at ht
      cases hm : tx (.int (m : Int)) with
      | nil => exact ne_nat m hm
      | cons x xs =>
        rw [hm] at ht
        have := (List.cons.inj ht).1
        have hx := dg_nat m x (by rw [hm]; exact List.mem_cons_self)
        rw [this] at hx
        unfold Dg at hx
        omega
    · cases i with
      | ofNat m =>
        rw [tx_tup] at ht
        have hx := dg_nat m 40 (by show 40 ∈ tx (.int (Int.ofNat m)); rw [ht]; exact List.mem_cons_self)
        unfold Dg at hx
        omega
      | negSucc m =>
        have e2 : tx (.int (Int.negSucc m)) = 45 :: (toString (m + 1)).toList.map Char.toNat := by
          unfold tx
          show (Str.ofString ("-" ++ (m + 1).repr)).cps.toList = _
          rw [PyProof.Rows.signs_ofString, String.toList_append, List.map_append]
          rfl
        rw [e2, tx_tup] at ht
        cases (List.cons.inj ht).1
  | none => rw [tx_tup] at ht; cases (List.cons.inj (show (78 :: _ : List Nat) = 40 :: _ from ht)).1
  | bool b =>
    rw [tx_tup] at ht
    cases b with
    | true => cases (List.cons.inj (show (84 :: _ : List Nat) = 40 :: _ from ht)).1
    | false => cases (List.cons.inj (show (70 :: _ : List Nat) = 40 :: _ from ht)).1
  | str x =>
    obtain ⟨r, e⟩ := str_head x
    rw [tx_tup] at ht
    have ht2 : (reprText x).cps.toList = _ := ht
    rw [e] at ht2
    have := (List.cons.inj ht2).1
    unfold reprQuote at this
    split at this <;> cases this
  | list xs =>
    obtain ⟨r, e⟩ := from_head (PyData.shownAll xs) 0 "["
    rw [tx_tup] at ht
    have ht2 : (textFrom 0 "[" (PyData.shownAll xs) ++ ("]" : Str)).cps.toList = _ := ht
    rw [app_list, e] at ht2
    cases (List.cons.inj (show (91 :: _ : List Nat) = 40 :: _ from ht2)).1
  | dict kvs =>
    rw [tx_tup] at ht
    have ht2 : (("{" : Str) ++ Str.join ", " (PyData.shownKv kvs) ++ ("}" : Str)).cps.toList = _ := ht
    rw [app_list, app_list] at ht2
    cases (List.cons.inj (show (123 :: _ : List Nat) = 40 :: _ from ht2)).1
end LD

/-! LD23: t[::-1] of a tuple, a new list times a number. -/
namespace LD
open PySem PySem.Spec L2 PyProof.Rows HT
section
variable {prog : Program} {w : World} {A : Around} {E : Value → Shared → Prop} {s : Shared}
theorem sliceApplied_rev {sl : Addr} {vl vu vs : Value} {n : Nat} {Q : Int × Int × Nat → Shared → Prop} (hs : s.heap.IsSliceOf sl vl vu vs) (pl : IsPart vl none) (pu : IsPart vu none) (ps : IsPart vs (some (-1)))
    (h : Q ((n : Int) - 1, -1, n) s) : wpAny (model prog w) A (Builtin.Slice.sliceApplied (.ref sl) (pure (n : Int))) Q E s := by
  obtain ⟨os, hos, hcs, hds⟩ := id hs
  unfold Builtin.Slice.sliceApplied Builtin.Slice.sliceFields
  refine wpAny_bind (wpAny_bind (wpAny_field hos hds (x := vl) rfl (wpAny_bind (wpAny_field hos hds (x := vu) rfl (wpAny_bind (wpAny_field hos hds (x := vs) rfl (wpAny_pure ?_)))))))
  refine wpAny_bind (slicePart_ ps ?_)
  show wpAny _ _ (if ((-1 : Int) == 0) = true then _ else _) _ _ s
  rw [if_neg (by decide)]
  refine wpAny_bind (slicePart_ pl (wpAny_bind (slicePart_ pu (wpAny_bind (wpAny_pure ?_)))))
  show wpAny _ _ (match Builtin.Slice.sliceAdjust none none (-1) (n : Int) with | (lo, hi) => pure (lo, (-1 : Int), Builtin.Slice.slicePlaces lo hi (-1))) _ _ s
  show wpAny _ _ (pure ((n : Int) - 1, (-1 : Int), Builtin.Slice.slicePlaces ((n : Int) - 1) (-1) (-1))) _ _ s
  have e : Builtin.Slice.slicePlaces ((n : Int) - 1) (-1) (-1) = n := by
    unfold Builtin.Slice.slicePlaces
    have h1 : ¬ ((-1 : Int) > 0) := by decide
    simp only [h1, if_false]
    by_cases h2 : (n : Int) - 1 > -1
    · simp only [h2, if_true]
      rw [show (- -1 : Int) = 1 by decide, Int.ediv_one]
      omega
    · simp only [h2, if_false]
      omega
  rw [e]
  exact wpAny_pure h
theorem fm_congr {α β : Type} {f g : α → Option β} : ∀ {l : List α}, (∀ x ∈ l, f x = g x) → l.filterMap f = l.filterMap g
  | [], _ => rfl
  | x :: l, h => by
    rw [List.filterMap_cons, List.filterMap_cons, h x List.mem_cons_self, fm_congr fun y hy => h y (List.mem_cons_of_mem _ hy)]
theorem pick_rev (xs : Array Value) : ((List.range xs.size).filterMap fun (m : Nat) => xs[(((xs.size : Nat) : Int) - 1 + (m : Int) * -1).toNat]?).toArray = xs.toList.reverse.toArray := by
  have e : ∀ m ∈ List.range xs.size, (fun (m : Nat) => xs[(((xs.size : Nat) : Int) - 1 + (m : Int) * -1).toNat]?) m = (fun k : Nat => xs[k]?) (xs.size - 1 - m) := fun m hm => by
    have := List.mem_range.mp hm
    show xs[_]? = xs[_]?
    congr 1
    omega
  have e2 : (List.range xs.size).filterMap (fun (m : Nat) => xs[(((xs.size : Nat) : Int) - 1 + (m : Int) * -1).toNat]?) = ((List.range xs.size).map fun k => xs.size - 1 - k).filterMap (fun k : Nat => xs[k]?) := by
    rw [List.filterMap_map]
    exact fm_congr e
  rw [e2, PySem.W.krv_range, List.filterMap_reverse, PySem.W.krv_all]
theorem getItem_tuple_rev {t sl : Addr} {items : Array Value} {vl vu vs : Value} {Q : Value → Shared → Prop} (ht : IsTup s.heap t items) (hs : s.heap.IsSliceOf sl vl vu vs) (pl : IsPart vl none) (pu : IsPart vu none) (ps : IsPart vs (some (-1)))
    (h : Q (.ref s.heap.objs.size) { s with heap := s.heap.push { cls := .type "tuple", data := .seq items.toList.reverse.toArray } })
    (hsz : items.size ≤ sizeLine) : wpAny (model prog w) A (getItem (.ref t) (.ref sl)) Q E s := by
  have htake : sizeOk (.seq items.toList.reverse.toArray) := by
    show items.toList.reverse.toArray.size ≤ sizeLine
    rw [List.size_toArray, List.length_reverse, Array.length_toList]
    exact hsz
  obtain ⟨os, hos, hcs, hds⟩ := id hs
  have hTs : s.TypeIs (.ref sl) "slice" := ⟨os, hos, hcs⟩
  unfold getItem
  try with_reducible refine wpAny_holding ?_
  first | refine wpAny_bind (wpAny_pure ?_) | skip
  refine wpAny_bind (wpAny_sequenceKey ht.typeIs (by decide) ?_)
  refine wpAny_bind (wpAny_callSpecial?_slot (name := Str.ofString "__getitem__") ht.typeIs PyProof.Rows.slot_tuple_getitem
    (wpAny_call_entry PyProof.Rows.slot_tuple_getitem ht.typeIs entry_tuple_getitem ?_ (args_tuple_getitem _ _)))
  show wpAny _ _ (Builtin.Tuple.tupleItemsOf (.ref t) >>= _) _ _ s
  refine wpAny_bind (tupleItemsOf_ ht ?_)
  refine wpAny_bind (wpAny_typeOf hTs ?_)
  rw [if_pos (by decide)]
  refine wpAny_bind (sliceApplied_rev hs pl pu ps ?_)
  have hno : ¬ ((((items.size : Nat) : Int) - 1 == 0 && (-1 : Int) == 1 && items.size == items.size) = true) := by
    intro q
    rw [Bool.and_eq_true, Bool.and_eq_true] at q
    exact absurd q.1.2 (by decide)
  show wpAny _ _ (if (((items.size : Nat) : Int) - 1 == 0 && (-1 : Int) == 1 && items.size == items.size) = true then _ else _) _ _ s
  rw [if_neg hno, pick_rev]
  first
    | exact wpAny_bind (m := Builtin.Tuple.tupleExact _) (wpAny_newObj_type (wpAny_pure ⟨_, rfl, wpAny_pure h⟩) htake)
    | exact wpAny_bind (m := Builtin.Tuple.tupleExact _) (wpAny_newObj_type (wpAny_bind (wpAny_pure (wpAny_pure ⟨_, rfl, wpAny_pure h⟩))) htake)
    | exact wpAny_bind (wpAny_bind (m := Builtin.Tuple.tupleExact _) (wpAny_newObj_type (wpAny_pure (wpAny_pure ⟨_, rfl, wpAny_pure h⟩)) htake))
    | exact wpAny_bind (wpAny_bind (m := Builtin.Tuple.tupleExact _) (wpAny_newObj_type (wpAny_pure ⟨_, rfl, wpAny_pure h⟩) htake))
end
section
variable {X : Cx}
/-- t[::-1] of a tuple -/
def tRevT (K : PySem.W.Frag) (te : TE) : TE := fun σ H Q => te σ H fun x H1 => ∃ a xs, x = .ref a ∧ SqT K H1 a xs ∧ ∀ p, H1 p = none → Q (.ref p) (upd H1 p (.tup xs.reverse))
theorem pe_revT {e : Expr} {te : TE} {k : Nat} {p1 p2 p3 pos : Pos} (he : PE X e te) : PE X (.Subscript e (.Slice none none (some (.UnaryOp .USub (.Constant (.int 1) k p1) p2)) p3) pos) (tRevT X.K te) := by
  refine ⟨fun pins s σ H Q I h => ?_⟩
  refine Subscript_ (thn (he.run pins s σ H _ I h) fun v s1 ⟨x, H1, I1, r1, q1⟩ => ?_)
  obtain ⟨a, xs, ex, hx, q⟩ := q1
  subst ex
  cases r1
  have hst : PO X (some (.UnaryOp .USub (.Constant (.int 1) k p1) p2)) (tPart (tUn (rU fun i => .int (-i)) (tC (.int 1)))) := po_some (pe_un un_neg pe_int)
  refine wpAny_Slice (thn (po_none.run pins s1 σ H1 (fun o H2 => o = none ∧ H2 = H1) I1 ⟨rfl, rfl⟩) fun vl s2 ⟨l, H2, I2, pl, el, e2⟩ => ?_)
  subst el e2
  refine thn (po_none.run pins s2 σ H2 (fun o H3 => o = none ∧ H3 = H2) I2 ⟨rfl, rfl⟩) fun vu s3 ⟨u, H3, I3, pu, eu, e3⟩ => ?_
  subst eu e3
  refine thn (hst.run pins s3 σ H3 (fun o H4 => o = some (-1) ∧ H4 = H3) I3 ⟨1, rfl, -1, rfl, rfl, rfl⟩) fun vs s4 ⟨o, H4, I4, ps, eo, e4⟩ => ?_
  subst eo e4
  have I5 : Inv X pins σ H4 { s4 with heap := s4.heap.push { cls := .type "slice", data := .fields #[vl, vu, vs] } } := I4.kept (t' := s4.toks) fun b ob q => Heap.get?_push_of_some _ q
  obtain ⟨its, r, ht, hz⟩ := I5.tuple hx
  have hlen := r.length
  show wpAny (model X.prog X.w) X.A (subscriptTail e (.Slice none none (some (.UnaryOp .USub (.Constant (.int 1) k p1) p2)) p3) (.ref a) (.ref s4.heap.objs.size)) (EP X pins σ Q) X.xe { s4 with heap := s4.heap.push { cls := .type "slice", data := .fields #[vl, vu, vs] } }
  refine tail_any (ops := [.ref a, .ref s4.heap.objs.size]) ht.typeIs (PyProof.Rows.slot_tuple_getitem.lookup) ?_ (by with_unfolding_all rfl)
  refine getItem_tuple_rev ht (Heap.IsSliceOf.new _ vl vu vs) pl pu ps ?_ (by rw [List.size_toArray]; omega)
  refine ⟨.ref _, _, I5.laid (t' := s4.toks) (o := .tup xs.reverse) (fun b ob q => Heap.get?_push_of_some _ q) (Nat.le_refl _) ?_, rfl, q _ (I5.hok.fresh (Nat.le_refl _))⟩
  exact ⟨by rw [List.length_reverse]; exact hz, _, r.reverse, IsTup.new _ _⟩
end
section
variable {K : PySem.W.Frag} {te : TE} {a : TD} {t : TDA}
def dRevT (a : TD) : TD := fun ρ P => a ρ fun r x => ∃ es, x = .tuple es ∧ P r (.tuple es.reverse)
theorem se_revT (sa : SE K te a) : SE K (tRevT K te) (dRevT a) := by
  refine ⟨fun ρ P P' h q => sa.mono _ _ _ (fun _ x ⟨es, e, q⟩ => ⟨es, e, h _ _ q⟩) q, fun F σ H ρ vs ds Q R q => ?_⟩
  refine sa.run F σ H ρ vs ds _ R (sa.mono _ _ _ (fun r1 x q v H1 R1 => ?_) q)
  obtain ⟨es, rfl, q⟩ := q
  obtain ⟨p, xs, rfl, e, s, R4⟩ := R1.asTup
  have e' : xs.reverse.length = es.reverse.length := by rw [List.length_reverse, List.length_reverse]; exact e
  exact ⟨p, xs, rfl, s, fun p' hp => q _ _ ((R4.swap (ws := xs.reverse ++ vs) (es := es.reverse ++ ds) fun _ h => by
    obtain ⟨h1, h2⟩ := dpAll_split e h
    cases h2 with | cons _ h2 => exact dpAll_app (dpAll_rev h1) h2).tup e' hp)⟩
/-- a new list times a number that stands there -/
def dRepL (k : Int) (t : TDA) : TDA := fun ρ P => t ρ fun r es => es.length * k.toNat ≤ sizeLine ∧ P r (List.replicate k.toNat es).flatten
theorem sf_repL {k : Int} (h1 : -(2 ^ 63) ≤ k) (h2 : k < 2 ^ 63) (s : SF K te t) : SF K (tOp rRep te (tC (.int k))) (dRepL k t) := by
  refine ⟨fun ρ P P' h q => s.mono _ _ _ (fun _ es q => ⟨q.1, h _ _ q.2⟩) q, fun F σ H ρ vs ds Q R q => ?_⟩
  refine s.run F σ H ρ vs ds _ R (s.mono _ _ _ (fun r es q xs H' p e R1 hp => ?_) q)
  obtain ⟨z, q⟩ := q
  refine ⟨p, k, xs, rfl, rfl, upd_same, h1, h2, by rw [e]; exact z, fun p' hp' => ?_⟩
  obtain ⟨Hi, own, R⟩ := R1
  obtain ⟨d1, d2⟩ := dpAll_split e R.tmp
  have s1 : Same Hi (upd Hi p (.lst xs)) := same_upd (R.noSub hp)
  have d3 := dpAll_rep (dpAll_mono s1 _ _ d1) k.toNat
  exact q _ _ _ (dpAll_len d3) ⟨_, own, R.lay hp (dpAll_app d3 (dpAll_mono s1 _ _ d2))⟩ hp'
end
end LD

/-! LD24: small values: what stands in them, how much of it, how deep; all that is asked of them follows. -/
namespace LD
open PySem PySem.Spec L2
mutual
def lvs (M : Nat) : D → Bool
  | .none => true
  | .bool _ => true
  | .int i => decide (i.natAbs ≤ M)
  | .str x => PyData.strOk x
  | .list xs => lvsAll M xs
  | .tuple xs => lvsAll M xs
  | .dict _ => false
def lvsAll (M : Nat) : List D → Bool
  | [] => true
  | x :: xs => lvs M x && lvsAll M xs
end
theorem and2 {a b : Bool} (h : (a && b) = true) : a = true ∧ b = true := by cases a <;> cases b <;> first | exact ⟨rfl, rfl⟩ | cases h
mutual
theorem lvs_mono {M N : Nat} (h : M ≤ N) : ∀ d : D, lvs M d = true → lvs N d = true
  | .none, _ => rfl
  | .bool _, _ => rfl
  | .int i, k => by
    simp only [lvs, decide_eq_true_eq] at k ⊢
    omega
  | .str x, k => by simp only [lvs] at k ⊢; exact k
  | .list xs, k => by simp only [lvs] at k ⊢; exact lvsAll_mono h xs k
  | .tuple xs, k => by simp only [lvs] at k ⊢; exact lvsAll_mono h xs k
  | .dict _, k => by simp only [lvs] at k; cases k
theorem lvsAll_mono {M N : Nat} (h : M ≤ N) : ∀ ds : List D, lvsAll M ds = true → lvsAll N ds = true
  | [], _ => by simp only [lvsAll]
  | x :: xs, k => by
    simp only [lvsAll] at k ⊢
    obtain ⟨a, b⟩ := and2 k
    rw [lvs_mono h x a, lvsAll_mono h xs b]
    rfl
end
mutual
theorem lvs_facts {M : Nat} (h : M ≤ 999999999999) : ∀ d : D, lvs M d = true → d.showable = true ∧ d.hasDict = false ∧ d.leavesShort 13 = true ∧ d.canLay0 = true
  | .none, _ => ⟨rfl, rfl, by simp only [PyData.leavesShort], rfl⟩
  | .bool _, _ => ⟨rfl, rfl, by simp only [PyData.leavesShort], rfl⟩
  | .int i, k => by
    simp only [lvs, decide_eq_true_eq] at k
    have h1 : Mid i := ⟨by omega, by omega⟩
    have r := rep_int h1
    exact ⟨r.show_, rfl, by simp only [PyData.leavesShort, decide_eq_true_eq]; exact PyData.shown_int_le2 h1.1 h1.2, rfl⟩
  | .str x, k => by
    simp only [lvs] at k
    refine ⟨rfl, rfl, ?_, k⟩
    simp only [PyData.leavesShort, List.all_eq_true, decide_eq_true_eq]
    intro c hc
    have k' : x.cps.all (· < 0x110000) = true := k
    rw [← Array.all_toList, List.all_eq_true] at k'
    have := of_decide_eq_true (k' c hc)
    have e : (0x110000 : Nat) < 16 ^ 8 := by decide
    omega
  | .list xs, k => by
    simp only [lvs] at k
    obtain ⟨a, b, c, e⟩ := lvsAll_facts h xs k
    exact ⟨by simp only [PyData.showable, a], by simp only [PyData.hasDict, b], by simp only [PyData.leavesShort, c], by simp only [PyData.canLay0, e]⟩
  | .tuple xs, k => by
    simp only [lvs] at k
    obtain ⟨a, b, c, e⟩ := lvsAll_facts h xs k
    exact ⟨by simp only [PyData.showable, a], by simp only [PyData.hasDict, b], by simp only [PyData.leavesShort, c], by simp only [PyData.canLay0, e]⟩
  | .dict _, k => by simp only [lvs] at k; cases k
theorem lvsAll_facts {M : Nat} (h : M ≤ 999999999999) : ∀ ds : List D, lvsAll M ds = true → PyData.showableAll ds = true ∧ PyData.hasDictAll ds = false ∧ PyData.leavesShortAll 13 ds = true ∧ PyData.canLayAll0 ds = true
  | [], _ => ⟨rfl, rfl, rfl, rfl⟩
  | x :: xs, k => by
    simp only [lvsAll] at k
    obtain ⟨k1, k2⟩ := and2 k
    obtain ⟨a, b, c, e⟩ := lvs_facts h x k1
    obtain ⟨a2, b2, c2, e2⟩ := lvsAll_facts h xs k2
    exact ⟨by simp only [PyData.showableAll, a, a2, Bool.and_self], by simp only [PyData.hasDictAll, b, b2, Bool.or_self], by simp only [PyData.leavesShortAll, c, c2, Bool.and_self], by simp only [PyData.canLayAll0, e, e2, Bool.and_self]⟩
end
/-- leaves up to M, at most b items and signs, at most k deep -/
structure Nt (M b k : Nat) (d : D) : Prop where
  lv : lvs M d = true
  bk : d.bulk ≤ b
  dp : d.depth ≤ k
structure NtL (M b k : Nat) (ds : List D) : Prop where
  lv : lvsAll M ds = true
  bk : PyData.bulkAll ds ≤ b
  dp : PyData.depthAll ds ≤ k
section
variable {M N b c k j : Nat} {d : D} {ds es : List D}
theorem Nt.mono (h : Nt M b k d) (h1 : M ≤ N) (h2 : b ≤ c) (h3 : k ≤ j) : Nt N c j d := ⟨lvs_mono h1 d h.lv, Nat.le_trans h.bk h2, Nat.le_trans h.dp h3⟩
theorem NtL.mono (h : NtL M b k ds) (h1 : M ≤ N) (h2 : b ≤ c) (h3 : k ≤ j) : NtL N c j ds := ⟨lvsAll_mono h1 ds h.lv, Nat.le_trans h.bk h2, Nat.le_trans h.dp h3⟩
theorem Nt.rep (h : Nt M b k d) (h1 : M ≤ 999999999999) (h2 : b ≤ 1000000) (h3 : k ≤ 60) : RepOk d := by
  obtain ⟨a1, a2, a3, a4⟩ := lvs_facts h1 d h.lv
  have h4 := h.bk
  exact ⟨a1, a2, Nat.le_trans h.dp h3, PyData.shown_fits_bulk (B := 13) (by decide) (by decide) a3 (by omega)⟩
theorem Nt.shp (h : Nt M b k d) (h1 : M ≤ 999999999999) (h3 : k ≤ 60) : SeqAt.shaped d = true := by
  obtain ⟨a1, a2, a3, a4⟩ := lvs_facts h1 d h.lv
  unfold SeqAt.shaped
  have h5 := h.dp
  rw [a4, decide_eq_true (show d.depth ≤ 64 by omega)]
  rfl
theorem ntL_nil : NtL M b k [] := ⟨rfl, Nat.zero_le _, Nat.zero_le _⟩
theorem ntL_cons (h : Nt M b k d) (h' : NtL M c k ds) : NtL M (b + 1 + c) k (d :: ds) := ⟨by simp only [lvsAll, h.lv, h'.lv, Bool.and_self], by
  have := h.bk
  have := h'.bk
  simp only [PyData.bulkAll]
  omega, by
  have := h.dp
  have := h'.dp
  simp only [PyData.depthAll]
  omega⟩
theorem ntL_app : ∀ {ds : List D} {b : Nat}, NtL M b k ds → NtL M c k es → NtL M (b + c) k (ds ++ es)
  | [], b, _, h => h.mono (Nat.le_refl _) (Nat.le_add_left _ _) (Nat.le_refl _)
  | d :: ds, b, h, h' => by
    have h1 := h.lv
    have h2 := h.bk
    have h3 := h.dp
    simp only [lvsAll] at h1
    simp only [PyData.bulkAll] at h2
    simp only [PyData.depthAll] at h3
    obtain ⟨k1, k2⟩ := and2 h1
    have ih := ntL_app (b := PyData.bulkAll ds) ⟨k2, Nat.le_refl _, by omega⟩ h'
    exact (ntL_cons (b := d.bulk) ⟨k1, Nat.le_refl _, by omega⟩ ih).mono (Nat.le_refl _) (by omega) (Nat.le_refl _)
theorem ntL_split : ∀ {ds es : List D} {b : Nat}, NtL M b k (ds ++ es) → NtL M (PyData.bulkAll ds) k ds ∧ NtL M (PyData.bulkAll es) k es ∧ PyData.bulkAll ds + PyData.bulkAll es ≤ b
  | [], es, _, h => ⟨⟨rfl, Nat.le_refl _, Nat.zero_le _⟩, ⟨h.lv, Nat.le_refl _, h.dp⟩, by simp only [PyData.bulkAll]; have := h.bk; simp only [List.nil_append] at this; omega⟩
  | d :: ds, es, _, h => by
    have h1 := h.lv
    have h2 := h.bk
    have h3 := h.dp
    simp only [List.cons_append, lvsAll] at h1
    simp only [List.cons_append, PyData.bulkAll] at h2
    simp only [List.cons_append, PyData.depthAll] at h3
    obtain ⟨k1, k2⟩ := and2 h1
    obtain ⟨a, c, e⟩ := ntL_split (b := PyData.bulkAll (ds ++ es)) (ds := ds) (es := es) ⟨k2, Nat.le_refl _, by omega⟩
    refine ⟨⟨by simp only [lvsAll, k1, a.lv, Bool.and_self], Nat.le_refl _, ?_⟩, c, ?_⟩
    · have := a.dp
      simp only [PyData.depthAll]
      omega
    · simp only [PyData.bulkAll]
      omega
theorem ntL_take (n : Nat) (h : NtL M b k ds) : NtL M b k (ds.take n) := by
  have := List.take_append_drop n ds
  rw [← this] at h
  obtain ⟨a, _, c⟩ := ntL_split h
  exact a.mono (Nat.le_refl _) (by omega) (Nat.le_refl _)
theorem ntL_drop (n : Nat) (h : NtL M b k ds) : NtL M b k (ds.drop n) := by
  have := List.take_append_drop n ds
  rw [← this] at h
  obtain ⟨_, a, c⟩ := ntL_split h
  exact a.mono (Nat.le_refl _) (by omega) (Nat.le_refl _)
theorem ntL_cut (lo hi : Option Int) (h : NtL M b k ds) : NtL M b k (cutD ds lo hi) := ntL_take _ (ntL_drop _ h)
theorem bulk_app : ∀ (ds es : List D), PyData.bulkAll (ds ++ es) = PyData.bulkAll ds + PyData.bulkAll es
  | [], es => by simp only [List.nil_append, PyData.bulkAll, Nat.zero_add]
  | d :: ds, es => by
    simp only [List.cons_append, PyData.bulkAll, bulk_app ds es]
    omega
theorem bulk_rev : ∀ ds : List D, PyData.bulkAll ds.reverse = PyData.bulkAll ds
  | [] => rfl
  | d :: ds => by
    rw [List.reverse_cons, bulk_app, bulk_rev ds]
    simp only [PyData.bulkAll]
    omega
theorem ntL_all : ∀ {ds : List D}, (lvsAll M ds = true ∧ PyData.depthAll ds ≤ k) ↔ ∀ d ∈ ds, lvs M d = true ∧ d.depth ≤ k
  | [] => ⟨fun _ _ h => (by cases h), fun _ => ⟨rfl, Nat.zero_le _⟩⟩
  | d :: ds => by
    simp only [lvsAll, PyData.depthAll]
    constructor
    · intro h e he
      obtain ⟨k1, k2⟩ := and2 h.1
      rcases List.mem_cons.mp he with rfl | he
      · exact ⟨k1, by omega⟩
      · exact ntL_all.mp ⟨k2, by omega⟩ e he
    · intro h
      have h1 := h d List.mem_cons_self
      obtain ⟨h2, h3⟩ := ntL_all.mpr fun e he => h e (List.mem_cons_of_mem _ he)
      exact ⟨by rw [h1.1, h2]; rfl, by omega⟩
theorem ntL_rev (h : NtL M b k ds) : NtL M b k ds.reverse := by
  obtain ⟨a, c⟩ := ntL_all.mpr fun d hd => ntL_all.mp ⟨h.lv, h.dp⟩ d (List.mem_reverse.mp hd)
  exact ⟨a, by rw [bulk_rev]; exact h.bk, c⟩
theorem bulk_mem : ∀ {ds : List D} {d : D}, d ∈ ds → d.bulk + 1 ≤ PyData.bulkAll ds
  | [], _, h => by cases h
  | e :: ds, d, h => by
    simp only [PyData.bulkAll]
    rcases List.mem_cons.mp h with rfl | h
    · omega
    · have := bulk_mem h
      omega
theorem bulk_len : ∀ ds : List D, ds.length ≤ PyData.bulkAll ds
  | [] => Nat.le_refl _
  | e :: ds => by
    have := bulk_len ds
    simp only [PyData.bulkAll, List.length_cons]
    omega
theorem ntL_at (h : NtL M b k ds) (hd : d ∈ ds) : Nt M (b - 1) k d := by
  obtain ⟨a, c⟩ := ntL_all.mp ⟨h.lv, h.dp⟩ d hd
  have := bulk_mem hd
  have := h.bk
  exact ⟨a, by omega, c⟩
theorem Nt.items (h : Nt M b k (.tuple ds)) : NtL M b (k - 1) ds ∧ 1 ≤ k := by
  have h1 := h.lv
  have h2 := h.bk
  have h3 := h.dp
  simp only [lvs] at h1
  simp only [PyData.bulk] at h2
  simp only [PyData.depth] at h3
  exact ⟨⟨h1, h2, by omega⟩, by omega⟩
theorem NtL.tup (h : NtL M b k ds) : Nt M b (k + 1) (.tuple ds) := ⟨by simp only [lvs, h.lv], by simp only [PyData.bulk]; exact h.bk, by simp only [PyData.depth]; have := h.dp; omega⟩
theorem NtL.lst (h : NtL M b k ds) : Nt M b (k + 1) (.list ds) := ⟨by simp only [lvs, h.lv], by simp only [PyData.bulk]; exact h.bk, by simp only [PyData.depth]; have := h.dp; omega⟩
theorem nt_int {i : Int} (h : i.natAbs ≤ M) : Nt M b k (.int i) := ⟨by simp only [lvs, decide_eq_true h], by simp only [PyData.bulk]; exact Nat.zero_le _, by simp only [PyData.depth]; exact Nat.zero_le _⟩
theorem nt_none : Nt M b k (PyData.none) := ⟨rfl, Nat.zero_le _, Nat.zero_le _⟩
theorem nt_bool {x : Bool} : Nt M b k (.bool x) := ⟨rfl, Nat.zero_le _, Nat.zero_le _⟩
theorem ntL_ints {ns : List Int} (h : ∀ n ∈ ns, n.natAbs ≤ M) : NtL M ns.length 0 (ns.map PyData.int) := by
  induction ns with
  | nil => exact ntL_nil
  | cons n ns ih =>
    have h1 := ih fun m hm => h m (List.mem_cons_of_mem _ hm)
    exact (ntL_cons (nt_int (b := 0) (h n List.mem_cons_self)) h1).mono (Nat.le_refl _) (by rw [List.length_cons]; omega) (Nat.le_refl _)
end
theorem cutD_to (es : List D) (k : Nat) : cutD es none (some (k : Int)) = es.take k := by
  unfold cutD
  have h1 : HT.sIx es.length 0 none = 0 := rfl
  have h2 : HT.sIx es.length es.length (some (k : Int)) = min k es.length := by
    exact HT.sIx_nat es.length es.length k
  rw [h1, h2, Nat.sub_zero, List.drop_zero]
  by_cases h : k ≤ es.length
  · rw [Nat.min_eq_left h]
  · rw [Nat.min_eq_right (by omega), List.take_of_length_le (Nat.le_refl _), List.take_of_length_le (by omega)]
theorem cutD_from (es : List D) (k : Nat) : cutD es (some (k : Int)) none = es.drop k := by
  unfold cutD
  have h1 : HT.sIx es.length es.length none = es.length := rfl
  have h2 : HT.sIx es.length 0 (some (k : Int)) = min k es.length := by
    exact HT.sIx_nat es.length 0 k
  rw [h1, h2]
  by_cases h : k ≤ es.length
  · rw [Nat.min_eq_left h, List.take_of_length_le (by rw [List.length_drop]; exact Nat.le_refl _)]
  · rw [Nat.min_eq_right (by omega), Nat.sub_self, List.take_zero, List.drop_eq_nil_of_le (by omega)]
theorem mem_rep {α : Type} {x : α} {xs : List α} : ∀ {k : Nat}, x ∈ (List.replicate k xs).flatten → x ∈ xs
  | 0, h => by cases h
  | k + 1, h => by
    rw [List.replicate_succ, List.flatten_cons] at h
    rcases List.mem_append.mp h with h | h
    · exact h
    · exact mem_rep h
theorem eqv_tnil (es : List D) : PyData.eqv (.tuple es) (.tuple []) = es.isEmpty := by
  cases es with
  | nil => simp [PyData.eqv, PyData.eqvAll]
  | cons x xs => simp [PyData.eqv, PyData.eqvAll]
theorem sh_tnil : SeqAt.shaped (.tuple []) = true := rfl
/-- an item put in the place of another one -/
theorem nt_put {M N b j k : Nat} {es : List D} {x : Nat} {d : D} (h : NtL M b j es) (hx : x < es.length) (hd : Nt N (2 * (es[x]).bulk + 1) k d) (h1 : M ≤ N) (h2 : j ≤ k) : Nt N (2 * b) (k + 1) (.tuple (es.take x ++ [d] ++ es.drop (x + 1))) := by
  have e0 : es = es.take x ++ es[x] :: es.drop (x + 1) := by
    have := List.take_append_drop x es
    rw [List.drop_eq_getElem_cons hx] at this
    exact this.symm
  have hb := h.bk
  have l1 := ntL_take x h
  have l2 := ntL_drop (x + 1) h
  generalize es[x] = e at e0 hd
  have eb : PyData.bulkAll es = PyData.bulkAll (es.take x) + (e.bulk + 1 + PyData.bulkAll (es.drop (x + 1))) := by
    rw [e0, bulk_app]
    simp only [PyData.bulkAll]
    rw [← e0]
  have a1 : NtL N (PyData.bulkAll (es.take x)) k (es.take x) := ⟨lvsAll_mono h1 _ l1.lv, Nat.le_refl _, Nat.le_trans l1.dp h2⟩
  have a2 : NtL N (PyData.bulkAll (es.drop (x + 1))) k (es.drop (x + 1)) := ⟨lvsAll_mono h1 _ l2.lv, Nat.le_refl _, Nat.le_trans l2.dp h2⟩
  have a3 := ntL_app (ntL_app a1 (ntL_cons hd (ntL_nil (b := 0)))) a2
  exact (a3.mono (Nat.le_refl _) (by omega) (Nat.le_refl _)).tup
/-- what an odd part comes to: by the depth of the value -/
def g_odd (k : Nat) : CD := fun ds P => ∃ d M b, ds = [d] ∧ Nt M b k d ∧ 41 ≤ M ∧ M ≤ 999999999000 ∧ b ≤ 100000 ∧ k ≤ 40 ∧ ∀ d', Nt (M + 7) (2 * b + 1) (k + 1) d' → P d'
theorem g_odd_mono (k : Nat) : ∀ es P P', (∀ d, P d → P' d) → g_odd k es P → g_odd k es P' := fun es P P' h ⟨d, M, b, e, h1, h2, h3, h4, h5, q⟩ => ⟨d, M, b, e, h1, h2, h3, h4, h5, fun d' hd => h _ (q d' hd)⟩
def g_oddP : Nat → CD
  | 0 => fun _ _ => False
  | k + 1 => g_odd k
theorem g_oddP_mono (k : Nat) : ∀ es P P', (∀ d, P d → P' d) → g_oddP k es P → g_oddP k es P' := by
  cases k with
  | zero => exact fun es P P' h z => z.elim
  | succ k => exact g_odd_mono k
theorem isTuple_b {d : D} : (typD d == "tuple") = true ↔ ∃ es, d = .tuple es := by
  cases d <;> simp [typD]
section
variable {P : Program} {w : World} {K : PySem.W.Frag} {mg : Str → Option Value} {base : Heap}
theorem fn_none {x qual : Str} {st : Stmt} {f : Addr} {fd : FuncData} {k : Nat} {N ps : List Str} (F : Fun K x qual st f fd) (S : FnScope N ps (defScope st)) (h : ∀ H : Hp, True) : FnOk P w K mg base CX0 (k + 1) f fd ps (spW K fun _ _ => False) :=
  F.ok S (fun vs H Q E h => by
    obtain ⟨_, _, _, _, _, _, _, _, _, _, _, _, z⟩ := h
    exact z.elim) (fun cdv A outer s H vs Q E hr h => by
    obtain ⟨_, _, _, _, _, _, _, _, _, _, _, _, z⟩ := h
    exact z.elim)
end
end LD

/-! LD25: a tuple any number of times; whether something stands in a list or a tuple. -/
namespace LD
open PySem PySem.Spec L2 PyProof.Rows
theorem units1 {k : Nat} {A : Around} (r : Room k A) : A.units + 65 < cLine := by have := r.un; omega
set_option maxHeartbeats 4000000 in
theorem tuple_mul1 (l : Addr) (items : Array Value) (n : Nat) (dd : Option Addr) (sl : Array (Option Value)) (x : Int) (u : Tok) (c0 : (decide (x < -(2 ^ 63)) || decide (x ≥ 2 ^ 63)) = false) (c1 : (items.isEmpty || x == 1) = true) :
    Meets (Builtin.«tuple.__mul__» ⟨[.ref l, .int x u], []⟩) (fun _ R s => s.heap.get? l = some { cls := .type "tuple", dict := dd, data := .seq items n, slots := sl } ∧ R (.ok (.ret (Value.ref l))) s) :=
  .of_wp fun prog w A R s h => by
    obtain ⟨hp, g, d, tk, os⟩ := s
    obtain ⟨hl, h⟩ := h
    have f1 := AutoSeq1.idx_int
    wp_walk using wpAny_loadPart' hl
    repeat (first
      | (refine wpAny_ite_false (decide_eq_false (by rw [c0]; exact Bool.false_ne_true)) ?_; wp_walk using wpAny_loadPart' hl)
      | (refine wpAny_ite_true (decide_eq_true c1) ?_; wp_walk using wpAny_loadPart' hl))
    exact ⟨_, rfl, h⟩
set_option maxHeartbeats 4000000 in
theorem tuple_mul0 (l : Addr) (items : Array Value) (n : Nat) (dd : Option Addr) (sl : Array (Option Value)) (x : Int) (u : Tok) (c0 : (decide (x < -(2 ^ 63)) || decide (x ≥ 2 ^ 63)) = false) (c1 : (items.isEmpty || x == 1) = false) (c2 : (decide (x ≤ 0) || items.isEmpty) = true) :
    Meets (Builtin.«tuple.__mul__» ⟨[.ref l, .int x u], []⟩) (fun _ R s => s.heap.get? l = some { cls := .type "tuple", dict := dd, data := .seq items n, slots := sl } ∧
      R (.ok (.ret (Value.ref s.heap.objs.size))) { s with heap := s.heap.push { cls := Value.type "tuple", data := Data.seq #[] }, toks := s.toks }) :=
  .of_wp fun prog w A R s h => by
    obtain ⟨hp, g, d, tk, os⟩ := s
    obtain ⟨hl, h⟩ := h
    have f1 := AutoSeq1.idx_int
    wp_walk using wpAny_loadPart' hl
    repeat (first
      | (refine wpAny_ite_false (decide_eq_false (by rw [c0]; exact Bool.false_ne_true)) ?_; wp_walk using wpAny_loadPart' hl)
      | (refine wpAny_ite_false (decide_eq_false (by rw [c1]; exact Bool.false_ne_true)) ?_; wp_walk using wpAny_loadPart' hl)
      | (refine wpAny_ite_true (decide_eq_true c2) ?_; wp_walk using wpAny_loadPart' hl))
    exact ⟨_, rfl, h⟩
/-- a tuple that isn't empty, k times -/
def rRepA (K : PySem.W.Frag) : R2 := fun x y H Q => ∃ l k xs, x = .ref l ∧ y = .int k ∧ SqT K H l xs ∧ xs ≠ [] ∧ -1000 ≤ k ∧ k ≤ 1000 ∧ xs.length ≤ 1000 ∧ (k = 1 → Q (.ref l) H) ∧ (k ≠ 1 → ∀ p, H p = none → Q (.ref p) (upd H p (.tup (List.replicate k.toNat xs).flatten)))
section
variable {X : Cx}
theorem op_repA : OpR X (binaryOp .Mult) (rRepA X.K) := by
  intro pins s σ H x y v u Q I rx ry h
  obtain ⟨l, k, xs, rfl, rfl, hT, hne, h1, h2, hz, q1, q2⟩ := h
  by_cases hk : 2 ≤ k
  · exact op_repT pins s σ H _ _ v u Q I rx ry ⟨l, k, xs, rfl, rfl, hT, hne, hk, h2, hz, q2 (by omega)⟩
  cases rx
  obtain ⟨t, rfl⟩ := ry
  obtain ⟨its, r, ⟨⟨cls, dd, data, sl⟩, ho, hc, n, hd⟩, hs⟩ := I.tuple hT
  simp only at hc hd
  subst hc hd
  have hle : its.length = xs.length := r.length.symm
  have hn : its ≠ [] := fun e => hne (by
    rw [e] at hle
    exact List.eq_nil_of_length_eq_zero hle.symm)
  have hi : its.toArray.isEmpty = false := by
    cases its with
    | nil => exact absurd rfl hn
    | cons a b => rfl
  have c0 : (decide (k < -(2 ^ 63)) || decide (k ≥ 2 ^ 63)) = false := by
    rw [decide_eq_false (by omega), decide_eq_false (by omega)] <;> rfl
  by_cases hk1 : k = 1
  · have c1 : (its.toArray.isEmpty || k == 1) = true := by rw [hk1, hi]; rfl
    exact wpAny_binaryOp_repeat_ref (T := "tuple") (U := "int") (by decide) ⟨_, ho, rfl⟩ (fun s' => typeIs_int s' k t) noFill_tuple_mul F.fills_int_mul F.slot_int_rmul repeat_tuple F.slot_int_index.lookup
      (call_meets F.slot_int_rmul (typeIs_int s k t) F.entry_int_rmul (F.args_int_rmul_2 _ _) (int_rmul_tuple k t l its.toArray n dd sl)
        ⟨ho, rfl, ⟨_, ho, rfl⟩, call_meets F.slot_tuple_mul ⟨_, ho, rfl⟩ F.entry_tuple_mul (F.args_tuple_mul_2 _ _) (tuple_mul1 l its.toArray n dd sl k t c0 c1) ⟨ho, .ref l, H, I, rfl, q1 hk1⟩⟩)
  · have c1 : (its.toArray.isEmpty || k == 1) = false := by
      rw [hi, Bool.false_or]
      exact beq_eq_false_iff_ne.mpr hk1
    have c2 : (decide (k ≤ 0) || its.toArray.isEmpty) = true := by rw [decide_eq_true (by omega)]; rfl
    refine wpAny_binaryOp_repeat_ref (T := "tuple") (U := "int") (by decide) ⟨_, ho, rfl⟩ (fun s' => typeIs_int s' k t) noFill_tuple_mul F.fills_int_mul F.slot_int_rmul repeat_tuple F.slot_int_index.lookup
      (call_meets F.slot_int_rmul (typeIs_int s k t) F.entry_int_rmul (F.args_int_rmul_2 _ _) (int_rmul_tuple k t l its.toArray n dd sl)
        ⟨ho, rfl, ⟨_, ho, rfl⟩, call_meets F.slot_tuple_mul ⟨_, ho, rfl⟩ F.entry_tuple_mul (F.args_tuple_mul_2 _ _) (tuple_mul0 l its.toArray n dd sl k t c0 c1 c2) ⟨ho, ?_⟩⟩)
    have q := q2 hk1
    rw [show k.toNat = 0 by omega] at q
    refine ⟨.ref s.heap.objs.size, _, I.laid (t' := s.toks) (o := .tup []) (fun b ob q => Heap.get?_push_of_some _ q) (Nat.le_refl _) ?_, rfl, q _ (I.hok.fresh (Nat.le_refl _))⟩
    exact ⟨Nat.zero_le _, [], .nil, IsTup.new _ _⟩
end
section
variable {K : PySem.W.Frag} {ta tb : TE} {a b : TD}
def oRepA : OD := fun a b P => ∃ es k, a = .tuple es ∧ b = .int k ∧ es ≠ [] ∧ -1000 ≤ k ∧ k ≤ 1000 ∧ es.length ≤ 1000 ∧ P (.tuple (List.replicate k.toNat es).flatten)
theorem so_repA : SO K (rRepA K) oRepA := by
  refine ⟨fun a b P P' h ⟨es, k, e1, e2, h1, h2, h3, h4, q⟩ => ⟨es, k, e1, e2, h1, h2, h3, h4, h _ q⟩, fun F σ H ρ vs ds x y a b Q R q => ?_⟩
  obtain ⟨es, k, e1, e2, h1, h2, h3, h4, q⟩ := q
  subst e1 e2
  obtain rfl := R.int
  obtain ⟨p, xs, rfl, e, s, R1⟩ := R.drop.asTup
  refine ⟨p, k, xs, rfl, rfl, s, fun z => h1 ?_, h2, h3, by rw [e]; exact h4, fun hk => ?_, fun _ t ht => q _ _ ?_⟩
  · rw [z] at e
    exact List.length_eq_zero_iff.mp e.symm
  · subst hk
    rw [show (1 : Int).toNat = 1 from rfl, List.replicate_one, List.flatten_cons, List.flatten_nil, List.append_nil] at q
    exact q _ _ R.drop
  · have R2 : Rel K F σ H ρ ((List.replicate k.toNat xs).flatten ++ vs) ((List.replicate k.toNat es).flatten ++ ds) := R1.swap fun Hi h => by
      obtain ⟨g1, g2⟩ := dpAll_split e h
      cases g2 with | cons _ g2 => exact dpAll_app (dpAll_rep g1 _) g2
    exact R2.tup (by rw [List.length_flatten, List.length_flatten, List.map_replicate, List.map_replicate, e]) ht
/-- x in l, a list -/
def inB (d : D) (ds : List D) : Bool := ds.any fun z => PyData.eqv z d
def oInL (n : Bool) : OD := fun a b P => ∃ ds, b = .list ds ∧ SeqAt.shaped a = true ∧ SeqAt.shaped (.list ds) = true ∧ P (.bool (if n = true then !inB a ds else inB a ds))
theorem so_inL : SO K (rInD K) (oInL false) := ⟨fun a b P P' h ⟨ds, e, h1, h2, q⟩ => ⟨ds, e, h1, h2, h _ q⟩, fun F σ H ρ vs ds x y a b Q R ⟨es, e, h1, h2, q⟩ => by
  subst e
  exact ⟨a, es, R.drop.dp, R.dp, h1, h2, q _ _ (R.drop.drop.push (v := .bl (inB a es)) rfl)⟩⟩
theorem so_notInL : SO K (rNotInD K) (oInL true) := ⟨fun a b P P' h ⟨ds, e, h1, h2, q⟩ => ⟨ds, e, h1, h2, h _ q⟩, fun F σ H ρ vs ds x y a b Q R ⟨es, e, h1, h2, q⟩ => by
  subst e
  exact ⟨a, es, R.drop.dp, R.dp, h1, h2, q _ _ (R.drop.drop.push (v := .bl (!inB a es)) rfl)⟩⟩
/-- i in l, a list or a tuple of ints -/
theorem inV_ints (i : Int) : ∀ ns : List Int, inV (.int i) (ns.map V.int) = decide (i ∈ ns)
  | [] => rfl
  | n :: ns => by
    have ih := inV_ints i ns
    unfold inV at ih ⊢
    rw [List.map_cons, List.any_cons, ih]
    have e : eqV (.int n) (.int i) = decide (n = i) := rfl
    rw [e]
    by_cases h : n = i
    · subst h; simp
    · have h' : ¬ i = n := fun z => h z.symm
      simp [h, h']
theorem flat_ints : ∀ ns : List Int, (ns.map V.int).all flatV = true
  | [] => rfl
  | n :: ns => by rw [List.map_cons, List.all_cons, flat_ints ns]; rfl
def oInI (n : Bool) : OD := fun a b P => ∃ (i : Int) (ns : List Int), a = .int i ∧ (b = .list (ns.map PyData.int) ∨ b = .tuple (ns.map PyData.int)) ∧ P (.bool (if n = true then !decide (i ∈ ns) else decide (i ∈ ns)))
theorem so_inI (n : Bool) : SO K (rIn K n) (oInI n) := ⟨fun a b P P' h ⟨i, ns, e, h1, q⟩ => ⟨i, ns, e, h1, h _ q⟩, fun F σ H ρ vs ds x y a b Q R ⟨i, ns, e, h1, q⟩ => by
  subst e
  obtain rfl := R.drop.int
  rcases h1 with rfl | rfl
  · obtain ⟨p, xs, rfl, e, s, R1⟩ := R.asList
    obtain rfl := ints_of (K := K) ns xs (dpAll_split e R1.dpAll).1
    refine ⟨p, _, rfl, .inl s, rfl, flat_ints ns, ?_⟩
    rw [inV_ints]
    cases n with
    | true => exact q _ _ (R.drop.drop.push (v := .bl (!decide (i ∈ ns))) rfl)
    | false => exact q _ _ (R.drop.drop.push (v := .bl (decide (i ∈ ns))) rfl)
  · obtain ⟨p, xs, rfl, e, s, R1⟩ := R.asTup
    obtain rfl := ints_of (K := K) ns xs (dpAll_split e R1.dpAll).1
    refine ⟨p, _, rfl, .inr s, rfl, flat_ints ns, ?_⟩
    rw [inV_ints]
    cases n with
    | true => exact q _ _ (R.drop.drop.push (v := .bl (!decide (i ∈ ns))) rfl)
    | false => exact q _ _ (R.drop.drop.push (v := .bl (decide (i ∈ ns))) rfl)⟩
end
/-! a conditional expression as a test -/
def tIfT (t ta tb : TT) : TT := fun σ H Q => t σ H fun c H1 => if c = true then ta σ H1 Q else tb σ H1 Q
theorem pt_ifExp {X : Cx} {c a b : Expr} {pos : Pos} {t ta tb : TT} (hc : PT X c t) (ha : PT X a ta) (hb : PT X b tb) : PT X (.IfExp c a b pos) (tIfT t ta tb) := by
  refine ⟨fun pins s σ H Q I h => ?_⟩
  refine PyProof.Rows.isTrue_IfExp (thn (hc.run pins s σ H _ I h) fun d s1 ⟨H1, I1, q1⟩ => ?_)
  cases d with
  | true => exact ha.run pins s1 σ H1 Q I1 q1
  | false => exact hb.run pins s1 σ H1 Q I1 q1
def dIfT (t a b : TDT) : TDT := fun ρ P => t ρ fun r k => if k = true then a r P else b r P
theorem st_ifExp {K : PySem.W.Frag} {tt ta tb : TT} {t a b : TDT} (st : ST K tt t) (sa : ST K ta a) (sb : ST K tb b) : ST K (tIfT tt ta tb) (dIfT t a b) := by
  refine ⟨fun ρ P P' h q => st.mono _ _ _ (fun _ k q => ?_) q, fun F σ H ρ vs ds Q R q => ?_⟩
  · cases k with
    | true => exact sa.mono _ _ _ h q
    | false => exact sb.mono _ _ _ h q
  · refine st.run F σ H ρ vs ds _ R (st.mono _ _ _ (fun ρ1 k q H1 R1 => ?_) q)
    cases k with
    | true => exact sa.run F σ H1 ρ1 vs ds Q R1 q
    | false => exact sb.run F σ H1 ρ1 vs ds Q R1 q
end LD

/-! LD26: zip of three tuples; the greatest of a tuple; whether a key stands in a dict. -/
namespace LD
open PySem PySem.Spec L2
/-- the tuples at a, b and c, item by item in new triples -/
def ItZ3 (K : PySem.W.Frag) (a b c : Addr) (n m l : Nat) : It where
  go i H := ∃ xs ys zs x y z, SqT K H a xs ∧ SqT K H b ys ∧ SqT K H c zs ∧ xs.length = n ∧ ys.length = m ∧ zs.length = l ∧ xs[i]? = some x ∧ ys[i]? = some y ∧ zs[i]? = some z
  yld i H v H' := ∃ T x y z, v = .ref T ∧ H T = none ∧ H' = upd H T (.tup [x, y, z]) ∧ (∀ xs, SqT K H a xs → xs[i]? = some x) ∧ (∀ ys, SqT K H b ys → ys[i]? = some y) ∧ ∀ zs, SqT K H c zs → zs[i]? = some z
  stop i H := ∃ xs ys zs, SqT K H a xs ∧ SqT K H b ys ∧ SqT K H c zs ∧ xs.length = n ∧ ys.length = m ∧ zs.length = l ∧ (n ≤ i ∨ m ≤ i ∨ l ≤ i)
theorem tup_ne_it {h : Heap} {a i : Addr} {its : Array Value} {j : Nat} {b : Addr} (p : h.IsTuple a its) (q : h.IsTupleIter i b j) : a ≠ i := fun e => by
  obtain ⟨o, q1, c, _⟩ := p
  obtain ⟨o2, q2, c2, _⟩ := q
  rw [e] at q1
  rw [q1] at q2
  cases q2
  rw [c] at c2
  exact absurd (Value.type.inj c2) (by decide)
theorem turn_zip3 {P : Program} {w : World} {K : PySem.W.Frag} {es : List Expr} {j : Nat} {tp : Pos} {a b c z TI TO i1 i2 i3 : Addr} {n m l : Nat} (S : ZipSep3 z TI TO i1 i2 i3 [i1, a] [i2, b] [i3, c]) :
    Turn P w K (.Tuple es j tp) (ItZ3 K a b c n m l) [z, TI, TO, i1, i2, i3] z fun i h => IsZip h z TI TO .none ∧ IsTupOf3 h TI (.ref i1) (.ref i2) (.ref i3) ∧ (∃ x y z, IsTupOf3 h TO x y z) ∧ h.IsTupleIter i1 a i ∧ h.IsTupleIter i2 b i ∧ h.IsTupleIter i3 c i ∧ i ≤ n ∧ i ≤ m ∧ i ≤ l where
  mem := by simp
  obj i h st c hc := by
    obtain ⟨hz, hTI, ⟨x, y, z', hTO⟩, ⟨o1, e1, _, d1⟩, ⟨o2, e2, _, d2⟩, ⟨o3, e3, _, d3⟩, _⟩ := st
    rcases (by simpa using hc : c = z ∨ c = TI ∨ c = TO ∨ c = i1 ∨ c = i2 ∨ c = i3) with q | q | q | q | q | q
    · exact q ▸ ⟨_, hz, fun v q => nomatch q⟩
    · exact q ▸ ⟨_, hTI, fun v q => nomatch q⟩
    · exact q ▸ ⟨_, hTO, fun v q => nomatch q⟩
    · exact q ▸ ⟨o1, e1, fun v q => by rw [d1] at q; cases q⟩
    · exact q ▸ ⟨o2, e2, fun v q => by rw [d2] at q; cases q⟩
    · exact q ▸ ⟨o3, e3, fun v q => by rw [d3] at q; cases q⟩
  keep i h h' st k := by
    obtain ⟨hz, hTI, ⟨x, y, z', hTO⟩, h1, h2, h3, l⟩ := st
    exact ⟨k z (by simp) _ hz, k TI (by simp) _ hTI, ⟨x, y, z', k TO (by simp) _ hTO⟩, h1.at fun o q => k i1 (by simp) o q, h2.at fun o q => k i2 (by simp) o q, h3.at fun o q => k i3 (by simp) o q, l⟩
  item := by
    intro X hP hw hK hc i pins s σ H E I hf st hg
    subst hP hw hK
    obtain ⟨hz, hTI, ⟨x0, y0, z0, hTO⟩, h1, h2, h3, l1, l2, l3⟩ := st
    obtain ⟨xs, ys, zs, x, y, zv, hqx, hqy, hqz, nx, ny, nz, hx, hy, hzv⟩ := hg
    obtain ⟨its, rv, p, _⟩ := I.tuple hqx
    obtain ⟨its2, rv2, p2, _⟩ := I.tuple hqy
    obtain ⟨its3, rv3, p3, _⟩ := I.tuple hqz
    have p' : s.heap.IsTuple a its.toArray := p
    have p2' : s.heap.IsTuple b its2.toArray := p2
    have p3' : s.heap.IsTuple c its3.toArray := p3
    obtain ⟨u, hu, ru⟩ := rv.get hx
    obtain ⟨u2, hu2, ru2⟩ := rv2.get hy
    obtain ⟨u3, hu3, ru3⟩ := rv3.get hzv
    have hzl : z < s.heap.objs.size := Heap.lt_size hz
    have li1 : i < its.toArray.size := by rw [List.size_toArray]; exact (List.getElem?_eq_some_iff.mp hu).1
    have li2 : i < its2.toArray.size := by rw [List.size_toArray]; exact (List.getElem?_eq_some_iff.mp hu2).1
    have li3 : i < its3.toArray.size := by rw [List.size_toArray]; exact (List.getElem?_eq_some_iff.mp hu3).1
    have hs1 : its.toArray.size = n := by rw [List.size_toArray, ← rv.length, nx]
    have hs2 : its2.toArray.size = m := by rw [List.size_toArray, ← rv2.length, ny]
    have hs3 : its3.toArray.size = l := by rw [List.size_toArray, ← rv3.length, nz]
    refine wpAny_pyNext_zipD3_item S (Draws.tuple (A := X.A.in1) (I.ok.hd hc) i1 a (tup_ne_it p' h1) its.toArray) (Draws.tuple (A := X.A.in1) (I.ok.hd hc) i2 b (tup_ne_it p2' h2) its2.toArray) (Draws.tuple (A := X.A.in1) (I.ok.hd hc) i3 c (tup_ne_it p3' h3) its3.toArray) hz hTI hTO ⟨h1, p'⟩ ⟨h2, p2'⟩ ⟨h3, p3'⟩ li1 li2 li3 fun v1 v2 v3 h' tk y1 y2 y3 b1 b2 d1 d2 d3 b5 b6 hk => ?_
    have e1 : v1 = u := by
      have q : its[i]? = some v1 := by simpa using y1
      rw [hu] at q
      exact (Option.some.inj q).symm
    have e2 : v2 = u2 := by
      have q : its2[i]? = some v2 := by simpa using y2
      rw [hu2] at q
      exact (Option.some.inj q).symm
    have e3 : v3 = u3 := by
      have q : its3[i]? = some v3 := by simpa using y3
      rw [hu3] at q
      exact (Option.some.inj q).symm
    subst e1 e2 e3
    refine ⟨_, rfl, wpAny_letOwnedTupleGo_zip (s := { s with heap := h', toks := tk }) b1 fun h2' z'' sb => ?_⟩
    have hT2 : h2'.get? s.heap.objs.size = some { cls := .type "tuple", data := .seq #[v1, v2, v3] } := (sb.2 _ (Nat.ne_of_gt hzl)).trans b5
    have new : ObjOk X.prog X.w (upd H s.heap.objs.size (.tup [x, y, zv])) h2' s.heap.objs.size (.tup [x, y, zv]) :=
      ⟨by show 3 ≤ sizeLine; decide, [v1, v2, v3], .cons ru (.cons ru2 (.cons ru3 .nil)), ⟨_, hT2, rfl, _, rfl⟩⟩
    have I1 : Inv X pins σ (upd H s.heap.objs.size (.tup [x, y, zv])) { s with heap := h2', toks := tk } :=
      I.turnedNew (t' := tk) (ch := [z, TI, TO, i1, i2, i3]) (fun c o hb q => (sb.2 c fun w => hb (by simp [w])).trans (hk c o (fun w => hb (by simp [w])) (fun w => hb (by simp [w])) (fun w => hb (by simp [w])) (fun w => hb (by simp [w])) (fun w => hb (by simp [w])) q)) hf (Nat.le_refl _) new
    refine ⟨.ref s.heap.objs.size, _, I1, rfl, ⟨_, x, y, zv, rfl, I.hok.fresh (Nat.le_refl _), rfl, fun l hl => by rw [I.tuple_inj hl hqx]; exact hx, fun l hl => by rw [I.tuple_inj hl hqy]; exact hy, fun l hl => by rw [I.tuple_inj hl hqz]; exact hzv⟩, ⟨z'', ?_, ⟨v1, v2, v3, ?_⟩, ?_, ?_, ?_, by omega, by omega, by omega⟩, fun c hcm => ?_⟩
    · exact (sb.2 _ S.TIz).trans (hk _ _ S.TIz S.TITO S.TIi1 S.TIi2 S.TIi3 hTI)
    · exact (sb.2 _ S.TOz).trans b2
    · exact d1.1.at fun o q => (sb.2 _ (Ne.symm S.zi1)).trans q
    · exact d2.1.at fun o q => (sb.2 _ (Ne.symm S.zi2)).trans q
    · exact d3.1.at fun o q => (sb.2 _ (Ne.symm S.zi3)).trans q
    · have hlt : c < s.heap.objs.size := by
        rcases (by simpa using hcm : c = z ∨ c = TI ∨ c = TO ∨ c = i1 ∨ c = i2 ∨ c = i3) with q | q | q | q | q | q
        · exact q ▸ hzl
        · exact q ▸ Heap.lt_size hTI
        · exact q ▸ Heap.lt_size hTO
        · obtain ⟨_, e, _⟩ := h1
          exact q ▸ Heap.lt_size e
        · obtain ⟨_, e, _⟩ := h2
          exact q ▸ Heap.lt_size e
        · obtain ⟨_, e, _⟩ := h3
          exact q ▸ Heap.lt_size e
      rw [upd_ne (Nat.ne_of_lt hlt)]
      exact (hf c hcm).1
  done := by
    intro X hP hw hK hc i pins s σ H E I hf st hg
    subst hP hw hK
    obtain ⟨hz, hTI, ⟨x0, y0, z0, hTO⟩, h1, h2, h3, l1, l2, l3⟩ := st
    obtain ⟨xs, ys, zs, hqx, hqy, hqz, nx, ny, nz, hend⟩ := hg
    obtain ⟨its, rv, p, _⟩ := I.tuple hqx
    obtain ⟨its2, rv2, p2, _⟩ := I.tuple hqy
    obtain ⟨its3, rv3, p3, _⟩ := I.tuple hqz
    have p' : s.heap.IsTuple a its.toArray := p
    have p2' : s.heap.IsTuple b its2.toArray := p2
    have p3' : s.heap.IsTuple c its3.toArray := p3
    have hs1 : its.toArray.size = n := by rw [List.size_toArray, ← rv.length, nx]
    have hs2 : its2.toArray.size = m := by rw [List.size_toArray, ← rv2.length, ny]
    have hs3 : its3.toArray.size = l := by rw [List.size_toArray, ← rv3.length, nz]
    refine wpAny_pyNext_zipD3_end S (Draws.tuple (A := X.A.in1) (I.ok.hd hc) i1 a (tup_ne_it p' h1) its.toArray) (Draws.tuple (A := X.A.in1) (I.ok.hd hc) i2 b (tup_ne_it p2' h2) its2.toArray) (Draws.tuple (A := X.A.in1) (I.ok.hd hc) i3 c (tup_ne_it p3' h3) its3.toArray) hz hTI hTO ⟨h1, p'⟩ ⟨h2, p2'⟩ ⟨h3, p3'⟩ (by omega) (by omega) (by omega) (by omega) fun h' tk hk => ⟨rfl, I.turnedL (t' := tk) (ch := [z, TI, TO, i1, i2, i3]) (fun c o hb q =>
      hk c o (fun w => hb (by simp [w])) (fun w => hb (by simp [w])) (fun w => hb (by simp [w])) (fun w => hb (by simp [w])) (fun w => hb (by simp [w])) q) hf⟩
  self A i s Q E st h := wpAny_pyIter_zip st.1 h
def iZip3 (K : PySem.W.Frag) (ta : L2.TA) : TI := fun σ H R => ta σ H fun vs H1 => ∃ a b c xs ys zs, vs = [.ref a, .ref b, .ref c] ∧ SqT K H1 a xs ∧ SqT K H1 b ys ∧ SqT K H1 c zs ∧ R (ItZ3 K a b c xs.length ys.length zs.length) H1
theorem pi_zip3 {X : Cx} {e e2 e3 : Expr} {ta : L2.TA} {p pos tp : Pos} {es : List Expr} {j : Nat} (hg : Gl X "zip") (hm : X.mg "zip" = none) (ha : PA X [e, e2, e3] ta)
    (hs : starEach [e, e2, e3] X.env = (false, eval e X.env) :: starEach [e2, e3] X.env := by rfl) (hpl : (backTo pos (starEach [e2, e3] X.env)).any (·.1) = false := by rfl) :
    PI X (.Tuple es j tp) (.Call (.Name "zip" p) [e, e2, e3] [] pos) (iZip3 X.K ta) := by
  refine ⟨fun pins s σ H R I h => PyProof.Rows.Call_ (ld_blt I hg hm PyProof.Rows.boot_zip (PyProof.Rows.callWith_type1 (thn (ha.run pos pins s σ H _ I h) fun us s1 ⟨vs, H1, I1, r1, q1⟩ => ?_) hs hpl))⟩
  obtain ⟨a, b, c, xs, ys, zs, ex, hqx, hqy, hqz, q⟩ := q1
  subst ex
  obtain ⟨u, u2, u3, rfl, ru, ru2, ru3⟩ : ∃ u1 u2 u3, us = [u1, u2, u3] ∧ RelV (.ref a) u1 ∧ RelV (.ref b) u2 ∧ RelV (.ref c) u3 := by
    cases r1 with
    | cons p q =>
      cases q with
      | cons p' q' =>
        cases q' with
        | cons p'' q'' =>
          cases q''
          exact ⟨_, _, _, rfl, p, p', p''⟩
  obtain rfl : u = Value.ref a := ru
  obtain rfl : u2 = Value.ref b := ru2
  obtain rfl : u3 = Value.ref c := ru3
  obtain ⟨its, rv, p1, _⟩ := I1.tuple hqx
  obtain ⟨its2, rv2, p2, _⟩ := I1.tuple hqy
  obtain ⟨its3, rv3, p3, _⟩ := I1.tuple hqz
  have p1' : s1.heap.IsTuple a its.toArray := p1
  have p2' : s1.heap.IsTuple b its2.toArray := p2
  have p3' : s1.heap.IsTuple c its3.toArray := p3
  have la : a < s1.heap.objs.size := by
    obtain ⟨_, q, _⟩ := p1'
    exact Heap.lt_size q
  have lb : b < s1.heap.objs.size := by
    obtain ⟨_, q, _⟩ := p2'
    exact Heap.lt_size q
  have lc : c < s1.heap.objs.size := by
    obtain ⟨_, q, _⟩ := p3'
    exact Heap.lt_size q
  refine zip_begins3 (begins_tuple a its.toArray) (begins_tuple b its2.toArray) (begins_tuple c its3.toArray) p1' p2' p3' fun h' hz hTI hTO g1 g2 g3 hsz hk => wpAny_pyIter_zip hz ?_
  have I2 : Inv X pins σ H1 { s1 with heap := h' } := I1.kept (t' := s1.toks) hk
  have S := zip_sep3 (N := s1.heap.objs.size) (fp1 := [a]) (fp2 := [b]) (fp3 := [c]) (fun d hd => by
    obtain rfl : d = a := by simpa using hd
    exact la) (fun d hd => by
    obtain rfl : d = b := by simpa using hd
    exact lb) (fun d hd => by
    obtain rfl : d = c := by simpa using hd
    exact lc)
  refine ⟨s1.heap.objs.size + 5, [s1.heap.objs.size + 5, s1.heap.objs.size + 3, s1.heap.objs.size + 4, s1.heap.objs.size, s1.heap.objs.size + 1, s1.heap.objs.size + 2], _, _, H1, rfl, I2, turn_zip3 S, ⟨hz, hTI, ⟨_, _, _, hTO⟩, ⟨_, g1, rfl, rfl⟩, ⟨_, g2, rfl, rfl⟩, ⟨_, g3, rfl, rfl⟩, Nat.zero_le _, Nat.zero_le _, Nat.zero_le _⟩, fun c hcm => ?_, q⟩
  have hle : s1.heap.objs.size ≤ c := by
    rcases (by simpa using hcm : c = s1.heap.objs.size + 5 ∨ c = s1.heap.objs.size + 3 ∨ c = s1.heap.objs.size + 4 ∨ c = s1.heap.objs.size ∨ c = s1.heap.objs.size + 1 ∨ c = s1.heap.objs.size + 2) with w | w | w | w | w | w
    · rw [w]; exact Nat.le_add_right _ _
    · rw [w]; exact Nat.le_add_right _ _
    · rw [w]; exact Nat.le_add_right _ _
    · rw [w]; exact Nat.le_refl _
    · rw [w]; exact Nat.le_add_right _ _
    · rw [w]; exact Nat.le_add_right _ _
  exact I1.fpOk hle (I1.hok.fresh hle)
/-! over data -/
section
variable {K : PySem.W.Frag}
def zip3D (es fs gs : List D) : List D := (es.zip (fs.zip gs)).map fun p => .tuple [p.1, p.2.1, p.2.2]
theorem zip3D_at {es fs gs : List D} {i : Nat} {d : D} (h : (zip3D es fs gs)[i]? = some d) : ∃ x y z, es[i]? = some x ∧ fs[i]? = some y ∧ gs[i]? = some z ∧ d = .tuple [x, y, z] := by
  unfold zip3D at h
  rw [List.getElem?_map] at h
  cases hz : (es.zip (fs.zip gs))[i]? with
  | none => rw [hz] at h; cases h
  | some p =>
    rw [hz] at h
    have h1 := List.getElem?_zip_eq_some.mp hz
    have h2 := List.getElem?_zip_eq_some.mp h1.2
    exact ⟨p.1, p.2.1, p.2.2, h1.1, h2.1, h2.2, (Option.some.inj h).symm⟩
theorem walks_zip3 {p r t : Addr} {es fs gs : List D} : Walks K (ItZ3 K p r t es.length fs.length gs.length) (zip3D es fs gs) [.ref p, .ref r, .ref t] [.tuple es, .tuple fs, .tuple gs] := by
  intro F σ H ρ vs ds i R
  obtain ⟨p', xs, e, e2, s, R1⟩ := Rel.asTup (vs := .ref r :: .ref t :: vs) (ds := .tuple fs :: .tuple gs :: ds) R
  cases e
  have R' : Rel K F σ H ρ (.ref r :: .ref t :: vs) (.tuple fs :: .tuple gs :: ds) := Rel.drop R
  obtain ⟨r', ys, e', e2', s', R2⟩ := Rel.asTup R'
  cases e'
  have R'' : Rel K F σ H ρ (.ref t :: vs) (.tuple gs :: ds) := Rel.drop R'
  obtain ⟨t', zs, e'', e2'', s'', R3⟩ := Rel.asTup R''
  cases e''
  refine ⟨fun d hd => ?_, fun h => ⟨xs, ys, zs, s, s', s'', e2, e2', e2'', ?_⟩⟩
  · obtain ⟨x, y, z, hx, hy, hz, rfl⟩ := zip3D_at hd
    obtain ⟨v, e3, _⟩ := R1.pick e2 hx
    obtain ⟨u, e4, _⟩ := R2.pick e2' hy
    obtain ⟨u2, e5, _⟩ := R3.pick e2'' hz
    refine ⟨⟨xs, ys, zs, v, u, u2, s, s', s'', e2, e2', e2'', e3, e4, e5⟩, fun q H' hq => ?_⟩
    obtain ⟨T, v', u', w', rfl, hT, rfl, h1, h2, h3⟩ := hq
    have := (h1 xs s).symm.trans e3
    cases this
    have := (h2 ys s').symm.trans e4
    cases this
    have := (h3 zs s'').symm.trans e5
    cases this
    refine Rel.tup (xs := [v, u, u2]) (es := [x, y, z]) ?_ rfl hT
    obtain ⟨Hi, own, R4⟩ := R
    have t := R4.tmp
    cases t with
    | cons t1 t2 =>
      cases t2 with
      | cons t3 t4 =>
        cases t4 with
        | cons t5 t6 =>
          cases t1 with
          | tup s1 g1 =>
            cases t3 with
            | tup s2 g2 =>
              cases t5 with
              | tup s3 g3 =>
                obtain ⟨w1, k1, d1⟩ := dpAll_at g1 hx
                obtain ⟨w2, k2, d2⟩ := dpAll_at g2 hy
                obtain ⟨w3, k3, d3⟩ := dpAll_at g3 hz
                have z1 := (h1 _ (sqT_mono R4.sub s1)).symm.trans k1
                have z2 := (h2 _ (sqT_mono R4.sub s2)).symm.trans k2
                have z3 := (h3 _ (sqT_mono R4.sub s3)).symm.trans k3
                cases z1
                cases z2
                cases z3
                exact ⟨Hi, own, R4.tmpTo (.cons d1 (.cons d2 (.cons d3 (.cons (.tup s1 g1) (.cons (.tup s2 g2) (.cons (.tup s3 g3) t6))))))⟩
  · unfold zip3D at h
    rw [List.length_map, List.length_zip, List.length_zip] at h
    omega
def iZ3 (t : TDA) : TDI := fun ρ P => t ρ fun r es => ∃ fs gs ks, es = [.tuple fs, .tuple gs, .tuple ks] ∧ P r (zip3D fs gs ks)
theorem si_zip3 {ta : L2.TA} {t : TDA} (sa : SA K ta t) : SI K (iZip3 K ta) (iZ3 t) := by
  refine ⟨fun ρ P P' h q => sa.mono _ _ _ (fun _ es ⟨fs, gs, ks, e, q⟩ => ⟨fs, gs, ks, e, h _ _ q⟩) q, fun F σ H ρ vs ds Q R q => ?_⟩
  refine sa.run F σ H ρ vs ds _ R (sa.mono _ _ _ (fun r es q xs H1 e R1 => ?_) q)
  obtain ⟨fs, gs, ks, e1, q⟩ := q
  subst e1
  obtain ⟨x, xr, rfl, e2⟩ := len_cons e
  obtain ⟨y, yr, rfl, e3⟩ := len_cons e2
  obtain ⟨z, zr, rfl, e4⟩ := len_cons e3
  obtain rfl := len_nil e4
  obtain ⟨p, ys, rfl, el, s, _⟩ := Rel.asTup R1
  obtain ⟨p2, zs, rfl, el2, s2, _⟩ := Rel.asTup (Rel.drop R1)
  obtain ⟨p3, us, rfl, el3, s3, _⟩ := Rel.asTup (Rel.drop (Rel.drop R1))
  refine ⟨p, p2, p3, ys, zs, us, rfl, s, s2, s3, ?_⟩
  rw [el, el2, el3]
  exact q _ _ [.ref p, .ref p2, .ref p3] [.tuple fs, .tuple gs, .tuple ks] rfl walks_zip3 R1
end
/-! max of a tuple -/
def rMaxT (K : PySem.W.Frag) : List V → Hp → VK → Prop := fun vs H Q => ∃ (a : Addr) (xs : List V) (d : D) (ds : List D), vs = [.ref a] ∧ SqT K H a xs ∧ DpAll K H xs (d :: ds) ∧ PySem.W.AlikeAll (d :: ds) ∧ PyData.depthAll (d :: ds) ≤ 50 ∧
  ∀ (i : Nat) (v : V), xs[i]? = some v → (d :: ds)[i]? = some (PySem.W.maxD d ds) → Q v H
theorem cr_maxT {X : Cx} (hc : X.calm = true) (hu : X.A.units + 64 < cLine) : CallR X (.builtin "max") (rMaxT X.K) := by
  intro pins s σ H vs us Q I r h
  obtain ⟨a, xs, d, ds, rfl, hs, hd, ha, hz, q⟩ := h
  obtain ⟨its, rv, hl, _⟩ := I.tuple hs
  rw [Vals.ref1 r]
  obtain ⟨as, hr⟩ := Dp.readsAll I _ xs its hd rv
  have hn : its.length = ds.length + 1 := by rw [← rv.length, dpAll_len hd]; rfl
  have hr' : ReadsAll s.heap its.toArray.toList (d :: ds) as := hr
  refine PySem.call_max_walkH (PySem.W.iter_tupleW (A := X.A.in1) (I.ok.hd hc) hl fun s₂ e W st hfp hw hk => ?_)
  refine ⟨_, _, _, _, _, _, _, s.heap, _, rfl, W, st, hfp, by rw [List.size_toArray]; omega, hw, hk, PySem.W.cmpIn_gt (A := X.A.in1) hr' ha (by show X.A.units + 1 + _ < _; omega), fun v s' hP m => ?_⟩
  obtain ⟨h', tk, rfl, hk'⟩ := PySem.W.moved_old e rfl m
  have e1 : its.toArray.size - 1 = ds.length := by rw [List.size_toArray]; omega
  obtain ⟨e3, e2⟩ := PySem.W.argBest_fold (fun a b => PySem.W.dataLt b a) PyData.none d ds ds.length (Nat.le_refl _)
  rw [List.take_length] at e2
  rw [e1] at hP
  rw [List.getElem?_toArray] at hP
  obtain ⟨x, hx, rx⟩ := vals_back rv hP
  exact ⟨x, H, I.kept hk', rx, q _ x hx (getD_some (Nat.lt_succ_of_le e3) e2)⟩
section
variable {K : PySem.W.Frag}
def cMaxT : CD := fun es P => ∃ d ds, es = [.tuple (d :: ds)] ∧ PySem.W.AlikeAll (d :: ds) ∧ PyData.depthAll (d :: ds) ≤ 50 ∧ P (PySem.W.maxD d ds)
theorem sc_maxT : SC K (rMaxT K) cMaxT := ⟨fun a P P' h ⟨d, ds, e, h1, h2, q⟩ => ⟨d, ds, e, h1, h2, h _ q⟩, fun F σ H ρ vs ds xs es Q e R ⟨d, fs, h, h1, h2, q⟩ => by
  subst h
  obtain ⟨x, r, rfl, e1⟩ := len_cons e
  obtain rfl := len_nil e1
  obtain ⟨p, ys, rfl, e2, s, R1⟩ := Rel.asTup R
  refine ⟨p, ys, d, fs, rfl, s, (dpAll_split e2 R1.dpAll).1, h1, h2, fun i v hv hd => ?_⟩
  obtain ⟨w, hw, R2⟩ := R1.pick e2 hd
  rw [hv] at hw
  cases hw
  exact q _ _ R2.drop2⟩
end
/-! k in d, k not in d -/
def rInX (K : PySem.W.Frag) (neg : Bool) : R2 := fun x y H Q => ∃ a xs b k, y = .ref a ∧ x = .ref b ∧ H a = some (.ext (RawT a xs)) ∧ KeysIn K H xs ∧ SqT K H b (k.map V.int) ∧ Q (.bl (if neg = true then !(atX xs k).isSome else (atX xs k).isSome)) H
section
variable {X : Cx}
theorem op_inX (hu : X.A.units + 1 < cLine) : OpR X (compareOp .In) (rInX X.K false) := by
  intro pins s σ H x y v u Q I rx ry h
  obtain ⟨a, xs, b, k, rfl, rfl, ha, hk, hb, q⟩ := h
  cases rx
  cases ry
  have R := raw_of I ha
  refine wpAny_in_heap (tupleKind_room_in1 hu) (keyIn I hb) R.own (dictIn I R hk) ?_
  rw [atKey_X]
  exact ⟨.bl _, H, I.tok _, rfl, q⟩
theorem op_notInX (hu : X.A.units + 1 < cLine) : OpR X (compareOp .NotIn) (rInX X.K true) := by
  intro pins s σ H x y v u Q I rx ry h
  obtain ⟨a, xs, b, k, rfl, rfl, ha, hk, hb, q⟩ := h
  cases rx
  cases ry
  have R := raw_of I ha
  show wpAny _ _ (do return Value.bool (!(← contains (.ref a) (.ref b)))) _ _ s
  refine wpAny_bind (wpAny_contains_heap (tupleKind_room_in1 hu) (keyIn I hb) R.own (dictIn I R hk) (wpAny_pure ?_))
  rw [atKey_X]
  exact ⟨.bl _, H, I.tok _, rfl, q⟩
end
section
variable {K : PySem.W.Frag} {tb : TE} {b : TD}
def dInX (n : Bool) (i : Nat) (b : TD) : TD := fun ρ P => b ρ fun r y => ∃ p zs k, r[i]? = some (.dt p zs) ∧ y = .tuple (k.map PyData.int) ∧ P r (.bool (if n = true then !(lookD (zs.map Ent.kv) k).isSome else (lookD (zs.map Ent.kv) k).isSome))
theorem se_inX (n : Bool) (i : Nat) (sb : SE K tb b) : SE K (tOp (rInX K n) tb (tVar i)) (dInX n i b) := by
  refine ⟨fun ρ P P' h q => sb.mono _ _ _ (fun r y ⟨p, zs, k, e, e1, q⟩ => ⟨p, zs, k, e, e1, h _ _ q⟩) q, fun F σ H ρ vs ds Q R q => ?_⟩
  refine sb.run F σ H ρ vs ds _ R (sb.mono _ _ _ (fun r y q v H1 R1 => ?_) q)
  obtain ⟨p, zs, k, e, ey, q3⟩ := q
  subst ey
  obtain ⟨e2, hp, hk⟩ := R1.dtAt e
  refine ⟨.ref p, e2, ?_⟩
  obtain ⟨Hi, own, R2⟩ := R1
  have t := R2.tmp
  cases t with
  | cons t1 t2 =>
    cases t1 with
    | tup s gk =>
      have := ints_of (K := K) k _ gk
      subst this
      refine ⟨p, _, _, k, rfl, rfl, hp, hk, sqT_mono R2.sub s, ?_⟩
      rw [look_X, Option.isSome_map]
      rw [look_D, Option.isSome_map] at q3
      cases n with
      | true => exact q3 (.bl (!(lookE zs k).isSome)) _ ⟨Hi, own, R2.tmpTo (.cons (.bl _) t2)⟩
      | false => exact q3 (.bl (lookE zs k).isSome) _ ⟨Hi, own, R2.tmpTo (.cons (.bl _) t2)⟩
end
end LD

/-! LD27: {k: v}; list(d.items()) and sorted(d.items()) of dicts whose keys are tuples of ints. -/
namespace LD
open PySem PySem.Spec L2 PyProof.Rows
section
variable {K : PySem.W.Frag} {F : Fx} {σ : L2.St} {H : Hp} {ρ : Rho} {vs ws : List V} {ds es : List D}
/-- slot i keeps what was just laid -/
theorem Rel.keepNew2 {p : Addr} {i : Nat} {o : HO} {x : DV} (R : Rel K F σ H ρ vs ds) (hp : H p = none) (hi : i < ρ.length) (hx : ∀ Hi, Same Hi H → DpAll K Hi vs ds → SlotOk K Hi (upd H p o) (some (.ref p)) [p] x ∧ DpAll K Hi ws es) : Rel K F (σ.set i (some (.ref p))) (upd H p o) (ρ.set i x) ws es := by
  obtain ⟨Hi, own, R⟩ := R
  have ne : ∀ i, ∀ a ∈ own i, a ≠ p := fun i a ha z => R.held i a ha (by rw [z]; exact hp)
  refine ⟨Hi, fun j => if j = i then [p] else own j, ⟨R.base, R.sub.trans (same_upd hp), R.new, fun b q h hn => ?_, fun b h => ?_, ?_, fun j y h => ?_, fun j a ha => ?_, fun j a ha => ?_, fun j a ha => ?_, fun j k hjk a ha hk => ?_, fun j es' h a ha => ?_, fun z hz => ?_, (hx Hi R.sub R.tmp).2⟩⟩
  · rw [upd_ne (ne_of_none (R.keep b q h hn) hp)]; exact R.keep b q h hn
  · by_cases hbp : b = p
    · rw [hbp, upd_same]; simp
    · rw [upd_ne hbp]; exact R.dom b h
  · rw [List.length_set, List.length_set]; exact R.len
  · by_cases hj : j = i
    · subst hj
      rw [List.getElem?_set_self hi] at h
      cases h
      have e1 : (σ.set j (some (V.ref p)))[j]? = some (some (.ref p)) := List.getElem?_set_self (by rw [R.len]; exact hi)
      rw [e1, if_pos rfl]
      exact (hx Hi R.sub R.tmp).1
    · rw [List.getElem?_set_ne (Ne.symm hj)] at h ⊢
      rw [if_neg hj]
      exact (R.slot j y h).grow (Same.refl _) fun a ha o q => by rw [upd_ne (ne j a ha)]; exact q
  all_goals try (by_cases hj : j = i)
  · rw [if_pos hj] at ha
    obtain rfl : a = p := by simpa using ha
    exact R.noSub hp
  · rw [if_neg hj] at ha; exact R.free j a ha
  · rw [if_pos hj] at ha
    obtain rfl : a = p := by simpa using ha
    rw [upd_same]; simp
  · rw [if_neg hj] at ha; rw [upd_ne (ne j a ha)]; exact R.held j a ha
  · rw [if_pos hj] at ha
    obtain rfl : a = p := by simpa using ha
    exact .inl (R.no0 hp)
  · rw [if_neg hj] at ha; exact R.nown j a ha
  · rw [if_pos hj] at ha
    obtain rfl : a = p := by simpa using ha
    rw [if_neg (fun z => hjk (hj.trans z.symm))] at hk
    exact ne k a hk rfl
  · rw [if_neg hj] at ha
    by_cases hki : k = i
    · rw [if_pos hki] at hk
      obtain rfl : a = p := by simpa using hk
      exact ne j a ha rfl
    · rw [if_neg hki] at hk; exact R.sep j k hjk a ha hk
  · rw [if_pos hj] at ha
    obtain rfl : a = p := by simpa using ha
    exact R.no0 hp
  · rw [if_neg hj] at ha
    rw [List.getElem?_set_ne (Ne.symm hj)] at h
    exact R.nls j es' h a ha
  · obtain ⟨z1, z2, z3⟩ := R.pin z hz
    have nz : z.1 ≠ p := ne_of_none z1 hp
    refine ⟨by rw [upd_ne nz]; exact z1, z2, fun j hj => ?_⟩
    by_cases hji : j = i
    · rw [if_pos hji] at hj
      exact nz (by simpa using hj)
    · rw [if_neg hji] at hj; exact z3 j hj
end
/-- {k: v} -/
def tDict1 (K : PySem.W.Frag) (tk tv : TE) : TE := fun σ H Q => ∀ p, H p = none → tk σ (upd H p (.ext (RawT p []))) fun y H1 => tv σ H1 fun v H2 => H2 p = some (.ext (RawT p [])) ∧ ∃ b k, y = .ref b ∧ SqT K H2 b (k.map V.int) ∧
  ∀ u, RelV v u → Q (.ref p) (upd H2 p (.ext (RawT p [(k, b, u)])))
section
variable {X : Cx} {ke ve : Expr} {pos : Pos} {tk tv : TE}
theorem rawT_of {P : Program} {w : World} {a : Addr} {xs : XT} {h : Heap} (dd : h.DictOfH (tupleKind (mixKind P w)) a (xs.map keyX)) (h1 : (xs.map (·.1)).Nodup) (h2 : xs.length ≤ sizeLine) (h3 : (a == sysModules) = false) : RawT a xs h := by
  obtain ⟨ob, es, ep, g1, g2, g3, g4, _, g5⟩ := dd
  exact ⟨⟨ob, es, ep, g1, g2, g3, fun P w => by
    rw [g4, List.map_map]
    refine List.map_congr_left fun x _ => hash_one _ _ _ _ x⟩, h1, h2, h3⟩
theorem pe_dict1 (hu : X.A.units < cLine) (hk : PE X ke tk) (hv : PE X ve tv) : PE X (.Dict [some ke] [ve] pos) (tDict1 X.K tk tv) := by
  refine ⟨fun pins s σ H Q I h => ?_⟩
  rw [arm_eval_Dict]
  have hshape : (evalEachOpt [some ke] X.env).zip ((evalEach [ve] X.env).map fun v => do let x ← v; standAt pos; pure x) = [(eval ke X.env, do let x ← eval ve X.env; standAt pos; pure x)].map fun p => (some p.1, p.2) := rfl
  rw [hshape, dictDisplay_pairs _ (List.cons_ne_nil _ _) (by show 1 < 17; decide)]
  have fresh : H s.heap.objs.size = none := I.hok.fresh (Nat.le_refl _)
  have own : (s.heap.objs.size == sysModules) = false := beq_eq_false_iff_ne.mpr (Ne.symm (Nat.ne_of_lt I.big))
  have I0 : Inv X pins σ (upd H s.heap.objs.size (.ext (RawT s.heap.objs.size []))) { s with heap := s.heap.push { cls := .type "dict", data := .dict #[] } } := by
    refine I.laid (a := s.heap.objs.size) (o := .ext (RawT s.heap.objs.size [])) (t' := s.toks) (fun _ _ q => Heap.get?_push_of_some _ q) (Nat.le_refl _) ?_
    exact ⟨⟨⟨_, #[], 0, Heap.get?_push_size _ rfl, ⟨rfl, rfl, rfl⟩, rfl, fun _ _ => rfl⟩, List.nodup_nil, Nat.zero_le _, own⟩, ⟨_, Heap.get?_push_size _ rfl⟩, fun h1 h2 R k => rawT_local h1 h2 R k⟩
  refine wpAny_bind (wpAny_standAt (wpAny_bind (wpAny_subDictH (knd := tupleKind (mixKind X.prog X.w)) hu (by show 1 ≤ 15; decide) ?_)))
  show wpAny _ _ (do let kv ← eval ke X.env; let vv ← holding [kv] (do let x ← eval ve X.env; standAt pos; pure x); return (kv, vv) :: (← holding [kv, vv] (evalPairs []))) _ _ _
  refine wpAny_bind (thn (hk.run pins _ σ _ _ I0 (h s.heap.objs.size fresh)) fun kv s1 ⟨y, H1, I1, ry, q1⟩ => ?_)
  refine wpAny_bind (wpAny_holding (wpAny_bind (thn (hv.run pins s1 σ H1 _ I1 q1) fun vv s2 ⟨v, H2, I2, rv, hp, b, k, ey, hb, q2⟩ => wpAny_bind (wpAny_standAt (wpAny_pure ?_)))))
  refine wpAny_bind (wpAny_holding ?_)
  show wpAny _ _ (pure []) _ _ _
  refine wpAny_pure (wpAny_pure ?_)
  subst ey
  obtain rfl : kv = Value.ref b := ry
  have R := raw_of I2 hp
  have D := dictIn I2 R (fun x hx => by cases hx)
  refine ⟨[(k.map Sum.inl, b, vv)], ⟨rfl, rfl, keyIn I2 hb, trivial⟩, D, fun h' tk dd hs => ?_⟩
  have dd' : h'.DictOfH (tupleKind (mixKind X.prog X.w)) s.heap.objs.size ([(k, b, vv)].map keyX) := dd
  have R' : RawT s.heap.objs.size [(k, b, vv)] h' := rawT_of dd' (by simp) (by show 1 ≤ sizeLine; decide) own
  obtain ⟨ob, es, ep, g1, _⟩ := R'.raw
  refine wpAny_pure ⟨.ref s.heap.objs.size, _, d_write I2 (by rw [hp]; exact True.intro) hs ⟨ob, g1⟩ (show ObjOk X.prog X.w (upd H2 s.heap.objs.size (.ext (RawT s.heap.objs.size [(k, b, vv)]))) h' s.heap.objs.size (.ext (RawT s.heap.objs.size [(k, b, vv)])) from ⟨R', ⟨ob, g1⟩, fun h1 h2 => rawT_local h1 h2⟩), rfl, q2 vv rv⟩
end
section
variable {K : PySem.W.Frag} {tb tk : TE} {b k : TD}
/-- x = {k: v} -/
def dDict1 (i : Nat) (k b : TD) : TDS := fun dn ρ => k ρ fun r y => b r fun r2 d => i < r2.length ∧ ∃ ks : List Int, y = .tuple (ks.map PyData.int) ∧ ∀ p zs, zs.map Ent.kv = [(ks, d)] → dn.nx (r2.set i (.dt p zs))
theorem ss_dict1 {i : Nat} (sk : SE K tk k) (sb : SE K tb b) : SS K (tAsg (tDict1 K tk tb) (gName i)) (dDict1 i k b) := by
  refine ⟨fun a b ρ h q => sk.mono _ _ _ (fun r y q => sb.mono _ _ _ (fun r2 d ⟨h1, ks, e, q⟩ => ⟨h1, ks, e, fun p zs hz => h.nx _ (q p zs hz)⟩) q) q, fun F σ H ρ vs ds E dn G R q p hp => ?_⟩
  have f0 := R.pinFree hp
  refine sk.run (F.mk1 p _) σ _ ρ _ _ _ (R.pinNew hp) (sk.mono _ _ _ (fun r y q v H1 R1 => ?_) q)
  refine sb.run _ σ H1 r _ _ _ R1 (sb.mono _ _ _ (fun r2 d q w H2 R2 => ?_) q)
  obtain ⟨hi, ks, ey, q3⟩ := q
  subst ey
  refine ⟨R2.pinAt, ?_⟩
  obtain ⟨u1, u2, u3⟩ := R2.unpin f0.1 f0.2
  have R2' := R2
  obtain ⟨Hi, own, R4⟩ := R2'
  have t := R4.tmp
  cases t with
  | cons t1 t2 =>
    cases t2 with
    | cons t3 t4 =>
      cases t3 with
      | tup s gk =>
        rename_i b' _
        have := ints_of (K := K) ks _ gk
        subst this
        refine ⟨b', ks, rfl, sqT_mono R4.sub s, fun u ru => ?_⟩
        have e2 : upd H2 p (.ext (RawT p [(ks, b', u)])) = upd (hide H2 p) p (.ext (RawT p [(ks, b', u)])) := by
          conv => lhs; rw [u2]
          funext c
          by_cases hc : c = p
          · rw [hc, upd_same, upd_same]
          · rw [upd_ne hc, upd_ne hc, upd_ne hc]
        rw [e2]
        refine G.nx _ _ _ (Rel.keepNew2 (x := .dt p [⟨ks, b', u, w, d⟩]) (ws := vs) (es := ds) u3 u1 hi fun Hi2 s2 t' => ?_) (q3 p [⟨ks, b', u, w, d⟩] rfl)
        cases t' with
        | cons t1' t2' =>
          cases t2' with
          | cons t3' t4' =>
            refine ⟨⟨rfl, rfl, upd_same, fun z hz => ?_⟩, t4'⟩
            obtain rfl : z = ⟨ks, b', u, w, d⟩ := by simpa using hz
            exact ⟨t3', ru, t1'⟩
end
/-! ### list(d.items()) -/
def layT : Hp → List Addr → List (V × V) → Hp
  | H, t :: ts, p :: ps => layT (upd H t (.tup [p.1, p.2])) ts ps
  | H, _, _ => H
theorem layT_off {b : Addr} : ∀ (ts : List Addr) (ps : List (V × V)) (H : Hp), b ∉ ts → layT H ts ps b = H b
  | [], _, _, _ => rfl
  | _ :: _, [], _, _ => rfl
  | a :: as, p :: kvs, H, h => by
    show layT (upd H a (.tup [p.1, p.2])) as kvs b = H b
    rw [layT_off as kvs _ (fun z => h (List.mem_cons_of_mem _ z)), upd_ne (fun z => h (by rw [z]; exact List.mem_cons_self))]
theorem upd_comm {H : Hp} {a b : Addr} {x y : HO} (h : a ≠ b) : upd (upd H a x) b y = upd (upd H b y) a x := by
  funext c
  by_cases h1 : c = a
  · subst h1
    rw [upd_ne h, upd_same, upd_same]
  · by_cases h2 : c = b
    · subst h2
      rw [upd_same, upd_ne h1, upd_same]
    · rw [upd_ne h2, upd_ne h1, upd_ne h1, upd_ne h2]
theorem layT_upd {b : Addr} {o : HO} : ∀ (ts : List Addr) (ps : List (V × V)) (H : Hp), b ∉ ts → layT (upd H b o) ts ps = upd (layT H ts ps) b o
  | [], _, _, _ => rfl
  | _ :: _, [], _, _ => rfl
  | a :: as, p :: kvs, H, h => by
    show layT (upd (upd H b o) a (.tup [p.1, p.2])) as kvs = upd (layT (upd H a (.tup [p.1, p.2])) as kvs) b o
    rw [upd_comm (fun z => h (by rw [z]; exact List.mem_cons_self)), layT_upd as kvs _ fun z => h (List.mem_cons_of_mem _ z)]
theorem layT_at : ∀ (as : List Addr) (ps : List (V × V)) (H : Hp), as.length = ps.length → as.Nodup → ∀ (j : Nat) (t : Addr), as[j]? = some t → ∃ p, ps[j]? = some p ∧ layT H as ps t = some (.tup [p.1, p.2])
  | [], _, _, _, _, _, _, h => by cases h
  | _ :: _, [], _, h, _, _, _, _ => by cases h
  | a :: as, p :: ps, H, h, hn, 0, t, e => by
    have hn' := List.nodup_cons.mp hn
    obtain rfl : a = t := Option.some.inj e
    refine ⟨p, rfl, ?_⟩
    show layT (upd H a (.tup [p.1, p.2])) as ps a = _
    rw [layT_off as ps _ hn'.1, upd_same]
  | a :: as, p :: ps, H, h, hn, j + 1, t, e => by
    obtain ⟨q, e1, e2⟩ := layT_at as ps (upd H a (.tup [p.1, p.2])) (Nat.succ.inj h) (List.nodup_cons.mp hn).2 j t e
    exact ⟨q, e1, e2⟩
section
variable {X : Cx}
theorem itemsX_laid {pins : List (Addr × Obj)} {σ : L2.St} {H : Hp} {s : Shared} {h' : Heap} {tk : Nat} {es : Array DictEntry} {ps : List (V × V)} {acc : Array Value} {c : Nat} {as : List Addr} (I : Inv X pins σ H s) (hz : es.size ≤ sizeLine)
    (hps : ps.length = es.size) (hp : ∀ (j : Nat) (hj : j < es.size) (p : V × V), ps[j]? = some p → RelV p.1 es[j].key ∧ RelV p.2 es[j].val)
    (hk : ∀ b o, s.heap.get? b = some o → h'.get? b = some o) (hS : h'.get? s.heap.objs.size = some { cls := .type "list", dict := none, data := .seq acc c, slots := #[] }) (hl : as.length = es.size) (hG : PySem.W.DilG es s.heap.objs.size h' as) (hacc : acc.toList = as.map Value.ref) :
    H s.heap.objs.size = none ∧ (∀ t ∈ as, H t = none) ∧ s.heap.objs.size ∉ as ∧ as.Nodup ∧ Inv X pins σ (upd (layT H as ps) s.heap.objs.size (.lst (as.map V.ref))) { s with heap := h', toks := tk } := by
  have hSn : s.heap.objs.size ∉ as := fun z => Nat.lt_irrefl _ (hG.above _ z)
  have nd : as.Nodup := List.Pairwise.imp (fun {a b} (h : a < b) => Nat.ne_of_lt h) hG.rise
  have new : ∀ t ∈ as, H t = none := fun t ht => I.hok.fresh (Nat.le_of_lt (hG.above t ht))
  have newS : H s.heap.objs.size = none := I.hok.fresh (Nat.le_refl _)
  have atP := layT_at as ps (upd H s.heap.objs.size (.lst (as.map V.ref))) (by omega) nd
  have off : ∀ b, b ∉ as → b ≠ s.heap.objs.size → layT (upd H s.heap.objs.size (.lst (as.map V.ref))) as ps b = H b := fun b h1 h2 => by rw [layT_off as ps _ h1, upd_ne h2]
  have low : ∀ b o, s.heap.get? b = some o → b ∉ as ∧ b ≠ s.heap.objs.size := fun b o e => ⟨fun z => absurd (Heap.lt_size e) (Nat.not_lt.mpr (Nat.le_of_lt (hG.above b z))), Nat.ne_of_lt (Heap.lt_size e)⟩
  have kp : ∀ b u, H b = some u → (layT (upd H s.heap.objs.size (.lst (as.map V.ref))) as ps) b = some u := fun b u e => by
    rw [off b (fun z => by rw [new b z] at e; cases e) (fun z => by rw [z, newS] at e; cases e)]
    exact e
  have eS : layT (upd H s.heap.objs.size (.lst (as.map V.ref))) as ps s.heap.objs.size = some (.lst (as.map V.ref)) := by rw [layT_off as ps _ hSn, upd_same]
  refine ⟨newS, new, hSn, nd, ?_⟩
  rw [← layT_upd as ps H hSn]
  refine I.call' (ch := []) rfl ⟨fun b o q _ _ _ => hk b o q, fun b o q _ _ _ => ⟨o.slots, hk b o q⟩, fun b o q n _ => ?_, fun b o q _ => ⟨o, hk b o q⟩, fun b xs q => kp b _ q, fun b o u q => kp b _ q, fun b ps q => ⟨#[], by rw [kp b _ q]; simp⟩⟩ (fun b u q => ?_) I.bare fun b z => by simp at z
  · obtain ⟨z1, z2⟩ := low b o q
    rw [off b z1 z2]
    exact n
  · by_cases hb : b ∈ as
    · obtain ⟨j, hj⟩ := List.mem_iff_getElem?.mp hb
      obtain ⟨p, e2, e3⟩ := atP j b hj
      rw [e3] at q
      cases q
      obtain ⟨hj', f3⟩ := hG.pairs j b hj
      obtain ⟨r1, r2⟩ := hp j hj' p e2
      exact ⟨by show 2 ≤ sizeLine; decide, [es[j].key, es[j].val], .cons r1 (.cons r2 .nil), ⟨_, f3, rfl, _, rfl⟩⟩
    · by_cases hb2 : b = s.heap.objs.size
      · rw [hb2] at q ⊢
        rw [eS] at q
        cases q
        refine ⟨by rw [List.length_map]; omega, acc.toList, c, by rw [hacc]; exact LiI.vals_refs as, ?_⟩
        rw [Array.toArray_toList]
        exact hS
      · rw [off b hb hb2] at q
        exact (I.hok b u q).stay (fun d v _ y => hk d v y) (fun d y => kp d _ y) fun d xs y => kp d _ y
def tListItX (K : PySem.W.Frag) (te : TE) : TE := fun σ H Q => te σ H fun x H1 => ∃ (a : Addr) (xs : XT) (vs : List V), x = .ref a ∧ H1 a = some (.ext (RawT a xs)) ∧ KeysIn K H1 xs ∧ vs.length = xs.length ∧ (∀ (j : Nat) (x : List Int × Addr × Value) (v : V), xs[j]? = some x → vs[j]? = some v → RelV v x.2.2) ∧
  ∀ (ts : List Addr) (p : Addr), ts.length = xs.length → ts.Nodup → (∀ t ∈ ts, H1 t = none) → p ∉ ts → H1 p = none → Q (.ref p) (upd (layT H1 ts ((xs.zip vs).map fun z => (V.ref z.1.2.1, z.2))) p (.lst (ts.map V.ref)))
variable {e : Expr} {te : TE} {p apos cpos pos : Pos}
/-- list(e.items()) -/
theorem pe_listItX (hc : X.calm = true) (he : PE X e te) (hg : Gl X "list") (hm : X.mg "list" = none) (hv : bootBuiltins "list" = some (.type "list")) (hbase : attributeBase e "items" X.env (eval e X.env) = eval e X.env := by rfl) (hline : (apos.endLine == cpos.line) = true := by rfl)
    (hs : starEach [.Call (.Attribute e "items" apos) [] [] cpos] X.env = (false, eval (.Call (.Attribute e "items" apos) [] [] cpos) X.env) :: starEach [] X.env := by rfl) :
    PE X (.Call (.Name "list" p) [.Call (.Attribute e "items" apos) [] [] cpos] [] pos) (tListItX X.K te) := by
  refine ⟨fun pins s σ H Q I hq => ?_⟩
  refine wpAny_Call_Name_kw (ld_blt I hg hm hv ?_)
  refine PyProof.Rows.callWith_type1 ?_ hs rfl
  rw [hs]
  show wpAny _ _ (spliced ((false, eval (.Call (.Attribute e "items" apos) [] [] cpos) X.env) :: backTo pos (starEach [] X.env))) _ _ s
  refine Calls.spliced_cons ?_
  refine wpAny_Call_method (T := "dict") (id := "dict.items") hbase rfl hline F.plainAttrs_dict F.slot_dict_items F.type_dict_items (thn (he.run pins s σ H _ I hq) fun u s1 ⟨x, H1, I1, rx, d, xs, vs, ex, hd, hki, hvl, hvr, q⟩ => ?_)
  subst ex
  obtain rfl : u = Value.ref d := rx
  have R := raw_of I1 hd
  have D := dictIn I1 R hki
  obtain ⟨o, es, ep, g1, g2, g3, g4⟩ := R.raw
  have hes : es.size = xs.length := by
    have := congrArg List.length (g4 X.prog X.w)
    rw [Array.length_toList, List.length_map] at this
    exact this
  have I2 : Inv X pins σ H1 { s1 with heap := s1.heap.push { cls := .type "dict_items", data := .fields #[.ref d] } } := I1.kept (t' := s1.toks) fun b ob q => Heap.get?_push_of_some _ q
  have hT : s1.TypeIs (.ref d) "dict" := ⟨o, g1, g2.1⟩
  refine ⟨hT, fun c z => ?_, ?_⟩
  · cases z
    exact ⟨o, g1, g2.2.1⟩
  show wpAny _ _ (callWith cpos (.builtin "dict.items") [.ref d] [] []) _ X.xe s1
  refine method_meetsIn F.slot_dict_items F.entry_dict_items rfl (PySem.evalArgs_none ⟨rfl, hT, F.args_dict_items_1 _, _, PySem.meets_dict_items_raw d R.own, ⟨⟨es, ep, o, g1, g2, g3⟩, ?_⟩⟩)
  refine Calls.spliced_nil ?_
  refine PySem.W.dil_call (es := es) (ep := ep) (I1.ok.hd hc) ⟨_, Heap.get?_push_size _ rfl, rfl, rfl⟩ ⟨o, Heap.get?_push_of_some _ g1, g2, g3⟩ (by rw [hes]; exact R.few) fun h' tk acc c as hk hS hl hG hacc => ?_
  have hps : ((xs.zip vs).map fun z => (V.ref z.1.2.1, z.2)).length = es.size := by rw [List.length_map, List.length_zip, hvl, hes, Nat.min_self]
  have rel : ∀ (j : Nat) (hj : j < es.size) (p : V × V), ((xs.zip vs).map fun z => (V.ref z.1.2.1, z.2))[j]? = some p → RelV p.1 es[j].key ∧ RelV p.2 es[j].val := fun j hj pv hpv => by
    rw [List.getElem?_map] at hpv
    cases hz : (xs.zip vs)[j]? with
    | none => rw [hz] at hpv; cases hpv
    | some z =>
      rw [hz] at hpv
      cases hpv
      obtain ⟨z1, z2⟩ := List.getElem?_zip_eq_some.mp hz
      have e2 : es.toList[j]? = some es[j] := by rw [Array.getElem?_toList, Array.getElem?_eq_getElem hj]
      rw [g4 X.prog X.w, List.getElem?_map, z1] at e2
      have e3 : entryOfKey (tupleKind (mixKind X.prog X.w)) (keyX z.1) = es[j] := Option.some.inj e2
      rw [← e3]
      exact ⟨rfl, hvr j z.1 z.2 z1 z2⟩
  obtain ⟨k2, k3, k4, k5, J⟩ := itemsX_laid (tk := tk) (ps := (xs.zip vs).map fun z => (V.ref z.1.2.1, z.2)) I2 (by rw [hes]; exact R.few) hps rel hk hS hl hG hacc
  exact ⟨.ref _, _, J, rfl, q as _ (by rw [hl, hes]) k5 k3 k4 k2⟩
end
section
variable {K : PySem.W.Frag} {F : Fx} {σ : L2.St} {ρ : Rho} {vs : List V} {ds : List D} {own : Nat → List Addr}
def pairD (x : List Int × D) : D := .tuple [.tuple (x.1.map PyData.int), x.2]
theorem RelI.lays : ∀ {ts : List Addr} {zs : List Ent} {H Hi : Hp} {pre : List V} {preD : List D}, RelI K F σ H ρ (pre ++ vs) (preD ++ ds) Hi own → pre.length = preD.length → ts.length = zs.length → ts.Nodup → (∀ t ∈ ts, H t = none) →
    (∀ z ∈ zs, Dp K Hi (.ref z.b) (.tuple (z.k.map PyData.int)) ∧ Dp K Hi z.v z.d) →
    ∃ Hi', RelI K F σ (layT H ts (zs.map fun z => (V.ref z.b, z.v))) ρ (pre ++ ts.map V.ref ++ vs) (preD ++ (zs.map Ent.kv).map pairD ++ ds) Hi' own
  | [], [], H, Hi, pre, preD, R, _, _, _, _, _ => ⟨Hi, by simpa [layT] using R⟩
  | [], _ :: _, _, _, _, _, _, _, h, _, _, _ => by cases h
  | _ :: _, [], _, _, _, _, _, _, h, _, _, _ => by cases h
  | t :: ts, z :: zs, H, Hi, pre, preD, R, hp, hl, nd, hn, hd => by
    have nd' := List.nodup_cons.mp nd
    have ht : H t = none := hn t List.mem_cons_self
    obtain ⟨d1, d2⟩ := hd z List.mem_cons_self
    have s1 : Same Hi (upd Hi t (.tup [V.ref z.b, z.v])) := same_upd (R.noSub ht)
    obtain ⟨g1, g2⟩ := dpAll_split hp R.tmp
    have R1 : RelI K F σ (upd H t (.tup [V.ref z.b, z.v])) ρ ((pre ++ [V.ref t]) ++ vs) ((preD ++ [pairD z.kv]) ++ ds) (upd Hi t (.tup [V.ref z.b, z.v])) own := by
      refine R.lay ht (dpAll_app (dpAll_app (dpAll_mono s1 _ _ g1) (.cons ?_ .nil)) (dpAll_mono s1 _ _ g2))
      exact .tup (.inl (.inl upd_same)) (.cons (dp_mono s1 _ _ d1) (.cons (dp_mono s1 _ _ d2) .nil))
    obtain ⟨Hi', R2⟩ := RelI.lays R1 (by rw [List.length_append, List.length_append, hp]; rfl) (Nat.succ.inj hl) nd'.2 (fun u hu => by
      rw [upd_ne (fun e => nd'.1 (by rw [← e]; exact hu))]
      exact hn u (List.mem_cons_of_mem _ hu)) (fun y hy => ⟨dp_mono s1 _ _ (hd y (List.mem_cons_of_mem _ hy)).1, dp_mono s1 _ _ (hd y (List.mem_cons_of_mem _ hy)).2⟩)
    refine ⟨Hi', ?_⟩
    have e1 : pre ++ (t :: ts).map V.ref ++ vs = (pre ++ [V.ref t]) ++ ts.map V.ref ++ vs := by simp
    have e2 : preD ++ ((z :: zs).map Ent.kv).map pairD ++ ds = (preD ++ [pairD z.kv]) ++ (zs.map Ent.kv).map pairD ++ ds := by simp
    rw [e1, e2]
    exact R2
def dListItX (i : Nat) : TDA := fun ρ P => ∃ p zs, ρ[i]? = some (.dt p zs) ∧ P ρ ((zs.map Ent.kv).map pairD)
theorem sf_listItX (i : Nat) : SF K (tListItX K (tVar i)) (dListItX i) := by
  refine ⟨fun ρ P P' h ⟨p, zs, e, q⟩ => ⟨p, zs, e, h _ _ q⟩, fun F σ H ρ vs ds Q R q => ?_⟩
  obtain ⟨p, zs, e, q⟩ := q
  obtain ⟨e1, hp, hk⟩ := R.dtAt e
  obtain ⟨Hi, own, R4⟩ := R
  obtain ⟨_, _, _, g⟩ := R4.slot i _ e
  refine ⟨.ref p, e1, p, _, zs.map Ent.v, rfl, hp, hk, by rw [List.length_map, List.length_map], fun j x v hx hv => ?_, fun ts l hl nd hn hnl hl0 => ?_⟩
  · rw [List.getElem?_map] at hx hv
    cases hz : zs[j]? with
    | none => rw [hz] at hx; cases hx
    | some z =>
      rw [hz] at hx hv
      cases hx
      cases hv
      exact (g z (List.mem_of_getElem? hz)).2.1
  · rw [List.length_map] at hl
    have ep : (((zs.map Ent.x).zip (zs.map Ent.v)).map fun z => (V.ref z.1.2.1, z.2)) = zs.map fun z => (V.ref z.b, z.v) := by
      rw [List.zip_map', List.map_map]
      rfl
    rw [ep]
    obtain ⟨Hi', R5⟩ := RelI.lays (pre := []) (preD := []) (zs := zs) (ts := ts) R4 rfl hl nd hn fun z hz => ⟨(g z hz).1, (g z hz).2.2⟩
    exact q _ _ _ (by rw [List.length_map, List.length_map, List.length_map]; exact hl) ⟨Hi', own, R5⟩ (by rw [layT_off _ _ _ hnl]; exact hl0)
end
end LD

/-! LD28: sorted(set(t)) of a tuple of ints. -/
namespace LD
open PySem PySem.Spec L2 PyProof.Rows
/-- set(t) -/
def rSetT (K : PySem.W.Frag) (w : World) : List V → Hp → VK → Prop := fun xs H Q => ∃ (p : Addr) (ns : List Int), xs = [.ref p] ∧ SqT K H p (ns.map V.int) ∧ ns.length ≤ 1000 ∧
  ∀ (q : Addr) (c : Nat), H q = none → c ≤ ns.length → Q (.ref q) (upd H q (SetO w q (fun j => decide (j ∈ ns)) c))
section
variable {X : Cx}
theorem cr_setT (hc : X.calm = true) : CallR X (.type "set") (rSetT X.K X.w) := by
  intro pins s σ H xs us Q I r h
  obtain ⟨p, ns, rfl, hs, hl, q⟩ := h
  rw [Vals.ref1 r]
  obtain ⟨its, rv, hp, _⟩ := I.tuple hs
  have hi : IntsAre its ns := intsAre_of rv
  refine call_set_tupI ns (I.ok.hd hc) hp (by simpa using hi) ?_ fun h' tk c R hcl hk => ?_
  · have : (1001 : Nat) < scanBound := by decide
    omega
  · have fresh : H s.heap.objs.size = none := I.hok.fresh (Nat.le_refl _)
    exact ⟨.ref _, upd H s.heap.objs.size (SetO X.w s.heap.objs.size (fun j => decide (j ∈ ns)) c), I.laid (t' := tk) hk (Nat.le_refl _) (setO_new R), rfl, q _ c fresh hcl⟩
end
section
variable {K : PySem.W.Frag} {F : Fx} {σ : L2.St} {H : Hp} {ρ : Rho} {vs : List V} {ds : List D} {w : World}
theorem Rel.unZ {p : Addr} {o : HO} (R : Rel K (F.mk1 p o) σ H ρ vs ds) : Rel K F σ H ρ vs ds := by
  obtain ⟨Hi, own, R⟩ := R
  exact ⟨Hi, own, ⟨R.base, R.sub, R.new, R.keep, R.dom, R.len, R.slot, R.free, R.held, R.nown, R.sep, R.nls, fun z hz => R.pin z (List.mem_cons_of_mem _ hz), R.tmp⟩⟩
def dSortSet (a : TD) : TDA := fun ρ P => a ρ fun r d => ∃ ns : List Int, d = .tuple (ns.map PyData.int) ∧ ns.length < 64 ∧ ∀ ms : List Int, ms.Pairwise (· < ·) → (∀ k, k ∈ ms ↔ k ∈ ns) → P r (ms.map PyData.int)
theorem sf_sortSet {te : TE} {a : TD} (sa : SE K te a) : SF K (tCB (rSortedSet w) (tCons (tCB (rSetT K w) (tCons te tNil)) tNil)) (dSortSet a) := by
  refine ⟨fun ρ P P' h q => sa.mono _ _ _ (fun _ x ⟨ns, e, h1, q⟩ => ⟨ns, e, h1, fun ms a b => h _ _ (q ms a b)⟩) q, fun F σ H ρ vs ds Q R q => ?_⟩
  refine sa.run F σ H ρ vs ds _ R (sa.mono _ _ _ (fun r1 x q v H1 R1 => ?_) q)
  obtain ⟨ns, rfl, hl, q⟩ := q
  obtain ⟨p, xs, rfl, e, s, R4⟩ := R1.asTup
  obtain rfl := ints_of (K := K) ns xs (dpAll_split e R4.dpAll).1
  refine ⟨p, ns, rfl, s, by omega, fun t c ht hc => ?_⟩
  have R5 : Rel K F σ (upd H1 t (SetO w t (fun j => decide (j ∈ ns)) c)) r1 vs ds := (R1.drop.pinNew ht).unZ
  refine ⟨t, _, c, rfl, upd_same, by omega, fun ms l hms hmem hml hfree => ?_⟩
  refine q ms hms (fun k => by rw [hmem k]; exact decide_eq_true_iff) _ _ l (by rw [List.length_map, List.length_map]) (R5.swap fun Hi h => dpAll_app (dpAll_ints ms) h) hfree
end
end LD

/-! LD29: d.get(k); drawn orders of data. -/
namespace LD
open PySem PySem.Spec L2 PyProof.Rows
/-- d.get(k) -/
def tGet1X (K : PySem.W.Frag) (td ty : TE) : TE := fun σ H Q => td σ H fun x H1 => (∃ a xs, x = .ref a ∧ H1 a = some (.ext (RawT a xs)) ∧ KeysIn K H1 xs) ∧ ty σ H1 fun y H3 =>
  ∃ a xs b k, x = .ref a ∧ y = .ref b ∧ H3 a = some (.ext (RawT a xs)) ∧ KeysIn K H3 xs ∧ SqT K H3 b (k.map V.int) ∧ (∀ c u, atX xs k = some (c, u) → ∃ v, RelV v u ∧ Q v H3) ∧ (atX xs k = none → Q .non H3)
section
variable {X : Cx} {o e : Expr} {td ty : TE} {apos cpos : Pos}
theorem pe_get1X (hu : X.A.units + 1 < cLine) (ho : PE X o td) (he : PE X e ty) (m : M1 X o "get" apos e cpos) : PE X (.Call (.Attribute o "get" apos) [e] [] cpos) (tGet1X X.K td ty) := by
  refine ⟨fun pins s σ H Q I h => ?_⟩
  refine wpAny_Call_method m.base m.few m.line PySem.F.plainAttrs_dict PySem.F.slot_dict_get PySem.F.type_dict_get (thn (ho.run pins s σ H _ I h) fun u s1 ⟨x, H1, I1, rx, q0, q1⟩ => ?_)
  obtain ⟨a, xs, ex, ha, hk⟩ := q0
  subst ex
  obtain rfl : u = Value.ref a := rx
  have D1 := dictIn I1 (raw_of I1 ha) hk
  refine ⟨D1.typeIs, fun c z => ?_, ?_⟩
  · cases z
    obtain ⟨ob, _, _, h1, h2, _⟩ := D1
    exact ⟨ob, h1, h2.2.1⟩
  rw [m.trees]
  refine Calls.callWith_builtin rfl (Calls.evalArgs_plain (Calls.spliced_cons (thn (he.run pins s1 σ H1 _ I1 q1) fun iv s3 ⟨y, H3, I3, ry, q3⟩ => Calls.spliced_nil ?_)))
  obtain ⟨a', ys, b, k, ex, ey, ha', hk', hb, q4, q5⟩ := q3
  cases ex
  subst ey
  obtain rfl : iv = Value.ref b := ry
  have R := raw_of I3 ha'
  have D := dictIn I3 R hk'
  refine call_meetsIn PySem.F.slot_dict_get D.typeIs PySem.F.entry_dict_get (PySem.F.args_dict_get_2 _ _) (meetsH_dict_get (tupleKind (mixKind X.prog X.w)) a b R.own) ⟨tupleKind_room_in1 hu, _, _, keyIn I3 hb, D, ?_⟩
  rw [atKey_X]
  cases hat : atX ys k with
  | none => exact ⟨.non, H3, I3.tok _, rfl, q5 hat⟩
  | some p =>
    obtain ⟨c, w⟩ := p
    obtain ⟨v, rv, q6⟩ := q4 c w hat
    exact ⟨v, H3, I3.tok _, rv, q6⟩
end
section
variable {K : PySem.W.Frag} {tk : TE} {k : TD}
def dGet1X (i : Nat) (k : TD) : TD := fun ρ P => (∃ p zs, ρ[i]? = some (.dt p zs)) ∧ k ρ fun r2 y => ∃ p zs ks, r2[i]? = some (.dt p zs) ∧ y = .tuple (ks.map PyData.int) ∧ P r2 ((lookD (zs.map Ent.kv) ks).getD .none)
theorem se_get1X (i : Nat) (sk : SE K tk k) : SE K (tGet1X K (tVar i) tk) (dGet1X i k) := by
  refine ⟨fun ρ P P' h ⟨q0, q⟩ => ⟨q0, sk.mono _ _ _ (fun r y ⟨p, zs, ks, e, e1, q⟩ => ⟨p, zs, ks, e, e1, h _ _ q⟩) q⟩, fun F σ H ρ vs ds Q R q => ?_⟩
  obtain ⟨⟨p, zs0, e0⟩, q⟩ := q
  obtain ⟨e1, hp0, hk0⟩ := R.dtAt e0
  refine ⟨.ref p, e1, ⟨p, _, rfl, hp0, hk0⟩, sk.run F σ H ρ vs ds _ R (sk.mono _ _ _ (fun r2 y q w H2 R2 => ?_) q)⟩
  obtain ⟨p2, zs, ks, e, ey, q3⟩ := q
  subst ey
  obtain ⟨e2, hp, hk⟩ := R2.dtAt e
  rw [e1] at e2
  cases e2
  obtain ⟨Hi, own, R4⟩ := R2
  have t := R4.tmp
  cases t with
  | cons t6 t7 =>
    cases t6 with
    | tup s gk =>
      have := ints_of (K := K) ks _ gk
      subst this
      refine ⟨p, _, _, ks, rfl, rfl, hp, hk, sqT_mono R4.sub s, fun c u hat => ?_, fun hat => ?_⟩
      · rw [look_X] at hat
        cases hz : lookE zs ks with
        | none => rw [hz] at hat; cases hat
        | some z =>
          rw [hz] at hat
          cases hat
          obtain ⟨_, _, _, g⟩ := R4.slot i _ e
          obtain ⟨_, g2, g3⟩ := g z (lookE_mem hz).1
          rw [look_D, hz] at q3
          exact ⟨z.v, g2, q3 _ _ ⟨Hi, own, R4.tmpTo (.cons g3 t7)⟩⟩
      · rw [look_X] at hat
        cases hz : lookE zs ks with
        | some z => rw [hz] at hat; cases hat
        | none =>
          rw [look_D, hz] at q3
          exact q3 _ _ ⟨Hi, own, R4.tmpTo (.cons .non t7)⟩
end
/-- some data in a drawn order -/
def g_mixD : CD := fun ds P => ∃ (es : List D) (M b k : Nat), ds = [.list es] ∧ NtL M b k es ∧ M ≤ 999999999999 ∧ k ≤ 50 ∧ es.length ≤ 1000 ∧ ∀ fs : List D, fs.Perm es → P (.list fs)
theorem g_mixD_mono : ∀ es P P', (∀ d, P d → P' d) → g_mixD es P → g_mixD es P' := fun es P P' h ⟨e, m, b, k, e1, h1, h2, h3, h4, q⟩ => ⟨e, m, b, k, e1, h1, h2, h3, h4, fun f z => h _ (q f z)⟩
theorem eqv_lnil (es : List D) : PyData.eqv (.list es) (.list []) = es.isEmpty := by
  cases es with
  | nil => simp [PyData.eqv, PyData.eqvAll]
  | cons x xs => simp [PyData.eqv, PyData.eqvAll]
end LD

/-! LD30: for k, v in d.items(): the dict is locked while it is walked. -/
namespace LD
open PySem PySem.Spec L2 PyProof.Rows
section
variable {X : Cx} {pins : List (Addr × Obj)} {σ : L2.St} {H : Hp} {s : Shared} {d : Addr} {o : Obj} {xs : XT}
/-- what is known of a locked dict -/
theorem frzX (I : Inv X pins σ H s) (h : H d = some (.frz o (.ext (RawT d xs)))) : s.heap.get? d = some o ∧ RawT d xs s.heap := by
  obtain ⟨h1, h2, _⟩ := (show ObjOk X.prog X.w H s.heap d (.frz o (.ext (RawT d xs))) from I.hok d _ h)
  exact ⟨h1, h2⟩
theorem frzX_at (P : Program) (w : World) {h : Heap} (h1 : h.get? d = some o) (R : RawT d xs h) : ∃ es ep, o.ExactDict ∧ o.data = .dict es ep ∧ h.DictRaw d es ep ∧ es.size = xs.length ∧ ∀ (i : Nat) (hi : i < es.size) x, xs[i]? = some x → es[i].key = .ref x.2.1 ∧ es[i].val = x.2.2 := by
  obtain ⟨o', es, ep, g1, g2, g3, g4⟩ := R.raw
  rw [h1] at g1
  cases g1
  have hl : es.size = xs.length := by
    have := congrArg List.length (g4 P w)
    rw [Array.length_toList, List.length_map] at this
    exact this
  refine ⟨es, ep, g2, g3, ⟨o, h1, g2, g3⟩, hl, fun i hi x hx => ?_⟩
  have e2 : es.toList[i]? = some es[i] := by rw [Array.getElem?_toList, Array.getElem?_eq_getElem hi]
  rw [g4 P w, List.getElem?_map, hx] at e2
  have e3 := Option.some.inj e2
  rw [← e3]
  exact ⟨rfl, rfl⟩
end
/-- the pairs of a locked dict, each a new tuple; vs tells the values -/
def ItX (d : Addr) (o : Obj) (xs : XT) (vs : List V) : It where
  go i H := H d = some (.frz o (.ext (RawT d xs))) ∧ ∃ x v, xs[i]? = some x ∧ vs[i]? = some v ∧ RelV v x.2.2
  yld i H w H' := ∃ T x v, xs[i]? = some x ∧ vs[i]? = some v ∧ w = .ref T ∧ H T = none ∧ H' = upd H T (.tup [.ref x.2.1, v])
  stop i H := H d = some (.frz o (.ext (RawT d xs))) ∧ xs.length ≤ i
section
variable {P : Program} {w : World} {K : PySem.W.Frag} {d : Addr} {o : Obj} {xs : XT} {vs : List V}
theorem turn_itemsX {elts : List Expr} {kk : Nat} {tpos : Pos} {n ep : Nat} {es : Array DictEntry} (it : Addr) (hod : o.data = .dict es ep) (hn : es.size = n) :
    Turn P w K (.Tuple elts kk tpos) (ItX d o xs vs) [it] it (fun i h => ∃ ok ov, IsItemIter h it d i n ep ok ov) where
  mem := List.mem_singleton.mpr rfl
  obj := fun i h st b hb => by
    obtain rfl : b = it := List.mem_singleton.mp hb
    obtain ⟨ok, ov, e⟩ := st
    exact ⟨_, e, fun v z => nomatch z⟩
  keep := fun i h h' st k => by
    obtain ⟨ok, ov, e⟩ := st
    exact ⟨ok, ov, k it (List.mem_singleton.mpr rfl) _ e⟩
  item := by
    intro X hP hw hK hc i pins s σ H E I hf st hg
    subst hP hw hK
    obtain ⟨hd, x, v, hx, hv, rv⟩ := hg
    obtain ⟨g1, R⟩ := frzX I hd
    obtain ⟨es', ep', q1, q2, q3, q4, q5⟩ := frzX_at X.prog X.w g1 R
    rw [hod] at q2
    cases q2
    obtain ⟨ok, ov, he⟩ := st
    subst hn
    have hi : i < es.size := by rw [q4]; exact (List.getElem?_eq_some_iff.mp hx).1
    obtain ⟨k1, k2⟩ := q5 i hi x hx
    have hlt : it < s.heap.objs.size := Heap.lt_size he
    refine wpAny_pyNext_items_item_raw he q3 hi fun h' ho hT _ hk => ⟨_, rfl, wpAny_letOwnedTupleGo_items (s := { s with heap := h' }) ho fun h2 he2 sb => ?_⟩
    have hT2 := (sb.2 _ (Nat.ne_of_gt hlt)).trans hT
    have rk : RelV (.ref x.2.1) es[i].key := k1
    have ru : RelV v es[i].val := by rw [k2]; exact rv
    have new : ObjOk X.prog X.w (upd H s.heap.objs.size (.tup [.ref x.2.1, v])) h2 s.heap.objs.size (.tup [.ref x.2.1, v]) :=
      ⟨by show 2 ≤ sizeLine; decide, [es[i].key, es[i].val], .cons rk (.cons ru .nil), ⟨_, hT2, rfl, _, rfl⟩⟩
    refine ⟨.ref s.heap.objs.size, _, I.turnedNew (t' := s.toks) (ch := [it]) (fun b ob hb e => (sb.2 b fun z => hb (by rw [z]; exact List.mem_singleton.mpr rfl)).trans (hk b ob (fun z => hb (by rw [z]; exact List.mem_singleton.mpr rfl)) e)) hf (Nat.le_refl _) new, rfl, ⟨_, x, v, hx, hv, rfl, I.hok.fresh (Nat.le_refl _), rfl⟩, ⟨_, _, he2⟩, fun b hb => ?_⟩
    obtain rfl : b = it := List.mem_singleton.mp hb
    rw [upd_ne (Nat.ne_of_lt hlt)]
    exact (hf b (List.mem_singleton.mpr rfl)).1
  done := by
    intro X hP hw hK hc i pins s σ H E I hf st hg
    subst hP hw hK
    obtain ⟨hd, hi⟩ := hg
    obtain ⟨f0, f1, f2, f3, f4, f5⟩ := hf it (List.mem_singleton.mpr rfl)
    obtain ⟨g1, R⟩ := frzX I hd
    obtain ⟨es', ep', q1, q2, q3, q4, q5⟩ := frzX_at X.prog X.w g1 R
    rw [hod] at q2
    cases q2
    obtain ⟨ok, ov, he⟩ := st
    subst hn
    exact wpAny_pyNext_items_end_raw (I.ok.hd hc) he q3 (by omega) fun h' eb => ⟨rfl, I.turned (t' := s.toks) (fun b ob hb e => eb b ob hb e) f0 f1 f3 f4 f5⟩
  self := fun A i s Q E st h => by
    obtain ⟨_, _, e⟩ := st
    exact PySem.W.kcp_self e h
end
/-- e.items(), e locked -/
def iItemsX (td : TE) : TI := fun σ H R => td σ H fun x H1 => ∃ d o xs vs, x = .ref d ∧ H1 d = some (.frz o (.ext (RawT d xs))) ∧ R (ItX d o xs vs) H1
theorem pi_itemsX {X : Cx} {e : Expr} {td : TE} {apos cpos tpos : Pos} {elts : List Expr} {kk : Nat} (he : PE X e td) (hbase : attributeBase e "items" X.env (eval e X.env) = eval e X.env := by rfl) (hline : (apos.endLine == cpos.line) = true := by rfl) :
    PI X (.Tuple elts kk tpos) (.Call (.Attribute e "items" apos) [] [] cpos) (iItemsX td) := by
  refine ⟨fun pins s σ H R I h => ?_⟩
  refine wpAny_Call_method (T := "dict") (id := "dict.items") hbase rfl hline F.plainAttrs_dict F.slot_dict_items F.type_dict_items (thn (he.run pins s σ H _ I h) fun u s1 ⟨x, H1, I1, rx, d, o, xs, vs, ex, hd, q⟩ => ?_)
  subst ex
  obtain rfl : u = Value.ref d := rx
  obtain ⟨g1, RR⟩ := frzX I1 hd
  obtain ⟨es, ep, q1, q2, q3, q4, q5⟩ := frzX_at X.prog X.w g1 RR
  have hT : s1.TypeIs (.ref d) "dict" := ⟨o, g1, q1.1⟩
  have I2 : Inv X pins σ H1 { s1 with heap := s1.heap.push { cls := .type "dict_items", data := .fields #[.ref d] } } := I1.kept (t' := s1.toks) fun b ob q => Heap.get?_push_of_some _ q
  refine ⟨hT, fun c z => ?_, ?_⟩
  · cases z
    exact ⟨o, g1, q1.2.1⟩
  have fin : wpAny (model X.prog X.w) X.A (pyIter (.ref s1.heap.objs.size)) (PIE X pins σ (.Tuple elts kk tpos) R) X.xe { s1 with heap := s1.heap.push { cls := .type "dict_items", data := .fields #[.ref d] } } :=
    wpAny_pyIter_items_raw (d := d) ⟨_, Heap.get?_push_size _ rfl, rfl, rfl⟩ ⟨o, Heap.get?_push_of_some _ g1, q1, q2⟩ (pi_one (tk := s1.toks) I2 _ (turn_itemsX _ q2 rfl) ⟨.none, .none, Heap.get?_push_size _ rfl⟩ q)
  show wpAny _ _ (callWith cpos (.builtin "dict.items") [.ref d] [] []) _ X.xe s1
  exact method_meetsIn F.slot_dict_items F.entry_dict_items rfl (PySem.evalArgs_none ⟨rfl, hT, F.args_dict_items_1 _, _, PySem.meets_dict_items_raw d RR.own, ⟨⟨es, ep, q3⟩, fin⟩⟩)
section
variable {K : PySem.W.Frag} {F : Fx} {σ : L2.St} {H : Hp} {ρ : Rho} {vs ws : List V} {ds es : List D}
/-- what stands at the one object of slot i is told otherwise -/
theorem Rel.reslot {i : Nat} {p : Addr} {ob : HO} {x y : DV} (R : Rel K F σ H ρ vs ds) (h : ρ[i]? = some x)
    (hx : ∀ Hi os, SlotOk K Hi H (σ[i]?.join) os x → os = [p] ∧ ∀ H', H' p = some ob → SlotOk K Hi H' (σ[i]?.join) os y) (hy : ∀ es, y ≠ .ls es) : Rel K F σ (upd H p ob) (ρ.set i y) vs ds := by
  obtain ⟨Hi, own, R⟩ := R
  obtain ⟨eo, nw⟩ := hx Hi (own i) (R.slot i x h)
  have hi : i < ρ.length := (List.getElem?_eq_some_iff.mp h).1
  have pi_ : p ∈ own i := by rw [eo]; exact List.mem_singleton.mpr rfl
  have np : Hi p = none := R.free i p pi_
  have no : ∀ j, j ≠ i → ∀ a ∈ own j, a ≠ p := fun j hj a ha z => R.sep j i hj a ha (by rw [z]; exact pi_)
  refine ⟨Hi, own, ⟨R.base, fun b x z => ?_, R.new, fun b o z hn => ?_, fun b z => ?_, by rw [List.length_set]; exact R.len, fun j x' z => ?_, R.free, fun j a ha => ?_, R.nown, R.sep, fun j es' z => ?_, fun z hz => ?_, R.tmp⟩⟩
  · rw [upd_ne (fun w => by rw [w, np] at z; cases z)]; exact R.sub b x z
  · have nb : b ≠ p := fun w => by
      rcases R.nown i p pi_ with q | q
      · rw [w, q] at z; cases z
      · exact hn (by rw [w]; exact q)
    rw [upd_ne nb]; exact R.keep b o z hn
  · by_cases hb : b = p
    · rw [hb, upd_same]; simp
    · rw [upd_ne hb]; exact R.dom b z
  · by_cases hj : j = i
    · subst hj
      rw [List.getElem?_set_self hi] at z
      cases z
      exact nw _ upd_same
    · rw [List.getElem?_set_ne (Ne.symm hj)] at z
      exact (R.slot j x' z).grow (Same.refl _) fun a ha o w => by rw [upd_ne (no j hj a ha)]; exact w
  · by_cases hap : a = p
    · rw [hap, upd_same]; simp
    · rw [upd_ne hap]; exact R.held j a ha
  · by_cases hj : j = i
    · subst hj
      rw [List.getElem?_set_self hi] at z
      exact absurd (Option.some.inj z) (hy es')
    · rw [List.getElem?_set_ne (Ne.symm hj)] at z
      exact R.nls j es' z
  · obtain ⟨z1, z2, z3⟩ := R.pin z hz
    have nz : z.1 ≠ p := fun w => z3 i (by rw [w]; exact pi_)
    exact ⟨by rw [upd_ne nz]; exact z1, z2, z3⟩
theorem Rel.lockX {i : Nat} {a : Addr} {zs : List Ent} {o : Obj} (R : Rel K F σ H ρ vs ds) (h : ρ[i]? = some (.dt a zs)) : Rel K F σ (upd H a (.frz o (.ext (RawT a (zs.map Ent.x))))) (ρ.set i (.dz a zs o)) vs ds :=
  R.reslot h (fun _ _ ⟨e1, e2, _, q⟩ => ⟨e2, fun _ hn => ⟨e1, e2, hn, q⟩⟩) fun _ z => nomatch z
theorem Rel.unlockX {i : Nat} {a : Addr} {zs : List Ent} {o : Obj} (R : Rel K F σ H ρ vs ds) (h : ρ[i]? = some (.dz a zs o)) : Rel K F σ (upd H a (.ext (RawT a (zs.map Ent.x)))) (ρ.set i (.dt a zs)) vs ds :=
  R.reslot h (fun _ _ ⟨e1, e2, _, q⟩ => ⟨e2, fun _ hn => ⟨e1, e2, hn, q⟩⟩) fun _ z => nomatch z
theorem Rel.dzAt {i : Nat} {a : Addr} {zs : List Ent} {o : Obj} (R : Rel K F σ H ρ vs ds) (h : ρ[i]? = some (.dz a zs o)) : σ[i]? = some (some (.ref a)) ∧ H a = some (.frz o (.ext (RawT a (zs.map Ent.x)))) ∧ ∀ z ∈ zs, RelV z.v z.u := by
  obtain ⟨Hi, own, R⟩ := R
  obtain ⟨e, eo, hp, q⟩ := R.slot i _ h
  refine ⟨?_, hp, fun z hz => (q z hz).2.1⟩
  cases z : σ[i]? with
  | none => rw [z] at e; cases e
  | some y => rw [z] at e; exact congrArg some e
/-- an entry's key and value are at hand -/
theorem Rel.pushZ {i : Nat} {a : Addr} {zs : List Ent} {o : Obj} {z : Ent} (R : Rel K F σ H ρ vs ds) (h : ρ[i]? = some (.dz a zs o)) (hz : z ∈ zs) : Rel K F σ H ρ ([.ref z.b, z.v] ++ vs) ([.tuple (z.k.map PyData.int), z.d] ++ ds) := by
  obtain ⟨Hi, own, R⟩ := R
  obtain ⟨_, _, _, q⟩ := R.slot i _ h
  exact ⟨Hi, own, R.tmpTo (.cons (q z hz).1 (.cons (q z hz).2.2 R.tmp))⟩
variable {g : TG} {dg : DG} {ts : TS} {t : TDS}
/-- for .. in d.items(), d the dict of slot i -/
def dForX (i : Nat) (dg : DG) (tb : TDS) : TDS := fun dn ρ => ∃ a zs, ρ[i]? = some (.dt a zs) ∧ ∀ o, ∃ I : Nat → Rho → Prop, I 0 (ρ.set i (.dz a zs o)) ∧ (∀ j r, I j r → r[i]? = some (.dz a zs o)) ∧
  (∀ j z r, zs[j]? = some z → I j r → dg (pairD z.kv) r fun r1 => tb { nx := I (j + 1), rt := fun r d => r[i]? = some (.dz a zs o) ∧ dn.rt (r.set i (.dt a zs)) d, bk := fun r => r[i]? = some (.dz a zs o) ∧ dn.nx (r.set i (.dt a zs)), ct := I (j + 1) } r1) ∧
  ∀ r, I zs.length r → dn.nx (r.set i (.dt a zs))
theorem ss_forX {js : List Nat} (i : Nat) (sg : SG K js g dg) (s : SS K ts t) : SS K (tLock (tFor (iItemsX (tVar i)) g ts)) (dForX i dg t) := by
  refine ⟨fun a b ρ h ⟨p, zs, e, q⟩ => ⟨p, zs, e, fun o => ?_⟩, fun F σ H ρ vs ds E dn G R q => ?_⟩
  · obtain ⟨I, q1, q2, q3, q4⟩ := q o
    exact ⟨I, q1, q2, fun j z r e hI => sg.mono _ _ _ _ (fun r q => s.mono { nx := I (j + 1), rt := fun r d => r[i]? = some (.dz p zs o) ∧ a.rt (r.set i (.dt p zs)) d, bk := fun r => r[i]? = some (.dz p zs o) ∧ a.nx (r.set i (.dt p zs)), ct := I (j + 1) } { nx := I (j + 1), rt := fun r d => r[i]? = some (.dz p zs o) ∧ b.rt (r.set i (.dt p zs)) d, bk := fun r => r[i]? = some (.dz p zs o) ∧ b.nx (r.set i (.dt p zs)), ct := I (j + 1) } _ ⟨fun _ z => z, fun _ _ z => ⟨z.1, h.rt _ _ z.2⟩, fun _ z => ⟨z.1, h.nx _ z.2⟩, fun _ z => z, fun _ z => z, fun _ _ z => z, ⟨rfl, fun _ _ _ z => z⟩⟩ q) (q3 j z r e hI), fun r z => h.nx _ (q4 r z)⟩
  obtain ⟨p, zs, e, q⟩ := q
  obtain ⟨e1, hp, hk⟩ := R.dtAt e
  refine ⟨p, .ext (RawT p (zs.map Ent.x)), hp, True.intro, fun o => ?_⟩
  obtain ⟨I, q1, q2, q3, q4⟩ := q o
  refine ⟨.ref p, e1, p, o, zs.map Ent.x, zs.map Ent.v, rfl, upd_same, ?_⟩
  refine ⟨fun j m σ H => ∃ r, j + m = zs.length ∧ Rel K F σ H r vs ds ∧ I j r, ⟨zs.length, _, Nat.zero_add _, R.lockX e, q1⟩, fun j m σ H hW => ?_⟩
  obtain ⟨r, em, R2, hI⟩ := hW
  obtain ⟨e2, hp2, hv2⟩ := R2.dzAt (q2 j r hI)
  by_cases hj : j < zs.length
  · right
    have hz : zs[j]? = some zs[j] := List.getElem?_eq_getElem hj
    have hzm : zs[j] ∈ zs := List.getElem_mem hj
    have hx : (zs.map Ent.x)[j]? = some zs[j].x := by rw [List.getElem?_map, hz]; rfl
    have hv : (zs.map Ent.v)[j]? = some zs[j].v := by rw [List.getElem?_map, hz]; rfl
    refine ⟨⟨hp2, _, _, hx, hv, hv2 _ hzm⟩, fun σ H => ∃ r, Rel K F σ H r vs ds ∧ I (j + 1) r, fun σ' H' ⟨r, R3, h3⟩ => ⟨m - 1, by omega, r, by omega, R3, h3⟩, fun x H' hy => ?_⟩
    obtain ⟨T, x', v', hx', hv', rfl, hT, rfl⟩ := hy
    rw [hx] at hx'
    rw [hv] at hv'
    cases hx'
    cases hv'
    have R3 : Rel K F σ (upd H T (.tup [.ref zs[j].b, zs[j].v])) r (.ref T :: vs) (pairD zs[j].kv :: ds) := (R2.pushZ (q2 j r hI) hzm).tup rfl hT
    refine sg.run F σ _ r vs ds _ _ _ R3 (sg.mono _ _ _ _ (fun r1 q σ2 H2 R4 _ => ?_) (q3 j _ r hz hI))
    refine s.run F σ2 H2 r1 vs ds _ { nx := I (j + 1), rt := fun r d => r[i]? = some (.dz p zs o) ∧ dn.rt (r.set i (.dt p zs)) d, bk := fun r => r[i]? = some (.dz p zs o) ∧ dn.nx (r.set i (.dt p zs)), ct := I (j + 1) } ⟨fun σ H ρ R q => ⟨ρ, R, q⟩, fun σ H ρ v d R q => ?_, fun σ H ρ R q => ?_, fun σ H ρ R q => ⟨ρ, R, q⟩, fun σ H ρ a l ns b R n h1 h2 ok q => q.elim, fun _ _ _ _ _ _ _ q => q.elim, fun _ _ _ _ _ _ _ _ _ q => q.elim⟩ R4 q
    · exact ⟨(R.dzAt q.1).2.1, G.rt _ _ _ _ _ (R.unlockX q.1) q.2⟩
    · exact ⟨(R.dzAt q.1).2.1, G.nx _ _ _ (R.unlockX q.1) q.2⟩
  · left
    have ej : j = zs.length := by omega
    exact ⟨⟨hp2, by rw [List.length_map]; omega⟩, hp2, G.nx _ _ _ (R2.unlockX (q2 j r hI)) (q4 r (ej ▸ hI))⟩
end
end LD

/-! LD31: {k: v for .. in d.items()} whose keys are tuples of ints. -/
namespace LD
open PySem PySem.Spec L2 PyProof.Rows
section
variable {X : Cx}
theorem dictSetX (hu : X.A.units < cLine) {pins : List (Addr × Obj)} {s : Shared} {σ : L2.St} {H : Hp} {E : Value → Shared → Prop} {a b : Addr} {xs : XT} {k : List Int} {u : Value} {Q : Unit → Shared → Prop} (I : Inv X pins σ H s) (ha : H a = some (.ext (RawT a xs))) (hk : KeysIn X.K H xs)
    (hb : SqT X.K H b (k.map V.int)) (hz : xs.length < sizeLine) (q : ∀ s', Inv X pins σ (upd H a (.ext (RawT a (putX xs k b u)))) s' → Q () s') : wpAny (model X.prog X.w) X.A (dictSet a (.ref b) u) Q E s := by
  have R := raw_of I ha
  refine wpAny_dictSet_heap (hsz := by rw [List.length_map]; exact R.few) hu (keyIn I hb) (dictIn I R hk) fun h' dd hs => q _ ?_
  rw [stored_X] at dd
  have own := R.own
  have R' : RawT a (putX xs k b u) h' := rawT_of dd (put_one R.one) (by have := put_len xs k b u; omega) own
  obtain ⟨ob, es, ep, g1, _⟩ := R'.raw
  exact d_write I (by rw [ha]; exact True.intro) hs ⟨ob, g1⟩ (show ObjOk X.prog X.w (upd H a (.ext (RawT a (putX xs k b u)))) h' a (.ext (RawT a (putX xs k b u))) from ⟨R', ⟨ob, g1⟩, fun h1 h2 => rawT_local h1 h2⟩)
/-- {k: v for target in iter}, the new dict at D -/
def tDcX (K : PySem.W.Frag) (wi : TI) (g : TG) (tk tv : TE) (js : List Nat) : TE := fun σ H Q => wi σ H fun J H1 => ∀ D, H1 D = none → ∃ W : Nat → Nat → Hp → Prop, (∃ m, W 0 m (upd H1 D (.ext (RawT D [])))) ∧ ∀ i m H, W i m H →
  (J.stop i H ∧ Q (.ref D) H) ∨ (J.go i H ∧ ∃ Nx : Hp → Prop, (∀ H', Nx H' → ∃ m', m' < m ∧ W (i + 1) m' H') ∧ ∀ x H', J.yld i H x H' → g x (L2.wipe σ js) H' fun σ2 H2 => L2.wipe σ2 js = L2.wipe σ js ∧
    tk σ2 H2 fun y H4 => tv σ2 H4 fun z H5 => ∃ xs b k, y = .ref b ∧ H5 D = some (.ext (RawT D xs)) ∧ KeysIn K H5 xs ∧ SqT K H5 b (k.map V.int) ∧ xs.length < sizeLine ∧ ∀ u, RelV z u → Nx (upd H5 D (.ext (RawT D (putX xs k b u)))))
/-- the new dict -/
theorem newX_ok {P : Program} {w : World} {H : Hp} {h : Heap} (hb : sysModules < h.objs.size) : ObjOk P w H (h.push { cls := .type "dict", data := .dict #[] }) h.objs.size (.ext (RawT h.objs.size [])) :=
  ⟨⟨⟨_, #[], 0, Heap.get?_push_size _ rfl, ⟨rfl, rfl, rfl⟩, rfl, fun _ _ => rfl⟩, List.nodup_nil, Nat.zero_le _, beq_eq_false_iff_ne.mpr (Ne.symm (Nat.ne_of_lt hb))⟩, ⟨_, Heap.get?_push_size _ rfl⟩, fun h1 h2 R k => rawT_local h1 h2 R k⟩
/-- the block's loop: τ is what the block's own names are wiped to -/
theorem dcX_loop {Y : Cx} (hxe : Y.xe = fun _ _ => False) (hu : Y.A.units < cLine) (hc : Y.calm = true) {kx vx tg iter : Expr} {scope : Scope} {pos : Pos} {g : TG} {tk tv : TE} {js : List Nat} {σ : L2.St} {H3 : Hp} {s4 : Shared} {D it : Addr} {fp : List Addr} {tn : Nat → Heap → Prop} {J : It}
    {R : Result → Shared → Prop} {Qh : Hp → Prop} (pg : PG Y tg g) (pk : PE Y kx tk) (pe : PE Y vx tv) (T : Turn Y.prog Y.w Y.K tg J fp it tn) (I4 : Inv Y [] (L2.wipe σ js) H3 s4) (st4 : tn 0 s4.heap) (n4 : ∀ b ∈ fp, H3 b = none)
    (stat : ∀ (σ' : L2.St) (H' : Hp) (s' : Shared), Inv Y [] σ' H' s' → (∀ b ∈ fp, H' b = none) → ∀ b ∈ fp, FpOk Y [] H' b) (W : Nat → Nat → Hp → Prop) (m0 : Nat) (w0 : W 0 m0 H3)
    (turn : ∀ i m H, W i m H → (J.stop i H ∧ Qh H) ∨ (J.go i H ∧ ∃ Nx : Hp → Prop, (∀ H', Nx H' → ∃ m', m' < m ∧ W (i + 1) m' H') ∧ ∀ x H', J.yld i H x H' → g x (L2.wipe σ js) H' fun σ2 H2 => L2.wipe σ2 js = L2.wipe σ js ∧
      tk σ2 H2 fun y H4 => tv σ2 H4 fun z H5 => ∃ xs b k, y = .ref b ∧ H5 D = some (.ext (RawT D xs)) ∧ KeysIn Y.K H5 xs ∧ SqT Y.K H5 b (k.map V.int) ∧ xs.length < sizeLine ∧ ∀ u, RelV z u → Nx (upd H5 D (.ext (RawT D (putX xs k b u))))))
    (fin : ∀ s' H', Inv Y [] (L2.wipe σ js) H' s' → Qh H' → R (.ok .next) s') : codeAny (model Y.prog Y.w) Y.A (.compLoop (.DictComp kx vx [⟨tg, iter, [], 0⟩] scope pos) 0 (.ref it) (.ref D) Y.env) R s4 := by
  have hF : ∀ {α : Type} {t : Sem α} {P Q : α → Shared → Prop} {E : Value → Shared → Prop} {s : Shared}, wpAny (model Y.prog Y.w) Y.A t P Y.xe s → (∀ a s, P a s → Q a s) → wpAny (model Y.prog Y.w) Y.A t Q E s := fun h k => thnF (by rw [← hxe]; exact h) k
  refine compLoop_anyD (fun n s' => ∃ i H', Inv Y [] (L2.wipe σ js) H' s' ∧ tn i s'.heap ∧ (∀ b ∈ fp, H' b = none) ∧ W i n H') (fun n s5 ⟨i, H5, I5, st5, n5, w5⟩ => ?_) m0 ⟨0, H3, I4, st4, n4, w0⟩
  rcases turn i n H5 w5 with ⟨stop, qq⟩ | ⟨go, Nx, hNx, step⟩
  · refine thnF (T.done Y rfl rfl rfl hc i [] s5 _ H5 (fun _ _ => False) I5 (stat _ _ _ I5 n5) st5 stop) fun r s6 ⟨hr, I6⟩ => ?_
    subst hr
    exact fin s6 H5 I6 qq
  refine thnF (T.item Y rfl rfl rfl hc i [] s5 _ H5 (fun _ _ => False) I5 (stat _ _ _ I5 n5) st5 go) fun r s6 ⟨u, hr, h6⟩ => ?_
  subst hr
  refine thnF h6 fun _ s7 ⟨x, H7, I7, r7, y7, st7, n7⟩ => ?_
  refine hF (pg.run _ s7 _ H7 x u _ (I7.pinned (stat _ _ _ I7 n7) (T.obj _ _ st7)) r7 (step x H7 y7)) fun _ s8 ⟨σ8, H8, I8, hw8, q8⟩ => ?_
  refine wpAny_pure ?_
  rw [if_pos rfl]
  refine hF (pk.run _ s8 σ8 H8 _ I8 q8) fun kv s9 ⟨yk, H9, I9, r9, q9⟩ => ?_
  refine hF (pe.run _ s9 σ8 H9 _ I9 q9) fun vv s10 ⟨yv, H10, I10, r10, xs, b, k, ey, hD, hk, hb, hz, nx⟩ => ?_
  subst ey
  obtain rfl : kv = Value.ref b := r9
  refine dictSetX hu I10 hD hk hb hz fun s11 I11 => ?_
  obtain ⟨m', hm, w'⟩ := hNx _ (nx vv r10)
  have old : ∀ c ∈ fp, ∀ o, s7.heap.get? c = some o → s11.heap.get? c = some o ∧ upd H10 D (.ext (RawT D (putX xs k b vv))) c = none := fun c hc o e => by
    have := I11.pin (c, o) (List.mem_append_right _ (List.mem_append_right _ (mem_pinsAt hc e)))
    exact ⟨this.1, this.2.1⟩
  refine ⟨m', hm, i + 1, _, (I11.unpinned (pins := [])).weak (by rw [← hw8, wipe_length]) (fun j v e => ?_), T.keep _ _ _ st7 fun c hc o e => (old c hc o e).1, fun c hc => ?_, w'⟩
  · rw [← hw8] at e
    exact (wipe_some e).1
  · obtain ⟨o, e, _⟩ := T.obj _ _ st7 c hc
    exact (old c hc o e).2
theorem dcX_core (hu : X.A.units < cLine) {kx vx tg iter : Expr} {scope : Scope} {own : List (Str × Nat)} {pos pos' : Pos} {wi : TI} {g : TG} {tk tv : TE} (hc : X.calm = true) (hN : X.N.Nodup) (hi : PI X tg iter wi) (ok : BlkOk X.N X.env.scope scope own)
    (hg : ∀ (s : Shared) (H : Hp) (C : Addr) (cl : List (Str × Addr)) (fp : List Addr), PG (X.blk s H scope (compEnvC scope cl C X.env) fp) tg g)
    (hk : ∀ (s : Shared) (H : Hp) (C : Addr) (cl : List (Str × Addr)) (fp : List Addr), PE (X.blk s H scope (compEnvC scope cl C X.env) fp) kx tk)
    (he : ∀ (s : Shared) (H : Hp) (C : Addr) (cl : List (Str × Addr)) (fp : List Addr), PE (X.blk s H scope (compEnvC scope cl C X.env) fp) vx tv) (hs : ∀ x, foldedSetIterable iter X.env x = pure x)
    {pins : List (Addr × Obj)} {s : Shared} {σ : L2.St} {H : Hp} {Q : VK} {use : Option (Value → Sem Unit)} {Qf : Value → Shared → Prop} (I : Inv X pins σ H s) (h : tDcX X.K wi g tk tv (own.map (·.2)) σ H Q)
    (hRR : ∀ D C s' m H', Inv X pins σ H' s' → Q (.ref D) H' → s'.heap.Ns C m → FpOk X pins H' C → compPost (model X.prog X.w) X.A X.xe use Qf (.ref D) C (.ok .next) s') :
    wpAny (model X.prog X.w) X.A (comprehension (.DictComp kx vx [⟨tg, iter, [], 0⟩] scope pos) scope X.env pos' newDict false (eval iter X.env) use) Qf X.xe s := by
  have hfree : ∀ y ∈ scope.names, y.2 = .free → ∃ c, X.env.cells.lookup y.1 = some c := fun y hy e => (ok.free y hy e).elim (fun k => I.ok.has _ (.inl k)) fun k => I.ok.has _ (.inr k)
  refine wpAny_comprehension_free (use := use) rfl hs (closure_ok hfree) ok.kind (fun y hy e => by rw [ok.uniq y hy, e]) (thn (hi.run pins s σ H _ I h) fun _ _ hx => thn hx fun _ s2 ⟨it, fp, tn, J, H2, e, I2, T, st2, f2, q⟩ => ?_)
  subst e
  refine wpAny_newObj_type (newEnv_comp ?_)
  obtain ⟨W, ⟨m0, w0⟩, turn⟩ := q _ (I2.hok.fresh (Nat.le_refl _))
  have nw := newX_ok (P := X.prog) (w := X.w) (H := upd H2 s2.heap.objs.size (.ext (RawT s2.heap.objs.size []))) I2.big
  have lt2 : ∀ b ∈ fp, b < s2.heap.objs.size := fun b hb => by
    obtain ⟨_, e, _⟩ := T.obj _ _ st2 b hb
    exact Heap.lt_size e
  have z2 : ∀ b ∈ fp, upd H2 s2.heap.objs.size (.ext (RawT s2.heap.objs.size [])) b = none := fun b hb => by
    rw [upd_ne (Nat.ne_of_lt (lt2 b hb))]
    exact (f2 b hb).1
  have I3 : Inv X pins σ (upd H2 s2.heap.objs.size (.ext (RawT s2.heap.objs.size []))) { s2 with heap := s2.heap.push { cls := .type "dict", data := .dict #[] } } := I2.laid (t' := s2.toks) (fun b o e => Heap.get?_push_of_some _ e) (Nat.le_refl _) nw
  have sz3 : ∀ b ∈ fp, b < (s2.heap.push { cls := .type "dict", data := .dict #[] }).objs.size := fun b hb => by
    rw [Heap.size_push]
    exact Nat.lt_succ_of_lt (lt2 b hb)
  have st3 : tn 0 (s2.heap.push { cls := .type "dict", data := .dict #[] }) := T.keep _ _ _ st2 fun b _ o e => Heap.get?_push_of_some _ e
  generalize s2.heap.objs.size = D at w0 turn z2 I3 ⊢
  have f3 : ∀ b ∈ fp, FpOk X pins (upd H2 D (.ext (RawT D []))) b ∧ b < (s2.heap.push { cls := .type "dict", data := .dict #[] }).objs.size := fun b hb => ⟨⟨z2 b hb, (f2 b hb).2⟩, sz3 b hb⟩
  have I4 := block_start I3 ok hN f3
  have st4 : tn 0 (pushCells ((s2.heap.push { cls := .type "dict", data := .dict #[] }).push { cls := .type "dict", data := .dict #[] }) scope.names) := T.keep _ _ _ st3 fun b _ o e => pushCells_keeps _ _ _ _ (Heap.get?_push_of_some _ e)
  have loop := dcX_loop (Y := X.blk { s2 with heap := s2.heap.push { cls := .type "dict", data := .dict #[] } } (upd H2 D (.ext (RawT D []))) scope (compEnvC scope (cellsFrom ((s2.heap.push { cls := .type "dict", data := .dict #[] }).objs.size + 1) scope.names (cloFrom X.env.cells scope.names [])) (s2.heap.push { cls := .type "dict", data := .dict #[] }).objs.size X.env) fp)
    (scope := scope) (pos := pos) (iter := iter) (Qh := fun H' => Q (.ref D) H')
    (R := compPost (model X.prog X.w) X.A X.xe use Qf (.ref D) (s2.heap.push { cls := .type "dict", data := .dict #[] }).objs.size)
    rfl hu hc (hg _ _ _ _ _) (hk _ _ _ _ _) (he _ _ _ _ _) T I4 st4 z2
    (fun σ' H' s' I' hn b hb => ⟨hn b hb, (I'.ok.exf b hb).1, I'.ok.exfs b hb, .inl hb, fun x c e => (I'.ok.exf b hb).2 x c e, fun p hp => absurd (show p ∈ ([] : List (Addr × Obj)) ++ [] from hp) (by simp)⟩)
    W m0 w0 turn (fun s' H' I6 qq => ?_)
  · exact codeAny_compStart_dict loop (T.self X.A 0 _ _ _ st4 loop)
  have I7 : Inv X pins σ H' s' := I3.call' (ch := fp) I6.os I6.base I6.hok I6.bare fun b hb => ⟨(f3 b hb).1.2.2.2.1, (f3 b hb).1.2.1, (f3 b hb).1.2.2.2.2.1, (f3 b hb).1.2.2.2.2.2⟩
  have nC : H' (s2.heap.push { cls := .type "dict", data := .dict #[] }).objs.size = none := I6.free
  obtain ⟨m, hn, _⟩ := I6.loc
  exact hRR D _ s' m H' I7 qq hn (I3.fpOk (Nat.le_refl _) nC)
theorem pe_dcX (hu : X.A.units < cLine) {kx vx tg iter : Expr} {scope : Scope} {own : List (Str × Nat)} {pos : Pos} {wi : TI} {g : TG} {tk tv : TE} (hc : X.calm = true) (hN : X.N.Nodup) (hi : PI X tg iter wi) (ok : BlkOk X.N X.env.scope scope own)
    (hg : ∀ (s : Shared) (H : Hp) (C : Addr) (cl : List (Str × Addr)) (fp : List Addr), PG (X.blk s H scope (compEnvC scope cl C X.env) fp) tg g)
    (hk : ∀ (s : Shared) (H : Hp) (C : Addr) (cl : List (Str × Addr)) (fp : List Addr), PE (X.blk s H scope (compEnvC scope cl C X.env) fp) kx tk)
    (he : ∀ (s : Shared) (H : Hp) (C : Addr) (cl : List (Str × Addr)) (fp : List Addr), PE (X.blk s H scope (compEnvC scope cl C X.env) fp) vx tv) (hs : ∀ x, foldedSetIterable iter X.env x = pure x := by intro _; rfl) :
    PE X (.DictComp kx vx [⟨tg, iter, [], 0⟩] scope pos) (tDcX X.K wi g tk tv (own.map (·.2))) := by
  refine ⟨fun pins s σ H Q I h => ?_⟩
  rw [arm_eval_DictComp]
  refine dcX_core hu hc hN hi ok hg hk he hs I h fun D C s' m H' I' q hn f => ?_
  obtain ⟨e0, e1, e2, e3, e4, e5⟩ := f
  exact ⟨m, hn, fun h'' sb => ⟨.ref D, H', I'.turned (t' := s'.toks) (fun b o hb e => (sb.2 b hb).trans e) e0 e1 e3 e4 e5, rfl, q⟩⟩
/-- name = {..} on one line, the name a local -/
theorem ps_setDcX (hu : X.A.units < cLine) {i : Nat} {y : Str} {py spos : Pos} {kx vx tg iter : Expr} {scope : Scope} {own : List (Str × Nat)} {pos : Pos} {wi : TI} {g : TG} {tk tv : TE} (hc : X.calm = true) (hN : X.N.Nodup) (hy : X.N[i]? = some y) (hyl : X.env.scope.names.lookup y = some .local) (hsw : swapsWith (.DictComp kx vx [⟨tg, iter, [], 0⟩] scope pos) (some (.Name y py)) spos.line X.env = pure true) (hi : PI X tg iter wi) (ok : BlkOk X.N X.env.scope scope own)
    (hg : ∀ (s : Shared) (H : Hp) (C : Addr) (cl : List (Str × Addr)) (fp : List Addr), PG (X.blk s H scope (compEnvC scope cl C X.env) fp) tg g)
    (hk : ∀ (s : Shared) (H : Hp) (C : Addr) (cl : List (Str × Addr)) (fp : List Addr), PE (X.blk s H scope (compEnvC scope cl C X.env) fp) kx tk)
    (he : ∀ (s : Shared) (H : Hp) (C : Addr) (cl : List (Str × Addr)) (fp : List Addr), PE (X.blk s H scope (compEnvC scope cl C X.env) fp) vx tv) (hs : ∀ x, foldedSetIterable iter X.env x = pure x := by intro _; rfl) :
    PS X (.Assign [.Name y py] (.DictComp kx vx [⟨tg, iter, [], 0⟩] scope pos) spos) (tAsg (tDcX X.K wi g tk tv (own.map (·.2))) (gName i)) := by
  refine ⟨fun pins s σ H D I h => ?_⟩
  rw [exec_Assign_Name_used _ _ _ _ hsw]
  refine wpAny_bind (wpAny_standAt (wpAny_bind ?_))
  show wpAny _ X.A (do let _ ← comprehension (.DictComp kx vx [⟨tg, iter, [], 0⟩] scope pos) scope X.env (firstIterPos [⟨tg, iter, [], 0⟩] pos) newDict false (eval iter X.env) (some (assign (.Name y py) X.env))) _ _ s
  have h : tDcX X.K wi g tk tv (own.map (·.2)) σ H (fun x H1 => gName i x σ H1 D.nx) := h
  refine wpAny_bind (thn (dcX_core (Qf := fun _ s' => SP X pins D .next s') hu hc hN hi ok hg hk he hs I h fun L C s' m H' I' q hn f => ?_) fun _ s' hq => wpAny_pure (wpAny_pure hq))
  show wpAny _ _ (assign (.Name y py) X.env (.ref L)) _ _ _
  refine wpAny_assign_Name (store_ok2 (v := V.ref L) I' hN hy (.inl hyl) rfl (fun s2 I2 ⟨a, sb, ha⟩ => ?_) (.inr hyl))
  obtain ⟨f0, f1, f2, f3, f4, f5⟩ := f
  have haC : C ≠ a := by
    rcases ha with z | z
    · rw [z]; exact f1
    · exact fun e => f4 y a z e.symm
  exact ⟨m, hn.sameBut sb haC, fun h3 sb3 => ⟨_, H', I2.turned (t' := s2.toks) (fun b o hb e => (sb3.2 b hb).trans e) f0 f1 f3 f4 f5, q⟩⟩
theorem swD_true {kx vx : Expr} {gs : List Comprehension} {scope : Scope} {pos py : Pos} {y : Str} {l : Nat} {env : Env} (hk : env.scope.kind = .function) (hy : env.scope.names.lookup y = some .local) (hl : (py.line == pos.line) = true)
    (ha : (scope.names.any fun (n, k) => n == y && (k == .local || k == .cell)) = false) : swapsWith (.DictComp kx vx gs scope pos) (some (.Name y py)) l env = pure true := by
  have ky : env.kindOf y = some .local := hy
  have hb : env.blockKind = .function := by unfold Env.blockKind; rw [hk]; rfl
  unfold swapsWith
  simp only [hb, ky, ha, Expr.pos, hl]
  rfl
end
/-! over data -/
section
variable {K : PySem.W.Frag} {F : Fx} {σ : L2.St} {H : Hp} {ρ : Rho} {vs : List V} {ds : List D}
def tmpV (zs : List Ent) : List V := zs.flatMap fun z => [.ref z.b, z.v]
def tmpD (zs : List Ent) : List D := zs.flatMap fun z => [.tuple (z.k.map PyData.int), z.d]
theorem tmp_len (zs : List Ent) : (tmpV zs).length = (tmpD zs).length := by
  induction zs with
  | nil => rfl
  | cons z zs ih =>
    show (tmpV zs).length + 1 + 1 = (tmpD zs).length + 1 + 1
    rw [ih]
theorem tmp_of {H : Hp} : ∀ {zs : List Ent}, DpAll K H (tmpV zs) (tmpD zs) → ∀ z ∈ zs, Dp K H (.ref z.b) (.tuple (z.k.map PyData.int)) ∧ Dp K H z.v z.d
  | [], _, _, h => by cases h
  | z :: zs, h, y, hy => by
    have h : DpAll K H (.ref z.b :: z.v :: tmpV zs) (.tuple (z.k.map PyData.int) :: z.d :: tmpD zs) := h
    cases h with
    | cons a h =>
      cases h with
      | cons b h =>
        rcases List.mem_cons.mp hy with rfl | hy
        · exact ⟨a, b⟩
        · exact tmp_of h y hy
theorem tmp_mk {H : Hp} : ∀ {zs : List Ent}, (∀ z ∈ zs, Dp K H (.ref z.b) (.tuple (z.k.map PyData.int)) ∧ Dp K H z.v z.d) → DpAll K H (tmpV zs) (tmpD zs)
  | [], _ => .nil
  | z :: zs, h => .cons (h z List.mem_cons_self).1 (.cons (h z List.mem_cons_self).2 (tmp_mk fun y hy => h y (List.mem_cons_of_mem _ hy)))
theorem putE_mem {zs : List Ent} {k : List Int} {b : Addr} {u : Value} {v : V} {d : D} {z : Ent} (hz : z ∈ putE zs k b u v d) : z ∈ zs ∨ ((z.k = k) ∧ (z.b = b ∨ ∃ z0 ∈ zs, z0.k = k ∧ z.b = z0.b) ∧ z.u = u ∧ z.v = v ∧ z.d = d) := by
  unfold putE at hz
  split at hz
  · obtain ⟨z0, hz0, rfl⟩ := List.mem_map.mp hz
    by_cases hc : z0.k = k
    · rw [if_pos hc]
      exact .inr ⟨hc, .inr ⟨z0, hz0, hc, rfl⟩, rfl, rfl, rfl⟩
    · rw [if_neg hc]
      exact .inl hz0
  · rcases List.mem_append.mp hz with hz | hz
    · exact .inl hz
    · obtain rfl : z = ⟨k, b, u, v, d⟩ := by simpa using hz
      exact .inr ⟨rfl, .inl rfl, rfl, rfl, rfl⟩
theorem putE_len (zs : List Ent) (k : List Int) (b : Addr) (u : Value) (v : V) (d : D) : (putE zs k b u v d).length ≤ zs.length + 1 := by
  unfold putE
  split
  · rw [List.length_map]; omega
  · rw [List.length_append]; exact Nat.le_refl _
/-- pairs are walked, a dict is made -/
def dcW (Kp : Rho → Prop) (f : D → Rho → (Rho → List Int → D → Prop) → Prop) (js : List Nat) : List D → Rho → List (List Int × D) → (Rho → List (List Int × D) → Prop) → Prop
  | [], ρ, acc, P => Kp ρ ∧ P ρ acc
  | d :: r, ρ, acc, P => Kp ρ ∧ f d ρ fun ρ1 ks x => dcW Kp f js r (wipeR ρ1 js) (putD acc ks x) P
theorem dcW_mono {Kp : Rho → Prop} {f : D → Rho → (Rho → List Int → D → Prop) → Prop} {js : List Nat} (hf : ∀ d ρ k k', (∀ r y x, k r y x → k' r y x) → f d ρ k → f d ρ k') : ∀ {items : List D} {ρ : Rho} {acc : List (List Int × D)} {P P' : Rho → List (List Int × D) → Prop}, (∀ r d, P r d → P' r d) → dcW Kp f js items ρ acc P → dcW Kp f js items ρ acc P'
  | [], _, _, _, _, h, q => ⟨q.1, h _ _ q.2⟩
  | d :: r, ρ, acc, P, P', h, q => ⟨q.1, hf _ _ _ _ (fun r1 y x q => dcW_mono hf h q) q.2⟩
theorem dcW_kp {Kp : Rho → Prop} {f : D → Rho → (Rho → List Int → D → Prop) → Prop} {js : List Nat} {items : List D} {ρ : Rho} {acc : List (List Int × D)} {P : Rho → List (List Int × D) → Prop} (h : dcW Kp f js items ρ acc P) : Kp ρ := by
  cases items with
  | nil => exact h.1
  | cons d r => exact h.1
/-- each pair tells one entry -/
theorem dcW_det {Kp : Rho → Prop} {f : D → Rho → (Rho → List Int → D → Prop) → Prop} {js : List Nat} {ρ : Rho} (key : D → List Int) (val : D → D) (hkp : Kp ρ) : ∀ {items : List D} {acc : List (List Int × D)} {P : Rho → List (List Int × D) → Prop}, (∀ d ∈ items, ∀ k : Rho → List Int → D → Prop, (∀ r, wipeR r js = ρ → k r (key d) (val d)) → f d ρ k) →
    P ρ (items.foldl (fun a d => putD a (key d) (val d)) acc) → dcW Kp f js items ρ acc P
  | [], acc, P, _, q => ⟨hkp, q⟩
  | d :: r, acc, P, hf, q => ⟨hkp, hf d List.mem_cons_self _ fun r1 e => by
    rw [e]
    exact dcW_det key val hkp (fun d hd => hf d (List.mem_cons_of_mem _ hd)) q⟩
def dcF (dg : DG) (dk dv : TD) : D → Rho → (Rho → List Int → D → Prop) → Prop := fun d r k => dg d r fun r1 => dk r1 fun r2 y => dv r2 fun r3 x => ∃ ks, y = .tuple (ks.map PyData.int) ∧ k r3 ks x
variable {g : TG} {dg : DG} {tk tv : TE} {dk dv : TD}
/-- x = {k: v for .. in d.items()}: x slot i, d the dict of slot j -/
def dDcX (i j : Nat) (dg : DG) (dk dv : TD) (js : List Nat) : TDS := fun dn ρ => ∃ a zs, ρ[j]? = some (.dt a zs) ∧ i < ρ.length ∧ (∀ x ∈ js, ρ[x]? = some .no) ∧ zs.length ≤ sizeLine ∧ ∀ o,
  dcW (fun r => r[j]? = some (.dz a zs o)) (dcF dg dk dv) js (zs.map fun z => pairD z.kv) (ρ.set j (.dz a zs o)) [] fun r kvs => i < r.length ∧ ∀ p zs', zs'.map Ent.kv = kvs → dn.nx ((r.set j (.dt a zs)).set i (.dt p zs'))
theorem wipe_no {js : List Nat} {ρ : Rho} (h : ∀ j ∈ js, ρ[j]? = some .no) : wipeR ρ js = ρ := by
  refine List.ext_getElem? fun j => ?_
  by_cases hj : j ∈ js
  · rw [h j hj]
    cases e : (wipeR ρ js)[j]? with
    | none =>
      have h1 := List.getElem?_eq_none_iff.mp e
      rw [wipeR_len] at h1
      have h2 := (List.getElem?_eq_some_iff.mp (h j hj)).1
      omega
    | some x => rw [wipeR_in hj e]
  · exact wipeR_out hj
theorem dcF_mono {jg : List Nat} (sg : SG K jg g dg) (sk : SE K tk dk) (sv : SE K tv dv) : ∀ d ρ k k', (∀ r y x, k r y x → k' r y x) → dcF dg dk dv d ρ k → dcF dg dk dv d ρ k' := by
  intro d ρ k k' hk q
  refine sg.mono _ _ _ _ (fun r1 q => sk.mono _ _ _ (fun r2 y q => sv.mono _ _ _ (fun r3 x q => ?_) q) q) q
  obtain ⟨ks, e, q⟩ := q
  exact ⟨ks, e, hk _ _ _ q⟩
theorem ss_dcX {i j : Nat} {js jg : List Nat} (sg : SG K jg g dg) (sk : SE K tk dk) (sv : SE K tv dv) (hj : ∀ j ∈ jg, j ∈ js := by decide) : SS K (tLock (tAsg (tDcX K (iItemsX (tVar j)) g tk tv js) (gName i))) (dDcX i j dg dk dv js) := by
  refine ⟨fun a b ρ h ⟨p, zs, e, h1, h2, h3, q⟩ => ⟨p, zs, e, h1, h2, h3, fun o => dcW_mono (dcF_mono sg sk sv) (fun r d q => ⟨q.1, fun p zs' hz => h.nx _ (q.2 p zs' hz)⟩) (q o)⟩, fun F σ H ρ vs ds E dn G R q => ?_⟩
  obtain ⟨a, zs, e, hi, hno, hzl, qo⟩ := q
  obtain ⟨e1, hp, hk⟩ := R.dtAt e
  refine ⟨a, .ext (RawT a (zs.map Ent.x)), hp, True.intro, fun o => ?_⟩
  have q := qo o
  have R1 := R.lockX (o := o) e
  have nj : ∀ x ∈ js, x ≠ j := fun x hx z => by
    have := hno x hx
    rw [z, e] at this
    cases this
  have hno1 : ∀ x ∈ js, (ρ.set j (.dz a zs o))[x]? = some .no := fun x hx => by
    rw [List.getElem?_set_ne (Ne.symm (nj x hx))]
    exact hno x hx
  refine ⟨.ref a, e1, a, o, zs.map Ent.x, zs.map Ent.v, rfl, upd_same, fun D hD => ?_⟩
  have f0 := R1.pinFree hD
  have hlen : (zs.map fun z : Ent => pairD z.kv).length = zs.length := List.length_map ..
  refine ⟨fun n m H2 => ∃ (ρ1 : Rho) (acc : List Ent), n + m = zs.length ∧ acc.length ≤ n ∧ (∀ z ∈ acc, RelV z.v z.u) ∧ (∀ x y, x ∈ js → ρ1[x]? = some y → y = .no) ∧ Rel K (F.mk1 D (.ext (RawT D (acc.map Ent.x)))) (L2.wipe σ js) H2 ρ1 (tmpV acc ++ vs) (tmpD acc ++ ds) ∧
    dcW (fun r => r[j]? = some (.dz a zs o)) (dcF dg dk dv) js ((zs.map fun z : Ent => pairD z.kv).drop n) ρ1 (acc.map Ent.kv) fun r kvs => i < r.length ∧ ∀ (p : Addr) (zs' : List Ent), zs'.map Ent.kv = kvs → dn.nx ((r.set j (.dt a zs)).set i (.dt p zs')), ⟨zs.length, ρ.set j (.dz a zs o), [], Nat.zero_add _, Nat.zero_le _, (fun z hz => by cases hz), fun x y hx hy => ?_, ?_, q⟩, fun n m H2 hW => ?_⟩
  · rw [hno1 x hx] at hy
    exact (Option.some.inj hy).symm
  · have R2 := (R1.pinNew (o := .ext (RawT D [])) hD).wipe (js := js)
    rw [wipe_no hno1] at R2
    exact R2
  obtain ⟨ρ1, acc, em, hl, hrv, hn, R2, q4⟩ := hW
  have kp := dcW_kp q4
  obtain ⟨e2, hp2, hv2⟩ := R2.dzAt kp
  by_cases hlt : n < zs.length
  · right
    have hz : zs[n]? = some zs[n] := List.getElem?_eq_getElem hlt
    have hzm : zs[n] ∈ zs := List.getElem_mem hlt
    have hx : (zs.map Ent.x)[n]? = some zs[n].x := by rw [List.getElem?_map, hz]; rfl
    have hv : (zs.map Ent.v)[n]? = some zs[n].v := by rw [List.getElem?_map, hz]; rfl
    rw [List.drop_eq_getElem_cons (by rw [hlen]; exact hlt), List.getElem_map] at q4
    obtain ⟨_, q4⟩ := q4
    refine ⟨⟨hp2, _, _, hx, hv, hv2 _ hzm⟩, fun H2 => ∃ (ρ1 : Rho) (acc : List Ent), (n + 1) + (m - 1) = zs.length ∧ acc.length ≤ n + 1 ∧ (∀ z ∈ acc, RelV z.v z.u) ∧ (∀ x y, x ∈ js → ρ1[x]? = some y → y = .no) ∧ Rel K (F.mk1 D (.ext (RawT D (acc.map Ent.x)))) (L2.wipe σ js) H2 ρ1 (tmpV acc ++ vs) (tmpD acc ++ ds) ∧
      dcW (fun r => r[j]? = some (.dz a zs o)) (dcF dg dk dv) js ((zs.map fun z : Ent => pairD z.kv).drop (n + 1)) ρ1 (acc.map Ent.kv) fun r kvs => i < r.length ∧ ∀ (p : Addr) (zs' : List Ent), zs'.map Ent.kv = kvs → dn.nx ((r.set j (.dt a zs)).set i (.dt p zs')), fun H' h' => ⟨m - 1, by omega, h'⟩, fun x H' hy => ?_⟩
    obtain ⟨T, x', v', hx', hv', rfl, hT, rfl⟩ := hy
    rw [hx] at hx'
    rw [hv] at hv'
    cases hx'
    cases hv'
    have R3 : Rel K (F.mk1 D (.ext (RawT D (acc.map Ent.x)))) (L2.wipe σ js) (upd H2 T (.tup [.ref zs[n].b, zs[n].v])) ρ1 (.ref T :: (tmpV acc ++ vs)) (pairD zs[n].kv :: (tmpD acc ++ ds)) := (R2.pushZ kp hzm).tup rfl hT
    refine sg.run _ _ _ ρ1 _ _ _ _ _ R3 (sg.mono _ _ _ _ (fun r1 q σ2 H3 R4 A => ?_) q4)
    have ew2 : L2.wipe σ2 js = L2.wipe σ js := by
      have e1 : L2.wipe σ2 js = L2.wipe (L2.wipe σ js) js := wipe_eq A.1 fun j hjn => A.2.1 j fun z => hjn (hj j z)
      rw [e1]
      exact wipe_eq (wipe_length ..) fun j hjn => wipe_out hjn
    refine ⟨ew2, sk.run _ σ2 H3 r1 _ _ _ R4 (sk.mono _ _ _ (fun r2 y q yv H4 R5 => ?_) q)⟩
    refine sv.run _ σ2 H4 r2 _ _ _ R5 (sv.mono _ _ _ (fun r3 x q xv H5 R6 => ?_) q)
    obtain ⟨ks, ey, q7⟩ := q
    subst ey
    obtain ⟨b, rfl, hb, hkeys⟩ : ∃ b, yv = .ref b ∧ SqT K H5 b (ks.map V.int) ∧ KeysIn K H5 (acc.map Ent.x) := by
      obtain ⟨Hi, own, R7⟩ := R6
      have t := R7.tmp
      cases t with
      | cons t1 t2 =>
        cases t2 with
        | cons t3 t4 =>
          cases t3 with
          | tup s gk =>
            have := ints_of (K := K) ks _ gk
            subst this
            refine ⟨_, rfl, sqT_mono R7.sub s, fun x hx => ?_⟩
            obtain ⟨z, hz, rfl⟩ := List.mem_map.mp hx
            have h1 := (tmp_of (dpAll_split (tmp_len acc) t4).1 z hz).1
            cases h1 with
            | tup s2 g2 =>
              have := ints_of (K := K) z.k _ g2
              subst this
              exact sqT_mono R7.sub s2
    refine ⟨acc.map Ent.x, b, ks, rfl, R6.pinAt, hkeys, hb, by rw [List.length_map]; omega, fun u ru => ?_⟩
    rw [← put_X acc ks b u xv x]
    have pl := putE_len acc ks b u xv x
    refine ⟨wipeR r3 js, putE acc ks b u xv x, by omega, by omega, fun z hz => ?_, fun x y hx hy => wipeR_in hx hy, ?_, ?_⟩
    · rcases putE_mem hz with h | ⟨_, _, h3, h4, _⟩
      · exact hrv z h
      · rw [h3, h4]; exact ru
    · have R8 := (R6.repin (o' := .ext (RawT D ((putE acc ks b u xv x).map Ent.x))) f0.1 f0.2).wipe (js := js)
      rw [ew2] at R8
      refine R8.swap fun Hi t => ?_
      cases t with
      | cons t1 t2 =>
        cases t2 with
        | cons t3 t4 =>
          obtain ⟨t5, t6⟩ := dpAll_split (tmp_len acc) t4
          refine dpAll_app (tmp_mk fun z hz => ?_) t6
          rcases putE_mem hz with h | ⟨h1, h2, _, h4, h5⟩
          · exact tmp_of t5 z h
          · rw [h4, h5]
            refine ⟨?_, t1⟩
            rcases h2 with h2 | ⟨z0, hz0, k0, h2⟩
            · rw [h1, h2]; exact t3
            · have := (tmp_of t5 z0 hz0).1
              rw [h1, h2, ← k0]
              exact this
    · rw [put_D]
      exact q7
  · left
    refine ⟨⟨hp2, by rw [List.length_map]; omega⟩, hp2, ?_⟩
    rw [List.drop_eq_nil_iff.mpr (by rw [hlen]; omega)] at q4
    obtain ⟨_, hi1, q5⟩ := q4
    obtain ⟨u1, u2, u3⟩ := R2.unpin f0.1 f0.2
    have R9 : Rel K F σ (hide H2 D) ρ1 (tmpV acc ++ vs) (tmpD acc ++ ds) := u3.resig (wipe_length ..).symm fun x y ex => by
      by_cases hjs : x ∈ js
      · exact .inl (hn x y hjs ex)
      · exact .inr (wipe_out hjs).symm
    obtain ⟨_, h9, _⟩ := R9.dzAt kp
    have nD : D ≠ a := fun z => by rw [← z, u1] at h9; cases h9
    have R10 := R9.unlockX kp
    have R11 := R10.keepNew2 (p := D) (i := i) (o := .ext (RawT D (acc.map Ent.x))) (x := .dt D acc) (ws := vs) (es := ds) (by rw [upd_ne nD]; exact u1) (by rw [List.length_set]; exact hi1) fun Hi s t => by
      obtain ⟨t5, t6⟩ := dpAll_split (tmp_len acc) t
      exact ⟨⟨rfl, rfl, upd_same, fun z hz => ⟨(tmp_of t5 z hz).1, hrv z hz, (tmp_of t5 z hz).2⟩⟩, t6⟩
    have eh : upd H2 a (.ext (RawT a (zs.map Ent.x))) = upd (upd (hide H2 D) a (.ext (RawT a (zs.map Ent.x)))) D (.ext (RawT D (acc.map Ent.x))) := by
      conv => lhs; rw [u2]
      exact upd_comm nD
    rw [← eh] at R11
    exact G.nx _ _ _ R11 (q5 D acc rfl)
end
end LD

/-! LD32: a dict goes to another name; any of a tuple of ints; what max of some data is. -/
namespace LD
open PySem PySem.Spec L2 PyProof.Rows
section
variable {K : PySem.W.Frag} {F : Fx} {σ : L2.St} {H : Hp} {ρ : Rho} {vs : List V} {ds : List D}
/-- the dict of slot j is slot i's from now on -/
theorem Rel.moveX {i j : Nat} {a : Addr} {zs : List Ent} (R : Rel K F σ H ρ vs ds) (h : ρ[j]? = some (.dt a zs)) (hi : i < ρ.length) (hij : i ≠ j) : Rel K F (σ.set i (some (.ref a))) H ((ρ.set j .no).set i (.dt a zs)) vs ds := by
  obtain ⟨Hi, own, R⟩ := R
  obtain ⟨e, eo, hp, q⟩ := R.slot j _ h
  have hj : j < ρ.length := (List.getElem?_eq_some_iff.mp h).1
  have aj : a ∈ own j := by rw [eo]; exact List.mem_singleton.mpr rfl
  have sep' : ∀ k, k ≠ j → a ∉ own k := fun k hk hz => R.sep k j hk a hz aj
  have own_of : ∀ k b, b ∈ (if k = i then [a] else if k = j then [] else own k) → ∃ l, b ∈ own l ∧ (k = i → l = j) ∧ (k ≠ i → l = k ∧ k ≠ j) := fun k b hb => by
    by_cases h1 : k = i
    · rw [if_pos h1] at hb
      obtain rfl := List.mem_singleton.mp hb
      exact ⟨j, aj, fun _ => rfl, fun z => absurd h1 z⟩
    · rw [if_neg h1] at hb
      by_cases h2 : k = j
      · rw [if_pos h2] at hb; cases hb
      · rw [if_neg h2] at hb
        exact ⟨k, hb, fun z => absurd z h1, fun _ => ⟨rfl, h2⟩⟩
  refine ⟨Hi, fun k => if k = i then [a] else if k = j then [] else own k, ⟨R.base, R.sub, R.new, R.keep, R.dom, ?_, fun k x hk => ?_, fun k b hb => ?_, fun k b hb => ?_, fun k b hb => ?_, fun k l hkl b hb hl => ?_, fun k es hk b hb => ?_, fun z hz => ?_, R.tmp⟩⟩
  · rw [List.length_set, List.length_set, List.length_set]; exact R.len
  · by_cases h1 : k = i
    · subst h1
      rw [List.getElem?_set_self (by rw [List.length_set]; exact hi)] at hk
      cases hk
      rw [if_pos rfl, List.getElem?_set_self (by rw [R.len]; exact hi)]
      exact ⟨rfl, rfl, hp, q⟩
    · rw [List.getElem?_set_ne (Ne.symm h1)] at hk ⊢
      rw [if_neg h1]
      by_cases h2 : k = j
      · subst h2
        rw [List.getElem?_set_self hj] at hk
        cases hk
        trivial
      · rw [List.getElem?_set_ne (Ne.symm h2)] at hk
        rw [if_neg h2]
        exact R.slot k x hk
  · obtain ⟨l, hl, _⟩ := own_of k b hb
    exact R.free l b hl
  · obtain ⟨l, hl, _⟩ := own_of k b hb
    exact R.held l b hl
  · obtain ⟨l, hl, _⟩ := own_of k b hb
    exact R.nown l b hl
  · obtain ⟨k', hk', k1, k2⟩ := own_of k b hb
    obtain ⟨l', hl', l1, l2⟩ := own_of l b hl
    refine R.sep k' l' (fun z => ?_) b hk' hl'
    by_cases h1 : k = i
    · have e1 := k1 h1
      by_cases h2 : l = i
      · exact hkl (h1.trans h2.symm)
      · obtain ⟨e2, e3⟩ := l2 h2
        exact e3 (by rw [← e2, ← z, e1])
    · obtain ⟨e1, e3⟩ := k2 h1
      by_cases h2 : l = i
      · have e2 := l1 h2
        exact e3 (by rw [← e1, z, e2])
      · obtain ⟨e2, e4⟩ := l2 h2
        exact hkl (by rw [← e1, z, e2])
  · have h1 : k ≠ i := fun z => by
      subst z
      rw [List.getElem?_set_self (by rw [List.length_set]; exact hi)] at hk
      cases hk
    rw [List.getElem?_set_ne (Ne.symm h1)] at hk
    have h2 : k ≠ j := fun z => by
      subst z
      rw [List.getElem?_set_self hj] at hk
      cases hk
    rw [List.getElem?_set_ne (Ne.symm h2)] at hk
    rw [if_neg h1, if_neg h2] at hb
    exact R.nls k es hk b hb
  · obtain ⟨z1, z2, z3⟩ := R.pin z hz
    refine ⟨z1, z2, fun k hk => ?_⟩
    obtain ⟨l, hl, _⟩ := own_of k z.1 hk
    exact z3 l hl
/-- x = y, y a dict's name that is not used any more -/
def dMovX (i j : Nat) : TDS := fun dn ρ => ∃ a zs, ρ[j]? = some (.dt a zs) ∧ i < ρ.length ∧ i ≠ j ∧ dn.nx ((ρ.set j .no).set i (.dt a zs))
theorem ss_movX {i j : Nat} : SS K (tAsg (tVar j) (gName i)) (dMovX i j) := ⟨fun a b ρ h ⟨p, zs, e, h1, h2, q⟩ => ⟨p, zs, e, h1, h2, h.nx _ q⟩, fun F σ H ρ vs ds E dn G R q => by
  obtain ⟨a, zs, e, h1, h2, q⟩ := q
  obtain ⟨e1, _, _⟩ := R.dtAt e
  exact ⟨.ref a, e1, G.nx _ _ _ (R.moveX e h1 h2) q⟩⟩
/-! any of a tuple -/
def rAnyT (K : PySem.W.Frag) : List V → Hp → VK → Prop := fun vs H Q => ∃ (a : Addr) (ns : List Int), vs = [.ref a] ∧ SqT K H a (ns.map V.int) ∧ Q (.bl (ns.any fun n => decide (n ≠ 0))) H
theorem plain_ints : ∀ ns : List Int, PyData.plainAll (ns.map PyData.int) = true
  | [] => rfl
  | n :: ns => by
    rw [List.map_cons]
    simp only [PyData.plainAll, PyData.plain, plain_ints ns, Bool.and_self]
theorem cr_anyT {X : Cx} (hc : X.calm = true) : CallR X (.builtin "any") (rAnyT X.K) := by
  intro pins s σ H vs us Q I r h
  obtain ⟨a, ns, rfl, hs, q⟩ := h
  obtain ⟨its, rv, hl, _⟩ := I.tuple hs
  rw [Vals.ref1 r]
  obtain ⟨as, hr⟩ := Dp.readsAll I _ _ its (dpAll_ints (K := X.K) (H := H) ns) rv
  refine PySem.W.any_tuple_data (I.ok.hd hc) hl (vs := its.toArray) (by simpa using hr) (plain_ints ns) (fun x hx => ?_) fun h' tk hk => ⟨.bl _, H, I.kept (t' := tk) hk, ?_, q⟩
  · obtain ⟨n, _, rfl⟩ := List.mem_map.mp hx
    trivial
  · show Value.bool _ = Value.bool _
    rw [List.any_map, show (PyData.truthy ∘ PyData.int) = fun n : Int => decide (n ≠ 0) from funext fun n => by
      show (n != 0) = decide (n ≠ 0)
      by_cases h : n = 0 <;> simp [h]]
def cAnyT : CD := fun es P => ∃ ns : List Int, es = [.tuple (ns.map PyData.int)] ∧ P (.bool (ns.any fun n => decide (n ≠ 0)))
theorem sc_anyT : SC K (rAnyT K) cAnyT := ⟨fun a P P' h ⟨bs, e, q⟩ => ⟨bs, e, h _ q⟩, fun F σ H ρ vs ds xs es Q e R ⟨bs, h, q⟩ => by
  subst h
  obtain ⟨x, r, rfl, e1⟩ := len_cons e
  obtain rfl := len_nil e1
  obtain ⟨p, ys, rfl, e2, s, R1⟩ := Rel.asTup R
  have ey := ints_of (K := K) bs ys (dpAll_split e2 R1.dpAll).1
  subst ey
  exact ⟨p, bs, rfl, s, q _ _ (Rel.push (v := .bl (bs.any fun n => decide (n ≠ 0))) (Rel.drop R) rfl)⟩⟩
theorem maxD_mem : ∀ (ds : List D) (d : D), PySem.W.maxD d ds ∈ d :: ds
  | [], d => List.mem_singleton.mpr rfl
  | e :: ds, d => by
    have h : PySem.W.maxD d (e :: ds) = PySem.W.maxD (if PySem.W.dataLt d e then e else d) ds := rfl
    rw [h]
    rcases List.mem_cons.mp (maxD_mem ds (if PySem.W.dataLt d e then e else d)) with z | z
    · rw [z]
      split
      · exact List.mem_cons_of_mem _ List.mem_cons_self
      · exact List.mem_cons_self
    · exact List.mem_cons_of_mem _ (List.mem_cons_of_mem _ z)
end
end LD

/-! LD33: a list any number of times; name[k] += e; three names from a triple. -/
namespace LD
open PySem PySem.Spec L2 PyProof.Rows
section
variable {X : Cx}
def rGetI (K : PySem.W.Frag) : V → V → Hp → VK → Prop := fun o i H Q => ∃ (p : Addr) (xs : List V) (k : Int) (v : V), o = .ref p ∧ i = .int k ∧ SqL K H p xs ∧ 0 ≤ k ∧ k < 2 ^ 62 ∧ xs[k.toNat]? = some v ∧ Q v H
theorem get_list : PGet X (rGetI X.K) := by
  intro pins s σ H o i ov iv Q I ro ri h
  obtain ⟨p, xs, k, z, rfl, rfl, hq, h0, h1, he, q⟩ := h
  cases ro
  obtain ⟨t, rfl⟩ := ri
  obtain ⟨its, r, pl, hz⟩ := I.list hq
  obtain ⟨w, ew, rw'⟩ := r.get he
  exact wpAny_getItem_list pl.isList h0 (by omega) (by simpa using ew) ⟨z, H, I, rw', q⟩
/-- a list times an int -/
def rRepL (K : PySem.W.Frag) : R2 := fun x y H Q => ∃ l k xs, x = .ref l ∧ y = .int k ∧ SqL K H l xs ∧ -(2 ^ 62) ≤ k ∧ k < 2 ^ 62 ∧ xs.length * k.toNat ≤ sizeLine ∧ ∀ p, H p = none → Q (.ref p) (upd H p (.lst (List.replicate k.toNat xs).flatten))
theorem op_repL : OpR X (binaryOp .Mult) (rRepL X.K) := by
  intro pins s σ H x y v u Q I rx ry h
  obtain ⟨l, k, xs, rfl, rfl, hH, h1, h2, hz, q⟩ := h
  cases rx
  obtain ⟨t, rfl⟩ := ry
  obtain ⟨its, r, ⟨⟨cls, dd, data, sl⟩, n, ho, hc, hd, hs⟩, hz2⟩ := I.list hH
  simp only at hc hd hs
  subst hc hd hs
  have hl := r.length
  have hlen : its.toArray.size * k.toNat ≤ sizeLine := by rw [List.size_toArray, ← hl]; exact hz
  have hcap : ¬ its.toArray.size * k.toNat > (2 ^ 63 - 1) / 8 := by
    have : (sizeLine : Nat) ≤ (2 ^ 63 - 1) / 8 := by decide
    omega
  have hfit : ¬ (!Builtin.List.listFitsIndex k) = true := by
    rw [fitsIndex_both (by omega) (by omega)]
    exact Bool.false_ne_true
  have hlong : ¬ Builtin.List.listTooLong (its.toArray.size * k.toNat) = true := by
    rw [notLongL hlen]
    exact Bool.false_ne_true
  have hnew : List.foldl (fun x1 x2 => x1 ++ x2) #[] (List.replicate (if its.toArray.isEmpty = true then 0 else k.toNat) its.toArray) = (List.replicate k.toNat its).flatten.toArray := by
    have f0 : ∀ m : Nat, List.foldl (fun x1 x2 => x1 ++ x2) #[] (List.replicate m its.toArray) = (List.replicate m its).flatten.toArray := fun m => by
      have := foldl_rep its m []
      rw [List.nil_append] at this
      exact this
    rw [f0]
    cases its with
    | nil => simp
    | cons a r' => rw [if_neg (by simp)]
  refine wpAny_binaryOp_repeat_ref (T := "list") (U := "int") (by decide) ⟨_, ho, rfl⟩ (fun s' => typeIs_int s' k t) noFill_list_mul F.fills_int_mul F.slot_int_rmul repeat_list F.slot_int_index.lookup
    (call_meets F.slot_int_rmul (typeIs_int s k t) F.entry_int_rmul (F.args_int_rmul_2 _ _) (lm_int_rmul_list_any k t l its.toArray n none sl)
      ⟨ho, rfl, ⟨_, ho, rfl⟩, call_meets F.slot_list_mul ⟨_, ho, rfl⟩ F.entry_list_mul (F.args_list_mul_2 _ _) (lm_list_mul_any l its.toArray n none sl k t hfit hcap hlong) ⟨ho, ?_⟩⟩)
  rw [hnew]
  exact ⟨.ref _, _, I.lnew (t' := s.toks) (r.rep k.toNat) (by rw [PyProof.Rows.lm_len_rep_flat, Nat.mul_comm]; exact hz), rfl, q _ I.fresh⟩
end
section
variable {K : PySem.W.Frag} {te tk : TE} {a k e : TD} {t : TDA}
/-- a list so many times: a new one -/
def dRepN (a k : TD) : TDA := fun ρ P => a ρ fun r x => k r fun r2 d => ∃ (es : List D) (n : Int), x = .list es ∧ d = .int n ∧ -(2 ^ 62) ≤ n ∧ n < 2 ^ 62 ∧ es.length * n.toNat ≤ sizeLine ∧ P r2 (List.replicate n.toNat es).flatten
theorem sf_repN (s : SE K te a) (sk : SE K tk k) : SF K (tOp (rRepL K) te tk) (dRepN a k) := by
  refine ⟨fun ρ P P' h q => s.mono _ _ _ (fun _ es q => sk.mono _ _ _ (fun _ d ⟨es, n, e, e2, h1, h2, h3, q⟩ => ⟨es, n, e, e2, h1, h2, h3, h _ _ q⟩) q) q, fun F σ H ρ vs ds Q R q => ?_⟩
  refine s.run F σ H ρ vs ds _ R (s.mono _ _ _ (fun r x q1 u H1 R1 => ?_) q)
  refine sk.run F σ _ r _ _ _ R1 (sk.mono _ _ _ (fun r2 d q2 v H2 R2 => ?_) q1)
  obtain ⟨es, n, rfl, rfl, h1, h2, h3, q⟩ := q2
  obtain rfl := R2.int
  obtain ⟨Hj, own2, R5⟩ := R2.drop
  have tm := R5.tmp
  cases tm with
  | cons t1 t2 =>
    cases t1 with
    | lst w1 g1 =>
      have g3 := dpAll_rep g1 n.toNat
      exact ⟨_, n, _, rfl, rfl, R5.sub.seq w1, h1, h2, by rw [dpAll_len g1]; exact h3, fun p hp => q _ _ p (dpAll_len g3) ⟨Hj, own2, R5.tmpTo (dpAll_app g3 t2)⟩ hp⟩
/-- name[k] += e, of ints -/
def dAugI (i : Nat) (k e : TD) : TDS := fun dn ρ => (∃ es, ρ[i]? = some (.ls es)) ∧ k ρ fun r z => ∃ (es : List D) (n m : Int), r[i]? = some (.ls es) ∧ z = .int n ∧ 0 ≤ n ∧ n < 2 ^ 62 ∧ es[n.toNat]? = some (.int m) ∧
  e r fun r2 d => ∃ (j : Int) (es2 : List D), d = .int j ∧ r2[i]? = some (.ls es2) ∧ n.toNat < es2.length ∧ dn.nx (r2.set i (.ls (es2.set n.toNat (.int (m + j)))))
theorem ss_augI (i : Nat) (sk : SE K tk k) (se : SE K te e) : SS K (tAugS (tVar i) tk te (rGetI K) (ipI fun i j => i + j) rSetL) (dAugI i k e) := by
  refine ⟨fun a b ρ h ⟨q0, q⟩ => ⟨q0, sk.mono _ _ _ (fun r y ⟨es, n, m, e1, e2, h0, h1, e3, q⟩ => ⟨es, n, m, e1, e2, h0, h1, e3, se.mono _ _ _ (fun r2 d ⟨j, es2, e4, e5, h2, q⟩ => ⟨j, es2, e4, e5, h2, h.nx _ q⟩) q⟩) q⟩, fun F σ H ρ vs ds E dn G R q => ?_⟩
  obtain ⟨⟨es0, e0⟩, q⟩ := q
  obtain ⟨p, xs, e1, hp, el, _⟩ := R.ownAt e0
  refine ⟨.ref p, e1, sk.run F σ H ρ vs ds _ R (sk.mono _ _ _ (fun r z q w H1 R1 => ?_) q)⟩
  obtain ⟨es, n, m, e2, rfl, h0, h1, em, q⟩ := q
  obtain rfl := R1.int
  obtain ⟨Hi, own, R2⟩ := R1.drop
  obtain ⟨p2, xs2, e3, eo, hp2, q2⟩ := R2.slot i _ e2
  have e4 : p2 = p := by rw [e1] at e3; cases e3; rfl
  subst e4
  obtain ⟨v, ev, hv⟩ := dpAll_at q2 em
  cases hv
  refine ⟨p2, xs2, n, _, rfl, rfl, .inl (.inl hp2), h0, h1, ev, ?_⟩
  refine se.run F σ H1 r vs ds _ ⟨Hi, own, R2⟩ (se.mono _ _ _ (fun r2 d q w H2 R3 => ?_) q)
  obtain ⟨j, es2, rfl, e5, h2, q⟩ := q
  obtain rfl := R3.int
  refine ⟨m, j, rfl, rfl, ?_⟩
  obtain ⟨p3, xs3, e6, hp3, el3, hd⟩ := R3.ownAt e5
  rw [e1] at e6
  cases e6
  have ix : ixN xs3.length n = some n.toNat := by
    unfold ixN
    rw [el3, if_pos h0, if_pos (by omega)]
  refine ⟨p2, xs3, n, n.toNat, rfl, rfl, hp3, ix, G.nx _ _ _ (R3.drop.turn e5 e1 hp3 fun Hi h1 h2 => ?_) q⟩
  exact ⟨dpAll_set (.int _) _ h1, h2⟩
/-- three names from a triple -/
def dPar3 (i j l : Nat) (t : TDA) : TDS := fun dn ρ => t ρ fun r es => ∃ d e f, es = [d, e, f] ∧ i < r.length ∧ j < r.length ∧ l < r.length ∧ dn.nx (((r.set i (.sh d)).set j (.sh e)).set l (.sh f))
theorem ss_par3 {i j l : Nat} {ta : L2.TA} {a : TDA} (s : SA K ta a) : SS K (tPar3 i j l ta) (dPar3 i j l a) := ⟨fun a b ρ h q => s.mono _ _ _ (fun r es ⟨d, e, f, e1, h1, h2, h3, q⟩ => ⟨d, e, f, e1, h1, h2, h3, h.nx _ q⟩) q, fun F σ H ρ vs ds E dn G R q =>
  s.run F σ H ρ vs ds _ R (s.mono _ _ _ (fun r es q xs H' el R' => by
    obtain ⟨d, e, f, e1, h1, h2, h3, q⟩ := q
    subst e1
    obtain ⟨x, xr, rfl, e2⟩ := len_cons el
    obtain ⟨y, yr, rfl, e3⟩ := len_cons e2
    obtain ⟨z, zr, rfl, e4⟩ := len_cons e3
    obtain rfl := len_nil e4
    refine ⟨x, y, z, rfl, G.nx _ _ _ ?_ q⟩
    have R2 : Rel K F σ H' r (x :: y :: z :: vs) (d :: e :: f :: ds) := R'
    exact ((R2.store h1).store (by rw [List.length_set]; exact h2)).store (by rw [List.length_set, List.length_set]; exact h3)) q)⟩
end
end LD

/-! LD34: comprehensions over what is told; webs. -/
namespace LD
open PySem PySem.Spec L2 PyProof.Rows
section
variable {α : Type} {f : D → Rho → (Rho → Option D → Prop) → Prop} {js : List Nat} {ρ : Rho}
theorem compW_map (g : α → D) (h : α → Option D) : ∀ {xs : List α} {acc : List D} {P : KL}, (∀ x ∈ xs, ∀ k : Rho → Option D → Prop, (∀ r, wipeR r js = ρ → k r (h x)) → f (g x) ρ k) → P ρ (acc ++ xs.filterMap h) → compW f js (xs.map g) ρ acc P
  | [], acc, P, _, q => by
    rw [List.filterMap_nil, List.append_nil] at q
    exact q
  | x :: xs, acc, P, H, q => by
    show f (g x) ρ _
    refine H x List.mem_cons_self _ fun r hr => ?_
    rw [hr]
    cases hx : h x with
    | none =>
      rw [List.filterMap_cons_none hx] at q
      exact compW_map g h (fun y hy => H y (List.mem_cons_of_mem _ hy)) q
    | some y =>
      rw [List.filterMap_cons_some hx] at q
      exact compW_map g h (acc := acc ++ [y]) (fun y hy => H y (List.mem_cons_of_mem _ hy)) (by rw [List.append_assoc]; exact q)
/-- each gives one thing -/
theorem compW_all (g v : α → D) {xs : List α} {P : KL} (H : ∀ x ∈ xs, ∀ k : Rho → Option D → Prop, (∀ r, wipeR r js = ρ → k r (some (v x))) → f (g x) ρ k) (q : P ρ (xs.map v)) : compW f js (xs.map g) ρ [] P := by
  refine compW_map g (fun x => some (v x)) H ?_
  rw [List.nil_append, List.filterMap_eq_map']
  exact q
/-- those for which p -/
theorem compW_fil (g v : α → D) (p : α → Bool) {xs : List α} {P : KL} (H : ∀ x ∈ xs, ∀ k : Rho → Option D → Prop, (∀ r, wipeR r js = ρ → k r (if p x = true then some (v x) else none)) → f (g x) ρ k) (q : P ρ ((xs.filter p).map v)) : compW f js (xs.map g) ρ [] P := by
  refine compW_map g (fun x => if p x = true then some (v x) else none) H ?_
  have : xs.filterMap (fun x => if p x = true then some (v x) else none) = (xs.filter p).map v := by
    clear H q
    induction xs with
    | nil => rfl
    | cons x xs ih =>
      by_cases hx : p x = true
      · rw [List.filterMap_cons_some (b := v x) (by rw [if_pos hx]), List.filter_cons_of_pos hx, List.map_cons, ih]
      · rw [List.filterMap_cons_none (by rw [if_neg hx]), List.filter_cons_of_neg hx, ih]
  rw [List.nil_append, this]
  exact q
theorem compW_allD (v : D → D) {xs : List D} {P : KL} (H : ∀ x ∈ xs, ∀ k : Rho → Option D → Prop, (∀ r, wipeR r js = ρ → k r (some (v x))) → f x ρ k) (q : P ρ (xs.map v)) : compW f js xs ρ [] P := by
  have := compW_all (f := f) (js := js) (ρ := ρ) id v (xs := xs) (P := P) H q
  rw [List.map_id] at this
  exact this
theorem compW_filD (p : D → Bool) {xs : List D} {P : KL} (H : ∀ x ∈ xs, ∀ k : Rho → Option D → Prop, (∀ r, wipeR r js = ρ → k r (if p x = true then some x else none)) → f x ρ k) (q : P ρ (xs.filter p)) : compW f js xs ρ [] P := by
  have := compW_fil (f := f) (js := js) (ρ := ρ) id id p (xs := xs) (P := P) H (by rw [List.map_id]; exact q)
  rw [List.map_id] at this
  exact this
end
theorem zipD_map {α β : Type} (f : α → D) (g : β → D) (xs : List α) (ys : List β) : zipD (xs.map f) (ys.map g) = (xs.zip ys).map fun p => .tuple [f p.1, g p.2] := by
  unfold zipD
  rw [List.zip_map, List.map_map]
  rfl
theorem numD_map {α : Type} (f : α → D) (xs : List α) : numD (xs.map f) = xs.zipIdx.map fun p => .tuple [.int (p.2 : Nat), f p.1] := by
  refine List.ext_getElem? fun i => ?_
  unfold numD
  rw [List.getElem?_map, List.getElem?_map, List.length_map, List.getElem?_zipIdx]
  by_cases h : i < xs.length
  · rw [List.getElem?_range h, List.getElem?_eq_getElem h]
    show some (PyData.tuple [.int ((i : Nat) : Int), (xs.map f).getD i .none]) = some (PyData.tuple [.int ((0 + i : Nat) : Int), f xs[i]])
    rw [List.getD_eq_getElem?_getD, List.getElem?_map, List.getElem?_eq_getElem h, Nat.zero_add]
    rfl
  · rw [List.getElem?_eq_none (by rw [List.length_range]; omega), List.getElem?_eq_none (by omega)]
    rfl
theorem rngD_map (lo : Int) (n : Nat) : rngD lo n = (List.range n).map fun (k : Nat) => PyData.int (lo + (k : Int)) := rfl
/-- what is drawn from a map is one -/
theorem perm_map {α : Type} {f : α → D} (g : D → α) (hg : ∀ x, g (f x) = x) {xs : List α} {ds : List D} (h : ds.Perm (xs.map f)) : ∃ ys : List α, ds = ys.map f ∧ ys.Perm xs := by
  refine ⟨ds.map g, ?_, ?_⟩
  · rw [List.map_map]
    refine (List.map_id' ds).symm.trans (List.map_congr_left fun d hd => ?_)
    obtain ⟨x, _, rfl⟩ := List.mem_map.mp (h.mem_iff.mp hd)
    show f x = f (g (f x))
    rw [hg]
  · have := h.map g
    rw [List.map_map] at this
    refine this.trans ?_
    rw [show (g ∘ f) = id from funext hg, List.map_id]
/-! ### webs -/
def tieK (t : Int × Int) : D := tupK [t.1, t.2]
def tieOf : D → Int × Int
  | .tuple [.int a, .int b] => (a, b)
  | _ => (0, 0)
theorem tieOf_K (t : Int × Int) : tieOf (tieK t) = t := rfl
def webD (n : Int) (ts : List (Int × Int)) : D := .tuple [.int n, .tuple (ts.map tieK)]
structure WebOk (n : Int) (ts : List (Int × Int)) : Prop where
  in_ : ∀ t ∈ ts, 0 ≤ t.1 ∧ t.1 < t.2 ∧ t.2 < n
  up : (ts.map fun t => [t.1, t.2]).Pairwise (· < ·)
def g_law_web : CD := fun ds P => ∃ most ties : Int, ds = [.int most, .int ties] ∧ 1 ≤ most ∧ most ≤ 20 ∧ 0 ≤ ties ∧ ties ≤ 100 ∧ ∀ n ts, 1 ≤ n → n ≤ most → (ts.length : Int) ≤ ties → WebOk n ts → P (webD n ts)
theorem g_law_web_mono : ∀ es P P', (∀ d, P d → P' d) → g_law_web es P → g_law_web es P' := fun es P P' h ⟨a, b, e, h1, h2, h3, h4, q⟩ => ⟨a, b, e, h1, h2, h3, h4, fun n ts x1 x2 x3 x4 => h _ (q n ts x1 x2 x3 x4)⟩
/-- ties picked from some are in order -/
theorem ties_sorted {n : Int} {us : List (Int × Int)} (h : ∀ t ∈ us, 0 ≤ t.1 ∧ t.1 < t.2 ∧ t.2 < n) (nd : us.Nodup) : ∃ ts, (us.map tieK).mergeSort leD = ts.map tieK ∧ WebOk n ts ∧ ts.length = us.length ∧ ts.Perm us := by
  let key : Int × Int → List Int := fun t => [t.1, t.2]
  have inj : ∀ a b : Int × Int, key a = key b → a = b := fun a b h => by
    obtain ⟨x, y⟩ := a
    obtain ⟨z, w⟩ := b
    simp only [key, List.cons.injEq, and_true] at h
    rw [h.1, h.2]
  have e1 : us.map tieK = (us.map key).map tupK := by rw [List.map_map]; rfl
  have nd2 : (us.map key).Nodup := List.nodup_iff_pairwise_ne.mpr (List.pairwise_map.mpr (nd.imp fun {a b} hab z => hab (inj _ _ z)))
  have up := sort_up nd2
  obtain ⟨ts, e2⟩ : ∃ ts : List (Int × Int), (us.map key).mergeSort leL = ts.map key := by
    refine ⟨((us.map key).mergeSort leL).map fun k => (k.getD 0 0, k.getD 1 0), ?_⟩
    rw [List.map_map]
    refine (List.map_id' _).symm.trans (List.map_congr_left fun k hk => ?_)
    obtain ⟨t, _, rfl⟩ := List.mem_map.mp ((List.mergeSort_perm _ _).mem_iff.mp hk)
    rfl
  have pk : (ts.map key).Perm (us.map key) := by rw [← e2]; exact List.mergeSort_perm _ _
  have pm : ts.Perm us := by
    have h1 := pk.map fun k => (k.getD 0 0, k.getD 1 0)
    rw [List.map_map, List.map_map] at h1
    have e : ((fun k : List Int => (k.getD 0 0, k.getD 1 0)) ∘ key) = id := funext fun t => rfl
    rw [e, List.map_id, List.map_id] at h1
    exact h1
  refine ⟨ts, ?_, ⟨fun t ht => h t (pm.mem_iff.mp ht), ?_⟩, pm.length_eq, pm⟩
  · rw [e1, sort_tupK, e2, List.map_map]
    rfl
  · rw [e2] at up
    exact up
end LD
namespace LD
theorem lgM {m : Int} (h0 : 0 ≤ m) (h1 : m < 2 ^ 40) : m.natAbs.log2 < 9000 := by
  refine Nat.lt_of_le_of_lt (m := 40) ?_ (by decide)
  rcases Nat.eq_zero_or_pos m.natAbs with h | h
  · rw [h]; decide
  · exact Nat.le_of_lt_succ (Nat.lt_of_lt_of_le ((Nat.log2_lt (by omega)).mpr (by omega)) (Nat.le_refl _))
end LD
namespace LD
open PySem PySem.Spec L2 PyProof.Rows
theorem eqvT {a b : Int} (h : a = b) : PyData.eqv (.int a) (.int b) = true := (eqv_int a b).trans (decide_eq_true h)
theorem eqvF {a b : Int} (h : a ≠ b) : PyData.eqv (.int a) (.int b) = false := (eqv_int a b).trans (decide_eq_false h)
end LD

/-! LD35: sorted of tuples, the first one empty. -/
namespace LDS
open PySem PySem.W PySem.Calls PyProof.Rows PySem.SeqAt
section
variable {A : Around} {s : Shared}
theorem call_tuple_lt {prog : Program} {w : World} {E : Value → Shared → Prop} {Q : Value → Shared → Prop} {l b : Addr} {items items2 : Array Value} {e r : Nat → Bool} (hl : s.heap.IsTuple l items) (hb : s.heap.IsTuple b items2)
    (he : ∀ j (h1 : j < items.size) (h2 : j < items2.size), EqAt A.in1 s items[j] items2[j] (e j)) (hr : ∀ j (h1 : j < items.size) (h2 : j < items2.size), e j = false → RcLt A.in1 s items[j] items2[j] (r j))
    (h : Q (.bool (firstLt e r (decide (items.size < items2.size)) (List.range (min items.size items2.size)))) s) : wpAny (model prog w) A (call (.builtin "tuple.__lt__") [.ref l, .ref b]) Q E s := by
  obtain ⟨⟨cls, dd, data, sl⟩, ho, hc, n, hd⟩ := id hl
  obtain ⟨⟨cls2, dd2, data2, sl2⟩, ho2, hc2, n2, hd2⟩ := id hb
  simp only at hc hd hc2 hd2
  subst hc hd hc2 hd2
  exact call_meets F.slot_tuple_lt ⟨_, ho, rfl⟩ F.entry_tuple_lt (F.args_tuple_lt_2 _ _) (tuple_ltAt l b items items2 n n2 dd dd2 sl sl2 e r) ⟨ho, ho2, he, hr, h⟩
theorem oneLt_tup {prog : Program} {w : World} {E : Value → Shared → Prop} {xs ys : List PyData} {a b : Value} {as bs : List Addr} {Q : Bool → Shared → Prop} (ra : Reads s.heap a (.tuple xs) as) (rb : Reads s.heap b (.tuple ys) bs) (h : alike (.tuple xs) (.tuple ys) = true)
    (hu : A.units + min (PyData.tuple xs).depth (PyData.tuple ys).depth < cLine) (hq : Q (dataLt (.tuple xs) (.tuple ys)) s) : wpAny (model prog w) A (oneLt' true a b) Q E s := by
  have hal : alikeAll xs ys = true := by simpa [alike] using h
  cases ra with
  | @tuple l o vs n _ as₁ h1 h2 h3 h4 =>
    cases rb with
    | @tuple l' o' vs' n' _ bs₁ k1 k2 k3 k4 =>
      have n1 : vs.size = xs.length := by simpa using ReadsAll.length _ _ _ h4
      have n2 : vs'.size = ys.length := by simpa using ReadsAll.length _ _ _ k4
      rw [dataLt_tuple, ← firstLt_toks xs ys hal, ← n1, ← n2] at hq
      rw [oneLt'_eq]
      simp only [if_true]
      refine wpAny_bind (wpAny_cRoomFor (room_here hu) ?_)
      refine wpAny_bind (wpAny_callSpecialIfBound?_slot (T := "tuple") ⟨_, h1, h2⟩ F.slot_tuple_lt (call_tuple_lt (e := pairEq xs ys) (r := fun j => dataLt (xs.getD j .none) (ys.getD j .none)) ⟨_, h1, h2, _, h3⟩ ⟨_, k1, k2, _, k3⟩ (fun j j1 j2 => ?_) (fun j j1 j2 hj => ?_) ?_))
      · have := eqAt_alikeAll xs ys A.in1 s vs.toList vs'.toList _ _ h4 k4 hal (room_in hu) j (by simpa using j1) (by simpa using j2)
        simpa using this
      · have := rcLt_alikeAll xs ys A.in1 s vs.toList vs'.toList _ _ h4 k4 hal (room_in hu) j (by simpa using j1) (by simpa using j2) hj
        simpa using this
      · exact wpAny_truthy_bool hq
end
section
variable {M : Model} {A : Around} {E : Value → Shared → Prop} {s : Shared}
theorem mapM_each {α β : Type} {f : α → Sem β} : ∀ (l : List α) {Q : List β → Shared → Prop}, (∀ v ∈ l, ∃ r, ∀ (Q' : β → Shared → Prop), Q' r s → wpAny M A (f v) Q' E s) → (∀ os : List β, os.length = l.length → Q os s) → wpAny M A (l.mapM f) Q E s
  | [], _, _, h => by rw [List.mapM_nil]; exact wpAny_pure (h [] rfl)
  | x :: l, Q, hf, h => by
    rw [List.mapM_cons]
    obtain ⟨r, hr⟩ := hf x (.head _)
    exact wpAny_bind (hr _ (wpAny_bind (mapM_each l (Q := fun bs s' => wpAny M A (pure (r :: bs)) Q E s') (fun v hv => hf v (.tail _ hv)) fun os ho => wpAny_pure (h (r :: os) (by rw [List.length_cons, List.length_cons, ho])))))
/-- tuples, the first one empty -/
theorem kind_empty {v₁ : Value} {rest : List Value} {Q : SortKind → Shared → Prop} (h1 : ∃ a o n, v₁ = .ref a ∧ s.heap.get? a = some o ∧ o.cls = .type "tuple" ∧ o.data = .seq #[] n)
    (hr : ∀ v ∈ rest, ∃ a o xs n, v = .ref a ∧ s.heap.get? a = some o ∧ o.cls = .type "tuple" ∧ o.data = .seq xs n) (h : Q oneType' s) : wpAny M A (keyKind' (v₁ :: rest).toArray) Q E s := by
  have hT : ∀ v ∈ v₁ :: rest, Looks M s.heap (typeOf v) (.type "tuple") := fun v hv => by
    rcases List.mem_cons.mp hv with rfl | hv
    · obtain ⟨a, o, n, rfl, ho, hc, hd⟩ := h1
      exact hc ▸ (Looks.ld ho).andThen .now
    · obtain ⟨a, o, xs, n, rfl, ho, hc, hd⟩ := hr v hv
      exact hc ▸ (Looks.ld ho).andThen .now
  rw [kat_kind_eq, List.mapM_toArray, map_eq_pure_bind]
  refine wpAny_bind (wpAny_bind ?_)
  rw [List.mapM_cons]
  refine wpAny_bind ?_
  have first : ∀ (v : Value) (a : Addr) (o : Obj) (xs : Array Value) (n : Nat) (Q' : Option Value → Shared → Prop), v = .ref a → s.heap.get? a = some o → o.cls = .type "tuple" → o.data = .seq xs n → Q' xs[0]? s → wpAny M A (firstOfTuple' v) Q' E s := by
    intro v a o xs n Q' e ho hc hd q
    subst e
    rw [kas_first_eq]
    refine wpAny_bind (Looks.here (show Looks M s.heap (typeOf (.ref a)) o.cls from (Looks.ld ho).andThen .now) ?_)
    rw [hc, if_neg (by first | decide | simp)]
    exact wpAny_bind (listItems_at ho hd (wpAny_pure q))
  obtain ⟨a, o, n, e1, ho, hc, hd⟩ := id h1
  refine first v₁ a o #[] n _ e1 ho hc hd ?_
  refine wpAny_bind (mapM_each rest (fun v hv => ?_) fun os hos => wpAny_pure (wpAny_pure ?_))
  · obtain ⟨a, o, xs, n, e, ho, hc, hd⟩ := hr v hv
    exact ⟨_, fun Q' q => first v a o xs n Q' e ho hc hd q⟩
  · rw [if_neg (by simp), if_neg (by simp)]
    rw [oneTypeOnly'_eq, List.mapM_toArray, map_eq_pure_bind]
    refine wpAny_bind (wpAny_bind (wpAny_bind (kas_mapM (r := Value.type "tuple") _ (fun v hv Q' hq => (hT v hv).here hq) (wpAny_pure ?_))))
    have hall : ((List.map (fun _ => Value.type "tuple") (v₁ :: rest)).toArray.all fun x => x == Value.type "tuple") = true := by
      simp only [List.all_toArray, List.all_map, List.all_eq_true]
      intro _ _
      exact beq_self_eq_true _
    have h0 : (List.map (fun _ => Value.type "tuple") (v₁ :: rest)).toArray[0]? = some (Value.type "tuple") := by simp
    rw [h0]
    simp only [hall, if_true]
    exact wpAny_pure (wpAny_pure h)
end
section
variable {prog : Program} {w : World} {A : Around} {s : Shared}
theorem tup_reads {v : Value} {xs : List PyData} {as : List Addr} (r : Reads s.heap v (.tuple xs) as) : ∃ a o ys n, v = .ref a ∧ s.heap.get? a = some o ∧ o.cls = .type "tuple" ∧ o.data = .seq ys n ∧ ys.size = xs.length := by
  cases r with
  | @tuple l o vs n _ as₁ h1 h2 h3 h4 => exact ⟨l, o, vs, n, rfl, h1, h2, h3, by simpa using ReadsAll.length _ _ _ h4⟩
theorem sortsAt_empty {vs : List Value} {ds : List PyData} (e : EachIs (fun v d => ∃ as, Reads s.heap v d as) vs (.tuple [] :: ds)) (hal : AllAlike (.tuple [] :: ds)) (hk : ∀ d ∈ ds, ∃ xs, d = .tuple xs) (hu : ∀ d, d ∈ PyData.tuple [] :: ds → A.units + d.depth < cLine) : SortsAt prog w A s (dataKind s.heap (.tuple [] :: ds)) vs := by
  have tp : ∀ d ∈ PyData.tuple [] :: ds, ∃ xs, d = .tuple xs := fun d hd => by
    rcases List.mem_cons.mp hd with rfl | hd
    · exact ⟨[], rfl⟩
    · exact hk d hd
  refine ⟨fun v hv => ?_, oneType', ?_, fun h2 E Q hq => ?_⟩
  · obtain ⟨d, hd, as, r⟩ := e.left v hv
    exact ⟨_, dataKind_some hal hd r⟩
  · intro E x y a b Q ha hb hq
    obtain ⟨d, as, hd, ra, rfl⟩ := dataKind_inv ha
    obtain ⟨d', as', hd', rb, rfl⟩ := dataKind_inv hb
    obtain ⟨xs, rfl⟩ := tp d hd
    obtain ⟨ys, rfl⟩ := tp d' hd'
    rw [keyLt'_oneType]
    exact oneLt_tup ra rb (hal _ hd _ hd') (Nat.lt_of_le_of_lt (Nat.add_le_add_left (Nat.min_le_left _ _) _) (hu _ hd)) hq
  · cases e with
    | cons h t =>
      obtain ⟨as, r⟩ := h
      obtain ⟨a, o, ys, n, e1, ho, hc, hd, hz⟩ := tup_reads r
      have : ys = #[] := Array.eq_empty_of_size_eq_zero hz
      subst this
      refine kind_empty ⟨a, o, n, e1, ho, hc, hd⟩ (fun v hv => ?_) hq
      obtain ⟨d, hd2, as2, r2⟩ := t.left v hv
      obtain ⟨xs, rfl⟩ := hk d hd2
      obtain ⟨a, o, ys, n, e1, ho, hc, hd, _⟩ := tup_reads r2
      exact ⟨a, o, ys, n, e1, ho, hc, hd⟩
variable {E : Value → Shared → Prop} {β : Type} {vs : List Value} {bs : List β} {enc : β → PyData} {R : Value → β → Prop}
theorem sorted_empty {l : Addr} {Q : Value → Shared → Prop} {ds : List PyData} (hb : bs.map enc = .tuple [] :: ds) (hl : s.heap.IsList l vs.toArray) (e : EachIs R vs bs) (er : EachIs (fun v b => ∃ as, Reads s.heap v (enc b) as) vs bs) (hal : AllAlike (bs.map enc)) (hk : ∀ d ∈ ds, ∃ xs, d = .tuple xs) (hL : bs.length ≤ sizeLine)
    (hu : ∀ b, b ∈ bs → A.units + 2 + (enc b).depth < cLine) (h : ∀ out, out.length = bs.length → EachIs R out (bs.mergeSort (dataLe false enc)) → Q (.ref (s.heap.objs.size + 1)) { s with heap := sortedAll s.heap vs (List.toArray out) }) :
    wpAny (model prog w) A (call (.builtin "sorted") [.ref l]) Q E s := by
  have er' : EachIs (fun v b => ∃ as, Reads (sortingHeap (copyHeap s.heap vs) (s.heap.objs.size + 1) vs) v (enc b) as) vs bs := er.mono fun _ _ ⟨as, r⟩ => ⟨as, PyProof.Rows.Reads.keeps (fun _ _ => sorting_copy_old) r⟩
  have em := each_map (R := fun v d => ∃ as, Reads (sortingHeap (copyHeap s.heap vs) (s.heap.objs.size + 1) vs) v d as) enc er'
  have S : SortsAt prog w A.in1.in1 { s with heap := sortingHeap (copyHeap s.heap vs) (s.heap.objs.size + 1) vs } (dataKind (sortingHeap (copyHeap s.heap vs) (s.heap.objs.size + 1) vs) (bs.map enc)) vs := by
    have hu' := bound_map (A := A.in1.in1) hu
    rw [hb] at em hal hu' ⊢
    exact sortsAt_empty (s := { s with heap := sortingHeap (copyHeap s.heap vs) (s.heap.objs.size + 1) vs }) em hal hk hu'
  exact sorted_vals hl S (by rw [e.length]; exact hL) (h _ (by rw [sortVals_length false rfl]; exact e.length) (sortVals_data false e er' hal))
end
end LDS
namespace LD
open PySem PySem.Spec L2 PyProof.Rows
/-- what can be sorted: as the lower library has it, or tuples, the first one empty -/
def SortOk (ds : List D) : Prop := PySem.W.Sortable ds ∨ ∃ r, ds = .tuple [] :: r ∧ ∀ d ∈ r, ∃ xs, d = .tuple xs
def rSortE (K : PySem.W.Frag) : List V → Hp → VK → Prop := fun vs H Q => ∃ (a : Addr) (xs : List V) (ds : List D), vs = [.ref a] ∧ SqL K H a xs ∧ DpAll K H xs ds ∧ PySem.W.AllAlike ds ∧ SortOk ds ∧ PyData.depthAll ds ≤ 50 ∧
  ∀ (ys : List V) (p : Addr), ys.length = ds.length → (∀ Hi, DpAll K Hi xs ds → DpAll K Hi ys (ds.mergeSort leD)) → H p = none → Q (.ref p) (upd H p (.lst ys))
theorem cr_sortE {X : Cx} (hu : X.A.units + 64 < cLine) : CallR X (.builtin "sorted") (rSortE X.K) := by
  intro pins s σ H vs us Q I r h
  obtain ⟨a, xs, ds, rfl, hs, hd, ha, hb, hz, q⟩ := h
  rcases hb with hb | ⟨rs, hb, hk⟩
  · exact cr_sortD hu pins s σ H _ us Q I r ⟨a, xs, ds, rfl, hs, hd, ha, hb, hz, q⟩
  obtain ⟨its, rv, hl, hsz⟩ := I.list hs
  rw [Vals.ref1 r]
  obtain ⟨as, hr⟩ := Dp.readsAll I _ xs its hd rv
  have el := dpAll_len hd
  have em : (xs.zip ds).map Prod.snd = ds := List.map_snd_zip (by omega)
  have en : (xs.zip ds).length = ds.length := by rw [List.length_zip]; omega
  refine LDS.sorted_empty (bs := xs.zip ds) (enc := Prod.snd) (by rw [em]; exact hb) hl.isList (each_vals rv el) (each_reads hr el) (by rw [em]; exact ha) hk (by rw [en, ← el]; exact hsz) (fun b hb => ?_) fun out ho he => ?_
  · have := depth_mem (List.of_mem_zip (a := b.1) (b := b.2) hb).2
    omega
  have hv := vals_each he
  generalize hzs : (xs.zip ds).mergeSort (PySem.W.dataLe false Prod.snd) = zs at hv
  have hp : ∀ z ∈ zs, z ∈ xs.zip ds := fun z h => by
    rw [← hzs] at h
    exact (List.mergeSort_perm _ _).mem_iff.mp h
  have hlz : zs.length = ds.length := by rw [← hzs, (List.mergeSort_perm _ _).length_eq, en]
  have es : zs.map Prod.snd = ds.mergeSort leD := by
    rw [← hzs, List.map_mergeSort (s := leD) (fun x _ y _ => by rw [PySem.W.dataLe_eq]; rfl), em]
  obtain ⟨ep, he'⟩ := PyProof.Rows.sortedAll_at s.heap its out.toArray
  have hlen : (zs.map Prod.fst).length ≤ sizeLine := by rw [List.length_map, hlz, ← el]; exact hsz
  refine ⟨.ref _, upd H (s.heap.objs.size + 1) (.lst (zs.map Prod.fst)), I.laid (t' := s.toks) (fun _ _ => PyProof.Rows.sortedAll_old) (Nat.le_succ _) ⟨hlen, out, ep, hv, he'⟩, rfl, q _ _ (by rw [List.length_map, hlz]) (fun Hi h => ?_) (I.hok.fresh (Nat.le_succ _))⟩
  rw [← es]
  exact dp_unzip fun z hz => dp_zip h z (hp z hz)
section
variable {K : PySem.W.Frag} {ta tb : TE} {a b : TD}
def cSortE : CF := fun es P => ∃ ds, es = [.list ds] ∧ PySem.W.AllAlike ds ∧ SortOk ds ∧ PyData.depthAll ds ≤ 50 ∧ P (ds.mergeSort leD)
theorem scf_sortE : SCF K (rSortE K) cSortE := ⟨fun a P P' h ⟨ds, e, h1, h2, h3, q⟩ => ⟨ds, e, h1, h2, h3, h _ q⟩, fun F σ H ρ vs ds xs es Q e R ⟨fs, h, h1, h2, h3, q⟩ => by
  subst h
  obtain ⟨x, r, rfl, e1⟩ := len_cons e
  obtain rfl := len_nil e1
  obtain ⟨p, ys, rfl, e2, s, R1⟩ := Rel.asList R
  refine ⟨p, ys, fs, rfl, s, (dpAll_split e2 R1.dpAll).1, h1, h2, h3, fun zs l hz hd hl => q zs H l (by rw [(List.mergeSort_perm _ _).length_eq]; exact hz) (R1.swap fun Hi h => ?_) hl⟩
  obtain ⟨g1, g2⟩ := dpAll_split e2 h
  cases g2 with | cons _ g2 => exact dpAll_app (hd Hi g1) g2⟩
/-! tuple(range(..)) -/
def dTg1 (a : TD) : TD := fun ρ P => a ρ fun r d => ∃ n, d = .int n ∧ RgOk 0 n ∧ P r (.tuple (rngD 0 n.toNat))
theorem se_tg1 (sa : SE K ta a) : SE K (tTupRg (tRg1 ta)) (dTg1 a) := by
  refine ⟨fun ρ P P' h q => sa.mono _ _ _ (fun r d ⟨n, e, h1, q⟩ => ⟨n, e, h1, h _ _ q⟩) q, fun F σ H ρ vs ds Q R q => ?_⟩
  refine sa.run F σ H ρ vs ds _ R (sa.mono _ _ _ (fun r d q v H1 R1 => ?_) q)
  obtain ⟨n, rfl, h1, q⟩ := q
  obtain rfl := R1.int
  refine ⟨n, rfl, h1, fun p hp => q _ _ ?_⟩
  have R2 := R1.drop
  have e : (rgV 0 n).length = (rngD 0 n.toNat).length := by
    have := dpAll_len (rgV_dp (K := K) (Hi := H1) 0 n)
    rw [Int.sub_zero] at this
    exact this
  refine Rel.tup (xs := rgV 0 n) (es := rngD 0 n.toNat) (R2.swap fun Hi h => ?_) e hp
  have := rgV_dp (K := K) (Hi := Hi) 0 n
  rw [Int.sub_zero] at this
  exact dpAll_app this h
end
/-! texts in lists of texts -/
theorem sh_str {x : Str} (h : PyData.strOk x = true) : SeqAt.shaped (.str x) = true := by
  unfold SeqAt.shaped
  simp [PyData.canLay0, PyData.depth, h]
end LD
namespace LD
open PySem PySem.Spec L2 PyProof.Rows
/-! walks over a list or a tuple, whichever it is -/
section
variable {X : Cx} {tg : Expr}
def iSeq (K : PySem.W.Frag) (tl : TE) : TI := fun σ H R => tl σ H fun x H1 => ∃ a, x = .ref a ∧ (((∃ xs, SqL K H1 a xs) ∧ R (Itl K a) H1) ∨ ((∃ xs, SqT K H1 a xs) ∧ R (Itt K a) H1))
theorem pi_seq {l : Expr} {tl : TE} (hl : PE X l tl) : PI X tg l (iSeq X.K tl) := by
  refine ⟨fun pins s σ H R I h => ?_⟩
  refine thn (hl.run pins s σ H _ I h) fun v s1 ⟨x, H1, I1, r1, q1⟩ => ?_
  obtain ⟨a, e, q⟩ := q1
  subst e
  cases r1
  rcases q with ⟨⟨xs, hq⟩, q⟩ | ⟨⟨xs, hq⟩, q⟩
  · obtain ⟨its, rv, p, hz⟩ := I1.list hq
    refine wpAny_pyIter_list p.isList ?_
    refine ⟨s1.heap.objs.size, [s1.heap.objs.size], _, _, H1, rfl, I1.kept (t' := s1.toks) fun b o e => Heap.get?_push_of_some _ e, turn_list a _, ⟨_, Heap.get?_push_size _ rfl, rfl, rfl⟩, fun b hb => ?_, q⟩
    have e : b = s1.heap.objs.size := by simpa using hb
    subst e
    exact I1.fpOk (Nat.le_refl _) (I1.hok.fresh (Nat.le_refl _))
  · obtain ⟨its, rv, p, hz⟩ := I1.tuple hq
    refine wpAny_pyIter_tuple (show s1.heap.IsTuple a its.toArray from p) ?_
    refine ⟨s1.heap.objs.size, [s1.heap.objs.size], _, _, H1, rfl, I1.kept (t' := s1.toks) fun b o e => Heap.get?_push_of_some _ e, turn_tuple a _, ⟨_, Heap.get?_push_size _ rfl, rfl, rfl⟩, fun b hb => ?_, q⟩
    have e : b = s1.heap.objs.size := by simpa using hb
    subst e
    exact I1.fpOk (Nat.le_refl _) (I1.hok.fresh (Nat.le_refl _))
end
section
variable {K : PySem.W.Frag} {ta : TE} {a : TD}
def iS (a : TD) : TDI := fun ρ P => a ρ fun r d => ∃ es, (d = .list es ∨ d = .tuple es) ∧ P r es
theorem si_seq (sa : SE K ta a) : SI K (iSeq K ta) (iS a) := by
  refine ⟨fun ρ P P' h q => sa.mono _ _ _ (fun _ d ⟨es, e, q⟩ => ⟨es, e, h _ _ q⟩) q, fun F σ H ρ vs ds Q R q => ?_⟩
  refine sa.run F σ H ρ vs ds _ R (sa.mono _ _ _ (fun r d q v H1 R1 => ?_) q)
  obtain ⟨es, e, q⟩ := q
  rcases e with e | e
  · subst e
    obtain ⟨p, xs, rfl, e2, s, R2⟩ := R1.asList
    exact ⟨p, rfl, .inl ⟨⟨xs, s⟩, q _ _ [.ref p] [.list es] rfl walks_list R1⟩⟩
  · subst e
    obtain ⟨p, xs, rfl, e2, s, R2⟩ := R1.asTup
    exact ⟨p, rfl, .inr ⟨⟨xs, s⟩, q _ _ [.ref p] [.tuple es] rfl walks_tup R1⟩⟩
end
end LD
namespace LD
open PySem PySem.Spec L2 PyProof.Rows
section
variable {K : PySem.W.Frag}
theorem strs_of {H : Hp} : ∀ (ss : List Str) (vs : List V), DpAll K H vs (ss.map PyData.str) → vs = ss.map V.str
  | [], _, h => by cases h; rfl
  | s :: ss, _, h => by
    cases h with
    | cons a b => cases a; rw [strs_of ss _ b]; rfl
theorem inV_strs (x : Str) : ∀ ss : List Str, inV (.str x) (ss.map V.str) = decide (x ∈ ss)
  | [] => rfl
  | n :: ns => by
    have ih := inV_strs x ns
    unfold inV at ih ⊢
    rw [List.map_cons, List.any_cons, ih]
    have e : eqV (.str n) (.str x) = (n == x) := rfl
    rw [e]
    by_cases h : n = x
    · subst h; simp
    · have h' : ¬ x = n := fun z => h z.symm
      simp [h, h']
theorem flat_strs : ∀ ns : List Str, (ns.map V.str).all flatV = true
  | [] => rfl
  | n :: ns => by rw [List.map_cons, List.all_cons, flat_strs ns]; rfl
/-- a text in a list of texts -/
def oInS (n : Bool) : OD := fun a b P => ∃ (x : Str) (ss : List Str), a = .str x ∧ b = .list (ss.map PyData.str) ∧ P (.bool (if n = true then !decide (x ∈ ss) else decide (x ∈ ss)))
theorem so_inS (n : Bool) : SO K (rIn K n) (oInS n) := ⟨fun a b P P' h ⟨i, ns, e, h1, q⟩ => ⟨i, ns, e, h1, h _ q⟩, fun F σ H ρ vs ds x y a b Q R ⟨i, ns, e, h1, q⟩ => by
  subst e
  subst h1
  have ex : x = .str i := by
    obtain ⟨Hi, own, R'⟩ := R.drop
    have t := R'.tmp
    cases t with | cons a _ => cases a; rfl
  subst ex
  obtain ⟨p, xs, rfl, e, s, R1⟩ := R.asList
  obtain rfl := strs_of (K := K) ns xs (dpAll_split e R1.dpAll).1
  refine ⟨p, _, rfl, .inl s, rfl, flat_strs ns, ?_⟩
  rw [inV_strs]
  cases n with
  | true => exact q _ _ (R.drop.drop.push (v := .bl (!decide (i ∈ ns))) rfl)
  | false => exact q _ _ (R.drop.drop.push (v := .bl (decide (i ∈ ns))) rfl)⟩
end
end LD

/-! LD36: slots that know any objects of their own; dicts whose keys are ints. -/
namespace LD
open PySem PySem.Spec L2 PyProof.Rows
section
variable {K : PySem.W.Frag} {F : Fx} {σ : L2.St} {H : Hp} {ρ : Rho} {vs ws : List V} {ds es : List D}
theorem Rel.obAt {i : Nat} {p : Addr} {as : List Addr} {φ : PySem.W.Frag → Hp → Hp → Prop} (R : Rel K F σ H ρ vs ds) (h : ρ[i]? = some (.ob p as φ)) :
    σ[i]? = some (some (.ref p)) ∧ ∃ Hi own, RelI K F σ H ρ vs ds Hi own ∧ own i = as ∧ φ K Hi H := by
  obtain ⟨Hi, own, R⟩ := R
  obtain ⟨e, eo, q⟩ := R.slot i _ h
  have e' : σ[i]? = some (some (.ref p)) := by
    cases z : σ[i]? with
    | none => rw [z] at e; cases e
    | some y => rw [z] at e; exact congrArg some e
  exact ⟨e', Hi, own, R, eo, q Hi H (Same.refl _) fun _ _ _ z => z⟩
/-- one of slot i's objects is turned -/
theorem Rel.turnOb {i : Nat} {p b : Addr} {as : List Addr} {o' : HO} {φ φ' : PySem.W.Frag → Hp → Hp → Prop} (R : Rel K F σ H ρ vs ds) (h : ρ[i]? = some (.ob p as φ)) (hb : b ∈ as)
    (hz : ∀ Hi, Same Hi H → DpAll K Hi vs ds → φ K Hi H → (∀ Hi' H', Same Hi Hi' → (∀ c ∈ as, ∀ o, (upd H b o') c = some o → H' c = some o) → φ' K Hi' H') ∧ DpAll K Hi ws es) :
    Rel K F σ (upd H b o') (ρ.set i (.ob p as φ')) ws es := by
  obtain ⟨Hi, own, R⟩ := R
  obtain ⟨e, eo, q⟩ := R.slot i _ h
  have hi : i < ρ.length := (List.getElem?_eq_some_iff.mp h).1
  obtain ⟨y1, y2⟩ := hz Hi R.sub R.tmp (q Hi H (Same.refl _) fun _ _ _ z => z)
  have bo : b ∈ own i := by rw [eo]; exact hb
  have np : Hi b = none := R.free i b bo
  have no : ∀ j, j ≠ i → ∀ a ∈ own j, a ≠ b := fun j hj a ha z => R.sep j i hj a ha (by rw [z]; exact bo)
  refine ⟨Hi, own, ⟨R.base, fun c x z => ?_, R.new, fun c o z hn => ?_, fun c z => ?_, by rw [List.length_set]; exact R.len, fun j x z => ?_, R.free, fun j a ha => ?_, R.nown, R.sep, fun j es' z => ?_, fun z hz => ?_, y2⟩⟩
  · rw [upd_ne (fun w => by rw [w, np] at z; cases z)]; exact R.sub c x z
  · have nb : c ≠ b := fun w => by
      rcases R.nown i b bo with q | q
      · rw [w, q] at z; cases z
      · exact hn (by rw [w]; exact q)
    rw [upd_ne nb]; exact R.keep c o z hn
  · by_cases hc : c = b
    · rw [hc, upd_same]; simp
    · rw [upd_ne hc]; exact R.dom c z
  · by_cases hj : j = i
    · subst hj
      rw [List.getElem?_set_self hi] at z
      cases z
      exact ⟨e, eo, y1⟩
    · rw [List.getElem?_set_ne (Ne.symm hj)] at z
      exact (R.slot j x z).grow (Same.refl _) fun a ha o w => by rw [upd_ne (no j hj a ha)]; exact w
  · by_cases hap : a = b
    · rw [hap, upd_same]; simp
    · rw [upd_ne hap]; exact R.held j a ha
  · by_cases hj : j = i
    · subst hj
      rw [List.getElem?_set_self hi] at z
      cases z
    · rw [List.getElem?_set_ne (Ne.symm hj)] at z
      exact R.nls j es' z
  · obtain ⟨z1, z2, z3⟩ := R.pin z hz
    have nz : z.1 ≠ b := fun w => z3 i (by rw [w]; exact bo)
    exact ⟨by rw [upd_ne nz]; exact z1, z2, z3⟩
end
/-! ### dicts whose keys are ints -/
abbrev KI := List (Int × V × D)
def hoI (zs : KI) : List (L2.Key × V) := zs.map fun z => (Sum.inl z.1, z.2.1)
def kvI (zs : KI) : List (Int × D) := zs.map fun z => (z.1, z.2.2)
def dkφ (p : Addr) (zs : KI) : PySem.W.Frag → Hp → Hp → Prop := fun K Hi H => H p = some (.dK (hoI zs)) ∧ ∀ z ∈ zs, Dp K Hi z.2.1 z.2.2
abbrev DV.dk (p : Addr) (zs : KI) : DV := .ob p [p] (dkφ p zs)
theorem dk_grow {K : PySem.W.Frag} {p : Addr} {zs : KI} {Hi H : Hp} (h : dkφ p zs K Hi H) : ∀ Hi' H', Same Hi Hi' → (∀ b ∈ [p], ∀ o, H b = some o → H' b = some o) → dkφ p zs K Hi' H' :=
  fun Hi' H' e g => ⟨g p (List.mem_singleton.mpr rfl) _ h.1, fun z hz => dp_mono e _ _ (h.2 z hz)⟩
def lookE1 (zs : KI) (k : Int) : Option (Int × V × D) := zs.find? fun z => decide (z.1 = k)
def lookJ (kvs : List (Int × D)) (k : Int) : Option D := (kvs.find? fun p => decide (p.1 = k)).map (·.2)
def putJ (kvs : List (Int × D)) (k : Int) (d : D) : List (Int × D) := if (lookJ kvs k).isSome then kvs.map fun p => if p.1 = k then (p.1, d) else p else kvs ++ [(k, d)]
def putE1 (zs : KI) (k : Int) (v : V) (d : D) : KI := if (lookE1 zs k).isSome then zs.map fun z => if z.1 = k then (z.1, v, d) else z else zs ++ [(k, v, d)]
theorem look_V (zs : KI) (k : Int) : valV (hoI zs) (.inl k) = (lookE1 zs k).map (·.2.1) := by
  unfold valV hoI lookE1
  induction zs with
  | nil => rfl
  | cons z zs ih =>
    rw [List.map_cons, List.find?_cons, List.find?_cons]
    by_cases h : z.1 = k
    · rw [decide_eq_true (show (Sum.inl z.1 : L2.Key) = .inl k by rw [h]), decide_eq_true h]
      rfl
    · rw [decide_eq_false (show ¬ (Sum.inl z.1 : L2.Key) = .inl k from fun w => h (Sum.inl.inj w)), decide_eq_false h]
      exact ih
theorem look_J (zs : KI) (k : Int) : lookJ (kvI zs) k = (lookE1 zs k).map (·.2.2) := by
  unfold lookJ kvI lookE1
  induction zs with
  | nil => rfl
  | cons z zs ih =>
    rw [List.map_cons, List.find?_cons, List.find?_cons]
    by_cases h : z.1 = k
    · rw [decide_eq_true (show (z.1, z.2.2).1 = k from h)]
      rfl
    · rw [decide_eq_false (show ¬ (z.1, z.2.2).1 = k from h)]
      exact ih
theorem look_mem {zs : KI} {k : Int} {z : Int × V × D} (h : lookE1 zs k = some z) : z ∈ zs ∧ z.1 = k := ⟨List.mem_of_find?_eq_some h, of_decide_eq_true (show decide (z.1 = k) = true from List.find?_some (p := fun z : Int × V × D => decide (z.1 = k)) h)⟩
theorem put_V (zs : KI) (k : Int) (v : V) (d : D) : putK (hoI zs) (.inl k) v = hoI (putE1 zs k v d) := by
  have e : (hoI zs).any (fun kv => decide (kv.1 = (.inl k : L2.Key))) = (lookE1 zs k).isSome := by
    rw [valV_any, look_V, Option.isSome_map]
  unfold putK putE1
  rw [e]
  cases h : (lookE1 zs k).isSome with
  | false =>
    rw [if_neg (by decide), if_neg (by decide)]
    unfold hoI
    rw [List.map_append]
    rfl
  | true =>
    rw [if_pos rfl, if_pos rfl]
    unfold hoI
    rw [List.map_map, List.map_map]
    refine List.map_congr_left fun z _ => ?_
    show (if (Sum.inl z.1 : L2.Key) = .inl k then ((Sum.inl z.1 : L2.Key), v) else (.inl z.1, z.2.1)) = ((Sum.inl (if z.1 = k then (z.1, v, d) else z).1 : L2.Key), (if z.1 = k then (z.1, v, d) else z).2.1)
    by_cases hk : z.1 = k
    · rw [if_pos (by rw [hk]), if_pos hk]
    · rw [if_neg (fun w => hk (Sum.inl.inj w)), if_neg hk]
theorem put_J (zs : KI) (k : Int) (v : V) (d : D) : kvI (putE1 zs k v d) = putJ (kvI zs) k d := by
  unfold putE1 putJ
  rw [look_J, Option.isSome_map]
  cases h : (lookE1 zs k).isSome with
  | false =>
    rw [if_neg (by decide), if_neg (by decide)]
    unfold kvI
    rw [List.map_append]
    rfl
  | true =>
    rw [if_pos rfl, if_pos rfl]
    unfold kvI
    rw [List.map_map, List.map_map]
    refine List.map_congr_left fun z _ => ?_
    show ((if z.1 = k then (z.1, v, d) else z).1, (if z.1 = k then (z.1, v, d) else z).2.2) = if z.1 = k then (z.1, d) else (z.1, z.2.2)
    by_cases hk : z.1 = k
    · rw [if_pos hk, if_pos hk]
    · rw [if_neg hk, if_neg hk]
theorem putE1_dp {K : PySem.W.Frag} {Hi : Hp} {zs : KI} {k : Int} {v : V} {d : D} (hz : ∀ z ∈ zs, Dp K Hi z.2.1 z.2.2) (hv : Dp K Hi v d) : ∀ z ∈ putE1 zs k v d, Dp K Hi z.2.1 z.2.2 := fun z hm => by
  unfold putE1 at hm
  split at hm
  · obtain ⟨y, hy, rfl⟩ := List.mem_map.mp hm
    split
    · exact hv
    · exact hz y hy
  · rcases List.mem_append.mp hm with h | h
    · exact hz z h
    · rw [List.mem_singleton.mp h]
      exact hv
section
variable {X : Cx}
def rInK (neg : Bool) : R2 := fun x y H Q => ∃ a kvs k, y = .ref a ∧ x = .int k ∧ H a = some (.dK kvs) ∧ Q (.bl (if neg = true then !(valV kvs (.inl k)).isSome else (valV kvs (.inl k)).isSome)) H
theorem op_inK (hu : X.A.units + 1 < cLine) : OpR X (compareOp .In) (rInK false) := by
  intro pins s σ H x y v u Q I rx ry h
  obtain ⟨a, kvs, k, rfl, rfl, ha, q⟩ := h
  cases ry
  exact d_in hu I (DGet.k (k := .inl k) ha) rx fun s' I' => ⟨.bl _, H, I', rfl, q⟩
theorem op_notInK (hu : X.A.units + 1 < cLine) : OpR X (compareOp .NotIn) (rInK true) := by
  intro pins s σ H x y v u Q I rx ry h
  obtain ⟨a, kvs, k, rfl, rfl, ha, q⟩ := h
  cases ry
  exact d_notIn hu I (DGet.k (k := .inl k) ha) rx fun s' I' => ⟨.bl _, H, I', rfl, q⟩
end
section
variable {K : PySem.W.Frag} {tb tk : TE} {b k : TD}
/-- x = {} -/
def dNewK (i : Nat) : TDS := fun dn ρ => i < ρ.length ∧ ∀ p, dn.nx (ρ.set i (.dk p []))
theorem ss_newK {i : Nat} : SS K (tAsg tDNewK (gName i)) (dNewK i) := ⟨fun a b ρ h q => ⟨q.1, fun p => h.nx _ (q.2 p)⟩, fun F σ H ρ vs ds E dn G R q p hp => G.nx _ _ _ (R.keepNew (x := .dk p []) hp q.1 fun Hi s => ⟨rfl, rfl, dk_grow ⟨upd_same, fun _ h => by cases h⟩⟩) (q.2 p)⟩
/-- x[e] -/
def dIxK (i : Nat) (b : TD) : TD := fun ρ P => (∃ p zs, ρ[i]? = some (.dk p zs)) ∧ b ρ fun r y => ∃ p zs k d, r[i]? = some (.dk p zs) ∧ y = .int k ∧ lookJ (kvI zs) k = some d ∧ P r d
theorem se_ixK (i : Nat) (sb : SE K tb b) : SE K (tDGet (tVar i) tb) (dIxK i b) := by
  refine ⟨fun ρ P P' h ⟨q0, q⟩ => ⟨q0, sb.mono _ _ _ (fun r y ⟨p, zs, k, d, e, e1, e2, q⟩ => ⟨p, zs, k, d, e, e1, e2, h _ _ q⟩) q⟩, fun F σ H ρ vs ds Q R q => ?_⟩
  obtain ⟨⟨p, zs0, e0⟩, q⟩ := q
  obtain ⟨e1, _⟩ := R.obAt e0
  refine ⟨.ref p, e1, sb.run F σ H ρ vs ds _ R (sb.mono _ _ _ (fun r y q v H1 R1 => ?_) q)⟩
  obtain ⟨p2, zs, k, d, e, rfl, el, q3⟩ := q
  obtain rfl := R1.int
  obtain ⟨e2, Hi, own, R2, _, hp, hd⟩ := R1.drop.obAt e
  rw [e1] at e2
  cases e2
  rw [look_J] at el
  cases hz : lookE1 zs k with
  | none => rw [hz] at el; cases el
  | some z =>
    rw [hz] at el
    obtain rfl : z.2.2 = d := Option.some.inj el
    refine ⟨p, z.2.1, rfl, ?_, q3 _ _ ⟨Hi, own, R2.tmpTo (.cons (hd z (look_mem hz).1) R2.tmp)⟩⟩
    have := DGet.k (k := .inl k) hp
    rw [look_V, hz] at this
    exact this
/-- e in x -/
def dInK (n : Bool) (i : Nat) (b : TD) : TD := fun ρ P => b ρ fun r y => ∃ p zs k, r[i]? = some (.dk p zs) ∧ y = .int k ∧ P r (.bool (if n = true then !(lookJ (kvI zs) k).isSome else (lookJ (kvI zs) k).isSome))
theorem se_inK (n : Bool) (i : Nat) (sb : SE K tb b) : SE K (tOp (rInK n) tb (tVar i)) (dInK n i b) := by
  refine ⟨fun ρ P P' h q => sb.mono _ _ _ (fun r y ⟨p, zs, k, e, e1, q⟩ => ⟨p, zs, k, e, e1, h _ _ q⟩) q, fun F σ H ρ vs ds Q R q => ?_⟩
  refine sb.run F σ H ρ vs ds _ R (sb.mono _ _ _ (fun r y q v H1 R1 => ?_) q)
  obtain ⟨p, zs, k, e, rfl, q3⟩ := q
  obtain rfl := R1.int
  obtain ⟨e2, Hi, own, R2, _, hp, hd⟩ := R1.drop.obAt e
  refine ⟨.ref p, e2, p, _, k, rfl, rfl, hp, ?_⟩
  rw [look_V, Option.isSome_map]
  rw [look_J, Option.isSome_map] at q3
  cases n with
  | true => exact q3 (.bl (!(lookE1 zs k).isSome)) _ ⟨Hi, own, R2.tmpTo (.cons (.bl _) R2.tmp)⟩
  | false => exact q3 (.bl (lookE1 zs k).isSome) _ ⟨Hi, own, R2.tmpTo (.cons (.bl _) R2.tmp)⟩
/-- x[k] = e -/
def dSetK (i : Nat) (b k : TD) : TDS := fun dn ρ => b ρ fun r d => (∃ p zs, r[i]? = some (.dk p zs)) ∧ k r fun r2 y => ∃ p zs n, r2[i]? = some (.dk p zs) ∧ y = .int n ∧ zs.length < sizeLine ∧ ∀ zs', kvI zs' = putJ (kvI zs) n d → dn.nx (r2.set i (.dk p zs'))
theorem ss_setK (i : Nat) (sb : SE K tb b) (sk : SE K tk k) : SS K (sDPut (tVar i) tk tb) (dSetK i b k) := by
  refine ⟨fun a b ρ h q => sb.mono _ _ _ (fun r d ⟨q0, q⟩ => ⟨q0, sk.mono _ _ _ (fun r2 y ⟨p, zs, ks, e, e1, e2, q⟩ => ⟨p, zs, ks, e, e1, e2, fun zs' hz => h.nx _ (q zs' hz)⟩) q⟩) q, fun F σ H ρ vs ds E dn G R q => ?_⟩
  refine sb.run F σ H ρ vs ds _ R (sb.mono _ _ _ (fun r d q v H1 R1 => ?_) q)
  obtain ⟨⟨p, zs0, e0⟩, q⟩ := q
  obtain ⟨e1, _⟩ := R1.obAt e0
  refine ⟨.ref p, e1, sk.run F σ H1 r _ _ _ R1 (sk.mono _ _ _ (fun r2 y q w H2 R2 => ?_) q)⟩
  obtain ⟨p2, zs, n, e, rfl, ez, q3⟩ := q
  obtain rfl := R2.int
  obtain ⟨e2, Hi, own, R3, _, hp, hd⟩ := R2.drop.obAt e
  rw [e1] at e2
  cases e2
  refine ⟨p, _, rfl, DPut.k (k := .inl n) hp (by unfold hoI; rw [List.length_map]; exact ez), ?_⟩
  rw [put_V zs n v d]
  refine G.nx _ _ _ (R2.drop.turnOb (φ' := dkφ p (putE1 zs n v d)) e (List.mem_singleton.mpr rfl) fun Hi s h q => ?_) (q3 (putE1 zs n v d) (put_J zs n v d))
  cases h with
  | cons a b => exact ⟨dk_grow ⟨upd_same, putE1_dp q.2 a⟩, b⟩
/-- x.get(k, e) -/
def dGetK (i : Nat) (k b : TD) : TD := fun ρ P => (∃ p zs, ρ[i]? = some (.dk p zs)) ∧ k ρ fun r y => b r fun r2 d => ∃ p zs n, r2[i]? = some (.dk p zs) ∧ y = .int n ∧ P r2 ((lookJ (kvI zs) n).getD d)
theorem se_getK (i : Nat) (sk : SE K tk k) (sb : SE K tb b) : SE K (tDGet2 (tVar i) tk tb) (dGetK i k b) := by
  refine ⟨fun ρ P P' h ⟨q0, q⟩ => ⟨q0, sk.mono _ _ _ (fun r y q => sb.mono _ _ _ (fun r2 d ⟨p, zs, ks, e, e1, q⟩ => ⟨p, zs, ks, e, e1, h _ _ q⟩) q) q⟩, fun F σ H ρ vs ds Q R q => ?_⟩
  obtain ⟨⟨p, zs0, e0⟩, q⟩ := q
  obtain ⟨e1, Hi0, own0, R0, _, hp0, _⟩ := R.obAt e0
  refine ⟨.ref p, e1, p, rfl, .inl ⟨_, .inl hp0⟩, sk.run F σ H ρ vs ds _ R (sk.mono _ _ _ (fun r y q w H1 R1 => ?_) q)⟩
  refine sb.run F σ H1 r _ _ _ R1 (sb.mono _ _ _ (fun r2 d q v H2 R2 => ?_) q)
  obtain ⟨p2, zs, n, e, rfl, q3⟩ := q
  have ew : w = .int n := by
    obtain ⟨_, _, R3⟩ := R2.drop
    have t := R3.tmp
    cases t with | cons a _ => cases a; rfl
  subst ew
  obtain ⟨e2, Hi, own, R3, _, hp, hd⟩ := R2.obAt e
  rw [e1] at e2
  cases e2
  have tm := R3.tmp
  cases tm with
  | cons t1 t2 =>
    cases t2 with
    | cons t3 t4 =>
      refine ⟨_, DGet.k (k := .inl n) hp, ?_⟩
      rw [look_V]
      rw [look_J] at q3
      cases hz : lookE1 zs n with
      | none =>
        rw [hz] at q3
        exact q3 _ _ ⟨Hi, own, R3.tmpTo (.cons t1 t4)⟩
      | some z =>
        rw [hz] at q3
        exact q3 _ _ ⟨Hi, own, R3.tmpTo (.cons (hd z (look_mem hz).1) t4)⟩
end
end LD

/-! LD37: dicts that expressions make, that defs are given and hand back. -/
namespace LD
open PySem PySem.Spec L2 PyProof.Rows
section
variable {K : PySem.W.Frag} {F : Fx} {σ τ : L2.St} {H : Hp} {ρ θ : Rho} {vs ws : List V} {ds es : List D}
/-- one more slot behind all others -/
theorem RelI.addSlot {Hi : Hp} {own : Nat → List Addr} {p : Addr} {x : DV} (R : RelI K F σ H ρ vs ds Hi own) (hp : H p ≠ none) (hi : Hi p = none) (ho : ∀ i, p ∉ own i) (h0 : F.H0 p = none) (hz : ∀ z ∈ F.Z, z.1 ≠ p) (hx : SlotOk K Hi H (some (.ref p)) [p] x) :
    Rel K F (σ ++ [some (.ref p)]) H (ρ ++ [x]) vs ds := by
  have el := R.len
  refine ⟨Hi, fun j => if j = ρ.length then [p] else own j, ⟨R.base, R.sub, R.new, R.keep, R.dom, by rw [List.length_append, List.length_append, el]; rfl, fun j y h => ?_, fun j a ha => ?_, fun j a ha => ?_, fun j a ha => ?_, fun j k hjk a ha hk => ?_, fun j es' h a ha => ?_, fun z hzm => ?_, R.tmp⟩⟩
  · by_cases hj : j = ρ.length
    · subst hj
      rw [List.getElem?_append_right (Nat.le_refl _), Nat.sub_self] at h
      obtain rfl : x = y := Option.some.inj h
      rw [if_pos rfl, List.getElem?_append_right (by rw [el]; exact Nat.le_refl _), el, Nat.sub_self]
      exact hx
    · have hl : j < ρ.length := by
        have := (List.getElem?_eq_some_iff.mp h).1
        rw [List.length_append] at this
        simp only [List.length_cons, List.length_nil] at this
        omega
      rw [List.getElem?_append_left hl] at h
      rw [if_neg hj, List.getElem?_append_left (by rw [el]; exact hl)]
      exact R.slot j y h
  all_goals try (by_cases hj : j = ρ.length)
  · rw [if_pos hj] at ha
    obtain rfl : a = p := by simpa using ha
    exact hi
  · rw [if_neg hj] at ha; exact R.free j a ha
  · rw [if_pos hj] at ha
    obtain rfl : a = p := by simpa using ha
    exact hp
  · rw [if_neg hj] at ha; exact R.held j a ha
  · rw [if_pos hj] at ha
    obtain rfl : a = p := by simpa using ha
    exact .inl h0
  · rw [if_neg hj] at ha; exact R.nown j a ha
  · rw [if_pos hj] at ha
    obtain rfl : a = p := by simpa using ha
    rw [if_neg (fun z => hjk (hj.trans z.symm))] at hk
    exact ho k hk
  · rw [if_neg hj] at ha
    by_cases hkl : k = ρ.length
    · rw [if_pos hkl] at hk
      obtain rfl : a = p := by simpa using hk
      exact ho j ha
    · rw [if_neg hkl] at hk; exact R.sep j k hjk a ha hk
  · rw [if_pos hj] at ha
    obtain rfl : a = p := by simpa using ha
    exact h0
  · rw [if_neg hj] at ha
    have hl : j < ρ.length := by
      have := (List.getElem?_eq_some_iff.mp h).1
      rw [List.length_append] at this
      simp only [List.length_cons, List.length_nil] at this
      omega
    rw [List.getElem?_append_left hl] at h
    exact R.nls j es' h a ha
  · obtain ⟨z1, z2, z3⟩ := R.pin z hzm
    refine ⟨z1, z2, fun j hj => ?_⟩
    by_cases hjl : j = ρ.length
    · rw [if_pos hjl] at hj
      exact hz z hzm (by simpa using hj)
    · rw [if_neg hjl] at hj; exact z3 j hj
/-- slots behind all others are forgotten -/
theorem Rel.dropSlots (R : Rel K F (σ ++ τ) H (ρ ++ θ) vs ds) (el : σ.length = ρ.length) : Rel K F σ H ρ vs ds := by
  obtain ⟨Hi, own, R⟩ := R
  have inv : ∀ j a, a ∈ (if j < ρ.length then own j else []) → j < ρ.length ∧ a ∈ own j := fun j a h => by
    by_cases hj : j < ρ.length
    · rw [if_pos hj] at h; exact ⟨hj, h⟩
    · rw [if_neg hj] at h; cases h
  refine ⟨Hi, fun j => if j < ρ.length then own j else [], ⟨R.base, R.sub, R.new, R.keep, R.dom, el, fun j y h => ?_, fun j a ha => R.free j a (inv j a ha).2, fun j a ha => R.held j a (inv j a ha).2, fun j a ha => R.nown j a (inv j a ha).2, fun j k hjk a ha hk => R.sep j k hjk a (inv j a ha).2 (inv k a hk).2, fun j es' h a ha => ?_, fun z hz => ?_, R.tmp⟩⟩
  · have hl := (List.getElem?_eq_some_iff.mp h).1
    have := R.slot j y (by rw [List.getElem?_append_left hl]; exact h)
    rw [List.getElem?_append_left (by rw [el]; exact hl)] at this
    rw [if_pos hl]
    exact this
  · have hl := (List.getElem?_eq_some_iff.mp h).1
    exact R.nls j es' (by rw [List.getElem?_append_left hl]; exact h) a (inv j a ha).2
  · obtain ⟨z1, z2, z3⟩ := R.pin z hz
    exact ⟨z1, z2, fun j hj => z3 j (inv j _ hj).2⟩
end
abbrev KVD := List (List Int × D)
abbrev TDX := Rho → (Rho → KVD → Prop) → Prop
/-- an expression whose worth is a dict (keys: tuples of ints): a slot's own, or a new one -/
structure SX (K : PySem.W.Frag) (te : TE) (t : TDX) : Prop where
  mono : ∀ ρ P P', (∀ r d, P r d → P' r d) → t ρ P → t ρ P'
  run : ∀ F σ H ρ vs ds Q, Rel K F σ H ρ vs ds → t ρ (fun r kvs => ∀ (p : Addr) (zs : List Ent) (H' : Hp) (τ : L2.St) (θ : Rho) (j : Nat), r.length = σ.length → Rel K F (σ ++ τ) H' (r ++ θ) vs ds → (r ++ θ)[j]? = some (DV.dt p zs) → zs.map Ent.kv = kvs → Q (.ref p) H') → te σ H Q
def spTX (K : PySem.W.Frag) (g : D → KVD → (KVD → Prop) → Prop) : Sp := fun vs H Q _ => ∃ (Hi : Hp) (a : Addr) (zs : List Ent) (v : V) (d : D), vs = [v, .ref a] ∧ Same Hi H ∧ Hi a = none ∧ H a = some (.ext (RawT a (zs.map Ent.x))) ∧ EntsOk K Hi zs ∧ Dp K Hi v d ∧
  g d (zs.map Ent.kv) fun kvs => ∀ p zs' H' Hi', Same Hi Hi' → Same Hi' H' → Same H H' → Fresh Hi Hi' H → H p = none → Hi' p = none → H' p = some (.ext (RawT p (zs'.map Ent.x))) → EntsOk K Hi' zs' → zs'.map Ent.kv = kvs → Q (.ref p) H'
section
variable {K : PySem.W.Frag} {te tx tk tv : TE} {e k b : TD} {x : TDX} {E : XK}
/-- a slot's dict -/
def xVar (i : Nat) : TDX := fun ρ P => ∃ p zs, ρ[i]? = some (.dt p zs) ∧ P ρ (zs.map Ent.kv)
theorem sx_var (i : Nat) : SX K (tVar i) (xVar i) := ⟨fun ρ P P' h ⟨p, zs, e, q⟩ => ⟨p, zs, e, h _ _ q⟩, fun F σ H ρ vs ds Q R ⟨p, zs, e, q⟩ => by
  obtain ⟨e1, _, _⟩ := R.dtAt e
  refine ⟨.ref p, e1, q p zs H [] [] i ?_ (by rw [List.append_nil, List.append_nil]; exact R) (by rw [List.append_nil]; exact e) rfl⟩
  obtain ⟨_, _, R⟩ := R
  exact R.len.symm⟩
/-- f(e, x) -/
def dCallX (g : CT) (e : TD) (x : TDX) : TD := fun ρ P => e ρ fun r d => x r fun r2 kvs => g d kvs (P r2)
theorem se_callX {g : CT} (hg : ∀ d kvs P P', (∀ r, P r → P' r) → g d kvs P → g d kvs P') (s : SE K te e) (sx : SX K tx x) : SE K (tCall (spT K g) [] E (tCons te (tCons tx tNil))) (dCallX g e x) := by
  refine ⟨fun ρ P P' h q => s.mono _ _ _ (fun r d q => sx.mono _ _ _ (fun r2 kvs q => hg _ _ _ _ (h _) q) q) q, fun F σ H ρ vs ds Q R q => ?_⟩
  refine s.run F σ H ρ vs ds _ R (s.mono _ _ _ (fun r d q v H1 R1 => ?_) q)
  refine sx.run F σ H1 r _ _ _ R1 (sx.mono _ _ _ (fun r2 kvs q p zs H2 τ θ j el R2 e1 e2 => ?_) q)
  subst e2
  obtain ⟨Hi, own, R3⟩ := R2
  obtain ⟨_, eo, hp', q2⟩ := R3.slot j _ e1
  have t := R3.tmp
  cases t with
  | cons t1 t2 =>
    exact ⟨Hi, p, zs, v, d, rfl, R3.sub, R3.free j p (by rw [eo]; simp), hp', q2, t1, hg _ _ _ _ (fun d' q v' H' Hi' h1 h2 h3 h4 h5 => q v' H' (Rel.dropSlots ⟨Hi', own, R3.after h1 h2 h3 h4 (.cons h5 (dpAll_mono h1 _ _ t2))⟩ el.symm)) q⟩
/-- f(e, x), a dict -/
def xCall (g : D → KVD → (KVD → Prop) → Prop) (e : TD) (x : TDX) : TDX := fun ρ P => e ρ fun r d => x r fun r2 kvs => g d kvs (P r2)
theorem sx_call {g : D → KVD → (KVD → Prop) → Prop} (hg : ∀ d kvs P P', (∀ r, P r → P' r) → g d kvs P → g d kvs P') (s : SE K te e) (sx : SX K tx x) : SX K (tCall (spTX K g) [] E (tCons te (tCons tx tNil))) (xCall g e x) := by
  refine ⟨fun ρ P P' h q => s.mono _ _ _ (fun r d q => sx.mono _ _ _ (fun r2 kvs q => hg _ _ _ _ (h _) q) q) q, fun F σ H ρ vs ds Q R q => ?_⟩
  refine s.run F σ H ρ vs ds _ R (s.mono _ _ _ (fun r d q v H1 R1 => ?_) q)
  refine sx.run F σ H1 r _ _ _ R1 (sx.mono _ _ _ (fun r2 kvs q p zs H2 τ θ j el R2 e1 e2 => ?_) q)
  subst e2
  obtain ⟨Hi, own, R3⟩ := R2
  obtain ⟨_, eo, hp', q2⟩ := R3.slot j _ e1
  have t := R3.tmp
  cases t with
  | cons t1 t2 =>
    refine ⟨Hi, p, zs, v, d, rfl, R3.sub, R3.free j p (by rw [eo]; simp), hp', q2, t1, hg _ _ _ _ (fun kvs' q p' zs' H' Hi' h1 h2 h3 h4 h5 h6 h7 h8 h9 => ?_) q⟩
    obtain ⟨Hj, own2, R4⟩ : Rel K F σ H' r2 vs ds := Rel.dropSlots ⟨Hi', own, R3.after h1 h2 h3 h4 (dpAll_mono h1 _ _ t2)⟩ el.symm
    -- the slot of the new dict, over Hi'
    have R5 := R3.after (ws := vs) (es := ds) h1 h2 h3 h4 (dpAll_mono h1 _ _ t2)
    have ho : ∀ i, p' ∉ own i := fun i hi => R3.held i p' hi h5
    have hz : ∀ z ∈ F.Z, z.1 ≠ p' := fun z hz w => by
      have := (R3.pin z hz).1
      rw [w, h5] at this
      cases this
    have R6 : Rel K F ((σ ++ τ) ++ [some (.ref p')]) H' ((r2 ++ θ) ++ [.dt p' zs']) vs ds := R5.addSlot (by rw [h7]; simp) h6 ho (R3.no0 h5) hz ⟨rfl, rfl, h7, h8⟩
    rw [List.append_assoc, List.append_assoc] at R6
    refine q p' zs' H' (τ ++ [some (.ref p')]) (θ ++ [.dt p' zs']) (r2.length + θ.length) el R6 ?_ h9
    rw [← List.append_assoc, List.getElem?_append_right (by rw [List.length_append]; exact Nat.le_refl _), List.length_append, Nat.sub_self]
    rfl
/-- {k: v} -/
def xDict1 (k b : TD) : TDX := fun ρ P => k ρ fun r y => b r fun r2 d => ∃ ks : List Int, y = .tuple (ks.map PyData.int) ∧ P r2 [(ks, d)]
theorem sx_dict1 (sk : SE K tk k) (sb : SE K tv b) : SX K (tDict1 K tk tv) (xDict1 k b) := by
  refine ⟨fun ρ P P' h q => sk.mono _ _ _ (fun r y q => sb.mono _ _ _ (fun r2 d ⟨ks, e, q⟩ => ⟨ks, e, h _ _ q⟩) q) q, fun F σ H ρ vs ds Q R q p hp => ?_⟩
  have f0 := R.pinFree hp
  refine sk.run (F.mk1 p _) σ _ ρ _ _ _ (R.pinNew hp) (sk.mono _ _ _ (fun r y q v H1 R1 => ?_) q)
  refine sb.run _ σ H1 r _ _ _ R1 (sb.mono _ _ _ (fun r2 d q w H2 R2 => ?_) q)
  obtain ⟨ks, ey, q3⟩ := q
  subst ey
  refine ⟨R2.pinAt, ?_⟩
  obtain ⟨u1, u2, u3⟩ := R2.unpin f0.1 f0.2
  have R2' := R2
  obtain ⟨Hi, own, R4⟩ := R2'
  have t := R4.tmp
  cases t with
  | cons t1 t2 =>
    cases t2 with
    | cons t3 t4 =>
      cases t3 with
      | tup s gk =>
        rename_i b' _
        have := ints_of (K := K) ks _ gk
        subst this
        refine ⟨b', ks, rfl, sqT_mono R4.sub s, fun u ru => ?_⟩
        have e2 : upd H2 p (.ext (RawT p [(ks, b', u)])) = upd (hide H2 p) p (.ext (RawT p [(ks, b', u)])) := by
          conv => lhs; rw [u2]
          funext c
          by_cases hc : c = p
          · rw [hc, upd_same, upd_same]
          · rw [upd_ne hc, upd_ne hc, upd_ne hc]
        rw [e2]
        -- p is laid, then told as a slot
        obtain ⟨Hj, own2, R5⟩ := u3
        have t' := R5.tmp
        cases t' with
        | cons t1' t2' =>
          cases t2' with
          | cons t3' t4' =>
            have ho : ∀ i, p ∉ own2 i := fun i hi => R5.held i p hi u1
            have hz : ∀ z ∈ F.Z, z.1 ≠ p := fun z hz w => by
              have := (R5.pin z hz).1
              rw [w, u1] at this
              cases this
            have hjp : Hj p = none := R5.noSub u1
            have R6 : RelI K F σ (upd (hide H2 p) p (.ext (RawT p [(ks, b', u)]))) r2 vs ds Hj own2 := by
              refine ⟨R5.base, fun c o q => ?_, R5.new, fun c o q hn => ?_, fun c q => ?_, R5.len, fun i x q => (R5.slot i x q).grow (Same.refl _) fun a ha o z => ?_, R5.free, fun i a ha => ?_, R5.nown, R5.sep, R5.nls, fun z hzm => ?_, t4'⟩
              · rw [upd_ne (fun w => by rw [w, hjp] at q; cases q)]; exact R5.sub c o q
              · rw [upd_ne (ne_of_none (R5.keep c o q hn) u1)]; exact R5.keep c o q hn
              · by_cases hc : c = p
                · rw [hc, upd_same]; simp
                · rw [upd_ne hc]; exact R5.dom c q
              · rw [upd_ne (fun w => by rw [w, u1] at z; cases z)]; exact z
              · rw [upd_ne (fun w => ho i (by rw [← w]; exact ha))]; exact R5.held i a ha
              · obtain ⟨z1, z2, z3⟩ := R5.pin z hzm
                exact ⟨by rw [upd_ne (hz z hzm)]; exact z1, z2, z3⟩
            have R7 := R6.addSlot (p := p) (x := .dt p [⟨ks, b', u, w, d⟩]) (by rw [upd_same]; simp) hjp ho (R5.no0 u1) hz ⟨rfl, rfl, upd_same, fun z hzm => by
              obtain rfl : z = ⟨ks, b', u, w, d⟩ := by simpa using hzm
              exact ⟨t3', ru, t1'⟩⟩
            refine q3 p [⟨ks, b', u, w, d⟩] _ [some (.ref p)] [.dt p [⟨ks, b', u, w, d⟩]] r2.length R5.len.symm R7 ?_ rfl
            rw [List.getElem?_append_right (Nat.le_refl _), Nat.sub_self]
            rfl
/-- return x, a dict -/
def dRetX (i : Nat) : TDS := fun dn ρ => (∃ p zs, ρ[i]? = some (.dt p zs)) ∧ dn.ro ρ i
theorem ss_retX (i : Nat) : SS K (tRet (tVar i)) (dRetX i) := ⟨fun a b ρ h q => ⟨q.1, h.ro _ _ q.2⟩, fun F σ H ρ vs ds E dn G R ⟨⟨p, zs, e⟩, q⟩ => by
  obtain ⟨e1, _, _⟩ := R.dtAt e
  exact ⟨.ref p, e1, G.ro _ _ _ _ _ R e1 q⟩⟩
/-- the entry of a def that is given a value and a dict, and hands back a dict -/
theorem run_TX {N : List Str} {ts : TS} {t : TDS} {Hi H : Hp} {a : Addr} {zs : List Ent} {v : V} {d : D} {Q : VK} {P : KVD → Prop} (s : SS K ts t) (h1 : Same Hi H) (ha : Hi a = none) (hd : H a = some (.ext (RawT a (zs.map Ent.x)))) (hz : EntsOk K Hi zs) (h2 : Dp K Hi v d)
    (hq : ∀ kvs, P kvs → ∀ p zs' H' Hi', Same Hi Hi' → Same Hi' H' → Same H H' → Fresh Hi Hi' H → H p = none → Hi' p = none → H' p = some (.ext (RawT p (zs'.map Ent.x))) → EntsOk K Hi' zs' → zs'.map Ent.kv = kvs → Q (.ref p) H')
    (ht : t { nx := fun _ => False, rt := fun _ _ => False, ro := fun r i => i ≠ 1 ∧ r[1]? = some (.dt a zs) ∧ ∃ p zs', r[i]? = some (.dt p zs') ∧ P (zs'.map Ent.kv) } (.sh d :: .dt a zs :: List.replicate (N.length - 2) .no)) : ts { nx := fun _ H' => Q .non H', rt := Q } (start N [v, .ref a]) H := by
  refine s.run ⟨Hi, H, [a], []⟩ (start N [v, .ref a]) H (.sh d :: .dt a zs :: List.replicate (N.length - 2) .no) [] [] { nx := fun _ H' => Q .non H', rt := Q } { nx := fun _ => False, rt := fun _ _ => False, ro := fun r i => i ≠ 1 ∧ r[1]? = some (.dt a zs) ∧ ∃ p zs', r[i]? = some (.dt p zs') ∧ P (zs'.map Ent.kv) } ⟨fun _ _ _ _ z => z.elim, fun _ _ _ _ _ _ z => z.elim, fun _ _ _ _ z => z.elim, fun _ _ _ _ z => z.elim, fun _ _ _ _ _ _ _ _ _ _ _ _ z => z.elim, fun σ' H' ρ' i w R e ⟨hi, e1, p, zs', e2, q⟩ => ?_, fun _ _ _ _ _ _ _ _ _ z => z.elim⟩ ⟨Hi, fun j => if j = 1 then [a] else [], ?_⟩ ht
  · obtain ⟨ew, _, _⟩ := R.dtAt e2
    rw [ew] at e
    cases e
    obtain ⟨Hi', own, R⟩ := R
    obtain ⟨_, eo, hp, hzs⟩ := R.slot i _ e2
    obtain ⟨_, eo1, hp1, _⟩ := R.slot 1 _ e1
    have po : p ∈ own i := by rw [eo]; simp
    have hpa : p ≠ a := fun w => R.sep i 1 hi p po (by rw [eo1, w]; simp)
    refine hq _ q p zs' H' Hi' R.base R.sub (fun c o ec => ?_) (fun b hb => R.new b hb) ?_ (R.free i p po) hp hzs rfl
    · by_cases hc : c = a
      · subst hc
        rw [hd] at ec
        cases ec
        exact hp1
      · exact R.keep c o ec (by simp [hc])
    · rcases R.nown i p po with z | z
      · exact z
      · exact absurd (by simpa using z) hpa
  refine ⟨Same.refl _, h1, fun b hb => .inl hb, fun b o e _ => e, fun b e => e, ?_, fun i x e => ?_, fun i c hc => ?_, fun i c hc => ?_, fun i c hc => ?_, fun i j hij c hc hk => ?_, fun i es e c hc => ?_, fun z hz => (by cases hz), DpAll.nil⟩
  · unfold L2.start
    simp only [List.length_append, List.length_map, List.length_cons, List.length_nil, List.length_replicate]
    omega
  · match i, e with
    | 0, e => cases e; exact ⟨v, rfl, h2⟩
    | 1, e => cases e; exact ⟨rfl, rfl, hd, hz⟩
    | i + 2, e =>
      have : x = .no := (List.mem_replicate.mp (List.mem_of_getElem? (show (List.replicate (N.length - 2) DV.no)[i]? = some x from e))).2
      rw [this]
      trivial
  all_goals try (by_cases hi : i = 1)
  · rw [if_pos hi] at hc
    obtain rfl : c = a := by simpa using hc
    exact ha
  · rw [if_neg hi] at hc; cases hc
  · rw [if_pos hi] at hc
    obtain rfl : c = a := by simpa using hc
    rw [hd]; simp
  · rw [if_neg hi] at hc; cases hc
  · rw [if_pos hi] at hc; exact .inr hc
  · rw [if_neg hi] at hc; cases hc
  · rw [if_neg (fun z => hij (hi.trans z.symm))] at hk; cases hk
  · rw [if_neg hi] at hc; cases hc
  · rw [hi] at e; cases e
  · rw [if_neg hi] at hc; cases hc
end
section
variable {P : Program} {w : World} {K : PySem.W.Frag} {mg : Str → Option Value} {base : Heap}
theorem ok_TX {x qual : Str} {st : Stmt} {f : Addr} {fd : FuncData} {N ps : List Str} {k : Nat} {g : D → KVD → (KVD → Prop) → Prop} (F : Fun K x qual st f fd) (S : FnScope N ps (defScope st)) (hl : ps.length = 2) (hN : 2 ≤ N.length)
    (hbody : ∀ (cdv : Value) (A : Around) (outer : List Env) (s : Shared) (H : Hp) (E : XK), Room k (A.deeper (PyProof.Rows.envOfC qual (defScope st) s.heap.objs.size f cdv)) →
      ∃ ts t, PSs (cxOf CX0 P w K mg base N qual (defScope st) f cdv A outer s H E).nox (defBody st) ts ∧ SS K ts t ∧ ∀ a zs d Pd, g d (zs.map Ent.kv) Pd → t { nx := fun _ => False, rt := fun _ _ => False, ro := fun r i => i ≠ 1 ∧ r[1]? = some (.dt a zs) ∧ ∃ p zs', r[i]? = some (.dt p zs') ∧ Pd (zs'.map Ent.kv) } (.sh d :: .dt a zs :: List.replicate (N.length - 2) .no)) : FnOk P w K mg base CX0 (k + 1) f fd ps (spTX K g) := by
  refine F.ok S (fun vs H Q E h => ?_) (fun cdv A outer s H vs Q E hr h => ?_)
  · obtain ⟨Hi, a, zs, v, d, rfl, _⟩ := h
    exact hl.symm
  · obtain ⟨ts, t, h1, h2, h3⟩ := hbody cdv A outer s H E hr
    obtain ⟨Hi, a, zs, v, d, rfl, e1, e2, e3, e4, e5, hg⟩ := h
    exact ⟨ts, h1, run_TX h2 e1 e2 e3 e4 e5 (fun kvs q => q) (h3 a zs d _ hg)⟩
end
end LD

/-! LD38: sorted(x.items()) of dicts whose keys are tuples of ints and whose worths are ints. -/
namespace LD
open PySem PySem.Spec L2 PyProof.Rows
section
variable {X : Cx}
theorem same_layT : ∀ (ts : List Addr) (ps : List (V × V)) (H : Hp), ts.Nodup → (∀ t ∈ ts, H t = none) → Same H (layT H ts ps)
  | [], _, H, _, _ => Same.refl _
  | _ :: _, [], H, _, _ => Same.refl _
  | t :: ts, p :: ps, H, nd, hn => by
    have nd' := List.nodup_cons.mp nd
    refine (same_upd (hn t List.mem_cons_self)).trans (same_layT ts ps _ nd'.2 fun u hu => ?_)
    rw [upd_ne (fun e => nd'.1 (by rw [← e]; exact hu))]
    exact hn u (List.mem_cons_of_mem _ hu)
theorem itemsX_laid0 {pins : List (Addr × Obj)} {σ : L2.St} {H : Hp} {s : Shared} {h' : Heap} {tk : Nat} {es : Array DictEntry} {ps : List (V × V)} {as : List Addr} (I : Inv X pins σ H s)
    (hps : ps.length = es.size) (hp : ∀ (j : Nat) (hj : j < es.size) (p : V × V), ps[j]? = some p → RelV p.1 es[j].key ∧ RelV p.2 es[j].val)
    (hk : ∀ b o, s.heap.get? b = some o → h'.get? b = some o) (hl : as.length = es.size) (hG : PySem.W.DilG es s.heap.objs.size h' as) :
    (∀ t ∈ as, H t = none) ∧ as.Nodup ∧ Inv X pins σ (layT H as ps) { s with heap := h', toks := tk } := by
  have nd : as.Nodup := List.Pairwise.imp (fun {a b} (h : a < b) => Nat.ne_of_lt h) hG.rise
  have new : ∀ t ∈ as, H t = none := fun t ht => I.hok.fresh (Nat.le_of_lt (hG.above t ht))
  have atP := layT_at as ps H (by omega) nd
  have off : ∀ b, b ∉ as → layT H as ps b = H b := fun b h1 => layT_off as ps _ h1
  have low : ∀ b o, s.heap.get? b = some o → b ∉ as := fun b o e z => absurd (Heap.lt_size e) (Nat.not_lt.mpr (Nat.le_of_lt (hG.above b z)))
  have kp : ∀ b u, H b = some u → (layT H as ps) b = some u := fun b u e => by
    rw [off b (fun z => by rw [new b z] at e; cases e)]
    exact e
  refine ⟨new, nd, ?_⟩
  refine I.call' (ch := []) rfl ⟨fun b o q _ _ _ => hk b o q, fun b o q _ _ _ => ⟨o.slots, hk b o q⟩, fun b o q n _ => ?_, fun b o q _ => ⟨o, hk b o q⟩, fun b xs q => kp b _ q, fun b o u q => kp b _ q, fun b ps q => ⟨#[], by rw [kp b _ q]; simp⟩⟩ (fun b u q => ?_) I.bare fun b z => by simp at z
  · rw [off b (low b o q)]
    exact n
  · by_cases hb : b ∈ as
    · obtain ⟨j, hj⟩ := List.mem_iff_getElem?.mp hb
      obtain ⟨p, e2, e3⟩ := atP j b hj
      rw [e3] at q
      cases q
      obtain ⟨hj', f3⟩ := hG.pairs j b hj
      obtain ⟨r1, r2⟩ := hp j hj' p e2
      exact ⟨by show 2 ≤ sizeLine; decide, [es[j].key, es[j].val], .cons r1 (.cons r2 .nil), ⟨_, f3, rfl, _, rfl⟩⟩
    · rw [off b hb] at q
      exact (I.hok b u q).stay (fun d v _ y => hk d v y) (fun d y => kp d _ y) fun d xs y => kp d _ y
def pairsI (xs : XT) (is : List Int) : List D := (xs.zip is).map fun z => termD (z.1.1, z.2)
theorem readsAll_two {h : Heap} {x y : D} : ∀ {vs : List Value} {as : List Addr}, ReadsAll h vs [x, y] as → ∃ u v as1 as2, Reads h u x as1 ∧ Reads h v y as2 ∧ as = as1 ++ as2
  | _, _, .cons a (.cons b .nil) => ⟨_, _, _, _, a, b, by rw [List.append_nil]⟩
theorem reads_int {h : Heap} {i : Int} {u : Value} {as : List Addr} (r : Reads h u (.int i) as) : as = [] := by
  cases r
  rfl
theorem reads_term {h : Heap} {k : List Int} {i : Int} {u : Value} {as : List Addr} (r : Reads h u (termD (k, i)) as) : as = [] := by
  unfold termD tupK at r
  cases r with
  | tuple _ _ _ r =>
    obtain ⟨_, _, as1, as2, a, b, e⟩ := readsAll_two r
    rw [e, reads_key a, reads_int b]
    rfl
theorem depth_term (t : List Int × Int) : (termD t).depth ≤ 2 := by
  unfold termD tupK
  simp [PyData.depth, PyData.depthAll, depth_ints]
theorem terms_ok (ts : List (List Int × Int)) : PySem.W.AllAlike (ts.map termD) ∧ PySem.W.Sortable (ts.map termD) := by
  refine ⟨fun x hx y hy => ?_, .inl fun x hx => ?_⟩
  · obtain ⟨k, _, rfl⟩ := List.mem_map.mp hx
    obtain ⟨l, _, rfl⟩ := List.mem_map.mp hy
    unfold termD
    simp [PySem.W.alike, PySem.W.alikeAll, alike_tupK]
  · obtain ⟨k, _, rfl⟩ := List.mem_map.mp hx
    exact ⟨_, _, rfl⟩
def tSortItX (K : PySem.W.Frag) (te : TE) : TE := fun σ H Q => te σ H fun x H1 => ∃ (a : Addr) (xs : XT) (is : List Int), x = .ref a ∧ H1 a = some (.ext (RawT a xs)) ∧ KeysIn K H1 xs ∧ is.length = xs.length ∧ (∀ (j : Nat) (x : List Int × Addr × Value) (i : Int), xs[j]? = some x → is[j]? = some i → RelV (.int i) x.2.2) ∧
  ∀ (ts : List Addr) (ys : List V) (p : Addr), ts.length = xs.length → ts.Nodup → (∀ t ∈ ts, H1 t = none) → p ∉ ts → H1 p = none → ys.length = xs.length → (∀ Hi, DpAll K Hi (ts.map V.ref) (pairsI xs is) → DpAll K Hi ys ((pairsI xs is).mergeSort leD)) →
    Q (.ref p) (upd (layT H1 ts ((xs.zip is).map fun z => (V.ref z.1.2.1, V.int z.2))) p (.lst ys))
theorem dp_pairs {K : PySem.W.Frag} {H : Hp} : ∀ (ts : List Addr) (xs : XT) (is : List Int), KeysIn K H xs → (∀ (j : Nat) (t : Addr), ts[j]? = some t → ∃ z, (xs.zip is)[j]? = some z ∧ H t = some (.tup [V.ref z.1.2.1, V.int z.2])) → ts.length = (xs.zip is).length → DpAll K H (ts.map V.ref) (pairsI xs is)
  | [], xs, is, _, _, hl => by
    have : xs.zip is = [] := List.eq_nil_of_length_eq_zero hl.symm
    unfold pairsI
    rw [this]
    exact .nil
  | t :: ts, [], is, _, _, hl => by cases hl
  | t :: ts, x :: xs, [], _, _, hl => by cases hl
  | t :: ts, x :: xs, i :: is, hk, h, hl => by
    obtain ⟨z, ez, et⟩ := h 0 t rfl
    cases ez
    refine .cons (.tup (.inl (.inl et)) (.cons (.tup (hk x List.mem_cons_self) (dpAll_ints _)) (.cons (.int _) .nil))) ?_
    exact dp_pairs ts xs is (fun y hy => hk y (List.mem_cons_of_mem _ hy)) (fun j u hu => h (j + 1) u hu) (Nat.succ.inj hl)
variable {e : Expr} {te : TE} {p apos cpos pos : Pos}
open PySem.Calls PySem.W in
/-- sorted(e.items()) -/
theorem pe_sortItX (hc : X.calm = true) (hu : X.A.units + 64 < cLine) (he : PE X e te) (hg : Gl X "sorted") (hm : X.mg "sorted" = none) (hv : bootBuiltins "sorted" = some (.builtin "sorted")) (hbase : attributeBase e "items" X.env (eval e X.env) = eval e X.env := by rfl) (hline : (apos.endLine == cpos.line) = true := by rfl)
    (hs : starEach [.Call (.Attribute e "items" apos) [] [] cpos] X.env = (false, eval (.Call (.Attribute e "items" apos) [] [] cpos) X.env) :: starEach [] X.env := by rfl) :
    PE X (.Call (.Name "sorted" p) [.Call (.Attribute e "items" apos) [] [] cpos] [] pos) (tSortItX X.K te) := by
  refine ⟨fun pins s σ H Q I hq => ?_⟩
  refine wpAny_Call_Name_kw (ld_blt I hg hm hv ?_)
  refine PyProof.Rows.callWith_builtin1 ?_ hs rfl
  rw [hs]
  show wpAny _ _ (spliced ((false, eval (.Call (.Attribute e "items" apos) [] [] cpos) X.env) :: backTo pos (starEach [] X.env))) _ _ s
  refine Calls.spliced_cons ?_
  refine wpAny_Call_method (T := "dict") (id := "dict.items") hbase rfl hline F.plainAttrs_dict F.slot_dict_items F.type_dict_items (thn (he.run pins s σ H _ I hq) fun u s1 ⟨x, H1, I1, rx, d, xs, is, ex, hd, hki, hvl, hvr, q⟩ => ?_)
  subst ex
  obtain rfl : u = Value.ref d := rx
  have R := raw_of I1 hd
  have D := dictIn I1 R hki
  obtain ⟨o, es, ep, g1, g2, g3, g4⟩ := R.raw
  have hes : es.size = xs.length := by
    have := congrArg List.length (g4 X.prog X.w)
    rw [Array.length_toList, List.length_map] at this
    exact this
  have I2 : Inv X pins σ H1 { s1 with heap := s1.heap.push { cls := .type "dict_items", data := .fields #[.ref d] } } := I1.kept (t' := s1.toks) fun b ob q => Heap.get?_push_of_some _ q
  have hT : s1.TypeIs (.ref d) "dict" := ⟨o, g1, g2.1⟩
  refine ⟨hT, fun c z => ?_, ?_⟩
  · cases z
    exact ⟨o, g1, g2.2.1⟩
  show wpAny _ _ (callWith cpos (.builtin "dict.items") [.ref d] [] []) _ X.xe s1
  refine method_meetsIn F.slot_dict_items F.entry_dict_items rfl (PySem.evalArgs_none ⟨rfl, hT, F.args_dict_items_1 _, _, PySem.meets_dict_items_raw d R.own, ⟨⟨es, ep, o, g1, g2, g3⟩, ?_⟩⟩)
  refine Calls.spliced_nil ?_
  have hps : ((xs.zip is).map fun z => (V.ref z.1.2.1, V.int z.2)).length = es.size := by rw [List.length_map, List.length_zip, hvl, hes, Nat.min_self]
  have rel : ∀ (j : Nat) (hj : j < es.size) (p : V × V), ((xs.zip is).map fun z => (V.ref z.1.2.1, V.int z.2))[j]? = some p → RelV p.1 es[j].key ∧ RelV p.2 es[j].val := fun j hj pv hpv => by
    rw [List.getElem?_map] at hpv
    cases hz : (xs.zip is)[j]? with
    | none => rw [hz] at hpv; cases hpv
    | some z =>
      rw [hz] at hpv
      cases hpv
      obtain ⟨z1, z2⟩ := List.getElem?_zip_eq_some.mp hz
      have e2 : es.toList[j]? = some es[j] := by rw [Array.getElem?_toList, Array.getElem?_eq_getElem hj]
      rw [g4 X.prog X.w, List.getElem?_map, z1] at e2
      have e3 : entryOfKey (tupleKind (mixKind X.prog X.w)) (keyX z.1) = es[j] := Option.some.inj e2
      rw [← e3]
      exact ⟨rfl, hvr j z.1 z.2 z1 z2⟩
  refine call_function_entry kind_sorted plain_sorted entry_sorted (args_sorted1 _) ?_
  unfold Builtin.«sorted»
  refine wpAny_bind (m := checkCount "sorted" 1 1 _) (wpAny_pure ?_)
  refine wpAny_bind (dil_collect (A := X.A.in1) (es := es) (ep := ep) (I1.ok.hd hc) ⟨_, Heap.get?_push_size _ rfl, rfl, rfl⟩ ⟨o, Heap.get?_push_of_some _ g1, g2, g3⟩ (by rw [hes]; exact R.few) fun h' tk as hk hl hG => ?_)
  obtain ⟨k3, k5, J⟩ := itemsX_laid0 (tk := tk) (ps := (xs.zip is).map fun z => (V.ref z.1.2.1, V.int z.2)) I2 hps rel hk hl hG
  have lx : as.length = xs.length := by omega
  have lz : as.length = (xs.zip is).length := by rw [List.length_zip, hvl, Nat.min_self]; exact lx
  have D1 : DpAll X.K (layT H1 as ((xs.zip is).map fun z => (V.ref z.1.2.1, V.int z.2))) (as.map V.ref) (pairsI xs is) := by
    refine dp_pairs as xs is (fun x hx => sqT_mono (same_layT as _ H1 k5 k3) (hki x hx)) (fun j t hj => ?_) lz
    obtain ⟨p, e2, e3⟩ := layT_at as ((xs.zip is).map fun z => (V.ref z.1.2.1, V.int z.2)) H1 (by rw [List.length_map]; exact lz) k5 j t hj
    rw [List.getElem?_map] at e2
    cases hz : (xs.zip is)[j]? with
    | none => rw [hz] at e2; cases e2
    | some z =>
      rw [hz] at e2
      cases e2
      exact ⟨z, rfl, e3⟩
  have rvl : Vals (as.map V.ref) (as.map Value.ref) := by
    have : ∀ as : List Addr, Vals (as.map V.ref) (as.map Value.ref) := by
      intro as
      induction as with
      | nil => exact .nil
      | cons a as ih => exact .cons rfl ih
    exact this as
  have edl : (pairsI xs is).length = xs.length := by unfold pairsI; rw [List.length_map, ← lz]; exact lx
  have evl : (as.map V.ref).length = xs.length := by rw [List.length_map]; exact lx
  have epr : pairsI xs is = ((xs.zip is).map fun z => (z.1.1, z.2)).map termD := by unfold pairsI; rw [List.map_map]; rfl
  obtain ⟨hal, hso⟩ := terms_ok ((xs.zip is).map fun z => (z.1.1, z.2))
  rw [← epr] at hal hso
  obtain ⟨bs, hr⟩ := Dp.readsAll J _ _ _ D1 rvl
  have em : ((as.map V.ref).zip (pairsI xs is)).map Prod.snd = pairsI xs is := List.map_snd_zip (by omega)
  have en : ((as.map V.ref).zip (pairsI xs is)).length = xs.length := by rw [List.length_zip]; omega
  refine wpAny_bind (wpAny_newList ?_ (by rw [List.length_map, lx]; exact R.few))
  have old2 : ∀ b ob, h'.get? b = some ob → (h'.push { cls := .type "list", data := .seq (as.map Value.ref).toArray }).get? b = some ob := fun b ob e => Heap.get?_push_of_some _ e
  have er : EachIs (fun v b => ∃ bs, Reads (h'.push { cls := .type "list", data := .seq (as.map Value.ref).toArray }) v b.2 bs ∧ h'.objs.size ∉ bs) (as.map Value.ref) ((as.map V.ref).zip (pairsI xs is)) := by
    have z0 := each_reads hr (show (as.map V.ref).length = (pairsI xs is).length by omega)
    refine (each_mem z0).mono fun v b z => ?_
    obtain ⟨⟨bs, r⟩, hb⟩ := z
    have hx := (List.of_mem_zip (a := b.1) (b := b.2) hb).2
    rw [epr] at hx
    obtain ⟨x, _, hx⟩ := List.mem_map.mp hx
    rw [← hx] at r ⊢
    exact ⟨bs, Reads.keeps old2 r, by rw [reads_term r]; simp⟩
  have hob : (h'.push { cls := .type "list", data := .seq (as.map Value.ref).toArray }).get? h'.objs.size = some (seqObj "list" (as.map Value.ref).toArray 0) := Heap.get?_push_size _ rfl
  refine wpAny_bind (wpAny_holding (wpAny_mono (list_sort_data (A := X.A.in1) (bs := (as.map V.ref).zip (pairsI xs is)) (enc := Prod.snd) hob (each_vals rvl (by omega)) er (by rw [em]; exact hal) (by rw [em]; exact hso) (by rw [en]; exact R.few) (fun b hb => ?_)
    (Q := fun _ s' => EP X pins σ Q (.ref h'.objs.size) s') fun out ho he => ?_) (fun _ s' x => ?_) fun _ _ e => e))
  · have hx := (List.of_mem_zip (a := b.1) (b := b.2) hb).2
    rw [epr] at hx
    obtain ⟨x, _, hx⟩ := List.mem_map.mp hx
    have := depth_term x
    rw [hx] at this
    show X.A.units + 1 + 1 + b.2.depth < cLine
    omega
  · have hv := vals_each he
    generalize hzs : ((as.map V.ref).zip (pairsI xs is)).mergeSort (dataLe false Prod.snd) = zs at hv
    have hp : ∀ z ∈ zs, z ∈ (as.map V.ref).zip (pairsI xs is) := fun z h => by
      rw [← hzs] at h
      exact (List.mergeSort_perm _ _).mem_iff.mp h
    have hlz : zs.length = xs.length := by rw [← hzs, (List.mergeSort_perm _ _).length_eq, en]
    have es2 : zs.map Prod.snd = (pairsI xs is).mergeSort leD := by
      rw [← hzs, List.map_mergeSort (s := leD) (fun x _ y _ => by rw [dataLe_eq]; rfl), em]
    obtain ⟨ep2, he'⟩ := sortedHeap_at (vs := as.map Value.ref) (out := out.toArray) hob
    have hlen : (zs.map Prod.fst).length ≤ sizeLine := by rw [List.length_map, hlz]; exact R.few
    have fresh : (layT H1 as ((xs.zip is).map fun z => (V.ref z.1.2.1, V.int z.2))) h'.objs.size = none := J.hok.fresh (Nat.le_refl _)
    have nin : h'.objs.size ∉ as := fun z => Nat.lt_irrefl _ (hG.there z)
    refine ⟨.ref h'.objs.size, upd (layT H1 as ((xs.zip is).map fun z => (V.ref z.1.2.1, V.int z.2))) h'.objs.size (.lst (zs.map Prod.fst)), J.laid (a := h'.objs.size) (t' := tk) (fun b ob e => ?_) (Nat.le_refl _) (show ObjOk X.prog X.w _ _ _ (.lst (zs.map Prod.fst)) from ⟨hlen, out, ep2, hv, he'⟩), rfl, q as _ _ lx k5 k3 nin (by rw [layT_off _ _ _ nin] at fresh; exact fresh) (by rw [List.length_map, hlz]) (fun Hi h => ?_)⟩
    · exact (sortedHeap_old (Nat.ne_of_lt (Heap.lt_size e)) (Heap.lt_size (old2 b ob e))).trans (old2 b ob e)
    · rw [← es2]
      exact dp_unzip fun z hz => dp_zip h z (hp z hz)
  · exact wpAny_pure ⟨_, rfl, x⟩
end
section
variable {K : PySem.W.Frag} {te : TE} {x : TDX}
theorem dp_intV {K : PySem.W.Frag} {H : Hp} {v : V} {i : Int} (h : Dp K H v (.int i)) : v = .int i := by
  cases h
  rfl
/-- sorted(x.items()), x a dict expression -/
def dSortItX (x : TDX) : TDA := fun ρ P => x ρ fun r kvs => ∃ kis : List (List Int × Int), kvs = kisD kis ∧ P r ((kis.map termD).mergeSort leD)
theorem sf_sortItX (sx : SX K te x) : SF K (tSortItX K te) (dSortItX x) := by
  refine ⟨fun ρ P P' h q => sx.mono _ _ _ (fun r kvs ⟨kis, e, q⟩ => ⟨kis, e, h _ _ q⟩) q, fun F σ H ρ vs ds Q R q => ?_⟩
  refine sx.run F σ H ρ _ _ _ R (sx.mono _ _ _ (fun r2 kvs ⟨kis, ek, q⟩ p zs H2 τ θ j el R2 e1 e2 => ?_) q)
  rw [ek] at e2
  obtain ⟨ed, hp, hkk⟩ := R2.dtAt e1
  obtain ⟨Hi, own, R4⟩ := R2
  obtain ⟨_, _, _, g⟩ := R4.slot j _ e1
  have lzk : zs.length = kis.length := by
    have := congrArg List.length e2
    unfold kisD at this
    rwa [List.length_map, List.length_map] at this
  have zat : ∀ (j : Nat) (z : Ent), zs[j]? = some z → ∃ y, kis[j]? = some y ∧ z.k = y.1 ∧ z.d = .int y.2 := fun j z hz => by
    have := congrArg (fun l => l[j]?) e2
    unfold kisD at this
    simp only [List.getElem?_map, hz, Option.map_some] at this
    cases hy : kis[j]? with
    | none => rw [hy] at this; cases this
    | some y =>
      rw [hy] at this
      have := Option.some.inj this
      exact ⟨y, rfl, congrArg Prod.fst this, congrArg Prod.snd this⟩
  have epr : pairsI (zs.map Ent.x) (kis.map (·.2)) = kis.map termD := by
    unfold pairsI
    refine List.ext_getElem? fun j => ?_
    rw [List.getElem?_map, List.getElem?_map]
    cases hz : zs[j]? with
    | none =>
      have h1 : zs.length ≤ j := List.getElem?_eq_none_iff.mp hz
      rw [List.getElem?_eq_none_iff.mpr (by rw [List.length_zip, List.length_map, List.length_map]; omega), List.getElem?_eq_none_iff.mpr (by omega)]
      rfl
    | some z =>
      obtain ⟨y, ey, ek2, _⟩ := zat j z hz
      have : ((zs.map Ent.x).zip (kis.map (·.2)))[j]? = some (z.x, y.2) := List.getElem?_zip_eq_some.mpr ⟨by rw [List.getElem?_map, hz]; rfl, by rw [List.getElem?_map, ey]; rfl⟩
      rw [this, ey]
      show some (termD (z.k, y.2)) = some (termD y)
      rw [ek2]
  have vat : ∀ (j : Nat) (z : Ent), zs[j]? = some z → ∃ y, kis[j]? = some y ∧ z.v = .int y.2 := fun j z hz => by
    obtain ⟨y, ey, _, ed⟩ := zat j z hz
    have := (g z (List.mem_of_getElem? hz)).2.2
    rw [ed] at this
    exact ⟨y, ey, dp_intV this⟩
  refine ⟨p, _, kis.map (·.2), rfl, hp, hkk, by rw [List.length_map, List.length_map]; exact lzk.symm, fun j x i hx hi => ?_, fun ts ys l hl nd hn hnl hl0 hyl hy => ?_⟩
  · rw [List.getElem?_map] at hx hi
    cases hz : zs[j]? with
    | none => rw [hz] at hx; cases hx
    | some z =>
      rw [hz] at hx
      cases hx
      obtain ⟨y, ey, ev⟩ := vat j z hz
      rw [ey] at hi
      cases hi
      have := (g z (List.mem_of_getElem? hz)).2.1
      rw [ev] at this
      exact this
  · rw [List.length_map] at hl hyl
    rw [epr] at hy
    have ep : (((zs.map Ent.x).zip (kis.map (·.2))).map fun z => (V.ref z.1.2.1, V.int z.2)) = zs.map fun z => (V.ref z.b, z.v) := by
      refine List.ext_getElem? fun j => ?_
      rw [List.getElem?_map, List.getElem?_map]
      cases hz : zs[j]? with
      | none =>
        have h1 : zs.length ≤ j := List.getElem?_eq_none_iff.mp hz
        rw [List.getElem?_eq_none_iff.mpr (by rw [List.length_zip, List.length_map, List.length_map]; omega)]
        rfl
      | some z =>
        obtain ⟨y, ey, ev⟩ := vat j z hz
        have : ((zs.map Ent.x).zip (kis.map (·.2)))[j]? = some (z.x, y.2) := List.getElem?_zip_eq_some.mpr ⟨by rw [List.getElem?_map, hz]; rfl, by rw [List.getElem?_map, ey]; rfl⟩
        rw [this]
        show some (V.ref z.b, V.int y.2) = some (V.ref z.b, z.v)
        rw [ev]
    rw [ep]
    obtain ⟨Hi', R5⟩ := RelI.lays (pre := []) (preD := []) (zs := zs) (ts := ts) R4 rfl hl nd hn fun z hz => ⟨(g z hz).1, (g z hz).2.2⟩
    have edp : (zs.map Ent.kv).map pairD = kis.map termD := by
      rw [e2]
      unfold kisD
      rw [List.map_map]
      rfl
    rw [edp] at R5
    have R6 := R5.tmp
    obtain ⟨g1, g2⟩ := dpAll_split (show (ts.map V.ref).length = (kis.map termD).length by rw [List.length_map, List.length_map]; omega) (by simpa using R6)
    have R7 := R5.tmpTo (dpAll_app (hy _ g1) g2)
    exact q _ _ _ (by rw [(List.mergeSort_perm _ _).length_eq, List.length_map]; omega) (Rel.dropSlots ⟨Hi', own, R7⟩ el.symm) (by rw [layT_off _ _ _ hnl]; exact hl0)
end
section
variable {K : PySem.W.Frag} {F : Fx} {σ : L2.St} {H : Hp} {ρ : Rho} {vs : List V} {ds : List D}
/-- an object that nobody knows -/
theorem Rel.junk {t : Addr} {o : HO} (R : Rel K F σ H ρ vs ds) (ht : H t = none) : Rel K F σ (upd H t o) ρ vs ds := by
  obtain ⟨Hi, own, R⟩ := R
  have ne : ∀ i, ∀ a ∈ own i, a ≠ t := fun i a ha z => R.held i a ha (by rw [z]; exact ht)
  refine ⟨Hi, own, ⟨R.base, R.sub.trans (same_upd ht), R.new, fun b q h hn => ?_, fun b h => ?_, R.len, fun j y h => (R.slot j y h).grow (Same.refl _) fun a ha o q => ?_, R.free, fun j a ha => ?_, R.nown, R.sep, R.nls, fun z hz => ?_, R.tmp⟩⟩
  · rw [upd_ne (ne_of_none (R.keep b q h hn) ht)]; exact R.keep b q h hn
  · by_cases hb : b = t
    · rw [hb, upd_same]; simp
    · rw [upd_ne hb]; exact R.dom b h
  · rw [upd_ne (ne j a ha)]; exact q
  · rw [upd_ne (ne j a ha)]; exact R.held j a ha
  · obtain ⟨z1, z2, z3⟩ := R.pin z hz
    exact ⟨by rw [upd_ne (ne_of_none z1 ht)]; exact z1, z2, z3⟩
/-- x, y, z = e, f, {} (z's keys are ints) -/
def dTriK (n i j l : Nat) (e f : TD) : TDS := fun dn ρ => e ρ fun r d => f r fun r2 d2 => n = 3 ∧ (i < r2.length ∧ j < r2.length ∧ l < r2.length) ∧ ∀ p, dn.nx (((r2.set i (.sh d)).set j (.sh d2)).set l (.dk p []))
theorem ss_triK {n i j l : Nat} {te tf : TE} {e f : TD} (se : SE K te e) (sf : SE K tf f) : SS K (tAsg (tTup (tCons te (tCons tf (tCons tDNewK tNil)))) (gTup K n (gCons (gName i) (gCons (gName j) (gCons (gName l) gNil))))) (dTriK n i j l e f) := by
  refine ⟨fun a b ρ h q => se.mono _ _ _ (fun r d q => sf.mono _ _ _ (fun r2 d2 ⟨h1, h2, q⟩ => ⟨h1, h2, fun p => h.nx _ (q p)⟩) q) q, fun F σ H ρ vs ds E dn G R q => ?_⟩
  refine se.run F σ H ρ vs ds _ R (se.mono _ _ _ (fun r d q v H1 R1 => ?_) q)
  refine sf.run F σ H1 r _ _ _ R1 (sf.mono _ _ _ (fun r2 d2 q v2 H2 R2 => ?_) q)
  obtain ⟨hn, ⟨h1, h2, h3⟩, q⟩ := q
  intro p hp
  refine ⟨(by show 3 ≤ sizeLine; decide), fun t ht => ?_⟩
  refine ⟨t, [v, v2, .ref p], rfl, .inl (.inl upd_same), hn.symm, v, _, rfl, v2, _, rfl, .ref p, _, rfl, rfl, ?_⟩
  have R3 : Rel K F σ H2 r2 (v :: v2 :: vs) (d :: d2 :: ds) := R2.swap fun Hi h => by
    cases h with
    | cons a b =>
      cases b with
      | cons c e => exact .cons c (.cons a e)
  have R4 := (R3.store h1).store (by rw [List.length_set]; exact h2)
  have R5 := R4.keepNew (x := .dk p []) (o := .dK []) hp (i := l) (by rw [List.length_set, List.length_set]; exact h3) fun Hi s => ⟨rfl, rfl, dk_grow ⟨upd_same, fun _ h => by cases h⟩⟩
  exact G.nx _ _ _ (R5.junk ht) (q p)
end
end LD

/-! LD39: own exceptions whose __init__ calls B.__init__, B an own class over ValueError. -/
namespace LD
open PySem PySem.Spec L2 PyProof.Rows
section
variable {X : Cx} {e : Expr} {es : List Expr} {ta : L2.TA} {p1 p2 pos : Pos} {x : Str} {Cb : Addr}
/-- B.__init__(self, ..) -/
theorem pe_binit {mc : Value} {pl : Sem Bool} (hg : Gl X x) (hm : X.mg x = some (.ref Cb)) (r : ClX.CRead X.K Cb mc) (vV : PySem.W.findCls X.K (.ref Cb) mc "__init__" = some (.val (.builtin "ValueError.__init__"))) (ha : PA X (e :: es) ta) (hdb : (x == ("__debug__" : Str)) = false := by decide)
    (hc : eval (.Call (.Attribute (.Name x p1) "__init__" p2) (e :: es) [] pos) X.env = (do
      let ov ← eval (.Name x p1) X.env
      standAt p2.atName
      let (f, first) ← holding [ov] (getMethod ov "__init__" pl)
      callWith pos f first (backTo pos (starEach (e :: es) X.env)) (backToKw pos (keywordEach [] X.env))) := by rfl)
    (he : starEach (e :: es) X.env = (false, eval e X.env) :: starEach es X.env := by rfl) (hpl : (backTo pos (starEach es X.env)).any (·.1) = false := by rfl) :
    PE X (.Call (.Attribute (.Name x p1) "__init__" p2) (e :: es) [] pos) (tVeI X.K ta) := by
  refine ⟨fun pins s σ H Q I h => ?_⟩
  refine PySem.W.methodCall_KW (ld_glob I hg hm ?_ hdb) hc
  refine PySem.W.method_cls I.kIn r.ga (PySem.W.cls_value I.kIn r.rd vV (by decide +kernel) ?_)
  show wpAny _ _ (callWith pos (Value.builtin "ValueError.__init__") [] (backTo pos (starEach (e :: es) X.env)) []) _ _ _
  refine PyProof.Rows.callWith_method1 (thn (ha.run pos pins _ σ H _ (I.tok _) h) fun us s1 ⟨vs, H1, I1, r1, a, C, ws, ev, hl, T, ea, q⟩ => ?_) he hpl
  subst ev
  cases r1 with
  | @cons _ u0 _ ur ra rw' =>
    obtain rfl : u0 = Value.ref a := ra
    have hlen : ur.length ≤ sizeLine := by
      rw [← Paired.length rw', sizeLine_eq]
      omega
    exact oinit_ok T I1 ea hlen fun s' J => ⟨.non, H1, J, rfl, q⟩
end
/-! ### C.__init__(self, at): B.__init__(self, "..."); self.at = at -/
/-- what the written part says of an error class -/
structure ErrC (K : PySem.W.Frag) (C : Addr) : Prop where
  ox : OexC K C
  at_ : PySem.W.findIn K (.ref C) "at" = some none
def spErr (K : PySem.W.Frag) : Sp := fun vs H Q _ => ∃ (a C : Addr) (y : V), vs = [.ref a, y] ∧ ErrC K C ∧ H a = some (exo a C none) ∧ ∀ dx, H dx = none → dx ≠ a → Q .non (upd (upd H dx (exd dx [("at", y)])) a (exo a C (some dx)))
/-- the walk of such a body -/
theorem err_body {K : PySem.W.Frag} {H : Hp} {Q : VK} {a C : Addr} {y m : V} (T : ErrC K C) (ha : H a = some (exo a C none)) (q : ∀ dx, H dx = none → dx ≠ a → Q .non (upd (upd H dx (exd dx [("at", y)])) a (exo a C (some dx)))) :
    tSeq (tDrop (tVeI K (tCons (tVar 0) (tCons (fun _ H Q => Q m H) tNil)))) (tOst K "at" (tVar 0) (tVar 1)) { nx := fun _ H' => Q .non H', rt := Q } [some (.ref a), some y] H := by
  exact ⟨.ref a, rfl, a, C, [m], rfl, (by show 1 ≤ 1000; decide), T.ox, ha, y, rfl, .ref a, rfl, a, C, rfl, T.ox, T.at_, .inl ⟨ha, fun dx h1 h2 => q dx h1 h2⟩⟩
/-- C(y) is made and raised -/
theorem mk_step {K : PySem.W.Frag} {H1 : Hp} {W : XK} {C : Addr} {y : V} (T : ErrC K C) (hW : ∀ dx, H1 dx = none → W (.ref C) (some dx) (upd H1 dx (.xd [("at", y)]))) (a : Addr) (ha : H1 a = none) :
    spErr K (.ref a :: ([y] ++ [])) (upd H1 a (exo a C none)) (fun v H2 => v = .non ∧ ∃ (d : Addr) (fs : List (Str × V)), H2 a = some (exo a C (some d)) ∧ H2 d = some (exd d fs) ∧ H1 d = none ∧ W (.ref C) (some d) (upd (del H2 a) d (.xd fs))) (fun _ _ _ => False) := by
  refine ⟨a, C, y, rfl, T, upd_same, fun dx hdx hne => ⟨rfl, dx, [("at", y)], upd_same, ?_, ?_, ?_⟩⟩
  · rw [upd_ne hne, upd_same]
  · rwa [upd_ne hne] at hdx
  · rw [upd_ne hne] at hdx
    have e : upd (del (upd (upd (upd H1 a (exo a C none)) dx (exd dx [("at", y)])) a (exo a C (some dx))) a) dx (HO.xd [("at", y)]) = upd H1 dx (.xd [("at", y)]) := by
      funext b
      by_cases hb : b = dx
      · rw [hb, upd_same, upd_same]
      · rw [upd_ne hb, upd_ne hb]
        by_cases hba : b = a
        · rw [hba, del_same, ha]
        · rw [del_ne hba, upd_ne hba, upd_ne hb, upd_ne hba]
    rw [e]
    exact hW dx hdx
end LD

/-! LD40: defs that raise; raise; try .. except .. as e. -/
namespace LD
open PySem PySem.Spec L2 PyProof.Rows
abbrev CR := List D → (D → Prop) → (Addr → D → Prop) → Prop
/-- a def that tells a value, or raises an error that keeps a value -/
def spR (K : PySem.W.Frag) (g : CR) : Sp := fun vs H Q E => ∃ Hi ds, Same Hi H ∧ DpAll K Hi vs ds ∧
  g ds (fun d => ∀ v H' Hi', Same Hi Hi' → Same Hi' H' → Same H H' → Fresh Hi Hi' H → Dp K Hi' v d → Q v H')
    (fun C x => ∀ v p H' Hi', Same Hi Hi' → Same Hi' H' → Same H H' → Fresh Hi Hi' H → Dp K Hi' v x → H' p = none → E (.ref C) (some p) (upd H' p (.xd [("at", v)])))
section
variable {K : PySem.W.Frag} {F : Fx} {σ : L2.St} {H : Hp} {ρ : Rho} {vs ws : List V} {ds es : List D}
/-- slot i keeps what was just laid -/
theorem Rel.keepNew3 {p : Addr} {i : Nat} {o : HO} {x : DV} {w : V} (R : Rel K F σ H ρ vs ds) (hp : H p = none) (hi : i < ρ.length) (hx : ∀ Hi, Same Hi H → DpAll K Hi vs ds → SlotOk K Hi (upd H p o) (some w) [p] x ∧ DpAll K Hi ws es) : Rel K F (σ.set i (some w)) (upd H p o) (ρ.set i x) ws es := by
  obtain ⟨Hi, own, R⟩ := R
  have ne : ∀ i, ∀ a ∈ own i, a ≠ p := fun i a ha z => R.held i a ha (by rw [z]; exact hp)
  refine ⟨Hi, fun j => if j = i then [p] else own j, ⟨R.base, R.sub.trans (same_upd hp), R.new, fun b q h hn => ?_, fun b h => ?_, ?_, fun j y h => ?_, fun j a ha => ?_, fun j a ha => ?_, fun j a ha => ?_, fun j k hjk a ha hk => ?_, fun j es' h a ha => ?_, fun z hz => ?_, (hx Hi R.sub R.tmp).2⟩⟩
  · rw [upd_ne (ne_of_none (R.keep b q h hn) hp)]; exact R.keep b q h hn
  · by_cases hbp : b = p
    · rw [hbp, upd_same]; simp
    · rw [upd_ne hbp]; exact R.dom b h
  · rw [List.length_set, List.length_set]; exact R.len
  · by_cases hj : j = i
    · subst hj
      rw [List.getElem?_set_self hi] at h
      cases h
      have e1 : (σ.set j (some w))[j]? = some (some w) := List.getElem?_set_self (by rw [R.len]; exact hi)
      rw [e1, if_pos rfl]
      exact (hx Hi R.sub R.tmp).1
    · rw [List.getElem?_set_ne (Ne.symm hj)] at h ⊢
      rw [if_neg hj]
      exact (R.slot j y h).grow (Same.refl _) fun a ha o q => by rw [upd_ne (ne j a ha)]; exact q
  all_goals try (by_cases hj : j = i)
  · rw [if_pos hj] at ha
    obtain rfl : a = p := by simpa using ha
    exact R.noSub hp
  · rw [if_neg hj] at ha; exact R.free j a ha
  · rw [if_pos hj] at ha
    obtain rfl : a = p := by simpa using ha
    rw [upd_same]; simp
  · rw [if_neg hj] at ha; rw [upd_ne (ne j a ha)]; exact R.held j a ha
  · rw [if_pos hj] at ha
    obtain rfl : a = p := by simpa using ha
    exact .inl (R.no0 hp)
  · rw [if_neg hj] at ha; exact R.nown j a ha
  · rw [if_pos hj] at ha
    obtain rfl : a = p := by simpa using ha
    rw [if_neg (fun z => hjk (hj.trans z.symm))] at hk
    exact ne k a hk rfl
  · rw [if_neg hj] at ha
    by_cases hki : k = i
    · rw [if_pos hki] at hk
      obtain rfl : a = p := by simpa using hk
      exact ne j a ha rfl
    · rw [if_neg hki] at hk; exact R.sep j k hjk a ha hk
  · rw [if_pos hj] at ha
    obtain rfl : a = p := by simpa using ha
    exact R.no0 hp
  · rw [if_neg hj] at ha
    rw [List.getElem?_set_ne (Ne.symm hj)] at h
    exact R.nls j es' h a ha
  · obtain ⟨z1, z2, z3⟩ := R.pin z hz
    have nz : z.1 ≠ p := ne_of_none z1 hp
    refine ⟨by rw [upd_ne nz]; exact z1, z2, fun j hj => ?_⟩
    by_cases hji : j = i
    · rw [if_pos hji] at hj
      exact nz (by simpa using hj)
    · rw [if_neg hji] at hj; exact z3 j hj
theorem Rel.unset {i : Nat} (R : Rel K F σ H ρ vs ds) : Rel K F (σ.set i none) H (ρ.set i .no) vs ds := by
  by_cases hi : i < ρ.length
  · exact R.wipe1 hi
  · have el : σ.length = ρ.length := by
      obtain ⟨_, _, R⟩ := R
      exact R.len
    rw [List.set_eq_of_length_le (by omega), List.set_eq_of_length_le (by omega)]
    exact R
/-- at p: the dict of an error that keeps x -/
def xdφ (p : Addr) (x : D) : PySem.W.Frag → Hp → Hp → Prop := fun K Hi H => ∃ v, H p = some (.xd [("at", v)]) ∧ Dp K Hi v x
/-- an error in hand: at a, its dict at p -/
abbrev DV.er (a p : Addr) (x : D) : DV := .ob a [p] (xdφ p x)
theorem er_grow {p : Addr} {x : D} {Hi H : Hp} (h : xdφ p x K Hi H) : ∀ Hi' H', Same Hi Hi' → (∀ b ∈ [p], ∀ o, H b = some o → H' b = some o) → xdφ p x K Hi' H' := fun Hi' H' e g => by
  obtain ⟨v, h1, h2⟩ := h
  exact ⟨v, g p (List.mem_singleton.mpr rfl) _ h1, dp_mono e _ _ h2⟩
theorem Rel.setEr {i : Nat} {a p : Addr} {v : V} {x : D} (R : Rel K F σ H ρ (v :: vs) (x :: ds)) (hp : H p = none) (hi : i < ρ.length) : Rel K F (σ.set i (some (.ref a))) (upd H p (.xd [("at", v)])) (ρ.set i (.er a p x)) vs ds :=
  R.keepNew3 hp hi fun Hi s t => by
    cases t with
    | cons t1 t2 => exact ⟨⟨rfl, rfl, er_grow ⟨v, upd_same, t1⟩⟩, t2⟩
end
section
variable {K : PySem.W.Frag} {te : TE} {e : TD} {ta : L2.TA} {t : TDA}
theorem run_R {N : List Str} {ts : TS} {t : TDS} {Hi H : Hp} {vs : List V} {ds : List D} {Q : VK} {E : XK} {P : D → Prop} {Ed : Addr → D → Prop} (s : SS K ts t) (h1 : Same Hi H) (h2 : DpAll K Hi vs ds) (hq : ∀ d, P d → ∀ v H' Hi', Same Hi Hi' → Same Hi' H' → Same H H' → Fresh Hi Hi' H → Dp K Hi' v d → Q v H')
    (he : ∀ C x, Ed C x → ∀ v p H' Hi', Same Hi Hi' → Same Hi' H' → Same H H' → Fresh Hi Hi' H → Dp K Hi' v x → H' p = none → E (.ref C) (some p) (upd H' p (.xd [("at", v)])))
    (ht : t { nx := fun _ => P .none, rt := fun _ d => P d, ex := fun _ C x => Ed C x, xw := fun cls d _ H' => E cls d H' } (rho0 ds (N.length - ds.length))) : ts { nx := fun _ H' => Q .non H', rt := Q } (start N vs) H := by
  have el := dpAll_len h2
  have back : ∀ σ' H' ρ' v d, Rel K ⟨Hi, H, [], []⟩ σ' H' ρ' [v] [d] → P d → Q v H' := fun σ' H' ρ' v d R p => by
    obtain ⟨Hi', own, R⟩ := R
    have q := R.tmp
    cases q with
    | cons a _ => exact hq d p v H' Hi' R.base R.sub (fun b o e => R.keep b o e (by simp)) (fun b hb => R.new b hb) a
  refine s.run ⟨Hi, H, [], []⟩ (start N vs) H (rho0 ds (N.length - ds.length)) [] [] { nx := fun _ H' => Q .non H', rt := Q } { nx := fun _ => P .none, rt := fun _ d => P d, ex := fun _ C x => Ed C x, xw := fun cls d _ H' => E cls d H' } ⟨fun σ' H' ρ' R p => back σ' H' ρ' .non .none (R.push (v := .non) rfl) p, fun σ' H' ρ' v d R p => back σ' H' ρ' v d R p, fun _ _ _ _ z => z.elim, fun _ _ _ _ z => z.elim, fun _ _ _ _ _ _ _ _ _ _ _ _ z => z.elim, fun _ _ _ _ _ _ _ z => z.elim, fun σ' H' ρ' C x v p R hp q => ?_⟩ ⟨Hi, fun _ => [], ?_⟩ ht
  · obtain ⟨Hi', own, R⟩ := R
    have t := R.tmp
    cases t with
    | cons a _ => exact he C x q v p H' Hi' R.base R.sub (fun b o e => R.keep b o e (by simp)) (fun b hb => R.new b hb) a hp
  refine ⟨Same.refl _, h1, fun b hb => .inl hb, fun b o e _ => e, fun b e => e, ?_, fun i x e => ?_, fun i a ha => (by cases ha), fun i a ha => (by cases ha), fun i a ha => (by cases ha), fun i j _ a ha => (by cases ha), fun i es e a ha => (by cases ha), fun z hz => (by cases hz), DpAll.nil⟩
  · unfold L2.start rho0
    rw [List.length_append, List.length_append, List.length_map, List.length_map, List.length_replicate, List.length_replicate, el]
  · unfold rho0 at e
    rcases start_sh (N := N) h2 e with z | ⟨d, v, z, e2, q⟩
    · rw [z]; trivial
    · rw [z]
      refine ⟨v, ?_, q⟩
      unfold L2.start
      rw [el, e2]
      rfl
/-- raise C(e) -/
def tRaiseE (K : PySem.W.Frag) (W : WX) (C : Addr) (te : TE) : TS := fun _ σ H => tMkO C (spErr K) [] (L2.tCons te L2.tNil) σ H fun cls d H' => W cls d σ H'
def dRaise (W : WX) (C : Addr) (e : TD) : TDS := fun dn ρ => dn.xw = W ∧ e ρ fun r x => dn.ex r C x
theorem ss_raise {W : WX} {C : Addr} (T : ErrC K C) (se : SE K te e) : SS K (tRaiseE K W C te) (dRaise W C e) :=
  ⟨fun a b ρ h q => ⟨h.ex.1 ▸ q.1, se.mono _ _ _ (fun r x q => h.ex.2 _ _ _ q) q.2⟩, fun F σ H ρ vs ds E dn G R ⟨hw, q⟩ =>
    se.run F σ H ρ vs ds _ R (se.mono _ _ _ (fun r x q v H1 R1 => ⟨(by show 1 ≤ 1000; decide), fun a ha => mk_step (W := fun cls d H' => W cls d σ H') (y := v) T (fun dx hdx => by
      show W (.ref C) (some dx) σ _
      rw [← hw]
      exact G.ex _ _ _ _ _ _ _ R1 hdx q) a ha⟩) q)⟩
/-- return f(..), f raises -/
def dRetR (W : WX) (g : CR) (t : TDA) : TDS := fun dn ρ => dn.xw = W ∧ t ρ fun r es => g es (fun d => dn.rt r d) (fun C x => dn.ex r C x)
theorem ss_retR {W : WX} {g : CR} (hg : ∀ es P P' E E', (∀ d, P d → P' d) → (∀ C x, E C x → E' C x) → g es P E → g es P' E') (s : SA K ta t) : SS K (tRet (tCallSD (spR K g) [] (fun σ cls d H => W cls d σ H) ta)) (dRetR W g t) := by
  refine ⟨fun a b ρ h q => ⟨h.ex.1 ▸ q.1, s.mono _ _ _ (fun r es q => hg _ _ _ _ _ (fun d q => h.rt _ _ q) (fun C x q => h.ex.2 _ _ _ q) q) q.2⟩, fun F σ H ρ vs ds E dn G R ⟨hw, q⟩ => s.run F σ H ρ vs ds _ R (s.mono _ _ _ (fun r es q xs H1 e R1 => ?_) q)⟩
  show spR K g (xs ++ []) H1 E.rt (fun cls d H => W cls d σ H)
  rw [List.append_nil]
  obtain ⟨Hi, own, R2⟩ := R1
  obtain ⟨t1, t2⟩ := dpAll_split e R2.tmp
  refine ⟨Hi, es, R2.sub, t1, hg _ _ _ _ _ (fun d q v H' Hi' h1 h2 h3 h4 h5 => ?_) (fun C x q v p H' Hi' h1 h2 h3 h4 h5 h6 => ?_) q⟩
  · exact G.rt _ _ _ _ _ ⟨Hi', own, R2.after h1 h2 h3 h4 (.cons h5 (dpAll_mono h1 _ _ t2))⟩ q
  · rw [← hw]
    exact G.ex _ _ _ _ _ _ _ ⟨Hi', own, R2.after h1 h2 h3 h4 (.cons h5 (dpAll_mono h1 _ _ t2))⟩ h6 q
/-- x = f(..), f raises -/
def dAsgR (W : WX) (g : CR) (i : Nat) (t : TDA) : TDS := fun dn ρ => dn.xw = W ∧ t ρ fun r es => i < r.length ∧ g es (fun d => dn.nx (r.set i (.sh d))) (fun C x => dn.ex r C x)
theorem ss_asgR {W : WX} {g : CR} {i : Nat} (hg : ∀ es P P' E E', (∀ d, P d → P' d) → (∀ C x, E C x → E' C x) → g es P E → g es P' E') (s : SA K ta t) : SS K (tAsg (tCallSD (spR K g) [] (fun σ cls d H => W cls d σ H) ta) (gName i)) (dAsgR W g i t) := by
  refine ⟨fun a b ρ h q => ⟨h.ex.1 ▸ q.1, s.mono _ _ _ (fun r es q => ⟨q.1, hg _ _ _ _ _ (fun d q => h.nx _ q) (fun C x q => h.ex.2 _ _ _ q) q.2⟩) q.2⟩, fun F σ H ρ vs ds E dn G R ⟨hw, q⟩ => s.run F σ H ρ vs ds _ R (s.mono _ _ _ (fun r es q xs H1 e R1 => ?_) q)⟩
  show spR K g (xs ++ []) H1 (fun x H => E.nx (σ.set i (some x)) H) (fun cls d H => W cls d σ H)
  rw [List.append_nil]
  obtain ⟨Hi, own, R2⟩ := R1
  obtain ⟨t1, t2⟩ := dpAll_split e R2.tmp
  refine ⟨Hi, es, R2.sub, t1, hg _ _ _ _ _ (fun d q2 v H' Hi' h1 h2 h3 h4 h5 => ?_) (fun C x q v p H' Hi' h1 h2 h3 h4 h5 h6 => ?_) q.2⟩
  · exact G.nx _ _ _ (Rel.store ⟨Hi', own, R2.after h1 h2 h3 h4 (.cons h5 (dpAll_mono h1 _ _ t2))⟩ q.1) q2
  · rw [← hw]
    exact G.ex _ _ _ _ _ _ _ ⟨Hi', own, R2.after h1 h2 h3 h4 (.cons h5 (dpAll_mono h1 _ _ t2))⟩ h6 q
/-- try: .. except c as slot i: .. -/
def tTryAs (K : PySem.W.Frag) (c : Value) (i : Nat) (tb : WX → TS) (ts : Addr → Value → Option Addr → TS) (Wout : WX) : TS := fun D σ H => tb (wAs K c i ts Wout D) D σ H
def dTry (K : PySem.W.Frag) (c : Value) (i : Nat) (t : WX → TDS) (u : Addr → Value → Option Addr → TDS) : TDS := fun dn ρ => ∀ W, t W { dn with xw := W, ex := fun r C x => i < r.length ∧ PySem.W.exmOne K (.ref C) c = some true ∧ ∀ a p, u a (.ref C) (some p) { nx := fun r' => dn.nx (r'.set i .no), rt := dn.rt, bk := fun r' => dn.bk (r'.set i .no), ct := fun r' => dn.ct (r'.set i .no) } (r.set i (.er a p x)) } ρ
theorem ss_try {c : Value} {i : Nat} {tb : WX → TS} {ts : Addr → Value → Option Addr → TS} {Wout : WX} {t : WX → TDS} {u : Addr → Value → Option Addr → TDS} (s : ∀ W, SS K (tb W) (t W)) (s' : ∀ a cls d, SS K (ts a cls d) (u a cls d)) : SS K (tTryAs K c i tb ts Wout) (dTry K c i t u) := by
  refine ⟨fun a b ρ h q W => ?_, fun F σ H ρ vs ds E dn G R q => ?_⟩
  · refine (s W).mono _ _ _ ?_ (q W)
    refine ⟨h.nx, h.rt, h.bk, h.ct, h.rm, h.ro, rfl, fun r C x ⟨h1, h2, q⟩ => ⟨h1, h2, fun a p => ?_⟩⟩
    refine (s' a (.ref C) (some p)).mono _ _ _ ?_ (q a p)
    exact ⟨fun _ q => h.nx _ q, h.rt, fun _ q => h.bk _ q, fun _ q => h.ct _ q, fun _ z => z, fun _ _ z => z, rfl, fun _ _ _ z => z⟩
  refine (s _).run F σ H ρ vs ds E _ ?_ R (q (wAs K c i ts Wout E))
  refine ⟨G.nx, G.rt, G.bk, G.ct, G.rm, G.ro, fun σ H ρ C x v p R hp ⟨h1, h2, q⟩ => ?_⟩
  refine ⟨true, h2, fun _ a ha => ?_, fun z => by cases z⟩
  refine (s' a (.ref C) (some p)).run F _ _ _ vs ds _ _ ?_ (R.setEr hp h1) (q a p)
  exact ⟨fun σ H ρ R q => G.nx _ _ _ R.unset q, fun σ H ρ v d R q => G.rt _ _ _ _ _ R q, fun σ H ρ R q => G.bk _ _ _ R.unset q, fun σ H ρ R q => G.ct _ _ _ R.unset q, fun _ _ _ _ _ _ _ _ _ _ _ _ z => z.elim, fun _ _ _ _ _ _ _ z => z.elim, fun _ _ _ _ _ _ _ _ _ z => z.elim⟩
/-- e.at in the suite -/
def dXf (a : Addr) (cls : Value) (d : Option Addr) (C : Addr) (i : Nat) : TD := fun ρ P => cls = .ref C ∧ ∃ p x, d = some p ∧ ρ[i]? = some (.er a p x) ∧ P ρ x
theorem se_xf {a : Addr} {cls : Value} {d : Option Addr} {C : Addr} {i : Nat} : SE K (tXf a cls d C "at" (tVar i)) (dXf a cls d C i) := ⟨fun ρ P P' h ⟨e1, p, x, e2, e3, q⟩ => ⟨e1, p, x, e2, e3, h _ _ q⟩, fun F σ H ρ vs ds Q R ⟨e1, p, x, e2, e3, q⟩ => by
  obtain ⟨es, Hi, own, R2, _, v, hp, hv⟩ := R.obAt e3
  exact ⟨.ref a, es, rfl, e1, p, _, v, e2, hp, rfl, q v H ⟨Hi, own, R2.tmpTo (.cons hv R2.tmp)⟩⟩⟩
end
section
variable {P : Program} {w : World} {K : PySem.W.Frag} {mg : Str → Option Value} {base : Heap}
theorem ok_R {x qual : Str} {st : Stmt} {f : Addr} {fd : FuncData} {N ps : List Str} {k : Nat} {g : CR} (F : Fun K x qual st f fd) (S : FnScope N ps (defScope st)) (hl : ∀ ds P E, g ds P E → ds.length = ps.length)
    (hbody : ∀ (cdv : Value) (A : Around) (outer : List Env) (s : Shared) (H : Hp) (E : XK), Room k (A.deeper (PyProof.Rows.envOfC qual (defScope st) s.heap.objs.size f cdv)) →
      ∃ ts t, PSs (cxOf (L2.CX P w) P w K mg base N qual (defScope st) f cdv A outer s H E) (defBody st) ts ∧ SS K ts t ∧ ∀ ds Pd Ed, g ds Pd Ed → t { nx := fun _ => Pd .none, rt := fun _ d => Pd d, ex := fun _ C x => Ed C x, xw := fun cls d _ H' => E cls d H' } (rho0 ds (N.length - ds.length))) : FnOk P w K mg base (L2.CX P w) (k + 1) f fd ps (spR K g) := by
  refine F.okX S (fun vs H Q E h => ?_) (fun cdv A outer s H vs Q E hr h => ?_)
  · obtain ⟨Hi, ds, _, h2, hg⟩ := h
    rw [dpAll_len h2]
    exact hl _ _ _ hg
  · obtain ⟨ts, t, h1, h2, h3⟩ := hbody cdv A outer s H E hr
    obtain ⟨Hi, ds, e1, e2, hg⟩ := h
    exact ⟨ts, h1, run_R h2 e1 e2 (fun d q => q) (fun C x q => q) (h3 ds _ _ hg)⟩
end
end LD

/-! LD41: errors and raising defs by name; isinstance(e, (t, u)). -/
namespace LD
open PySem PySem.Spec L2 PyProof.Rows
/-- a def that raises, by its name -/
structure CalX (P : Program) (w : World) (K : PySem.W.Frag) (mg : Str → Option Value) (base : Heap) (k : Nat) (x : Str) (sp : Sp) : Prop where
  ex : ∃ (f : Addr) (fd : FuncData) (ps : List Str), FnOk P w K mg base (L2.CX P w) k f fd ps sp ∧ mg x = some (.ref f) ∧ PySem.W.keepIn K (.ref f) = true ∧ Binds K fd ps []
structure CalXK (P : Program) (w : World) (K : PySem.W.Frag) (mg : Str → Option Value) (base : Heap) (k : Nat) (x : Str) (ks : List Str) (n m : Nat) (o : List Nat) (sp : Sp) : Prop where
  ex : ∃ (f : Addr) (fd : FuncData) (ps : List Str), FnOk P w K mg base (L2.CX P w) k f fd ps sp ∧ mg x = some (.ref f) ∧ PySem.W.keepIn K (.ref f) = true ∧ KBinds K fd ps ks (ordP n m o) (ordP n m o)
/-- an error class by its name -/
structure ErrK (P : Program) (w : World) (K : PySem.W.Frag) (mg : Str → Option Value) (base : Heap) (k : Nat) (x : Str) (C : Addr) : Prop where
  err : ErrC K C
  mgx : mg x = some (.ref C)
  ini : ∃ (fI : Addr) (fd : FuncData) (ps : List Str), PySem.W.findIn K (.ref C) "__init__" = some (some (.ref fI)) ∧ PySem.W.typeIn K (.ref fI) = some (.type "function") ∧ FnOk P w K mg base CX0 k fI fd ps (spErr K) ∧ Binds K fd ps []
def tCallKS (sp : Sp) (gV : List V → List V → List V) (E : L2.St → XK) (t tk : L2.TA) : TE := fun σ H Q => t σ H fun vs H1 => tk σ H1 fun zs H2 => sp (gV vs zs) H2 Q (E σ)
section
variable {X : Cx} {k j n m : Nat} {o : List Nat} {ks : List Str} {sp : Sp} {x : Str} {p pos pos' : Pos} {e : Expr} {es : List Expr} {kws : List Keyword} {t tk : L2.TA} {te : TE} {W : WX} {C : Addr}
theorem pe_cX (c : CalX X.prog X.w X.K X.mg X.base k x sp) (hr : Room j X.A) (hk : k ≤ j) (hg : Gl X x) (tw : Takes X W) (ha : PA X (e :: es) t)
    (hdb : (x == ("__debug__" : Str)) = false := by decide) (he : starEach (e :: es) X.env = (false, eval e X.env) :: starEach es X.env := by rfl) (hpl : (backTo pos (starEach es X.env)).any (·.1) = false := by rfl) :
    PE X (.Call (.Name x p) (e :: es) [] pos) (tCallSD sp [] (fun σ cls d H => W cls d σ H) t) := by
  obtain ⟨f, fd, ps, F, hm, kp, b⟩ := c.ex
  exact pe_callSD F (hr.mono hk) hg hm kp b .nil (fun σ => passAt tw σ) ha hdb he hpl
theorem pe_cXK0 (c : CalXK X.prog X.w X.K X.mg X.base k x ks n m o sp) (hr : Room j X.A) (hk : k ≤ j) (hg : Gl X x) (tw : Takes X W) (hkw : PK X kws tk)
    (hall : (backToKw pos (keywordEach kws X.env)).all (·.1.isSome) = true := by rfl) (hks : (backToKw pos (keywordEach kws X.env)).filterMap (·.1) = ks := by rfl) (hdb : (x == ("__debug__" : Str)) = false := by decide)
    (hpl : ((backTo pos (starEach [] X.env)).any (·.1) || (backToKw pos (keywordEach kws X.env)).any (·.1.isNone)) = false := by rfl) : PE X (.Call (.Name x p) [] kws pos) (tCallKS sp (ordP n m o) (fun σ cls d H => W cls d σ H) L2.tNil tk) := by
  obtain ⟨f, fd, ps, F, hm, kp, hb⟩ := c.ex
  have hr2 := hr.mono hk
  refine ⟨fun pins s σ H Q I h => wpAny_Call_Name_kw (ld_glob I hg hm ?_ hdb)⟩
  refine PySem.W.callWith_KW0 (h₀ := X.base) I.ok.mod.kin kp hall (thn (hkw.run pos pins s σ H _ I h) fun ws s2 ⟨zs, H2, I2, rz, q2⟩ => ⟨I2.kIn, ?_⟩) hpl
  rw [hks]
  have r2 := hb.rel Paired.nil rz
  have hl : (ordP n m o [] ws).length = ps.length := by rw [← r2.length]; exact F.len _ _ _ _ q2
  refine wpAny_call (codeAny_mono (F.run X.A X.stack s2 H2 ⟨[], ks.zip ws⟩ (ordP n m o [] ws) (ordP n m o [] zs) Q (WE W σ) hr2 I2.env0 (hb.to s2 [] ws I2.kIn hl) r2 q2) fun r s' hq => ?_)
  cases r with
  | error e => exact passAt tw σ pins H2 s2 e s' I2 hq
  | ok fl =>
    cases fl with
    | ret u => exact I2.after hq
    | next => exact False.elim hq
    | brk => exact False.elim hq
    | cont => exact False.elim hq
/-- raise C(e) -/
theorem ps_raiseE (hc : X.calm = true) (tw : Takes X W) (c : ErrK X.prog X.w X.K X.mg X.base k x C) (hr : Room j X.A) (hk : k + 1 ≤ j) (hg : Gl X x) (he : PE X e te)
    (hdb : (x == ("__debug__" : Str)) = false := by decide) (hst : starEach (e :: []) X.env = (false, eval e X.env) :: starEach [] X.env := by rfl) (hpl : (backTo pos (starEach [] X.env)).any (·.1) = false := by rfl) :
    PS X (.Raise (some (.Call (.Name x p) [e] [] pos)) none pos') (tRaiseE X.K W C te) := by
  obtain ⟨fI, fd, ps, h1, h2, F, b⟩ := c.ini
  exact ps_raise hc tw (pmk_oex c.err.ox h1 h2 F (hr.mono hk) b .nil pass0 hg c.mgx (pa_cons he pa_nil hst) hdb hst hpl)
end
section
variable {K : PySem.W.Frag} {te : TE} {e : TD} {ta : L2.TA} {t : TDA}
theorem se_isi2 {n1 n2 : String} {f1 f2 : D → Bool} (k1 : IsiD K n1 f1) (k2 : IsiD K n2 f2) (s : SE K te e) : SE K (tCB (rIsiT K) (L2.tCons te (L2.tCons (L2.tTup (L2.tCons (tC (.ty n1)) (L2.tCons (tC (.ty n2)) L2.tNil))) L2.tNil))) (dIsi (fun d => f1 d || f2 d) e) := by
  refine ⟨fun ρ P P' h q => s.mono _ _ _ (fun _ d q => h _ _ q) q, fun F σ H ρ vs ds Q R q => ?_⟩
  refine s.run F σ H ρ vs ds _ R (s.mono _ _ _ (fun r d q v H1 R1 => ⟨(by show 2 ≤ sizeLine; decide), fun p hp => ?_⟩) q)
  have R2 := R1.junk (o := .tup [.ty n1, .ty n2]) hp
  refine ⟨v, p, [.ty n1, .ty n2], .type (typD d), [.type n1, .type n2], f1 d || f2 d, rfl, upd_same, .cons (.ty n1) (.cons (.ty n2) .nil), tyx_of R2.dp, ?_, q _ _ (Rel.push (v := .bl (f1 d || f2 d)) R2.drop rfl)⟩
  unfold PySem.W.kitAny PySem.W.kitAny PySem.W.kitAny
  rw [k1.ok d, k2.ok d]
  cases f1 d <;> cases f2 d <;> rfl
/-- return f(k = ..), f raises -/
def dRetRK (W : WX) (n m : Nat) (o : List Nat) (g : CR) (t : TDA) : TDS := fun dn ρ => dn.xw = W ∧ t ρ fun r es => g (ordP n m o [] es) (fun d => dn.rt r d) (fun C x => dn.ex r C x)
theorem ss_retRK {W : WX} {n m : Nat} {o : List Nat} {g : CR} (hg : ∀ es P P' E E', (∀ d, P d → P' d) → (∀ C x, E C x → E' C x) → g es P E → g es P' E') (s : SA K ta t) : SS K (tRet (tCallKS (spR K g) (ordP n m o) (fun σ cls d H => W cls d σ H) L2.tNil ta)) (dRetRK W n m o g t) := by
  refine ⟨fun a b ρ h q => ⟨h.ex.1 ▸ q.1, s.mono _ _ _ (fun r es q => hg _ _ _ _ _ (fun d q => h.rt _ _ q) (fun C x q => h.ex.2 _ _ _ q) q) q.2⟩, fun F σ H ρ vs ds E dn G R ⟨hw, q⟩ => s.run F σ H ρ vs ds _ R (s.mono _ _ _ (fun r es q xs H1 e R1 => ?_) q)⟩
  obtain ⟨Hi, own, R2⟩ := R1
  obtain ⟨t1, t2⟩ := dpAll_split e R2.tmp
  refine ⟨Hi, ordP n m o [] es, R2.sub, dpAll_ord .nil t1 n m o, hg _ _ _ _ _ (fun d q v H' Hi' h1 h2 h3 h4 h5 => ?_) (fun C x q v p H' Hi' h1 h2 h3 h4 h5 h6 => ?_) q⟩
  · exact G.rt _ _ _ _ _ ⟨Hi', own, R2.after h1 h2 h3 h4 (.cons h5 (dpAll_mono h1 _ _ t2))⟩ q
  · show W (.ref C) (some p) σ _
    rw [← hw]
    exact G.ex _ _ _ _ _ _ _ ⟨Hi', own, R2.after h1 h2 h3 h4 (.cons h5 (dpAll_mono h1 _ _ t2))⟩ h6 q
end
end LD

/-! LD42: < over alike data. -/
namespace LD
open PySem PySem.Spec L2 PyProof.Rows
def rLtD (K : PySem.W.Frag) : R2 := fun x y H Q => ∃ dx dy : D, Dp K H x dx ∧ Dp K H y dy ∧ PySem.W.alike dx dy = true ∧ dx ≠ .none ∧ dx.depth ≤ 50 ∧ Q (.bl (PySem.W.dataLt dx dy)) H
theorem op_ltD {X : Cx} (hu : X.A.units + 64 < cLine) : OpR X (compareOp .Lt) (rLtD X.K) := by
  intro pins s σ H x y v u Q I rx ry h
  obtain ⟨dx, dy, h1, h2, ha, hn, hd, q⟩ := h
  obtain ⟨as, r1⟩ := Dp.reads I dx x v h1 rx
  obtain ⟨bs, r2⟩ := Dp.reads I dy y u h2 ry
  have z : wpAny (model X.prog X.w) X.A (compareOp .Lt v u) (EP X pins σ Q) X.xe s := PySem.W.rcLt_alike dx dy X.A s v u as bs r1 r2 ha hn (by omega) X.prog X.w X.xe (EP X pins σ Q) ⟨.bl _, H, I, rfl, q⟩
  exact z
section
variable {K : PySem.W.Frag}
def oLtD : OD := fun a b P => PySem.W.alike a b = true ∧ a ≠ .none ∧ a.depth ≤ 50 ∧ P (.bool (PySem.W.dataLt a b))
theorem so_ltD : SO K (rLtD K) oLtD := ⟨fun a b P P' h ⟨e1, e2, e3, q⟩ => ⟨e1, e2, e3, h _ q⟩, fun F σ H ρ vs ds x y a b Q R ⟨e1, e2, e3, q⟩ =>
  ⟨a, b, R.drop.dp, R.dp, e1, e2, e3, q _ _ (R.drop.drop.push (v := .bl (PySem.W.dataLt a b)) rfl)⟩⟩
end

/-! enumerate of a list or a tuple, whichever it is -/
section
variable {X : Cx} {e : Expr} {ta : L2.TA} {p pos tp : Pos} {es : List Expr} {j : Nat}
def iNumS (K : PySem.W.Frag) (ta : L2.TA) : TI := fun σ H R => ta σ H fun vs H1 => ∃ a, vs = [.ref a] ∧ (((∃ xs, SqL K H1 a xs) ∧ R (Ite K a) H1) ∨ ((∃ xs, SqT K H1 a xs) ∧ R (ItN K a) H1))
theorem pi_numS (hg : Gl X "enumerate") (hm : X.mg "enumerate" = none) (ha : PA X [e] ta) (hs : starEach [e] X.env = [(false, eval e X.env)] := by rfl) :
    PI X (.Tuple es j tp) (.Call (.Name "enumerate" p) [e] [] pos) (iNumS X.K ta) := by
  refine ⟨fun pins s σ H R I h => PyProof.Rows.Call_ (ld_blt I hg hm PyProof.Rows.boot_enumerate (PyProof.Rows.callWith_type1 (thn (ha.run pos pins s σ H _ I h) fun us s1 ⟨vs, H1, I1, r1, q1⟩ => ?_) hs rfl))⟩
  obtain ⟨a, ex, q⟩ := q1
  subst ex
  obtain ⟨u, rfl, ru⟩ := vals1 r1
  obtain rfl : u = Value.ref a := ru
  rcases q with ⟨⟨xs, hq⟩, q⟩ | ⟨⟨xs, hq⟩, q⟩
  · obtain ⟨its, rv, p', hz⟩ := I1.list hq
    refine call_enumerate_list p'.isList fun h' he hit hsz hk => wpAny_pyIter_enum he ?_
    have I2 : Inv X pins σ H1 { s1 with heap := h' } := I1.kept (t' := s1.toks) hk
    refine ⟨s1.heap.objs.size + 1, [s1.heap.objs.size + 1, s1.heap.objs.size], _, _, H1, rfl, I2, turn_enum a (s1.heap.objs.size + 1) s1.heap.objs.size, ⟨⟨.none, he⟩, hit, Nat.succ_ne_self _⟩, fun b hb => ?_, q⟩
    have hle : s1.heap.objs.size ≤ b := by
      rcases (by simpa using hb : b = s1.heap.objs.size + 1 ∨ b = s1.heap.objs.size) with z | z
      · rw [z]; exact Nat.le_add_right _ _
      · rw [z]; exact Nat.le_refl _
    exact I1.fpOk hle (I1.hok.fresh hle)
  · obtain ⟨its, rv, p', hz⟩ := I1.tuple hq
    have p2 : s1.heap.IsTuple a its.toArray := p'
    have la : a < s1.heap.objs.size := by
      obtain ⟨_, q, _⟩ := p2
      exact Heap.lt_size q
    refine enum1 (begins_tuple a its.toArray) p2 fun h' he hit hk => wpAny_pyIter_enum he ?_
    have I2 : Inv X pins σ H1 { s1 with heap := h' } := I1.kept (t' := s1.toks) hk
    refine ⟨s1.heap.objs.size + 1, [s1.heap.objs.size + 1, s1.heap.objs.size], _, _, H1, rfl, I2, turn_numT a (s1.heap.objs.size + 1) s1.heap.objs.size, ⟨⟨.none, he⟩, ⟨_, hit, rfl, rfl⟩, Nat.succ_ne_self _, Nat.ne_of_lt la, Nat.ne_of_lt (Nat.lt_succ_of_lt la)⟩, fun b hb => ?_, q⟩
    have hle : s1.heap.objs.size ≤ b := by
      rcases (by simpa using hb : b = s1.heap.objs.size + 1 ∨ b = s1.heap.objs.size) with z | z
      · rw [z]; exact Nat.le_add_right _ _
      · rw [z]; exact Nat.le_refl _
    exact I1.fpOk hle (I1.hok.fresh hle)
end
section
variable {K : PySem.W.Frag} {ta : L2.TA} {t : TDA}
theorem walks_numL {p : Addr} {es : List D} : Walks K (Ite K p) (numD es) [.ref p] [.list es] := by
  intro F σ H ρ vs ds i R
  obtain ⟨p', xs, e, e2, s, R1⟩ := Rel.asList (vs := vs) (ds := ds) R
  cases e
  refine ⟨fun d hd => ?_, fun h => ⟨xs, s, by rw [e2, ← numD_len es]; exact h⟩⟩
  obtain ⟨z, hz, rfl⟩ := numD_at hd
  obtain ⟨v, e3, R2⟩ := R1.pick e2 hz
  refine ⟨⟨xs, v, s, e3⟩, fun x H' hy => ?_⟩
  obtain ⟨T, x', rfl, hT, rfl, hy⟩ := hy
  have := (hy xs s).symm.trans e3
  cases this
  exact Rel.tup (xs := [.int (i : Nat), v]) (es := [.int (i : Nat), z]) (R2.swap fun Hi h => .cons (.int _) h) rfl hT
def iNS (t : TDA) : TDI := fun ρ P => t ρ fun r es => ∃ fs, (es = [.list fs] ∨ es = [.tuple fs]) ∧ P r (numD fs)
theorem si_numS (sa : SA K ta t) : SI K (iNumS K ta) (iNS t) := by
  refine ⟨fun ρ P P' h q => sa.mono _ _ _ (fun _ es ⟨fs, e, q⟩ => ⟨fs, e, h _ _ q⟩) q, fun F σ H ρ vs ds Q R q => ?_⟩
  refine sa.run F σ H ρ vs ds _ R (sa.mono _ _ _ (fun r es q xs H1 e R1 => ?_) q)
  obtain ⟨fs, e1, q⟩ := q
  rcases e1 with e1 | e1
  · subst e1
    obtain ⟨x, xr, rfl, e2⟩ := len_cons e
    obtain rfl := len_nil e2
    obtain ⟨p, ys, rfl, e3, s, R2⟩ := Rel.asList R1
    exact ⟨p, rfl, .inl ⟨⟨ys, s⟩, q _ _ [.ref p] [.list fs] rfl walks_numL R1⟩⟩
  · subst e1
    obtain ⟨x, xr, rfl, e2⟩ := len_cons e
    obtain rfl := len_nil e2
    obtain ⟨p, ys, rfl, e3, s, R2⟩ := Rel.asTup R1
    exact ⟨p, rfl, .inr ⟨⟨ys, s⟩, q _ _ [.ref p] [.tuple fs] rfl walks_num R1⟩⟩
end

/-! zip of two lists -/
section
variable {K : PySem.W.Frag}
theorem walks_zipL {p r : Addr} {es fs : List D} : Walks K (Itz K p r) (zipD es fs) [.ref p, .ref r] [.list es, .list fs] := by
  intro F σ H ρ vs ds i R
  obtain ⟨p', xs, e, e2, s, R1⟩ := Rel.asList (vs := .ref r :: vs) (ds := .list fs :: ds) R
  cases e
  have R' : Rel K F σ H ρ (.ref r :: vs) (.list fs :: ds) := Rel.drop R
  obtain ⟨r', ys, e', e2', s', R2⟩ := Rel.asList R'
  cases e'
  refine ⟨fun d hd => ?_, fun h => ⟨xs, ys, s, s', ?_⟩⟩
  · obtain ⟨x, y, hx, hy, rfl⟩ := zipD_at hd
    obtain ⟨v, e3, _⟩ := R1.pick e2 hx
    obtain ⟨u, e4, _⟩ := R2.pick e2' hy
    refine ⟨⟨xs, ys, v, u, s, s', e3, e4⟩, fun q H' hq => ?_⟩
    obtain ⟨T, v', u', rfl, hT, rfl, h1, h2⟩ := hq
    have := (h1 xs s).symm.trans e3
    cases this
    have := (h2 ys s').symm.trans e4
    cases this
    refine Rel.tup (xs := [v, u]) (es := [x, y]) ?_ rfl hT
    obtain ⟨Hi, own, R3⟩ := R
    have t := R3.tmp
    cases t with
    | cons t1 t2 =>
      cases t2 with
      | cons t3 t4 =>
        cases t1 with
        | lst s1 g1 =>
          cases t3 with
          | lst s2 g2 =>
            obtain ⟨w1, k1, d1⟩ := dpAll_at g1 hx
            obtain ⟨w2, k2, d2⟩ := dpAll_at g2 hy
            have z1 := (h1 _ (R3.sub.seq s1)).symm.trans k1
            have z2 := (h2 _ (R3.sub.seq s2)).symm.trans k2
            cases z1
            cases z2
            exact ⟨Hi, own, R3.tmpTo (.cons d1 (.cons d2 (.cons (.lst s1 g1) (.cons (.lst s2 g2) t4))))⟩
  · unfold zipD at h
    rw [List.length_map, List.length_zip] at h
    omega
def iZL (t : TDA) : TDI := fun ρ P => t ρ fun r es => ∃ fs gs, es = [.list fs, .list gs] ∧ P r (zipD fs gs)
theorem si_zipL {ta : L2.TA} {t : TDA} (sa : SA K ta t) : SI K (iZip K ta) (iZL t) := by
  refine ⟨fun ρ P P' h q => sa.mono _ _ _ (fun _ es ⟨fs, gs, e, q⟩ => ⟨fs, gs, e, h _ _ q⟩) q, fun F σ H ρ vs ds Q R q => ?_⟩
  refine sa.run F σ H ρ vs ds _ R (sa.mono _ _ _ (fun r es q xs H1 e R1 => ?_) q)
  obtain ⟨fs, gs, e1, q⟩ := q
  subst e1
  obtain ⟨x, xr, rfl, e2⟩ := len_cons e
  obtain ⟨y, yr, rfl, e3⟩ := len_cons e2
  obtain rfl := len_nil e3
  obtain ⟨p, ys, rfl, el, s, _⟩ := Rel.asList R1
  obtain ⟨p2, zs, rfl, el2, s2, _⟩ := Rel.asList (Rel.drop R1)
  exact ⟨p, p2, ys, zs, rfl, s, s2, q _ _ [.ref p, .ref p2] [.list fs, .list gs] rfl walks_zipL R1⟩
end
end LD

/-! LD43: comprehensions with two clauses. -/
namespace LD
open PySem PySem.Spec L2 PyProof.Rows
def compW2 (f : D → Rho → List D → KL → Prop) (js : List Nat) : List D → Rho → List D → KL → Prop
  | [], ρ, acc, P => P ρ acc
  | d :: r, ρ, acc, P => f d ρ acc fun ρ1 acc1 => compW2 f js r (wipeR ρ1 js) acc1 P
def compF2 (dg : DG) (dt : TDT) (di1 : TDI) (dg1 : DG) (dt1 : TDT) (de : TD) (js1 : List Nat) : D → Rho → List D → KL → Prop := fun d r acc k => dg d r fun r1 => dt r1 fun r2 b =>
  if b = true then di1 r2 fun r3 items => acc.length + items.length ≤ sizeLine ∧ (∀ j ∈ js1, r3[j]? = some .no) ∧ compW (compF dg1 dt1 de) js1 items r3 acc k else k r2 acc
def dLc2 (di : TDI) (dg : DG) (dt : TDT) (di1 : TDI) (dg1 : DG) (dt1 : TDT) (de : TD) (js js1 : List Nat) : TDA := fun ρ P => di ρ fun ρ0 items => (∀ j ∈ js, ρ0[j]? = some .no) ∧ compW2 (compF2 dg dt di1 dg1 dt1 de js1) js items ρ0 [] P
theorem compW2_mono {f : D → Rho → List D → KL → Prop} (hf : ∀ d ρ acc k k', (∀ r o, k r o → k' r o) → f d ρ acc k → f d ρ acc k') {js : List Nat} : ∀ {items : List D} {ρ : Rho} {acc : List D} {P P' : KL}, (∀ r d, P r d → P' r d) → compW2 f js items ρ acc P → compW2 f js items ρ acc P'
  | [], _, _, _, _, h, q => h _ _ q
  | d :: r, ρ, acc, P, P', h, q => by
    unfold compW2 at q ⊢
    exact hf _ _ _ _ _ (fun r1 o q => compW2_mono hf h q) q
section
variable {K : PySem.W.Frag} {js js1 jg jg1 : List Nat} {wi wi1 : TI} {di di1 : TDI} {g g1 : TG} {dg dg1 : DG} {tt tt1 : TT} {dt dt1 : TDT} {te : TE} {de : TD}
theorem compF2_mono (sg : SG K jg g dg) (st : ST K tt dt) (si1 : SI K wi1 di1) (sg1 : SG K jg1 g1 dg1) (st1 : ST K tt1 dt1) (se : SE K te de) : ∀ d ρ acc k k', (∀ r o, k r o → k' r o) → compF2 dg dt di1 dg1 dt1 de js1 d ρ acc k → compF2 dg dt di1 dg1 dt1 de js1 d ρ acc k' := by
  intro d ρ acc k k' h q
  refine sg.mono _ _ _ _ (fun r1 q => st.mono _ _ _ (fun r2 b q => ?_) q) q
  cases b with
  | true => exact si1.mono _ _ _ (fun r3 items ⟨q1, q2, q3⟩ => ⟨q1, q2, compW_mono (compF_mono sg1 st1 se) h q3⟩) q
  | false => exact h _ _ q
theorem no_wipe {js : List Nat} {ρ : Rho} (h : ∀ j ∈ js, ρ[j]? = some .no) : wipeR ρ js = ρ := by
  refine List.ext_getElem? fun j => ?_
  by_cases hj : j ∈ js
  · rw [h j hj]
    cases e : (wipeR ρ js)[j]? with
    | none =>
      have h1 := List.getElem?_eq_none_iff.mp e
      rw [wipeR_len] at h1
      have h2 := (List.getElem?_eq_some_iff.mp (h j hj)).1
      omega
    | some x => rw [wipeR_in hj e]
  · exact wipeR_out hj
theorem swapFront2 {H : Hp} {y : V} {d : D} {w1 ws acc vs : List V} {e1 es ys ds : List D} (q1 : w1.length = e1.length) (q2 : ws.length = es.length) (q3 : acc.length = ys.length) (h : DpAll K H (y :: (w1 ++ (ws ++ (acc ++ vs)))) (d :: (e1 ++ (es ++ (ys ++ ds))))) :
    DpAll K H (w1 ++ (ws ++ ((acc ++ [y]) ++ vs))) (e1 ++ (es ++ ((ys ++ [d]) ++ ds))) := by
  cases h with
  | cons a b =>
    obtain ⟨b1, b2⟩ := dpAll_split q1 b
    obtain ⟨b3, b4⟩ := dpAll_split q2 b2
    obtain ⟨b5, b6⟩ := dpAll_split q3 b4
    exact dpAll_app b1 (dpAll_app b3 (dpAll_app (dpAll_app b5 (.cons a .nil)) b6))
theorem sf_lc2 (si : SI K wi di) (sg : SG K jg g dg) (st : ST K tt dt) (si1 : SI K wi1 di1) (sg1 : SG K jg1 g1 dg1) (st1 : ST K tt1 dt1) (se : SE K te de) (hj : ∀ j ∈ jg, j ∈ js := by decide) (hj1 : ∀ j ∈ jg1, j ∈ js1 := by decide) (hjj : ∀ j ∈ js1, j ∈ js := by decide) : SF K (tLc2 wi g tt wi1 g1 tt1 te js js1) (dLc2 di dg dt di1 dg1 dt1 de js js1) := by
  refine ⟨fun ρ P P' h q => si.mono _ _ _ (fun r items ⟨q2, q3⟩ => ⟨q2, compW2_mono (compF2_mono sg st si1 sg1 st1 se) h q3⟩) q, fun F σ H ρ vs ds Q R q => ?_⟩
  refine si.run F σ H ρ vs ds _ R (si.mono _ _ _ (fun ρ0 items q J H1 ws es ew hw R1 => ?_) q)
  obtain ⟨q2, q3⟩ := q
  intro Dp hD
  obtain ⟨f0, fz⟩ := R1.pinFree hD
  refine ⟨fun i m H => ∃ ρ1 acc ys, i + m = items.length ∧ acc.length = ys.length ∧ (∀ j x, j ∈ js → ρ1[j]? = some x → x = .no) ∧ Rel K (F.mk1 Dp (.lst acc)) (L2.wipe σ js) H ρ1 (ws ++ (acc ++ vs)) (es ++ (ys ++ ds)) ∧
      compW2 (compF2 dg dt di1 dg1 dt1 de js1) js (items.drop i) ρ1 ys (fun r es => ∀ xs H' p, xs.length = es.length → Rel K F σ H' r (xs ++ vs) (es ++ ds) → H' p = none → Q (.ref p) (upd H' p (.lst xs))), ⟨items.length, ρ0, [], [], Nat.zero_add _, rfl, fun j x hj e => ?_, ?_, q3⟩, fun i m H2 hW => ?_⟩
  · rw [q2 j hj] at e; cases e; rfl
  · have R2 := (R1.pinNew (o := .lst []) hD).wipe (js := js)
    rw [no_wipe q2] at R2
    exact R2
  · obtain ⟨ρ1, acc, ys, em, el, hn, R2, q4⟩ := hW
    by_cases hi : i < items.length
    · right
      have hd : items[i]? = some items[i] := List.getElem?_eq_getElem hi
      rw [List.drop_eq_getElem_cons hi] at q4
      unfold compW2 at q4
      obtain ⟨hgo, hy⟩ := (hw (F.mk1 Dp (.lst acc)) (L2.wipe σ js) H2 ρ1 (acc ++ vs) (ys ++ ds) i R2).1 _ hd
      refine ⟨hgo, fun H => ∃ ρ1 acc ys, (i + 1) + (m - 1) = items.length ∧ acc.length = ys.length ∧ (∀ j x, j ∈ js → ρ1[j]? = some x → x = .no) ∧ Rel K (F.mk1 Dp (.lst acc)) (L2.wipe σ js) H ρ1 (ws ++ (acc ++ vs)) (es ++ (ys ++ ds)) ∧
        compW2 (compF2 dg dt di1 dg1 dt1 de js1) js (items.drop (i + 1)) ρ1 ys (fun r es => ∀ xs H' p, xs.length = es.length → Rel K F σ H' r (xs ++ vs) (es ++ ds) → H' p = none → Q (.ref p) (upd H' p (.lst xs))), fun H' h' => ⟨m - 1, by omega, h'⟩, fun x H' hx => ?_⟩
      have R3 := hy x H' hx
      refine sg.run (F.mk1 Dp (.lst acc)) _ H' ρ1 _ _ x _ _ R3 (sg.mono _ _ _ _ (fun r1 q σ2 H3 R4 A => ?_) q4)
      have ew2 : L2.wipe σ2 js = L2.wipe σ js := by
        have e1 : L2.wipe σ2 js = L2.wipe (L2.wipe σ js) js := wipe_eq A.1 fun j hjn => A.2.1 j fun z => hjn (hj j z)
        rw [e1]
        exact wipe_eq (wipe_length ..) fun j hjn => wipe_out hjn
      refine ⟨ew2, st.run (F.mk1 Dp (.lst acc)) σ2 H3 r1 _ _ _ R4 (st.mono _ _ _ (fun r2 b q H4 R5 => ?_) q)⟩
      cases b with
      | false =>
        refine ⟨wipeR r2 js, acc, ys, by omega, el, fun j x hj e => wipeR_in hj e, ?_, q⟩
        have R6 := R5.wipe (js := js)
        rw [ew2] at R6
        exact R6
      | true =>
        refine si1.run (F.mk1 Dp (.lst acc)) σ2 H4 r2 _ _ _ R5 (si1.mono _ _ _ (fun r3 items1 q J1 H5 ws1 es1 ew1 hw1 R6 => ?_) q)
        obtain ⟨z1, z2, z3⟩ := q
        refine ⟨fun j k H => ∃ ρ2 acc2 ys2, j + k = items1.length ∧ acc2.length = ys2.length ∧ ys2.length ≤ ys.length + j ∧ (∀ l x, l ∈ js1 → ρ2[l]? = some x → x = .no) ∧ Rel K (F.mk1 Dp (.lst acc2)) (L2.wipe σ2 js1) H ρ2 (ws1 ++ (ws ++ (acc2 ++ vs))) (es1 ++ (es ++ (ys2 ++ ds))) ∧
          compW (compF dg1 dt1 de) js1 (items1.drop j) ρ2 ys2 (fun r acc1 => compW2 (compF2 dg dt di1 dg1 dt1 de js1) js (items.drop (i + 1)) (wipeR r js) acc1 (fun r es => ∀ xs H' p, xs.length = es.length → Rel K F σ H' r (xs ++ vs) (es ++ ds) → H' p = none → Q (.ref p) (upd H' p (.lst xs)))), ⟨items1.length, r3, acc, ys, Nat.zero_add _, el, Nat.le_refl _, fun l x hl e => ?_, ?_, z3⟩, fun j k H6 hW1 => ?_⟩
        · rw [z2 l hl] at e; cases e; rfl
        · have R7 := R6.wipe (js := js1)
          rw [no_wipe z2] at R7
          exact R7
        · obtain ⟨ρ2, acc2, ys2, em2, el2, eli, hn2, R7, q5⟩ := hW1
          by_cases hi2 : j < items1.length
          · right
            have hd2 : items1[j]? = some items1[j] := List.getElem?_eq_getElem hi2
            rw [List.drop_eq_getElem_cons hi2] at q5
            unfold compW at q5
            obtain ⟨hgo2, hy2⟩ := (hw1 (F.mk1 Dp (.lst acc2)) (L2.wipe σ2 js1) H6 ρ2 (ws ++ (acc2 ++ vs)) (es ++ (ys2 ++ ds)) j R7).1 _ hd2
            refine ⟨hgo2, fun H => ∃ ρ2 acc2 ys2, (j + 1) + (k - 1) = items1.length ∧ acc2.length = ys2.length ∧ ys2.length ≤ ys.length + (j + 1) ∧ (∀ l x, l ∈ js1 → ρ2[l]? = some x → x = .no) ∧ Rel K (F.mk1 Dp (.lst acc2)) (L2.wipe σ2 js1) H ρ2 (ws1 ++ (ws ++ (acc2 ++ vs))) (es1 ++ (es ++ (ys2 ++ ds))) ∧
              compW (compF dg1 dt1 de) js1 (items1.drop (j + 1)) ρ2 ys2 (fun r acc1 => compW2 (compF2 dg dt di1 dg1 dt1 de js1) js (items.drop (i + 1)) (wipeR r js) acc1 (fun r es => ∀ xs H' p, xs.length = es.length → Rel K F σ H' r (xs ++ vs) (es ++ ds) → H' p = none → Q (.ref p) (upd H' p (.lst xs)))), fun H' h' => ⟨k - 1, by omega, h'⟩, fun x2 H7 hx2 => ?_⟩
            have R8 := hy2 x2 H7 hx2
            refine sg1.run (F.mk1 Dp (.lst acc2)) _ H7 ρ2 _ _ x2 _ _ R8 (sg1.mono _ _ _ _ (fun r4 q σ3 H8 R9 A2 => ?_) q5)
            have ew3 : L2.wipe σ3 js1 = L2.wipe σ2 js1 := by
              have e1 : L2.wipe σ3 js1 = L2.wipe (L2.wipe σ2 js1) js1 := wipe_eq A2.1 fun l hln => A2.2.1 l fun z => hln (hj1 l z)
              rw [e1]
              exact wipe_eq (wipe_length ..) fun l hln => wipe_out hln
            refine ⟨ew3, st1.run (F.mk1 Dp (.lst acc2)) σ3 H8 r4 _ _ _ R9 (st1.mono _ _ _ (fun r5 b q H9 R10 => ?_) q)⟩
            cases b with
            | false =>
              refine ⟨wipeR r5 js1, acc2, ys2, by omega, el2, by omega, fun l x hl e => wipeR_in hl e, ?_, q⟩
              have R11 := R10.wipe (js := js1)
              rw [ew3] at R11
              exact R11
            | true =>
              refine se.run (F.mk1 Dp (.lst acc2)) σ3 H9 r5 _ _ _ R10 (se.mono _ _ _ (fun r6 y q yv H10 R11 => ?_) q)
              refine ⟨acc2, R11.pinAt, by rw [el2]; omega, wipeR r6 js1, acc2 ++ [yv], ys2 ++ [y], by omega, by rw [List.length_append, List.length_append, el2]; rfl, by rw [List.length_append]; show ys2.length + 1 ≤ ys.length + (j + 1); omega, fun l x hl e => wipeR_in hl e, ?_, q⟩
              have R12 := (R11.repin (o' := .lst (acc2 ++ [yv])) f0 fz).wipe (js := js1)
              rw [ew3] at R12
              exact R12.swap fun _ h => swapFront2 ew1 ew el2 h
          · left
            have ej : items1.drop j = [] := List.drop_eq_nil_iff.mpr (by omega)
            rw [ej] at q5
            obtain ⟨_, hs⟩ := hw1 (F.mk1 Dp (.lst acc2)) (L2.wipe σ2 js1) H6 ρ2 (ws ++ (acc2 ++ vs)) (es ++ (ys2 ++ ds)) j R7
            refine ⟨hs (by omega), wipeR ρ2 js, acc2, ys2, by omega, el2, fun l x hl e => wipeR_in hl e, ?_, q5⟩
            have R8 := (R7.dropN ew1).wipe (js := js)
            have ew4 : L2.wipe (L2.wipe σ2 js1) js = L2.wipe σ js := by
              rw [← ew2]
              exact wipe_eq (wipe_length ..) fun l hln => wipe_out fun z => hln (hjj l z)
            rw [ew4] at R8
            exact R8
    · left
      have ei : items.drop i = [] := List.drop_eq_nil_iff.mpr (by omega)
      rw [ei] at q4
      obtain ⟨_, hs⟩ := hw (F.mk1 Dp (.lst acc)) (L2.wipe σ js) H2 ρ1 (acc ++ vs) (ys ++ ds) i R2
      refine ⟨hs (by omega), ?_⟩
      obtain ⟨u1, u2, u3⟩ := R2.unpin f0 fz
      rw [u2]
      refine q4 acc _ Dp el ?_ u1
      refine (u3.dropN ew).resig (wipe_length ..).symm fun j x e => ?_
      by_cases hjs : j ∈ js
      · exact .inl (hn j x hjs e)
      · exact .inr (wipe_out hjs).symm
end
section
variable {α : Type} {f : D → Rho → List D → KL → Prop} {js : List Nat} {ρ : Rho}
/-- each of xs adds the things that h tells; all together fit -/
theorem compW2_flat (g : α → D) (h : α → List D) (m L : Nat) : ∀ {xs : List α} {acc : List D} {P : KL}, (∀ x ∈ xs, (h x).length ≤ m) → acc.length + xs.length * m ≤ L →
    (∀ x ∈ xs, ∀ (a : List D) (k : KL), a.length + m ≤ L → (∀ r, wipeR r js = ρ → k r (a ++ h x)) → f (g x) ρ a k) → P ρ (acc ++ xs.flatMap h) → compW2 f js (xs.map g) ρ acc P
  | [], acc, P, _, _, _, q => by
    rw [List.flatMap_nil, List.append_nil] at q
    exact q
  | x :: xs, acc, P, hm, hl, H, q => by
    rw [List.length_cons, Nat.add_mul, Nat.one_mul] at hl
    have hx := hm x List.mem_cons_self
    unfold compW2
    rw [List.map_cons]
    refine H x List.mem_cons_self acc _ (by omega) fun r hr => ?_
    rw [hr]
    refine compW2_flat g h m L (fun y hy => hm y (List.mem_cons_of_mem _ hy)) (by rw [List.length_append]; omega) (fun y hy => H y (List.mem_cons_of_mem _ hy)) ?_
    rw [List.append_assoc]
    rw [List.flatMap_cons] at q
    exact q
end
end LD

/-! LD44: a call of a raising def as a statement. -/
namespace LD
open PySem PySem.Spec L2 PyProof.Rows
section
variable {K : PySem.W.Frag} {ta : L2.TA} {t : TDA}
/-- f(..), f raises -/
def dExprR (W : WX) (g : CR) (t : TDA) : TDS := fun dn ρ => dn.xw = W ∧ t ρ fun r es => g es (fun _ => dn.nx r) (fun C x => dn.ex r C x)
theorem ss_exprR {W : WX} {g : CR} (hg : ∀ es P P' E E', (∀ d, P d → P' d) → (∀ C x, E C x → E' C x) → g es P E → g es P' E') (s : SA K ta t) : SS K (tDrop (tCallSD (spR K g) [] (fun σ cls d H => W cls d σ H) ta)) (dExprR W g t) := by
  refine ⟨fun a b ρ h q => ⟨h.ex.1 ▸ q.1, s.mono _ _ _ (fun r es q => hg _ _ _ _ _ (fun d q => h.nx _ q) (fun C x q => h.ex.2 _ _ _ q) q) q.2⟩, fun F σ H ρ vs ds E dn G R ⟨hw, q⟩ => s.run F σ H ρ vs ds _ R (s.mono _ _ _ (fun r es q xs H1 e R1 => ?_) q)⟩
  show spR K g (xs ++ []) H1 (fun _ H => E.nx σ H) (fun cls d H => W cls d σ H)
  rw [List.append_nil]
  obtain ⟨Hi, own, R2⟩ := R1
  obtain ⟨t1, t2⟩ := dpAll_split e R2.tmp
  refine ⟨Hi, es, R2.sub, t1, hg _ _ _ _ _ (fun d q v H' Hi' h1 h2 h3 h4 h5 => ?_) (fun C x q v p H' Hi' h1 h2 h3 h4 h5 h6 => ?_) q⟩
  · exact G.nx _ _ _ ⟨Hi', own, R2.after h1 h2 h3 h4 (dpAll_mono h1 _ _ t2)⟩ q
  · rw [← hw]
    exact G.ex _ _ _ _ _ _ _ ⟨Hi', own, R2.after h1 h2 h3 h4 (.cons h5 (dpAll_mono h1 _ _ t2))⟩ h6 q
end
section
variable {X : Cx} {k j : Nat} {sp : Sp} {x : Str} {p pos : Pos} {e : Expr} {es : List Expr} {t : L2.TA} {n m : Nat} {o : List Nat} {ks : List Str} {kws : List Keyword} {tk : L2.TA}
/-- a def that raises, called where it doesn't -/
theorem pe_cX0 (c : CalX X.prog X.w X.K X.mg X.base k x sp) (hr : Room j X.A) (hk : k ≤ j) (hg : Gl X x) (ha : PA X (e :: es) t)
    (hdb : (x == ("__debug__" : Str)) = false := by decide) (he : starEach (e :: es) X.env = (false, eval e X.env) :: starEach es X.env := by rfl) (hpl : (backTo pos (starEach es X.env)).any (·.1) = false := by rfl) :
    PE X (.Call (.Name x p) (e :: es) [] pos) (tCall sp [] E0 t) := by
  obtain ⟨f, fd, ps, F, hm, kp, b⟩ := c.ex
  exact pe_call F (hr.mono hk) hg hm kp b .nil passL ha hdb he hpl
theorem pe_cX0K (c : CalXK X.prog X.w X.K X.mg X.base k x ks n m o sp) (hr : Room j X.A) (hk : k ≤ j) (hg : Gl X x) (hkw : PK X kws tk)
    (hall : (backToKw pos (keywordEach kws X.env)).all (·.1.isSome) = true := by rfl) (hks : (backToKw pos (keywordEach kws X.env)).filterMap (·.1) = ks := by rfl) (hdb : (x == ("__debug__" : Str)) = false := by decide)
    (hpl : ((backTo pos (starEach [] X.env)).any (·.1) || (backToKw pos (keywordEach kws X.env)).any (·.1.isNone)) = false := by rfl) : PE X (.Call (.Name x p) [] kws pos) (tCallK sp (ordP n m o) E0 L2.tNil tk) := by
  obtain ⟨f, fd, ps, F, hm, kp, b⟩ := c.ex
  exact pe_callK0 F (hr.mono hk) hg hm kp b passL hkw hall hks hdb hpl
end
section
variable {K : PySem.W.Frag} {ta tk : L2.TA} {t u : TDA}
/-- f(..), f may raise, but doesn't here -/
def dCallR (g : CR) (t : TDA) : TD := fun ρ P => t ρ fun r es => g es (P r) (fun _ _ => False)
theorem se_callR {g : CR} (hg : ∀ es P P' E E', (∀ d, P d → P' d) → (∀ C x, E C x → E' C x) → g es P E → g es P' E') (s : SA K ta t) : SE K (tCall (spR K g) [] E0 ta) (dCallR g t) := by
  refine ⟨fun ρ P P' h q => s.mono _ _ _ (fun _ es q => hg _ _ _ _ _ (h _) (fun _ _ z => z) q) q, fun F σ H ρ vs ds Q R q => s.run F σ H ρ vs ds _ R (s.mono _ _ _ (fun r es q xs H1 e R1 => ?_) q)⟩
  show spR K g (xs ++ []) H1 Q E0
  rw [List.append_nil]
  obtain ⟨Hi, own, R2⟩ := R1
  obtain ⟨t1, t2⟩ := dpAll_split e R2.tmp
  exact ⟨Hi, es, R2.sub, t1, hg _ _ _ _ _ (fun d q v H' Hi' h1 h2 h3 h4 h5 => q v H' ⟨Hi', own, R2.after h1 h2 h3 h4 (.cons h5 (dpAll_mono h1 _ _ t2))⟩) (fun _ _ z => z.elim) q⟩
def dCallRK (n m : Nat) (o : List Nat) (g : CR) (t u : TDA) : TD := fun ρ P => t ρ fun r es => u r fun r2 fs => g (ordP n m o es fs) (P r2) (fun _ _ => False)
theorem se_callRK {n m : Nat} {o : List Nat} {g : CR} (hg : ∀ es P P' E E', (∀ d, P d → P' d) → (∀ C x, E C x → E' C x) → g es P E → g es P' E') (s : SA K ta t) (s' : SA K tk u) : SE K (tCallK (spR K g) (ordP n m o) E0 ta tk) (dCallRK n m o g t u) := by
  refine ⟨fun ρ P P' h q => s.mono _ _ _ (fun _ es q => s'.mono _ _ _ (fun _ fs q => hg _ _ _ _ _ (h _) (fun _ _ z => z) q) q) q, fun F σ H ρ vs ds Q R q => s.run F σ H ρ vs ds _ R (s.mono _ _ _ (fun r es q xs H1 e R1 => ?_) q)⟩
  refine s'.run F σ H1 r _ _ _ R1 (s'.mono _ _ _ (fun r2 fs q zs H2 e2 R2 => ?_) q)
  obtain ⟨Hi, own, R3⟩ := R2
  obtain ⟨t1, t2⟩ := dpAll_split e2 R3.tmp
  obtain ⟨t3, t4⟩ := dpAll_split e t2
  exact ⟨Hi, ordP n m o es fs, R3.sub, dpAll_ord t3 t1 n m o, hg _ _ _ _ _ (fun d q v H' Hi' h1 h2 h3 h4 h5 => q v H' ⟨Hi', own, R3.after h1 h2 h3 h4 (.cons h5 (dpAll_mono h1 _ _ t4))⟩) (fun _ _ z => z.elim) q⟩
end
end LD

/-! LD45: {k: v for .. in any walk}. -/
namespace LD
open PySem PySem.Spec L2 PyProof.Rows
section
variable {K : PySem.W.Frag} {wi : TI} {di : TDI} {g : TG} {dg : DG} {tk tv : TE} {dk dv : TD}
/-- x = {k: v for .. in ..} -/
def dDcS (i : Nat) (di : TDI) (dg : DG) (dk dv : TD) (js : List Nat) : TDS := fun dn ρ => di ρ fun ρ0 items => (∀ x ∈ js, ρ0[x]? = some .no) ∧ items.length ≤ sizeLine ∧
  dcW (fun _ => True) (dcF dg dk dv) js items ρ0 [] fun r kvs => i < r.length ∧ ∀ p zs', zs'.map Ent.kv = kvs → dn.nx (r.set i (.dt p zs'))
theorem ss_dcS {i : Nat} {js jg : List Nat} (si : SI K wi di) (sg : SG K jg g dg) (sk : SE K tk dk) (sv : SE K tv dv) (hj : ∀ j ∈ jg, j ∈ js := by decide) : SS K (tAsg (tDcX K wi g tk tv js) (gName i)) (dDcS i di dg dk dv js) := by
  refine ⟨fun a b ρ h q => si.mono _ _ _ (fun r items ⟨h1, h2, q⟩ => ⟨h1, h2, dcW_mono (dcF_mono sg sk sv) (fun r d q => ⟨q.1, fun p zs' hz => h.nx _ (q.2 p zs' hz)⟩) q⟩) q, fun F σ H ρ vs ds E dn G R q => ?_⟩
  refine si.run F σ H ρ vs ds _ R (si.mono _ _ _ (fun ρ0 items q J H1 ws es ew hw R1 => ?_) q)
  obtain ⟨hno, hzl, q⟩ := q
  intro D hD
  have f0 := R1.pinFree hD
  refine ⟨fun n m H2 => ∃ (ρ1 : Rho) (acc : List Ent), n + m = items.length ∧ acc.length ≤ n ∧ (∀ z ∈ acc, RelV z.v z.u) ∧ (∀ x y, x ∈ js → ρ1[x]? = some y → y = .no) ∧ Rel K (F.mk1 D (.ext (RawT D (acc.map Ent.x)))) (L2.wipe σ js) H2 ρ1 (ws ++ (tmpV acc ++ vs)) (es ++ (tmpD acc ++ ds)) ∧
    dcW (fun _ => True) (dcF dg dk dv) js (items.drop n) ρ1 (acc.map Ent.kv) fun r kvs => i < r.length ∧ ∀ (p : Addr) (zs' : List Ent), zs'.map Ent.kv = kvs → dn.nx (r.set i (.dt p zs')), ⟨items.length, ρ0, [], Nat.zero_add _, Nat.zero_le _, (fun z hz => by cases hz), fun x y hx hy => ?_, ?_, q⟩, fun n m H2 hW => ?_⟩
  · rw [hno x hx] at hy
    exact (Option.some.inj hy).symm
  · have R2 := (R1.pinNew (o := .ext (RawT D [])) hD).wipe (js := js)
    rw [wipe_no hno] at R2
    exact R2
  obtain ⟨ρ1, acc, em, hl, hrv, hn, R2, q4⟩ := hW
  by_cases hlt : n < items.length
  · right
    have hd : items[n]? = some items[n] := List.getElem?_eq_getElem hlt
    rw [List.drop_eq_getElem_cons hlt] at q4
    obtain ⟨_, q4⟩ := q4
    obtain ⟨hgo, hy⟩ := (hw (F.mk1 D (.ext (RawT D (acc.map Ent.x)))) (L2.wipe σ js) H2 ρ1 (tmpV acc ++ vs) (tmpD acc ++ ds) n R2).1 _ hd
    refine ⟨hgo, fun H2 => ∃ (ρ1 : Rho) (acc : List Ent), (n + 1) + (m - 1) = items.length ∧ acc.length ≤ n + 1 ∧ (∀ z ∈ acc, RelV z.v z.u) ∧ (∀ x y, x ∈ js → ρ1[x]? = some y → y = .no) ∧ Rel K (F.mk1 D (.ext (RawT D (acc.map Ent.x)))) (L2.wipe σ js) H2 ρ1 (ws ++ (tmpV acc ++ vs)) (es ++ (tmpD acc ++ ds)) ∧
      dcW (fun _ => True) (dcF dg dk dv) js (items.drop (n + 1)) ρ1 (acc.map Ent.kv) fun r kvs => i < r.length ∧ ∀ (p : Addr) (zs' : List Ent), zs'.map Ent.kv = kvs → dn.nx (r.set i (.dt p zs')), fun H' h' => ⟨m - 1, by omega, h'⟩, fun x H' hx => ?_⟩
    have R3 := hy x H' hx
    refine sg.run _ _ _ ρ1 _ _ _ _ _ R3 (sg.mono _ _ _ _ (fun r1 q σ2 H3 R4 A => ?_) q4)
    have ew2 : L2.wipe σ2 js = L2.wipe σ js := by
      have e1 : L2.wipe σ2 js = L2.wipe (L2.wipe σ js) js := wipe_eq A.1 fun j hjn => A.2.1 j fun z => hjn (hj j z)
      rw [e1]
      exact wipe_eq (wipe_length ..) fun j hjn => wipe_out hjn
    refine ⟨ew2, sk.run _ σ2 H3 r1 _ _ _ R4 (sk.mono _ _ _ (fun r2 y q yv H4 R5 => ?_) q)⟩
    refine sv.run _ σ2 H4 r2 _ _ _ R5 (sv.mono _ _ _ (fun r3 x q xv H5 R6 => ?_) q)
    obtain ⟨ks, ey, q7⟩ := q
    subst ey
    obtain ⟨b, rfl, hb, hkeys⟩ : ∃ b, yv = .ref b ∧ SqT K H5 b (ks.map V.int) ∧ KeysIn K H5 (acc.map Ent.x) := by
      obtain ⟨Hi, own, R7⟩ := R6
      have t := R7.tmp
      cases t with
      | cons t1 t2 =>
        cases t2 with
        | cons t3 t4 =>
          have t4' := (dpAll_split ew t4).2
          cases t3 with
          | tup s gk =>
            have := ints_of (K := K) ks _ gk
            subst this
            refine ⟨_, rfl, sqT_mono R7.sub s, fun x hx => ?_⟩
            obtain ⟨z, hz, rfl⟩ := List.mem_map.mp hx
            have h1 := (tmp_of (dpAll_split (tmp_len acc) t4').1 z hz).1
            cases h1 with
            | tup s2 g2 =>
              have := ints_of (K := K) z.k _ g2
              subst this
              exact sqT_mono R7.sub s2
    refine ⟨acc.map Ent.x, b, ks, rfl, R6.pinAt, hkeys, hb, by rw [List.length_map]; omega, fun u ru => ?_⟩
    rw [← put_X acc ks b u xv x]
    have pl := putE_len acc ks b u xv x
    refine ⟨wipeR r3 js, putE acc ks b u xv x, by omega, by omega, fun z hz => ?_, fun x y hx hy => wipeR_in hx hy, ?_, ?_⟩
    · rcases putE_mem hz with h | ⟨_, _, h3, h4, _⟩
      · exact hrv z h
      · rw [h3, h4]; exact ru
    · have R8 := (R6.repin (o' := .ext (RawT D ((putE acc ks b u xv x).map Ent.x))) f0.1 f0.2).wipe (js := js)
      rw [ew2] at R8
      refine R8.swap fun Hi t => ?_
      cases t with
      | cons t1 t2 =>
        cases t2 with
        | cons t3 t4 =>
          obtain ⟨t7, t8⟩ := dpAll_split ew t4
          obtain ⟨t5, t6⟩ := dpAll_split (tmp_len acc) t8
          refine dpAll_app t7 (dpAll_app (tmp_mk fun z hz => ?_) t6)
          rcases putE_mem hz with h | ⟨h1, h2, _, h4, h5⟩
          · exact tmp_of t5 z h
          · rw [h4, h5]
            refine ⟨?_, t1⟩
            rcases h2 with h2 | ⟨z0, hz0, k0, h2⟩
            · rw [h1, h2]; exact t3
            · have := (tmp_of t5 z0 hz0).1
              rw [h1, h2, ← k0]
              exact this
    · rw [put_D]
      exact q7
  · left
    obtain ⟨_, hs⟩ := hw (F.mk1 D (.ext (RawT D (acc.map Ent.x)))) (L2.wipe σ js) H2 ρ1 (tmpV acc ++ vs) (tmpD acc ++ ds) n R2
    refine ⟨hs (by omega), ?_⟩
    rw [List.drop_eq_nil_iff.mpr (by omega)] at q4
    obtain ⟨_, hi1, q5⟩ := q4
    obtain ⟨u1, u2, u3⟩ := R2.unpin f0.1 f0.2
    have R9 : Rel K F σ (hide H2 D) ρ1 (tmpV acc ++ vs) (tmpD acc ++ ds) := (u3.dropN ew).resig (wipe_length ..).symm fun x y ex => by
      by_cases hjs : x ∈ js
      · exact .inl (hn x y hjs ex)
      · exact .inr (wipe_out hjs).symm
    have R11 := R9.keepNew2 (p := D) (i := i) (o := .ext (RawT D (acc.map Ent.x))) (x := .dt D acc) (ws := vs) (es := ds) u1 hi1 fun Hi s t => by
      obtain ⟨t5, t6⟩ := dpAll_split (tmp_len acc) t
      exact ⟨⟨rfl, rfl, upd_same, fun z hz => ⟨(tmp_of t5 z hz).1, hrv z hz, (tmp_of t5 z hz).2⟩⟩, t6⟩
    rw [← u2] at R11
    exact G.nx _ _ _ R11 (q5 D acc rfl)
end
end LD

/-! LD46: zip of a tuple and a list. -/
namespace LD
open PySem PySem.Spec L2
/-- the tuples at a and b, of n and m items, item by item in new pairs -/
def ItZTL (K : PySem.W.Frag) (a b : Addr) (n m : Nat) : It where
  go i H := ∃ xs ys x y, SqT K H a xs ∧ SqL K H b ys ∧ xs.length = n ∧ ys.length = m ∧ xs[i]? = some x ∧ ys[i]? = some y
  yld i H v H' := ∃ T x y, v = .ref T ∧ H T = none ∧ H' = upd H T (.tup [x, y]) ∧ (∀ xs, SqT K H a xs → xs[i]? = some x) ∧ ∀ ys, SqL K H b ys → ys[i]? = some y
  stop i H := ∃ xs ys, SqT K H a xs ∧ SqL K H b ys ∧ xs.length = n ∧ ys.length = m ∧ (n ≤ i ∨ m ≤ i)
theorem turn_zipTL {P : Program} {w : World} {K : PySem.W.Frag} {es : List Expr} {j : Nat} {tp : Pos} {a b z TI TO i1 i2 : Addr} {n m : Nat} (S : ZipSep2 z TI TO i1 i2 [i1, a] [i2, b]) :
    Turn P w K (.Tuple es j tp) (ItZTL K a b n m) [z, TI, TO, i1, i2] z fun i h => IsZip h z TI TO .none ∧ IsTupOf2 h TI (.ref i1) (.ref i2) ∧ (∃ x y, IsTupOf2 h TO x y) ∧ h.IsTupleIter i1 a i ∧ h.IsListIter i2 b i ∧ i ≤ n ∧ i ≤ m where
  mem := by simp
  obj i h st c hc := by
    obtain ⟨hz, hTI, ⟨x, y, hTO⟩, ⟨o1, e1, _, d1⟩, ⟨o2, e2, _, d2⟩, _⟩ := st
    rcases (by simpa using hc : c = z ∨ c = TI ∨ c = TO ∨ c = i1 ∨ c = i2) with q | q | q | q | q
    · exact q ▸ ⟨_, hz, fun v q => nomatch q⟩
    · exact q ▸ ⟨_, hTI, fun v q => nomatch q⟩
    · exact q ▸ ⟨_, hTO, fun v q => nomatch q⟩
    · exact q ▸ ⟨o1, e1, fun v q => by rw [d1] at q; cases q⟩
    · exact q ▸ ⟨o2, e2, fun v q => by rw [d2] at q; cases q⟩
  keep i h h' st k := by
    obtain ⟨hz, hTI, ⟨x, y, hTO⟩, h1, h2, l⟩ := st
    exact ⟨k z (by simp) _ hz, k TI (by simp) _ hTI, ⟨x, y, k TO (by simp) _ hTO⟩, h1.at fun o q => k i1 (by simp) o q, h2.at fun o q => k i2 (by simp) o q, l⟩
  item := by
    intro X hP hw hK hc i pins s σ H E I hf st hg
    subst hP hw hK
    obtain ⟨hz, hTI, ⟨x0, y0, hTO⟩, h1, h2, l1, l2⟩ := st
    obtain ⟨xs, ys, x, y, hqx, hqy, nx, ny, hx, hy⟩ := hg
    obtain ⟨its, rv, p, _⟩ := I.tuple hqx
    obtain ⟨its2, rv2, p2, _⟩ := I.list hqy
    have p' : s.heap.IsTuple a its.toArray := p
    have p2' : s.heap.IsList b its2.toArray := p2.isList
    obtain ⟨u, hu, ru⟩ := rv.get hx
    obtain ⟨u2, hu2, ru2⟩ := rv2.get hy
    have hzl : z < s.heap.objs.size := Heap.lt_size hz
    have hs1 : its.toArray.size = n := by rw [List.size_toArray, ← rv.length, nx]
    have hs2 : its2.toArray.size = m := by rw [List.size_toArray, ← rv2.length, ny]
    have li1 : i < its.toArray.size := by rw [List.size_toArray]; exact (List.getElem?_eq_some_iff.mp hu).1
    have li2 : i < its2.toArray.size := by rw [List.size_toArray]; exact (List.getElem?_eq_some_iff.mp hu2).1
    have ne1 : a ≠ i1 := fun e => by
      obtain ⟨o, q, c, _⟩ := p'
      obtain ⟨o2, q2, c2, _⟩ := h1
      rw [e] at q
      rw [q] at q2
      cases q2
      rw [c] at c2
      exact absurd (Value.type.inj c2) (by decide)
    have ne2 : b ≠ i2 := fun e => by
      obtain ⟨o, q, c, _⟩ := p2'
      obtain ⟨o2, q2, c2, _⟩ := h2
      rw [e] at q
      rw [q] at q2
      cases q2
      rw [c] at c2
      exact absurd (Value.type.inj c2) (by decide)
    refine wpAny_pyNext_zipD2_item S (Draws.tuple (A := X.A.in1) (I.ok.hd hc) i1 a ne1 its.toArray) (Draws.list (A := X.A.in1) (I.ok.hd hc) i2 b ne2 its2.toArray) hz hTI hTO ⟨h1, p'⟩ ⟨h2, p2'⟩ li1 li2 fun v1 v2 h' tk y1 y2 b1 b2 d1 d2 b5 b6 hk => ?_
    have e1 : v1 = u := by
      have q : its[i]? = some v1 := by simpa using y1
      rw [hu] at q
      exact (Option.some.inj q).symm
    have e2 : v2 = u2 := by
      have q : its2[i]? = some v2 := by simpa using y2
      rw [hu2] at q
      exact (Option.some.inj q).symm
    subst e1 e2
    refine ⟨_, rfl, wpAny_letOwnedTupleGo_zip (s := { s with heap := h', toks := tk }) b1 fun h2' z'' sb => ?_⟩
    have hT2 : h2'.get? s.heap.objs.size = some { cls := .type "tuple", data := .seq #[v1, v2] } := (sb.2 _ (Nat.ne_of_gt hzl)).trans b5
    have new : ObjOk X.prog X.w (upd H s.heap.objs.size (.tup [x, y])) h2' s.heap.objs.size (.tup [x, y]) :=
      ⟨by show 2 ≤ sizeLine; decide, [v1, v2], .cons ru (.cons ru2 .nil), ⟨_, hT2, rfl, _, rfl⟩⟩
    have I1 : Inv X pins σ (upd H s.heap.objs.size (.tup [x, y])) { s with heap := h2', toks := tk } :=
      I.turnedNew (t' := tk) (ch := [z, TI, TO, i1, i2]) (fun c o hb q => (sb.2 c fun w => hb (by simp [w])).trans (hk c o (fun w => hb (by simp [w])) (fun w => hb (by simp [w])) (fun w => hb (by simp [w])) (fun w => hb (by simp [w])) q)) hf (Nat.le_refl _) new
    refine ⟨.ref s.heap.objs.size, _, I1, rfl, ⟨_, x, y, rfl, I.hok.fresh (Nat.le_refl _), rfl, fun l hl => by rw [I.tuple_inj hl hqx]; exact hx, fun l hl => by rw [I.list_inj hl hqy]; exact hy⟩, ⟨z'', ?_, ⟨v1, v2, ?_⟩, ?_, ?_, by omega, by omega⟩, fun c hcm => ?_⟩
    · exact (sb.2 _ S.TIz).trans (hk _ _ S.TIz S.TITO S.TIi1 S.TIi2 hTI)
    · exact (sb.2 _ S.TOz).trans b2
    · exact d1.1.at fun o q => (sb.2 _ (Ne.symm S.zi1)).trans q
    · exact d2.1.at fun o q => (sb.2 _ (Ne.symm S.zi2)).trans q
    · have hlt : c < s.heap.objs.size := by
        rcases (by simpa using hcm : c = z ∨ c = TI ∨ c = TO ∨ c = i1 ∨ c = i2) with q | q | q | q | q
        · exact q ▸ hzl
        · exact q ▸ Heap.lt_size hTI
        · exact q ▸ Heap.lt_size hTO
        · obtain ⟨_, e, _⟩ := h1
          exact q ▸ Heap.lt_size e
        · obtain ⟨_, e, _⟩ := h2
          exact q ▸ Heap.lt_size e
      rw [upd_ne (Nat.ne_of_lt hlt)]
      exact (hf c hcm).1
  done := by
    intro X hP hw hK hc i pins s σ H E I hf st hg
    subst hP hw hK
    obtain ⟨hz, hTI, ⟨x0, y0, hTO⟩, h1, h2, l1, l2⟩ := st
    obtain ⟨xs, ys, hqx, hqy, nx, ny, hend⟩ := hg
    obtain ⟨its, rv, p, _⟩ := I.tuple hqx
    obtain ⟨its2, rv2, p2, _⟩ := I.list hqy
    have p' : s.heap.IsTuple a its.toArray := p
    have p2' : s.heap.IsList b its2.toArray := p2.isList
    have hs1 : its.toArray.size = n := by rw [List.size_toArray, ← rv.length, nx]
    have hs2 : its2.toArray.size = m := by rw [List.size_toArray, ← rv2.length, ny]
    have ne1 : a ≠ i1 := fun e => by
      obtain ⟨o, q, c, _⟩ := p'
      obtain ⟨o2, q2, c2, _⟩ := h1
      rw [e] at q
      rw [q] at q2
      cases q2
      rw [c] at c2
      exact absurd (Value.type.inj c2) (by decide)
    have ne2 : b ≠ i2 := fun e => by
      obtain ⟨o, q, c, _⟩ := p2'
      obtain ⟨o2, q2, c2, _⟩ := h2
      rw [e] at q
      rw [q] at q2
      cases q2
      rw [c] at c2
      exact absurd (Value.type.inj c2) (by decide)
    refine wpAny_pyNext_zipD2_end S (Draws.tuple (A := X.A.in1) (I.ok.hd hc) i1 a ne1 its.toArray) (Draws.list (A := X.A.in1) (I.ok.hd hc) i2 b ne2 its2.toArray) hz hTI hTO ⟨h1, p'⟩ ⟨h2, p2'⟩ (by omega) (by omega) (by omega) fun h' tk hk => ⟨rfl, I.turnedL (t' := tk) (ch := [z, TI, TO, i1, i2]) (fun c o hb q =>
      hk c o (fun w => hb (by simp [w])) (fun w => hb (by simp [w])) (fun w => hb (by simp [w])) (fun w => hb (by simp [w])) q) hf⟩
  self A i s Q E st h := wpAny_pyIter_zip st.1 h
def iZipTL (K : PySem.W.Frag) (ta : L2.TA) : TI := fun σ H R => ta σ H fun vs H1 => ∃ a b xs ys, vs = [.ref a, .ref b] ∧ SqT K H1 a xs ∧ SqL K H1 b ys ∧ R (ItZTL K a b xs.length ys.length) H1
theorem pi_zipTL {X : Cx} {e e2 : Expr} {ta : L2.TA} {p pos tp : Pos} {es : List Expr} {j : Nat} (hg : Gl X "zip") (hm : X.mg "zip" = none) (ha : PA X [e, e2] ta)
    (hs : starEach [e, e2] X.env = (false, eval e X.env) :: starEach [e2] X.env := by rfl) (hpl : (backTo pos (starEach [e2] X.env)).any (·.1) = false := by rfl) :
    PI X (.Tuple es j tp) (.Call (.Name "zip" p) [e, e2] [] pos) (iZipTL X.K ta) := by
  refine ⟨fun pins s σ H R I h => PyProof.Rows.Call_ (ld_blt I hg hm PyProof.Rows.boot_zip (PyProof.Rows.callWith_type1 (thn (ha.run pos pins s σ H _ I h) fun us s1 ⟨vs, H1, I1, r1, q1⟩ => ?_) hs hpl))⟩
  obtain ⟨a, b, xs, ys, ex, hqx, hqy, q⟩ := q1
  subst ex
  obtain ⟨u, u2, rfl, ru, ru2⟩ := vals2 r1
  obtain rfl : u = Value.ref a := ru
  obtain rfl : u2 = Value.ref b := ru2
  obtain ⟨its, rv, p1, _⟩ := I1.tuple hqx
  obtain ⟨its2, rv2, p2, _⟩ := I1.list hqy
  have p1' : s1.heap.IsTuple a its.toArray := p1
  have p2' : s1.heap.IsList b its2.toArray := p2.isList
  have la : a < s1.heap.objs.size := by
    obtain ⟨_, q, _⟩ := p1'
    exact Heap.lt_size q
  have lb : b < s1.heap.objs.size := by
    obtain ⟨_, q, _⟩ := p2'
    exact Heap.lt_size q
  refine zip_begins2 (begins_tuple a its.toArray) (begins_list b its2.toArray) p1' p2' fun h' hz hTI hTO g1 g2 hsz hk => wpAny_pyIter_zip hz ?_
  have I2 : Inv X pins σ H1 { s1 with heap := h' } := I1.kept (t' := s1.toks) hk
  have S := zip_sep2 (N := s1.heap.objs.size) (fp1 := [a]) (fp2 := [b]) (fun c hc => by
    obtain rfl : c = a := by simpa using hc
    exact la) (fun c hc => by
    obtain rfl : c = b := by simpa using hc
    exact lb)
  refine ⟨s1.heap.objs.size + 4, [s1.heap.objs.size + 4, s1.heap.objs.size + 2, s1.heap.objs.size + 3, s1.heap.objs.size, s1.heap.objs.size + 1], _, _, H1, rfl, I2, turn_zipTL S, ⟨hz, hTI, ⟨_, _, hTO⟩, ⟨_, g1, rfl, rfl⟩, ⟨_, g2, rfl, rfl⟩, Nat.zero_le _, Nat.zero_le _⟩, fun c hcm => ?_, q⟩
  have hle : s1.heap.objs.size ≤ c := by
    rcases (by simpa using hcm : c = s1.heap.objs.size + 4 ∨ c = s1.heap.objs.size + 2 ∨ c = s1.heap.objs.size + 3 ∨ c = s1.heap.objs.size ∨ c = s1.heap.objs.size + 1) with w | w | w | w | w
    · rw [w]; exact Nat.le_add_right _ _
    · rw [w]; exact Nat.le_add_right _ _
    · rw [w]; exact Nat.le_add_right _ _
    · rw [w]; exact Nat.le_refl _
    · rw [w]; exact Nat.le_add_right _ _
  exact I1.fpOk hle (I1.hok.fresh hle)
section
variable {K : PySem.W.Frag}
theorem walks_zipTL {p r : Addr} {es fs : List D} : Walks K (ItZTL K p r es.length fs.length) (zipD es fs) [.ref p, .ref r] [.tuple es, .list fs] := by
  intro F σ H ρ vs ds i R
  obtain ⟨p', xs, e, e2, s, R1⟩ := Rel.asTup (vs := .ref r :: vs) (ds := .list fs :: ds) R
  cases e
  have R' : Rel K F σ H ρ (.ref r :: vs) (.list fs :: ds) := Rel.drop R
  obtain ⟨r', ys, e', e2', s', R2⟩ := Rel.asList R'
  cases e'
  refine ⟨fun d hd => ?_, fun h => ⟨xs, ys, s, s', e2, e2', ?_⟩⟩
  · obtain ⟨x, y, hx, hy, rfl⟩ := zipD_at hd
    obtain ⟨v, e3, _⟩ := R1.pick e2 hx
    obtain ⟨u, e4, _⟩ := R2.pick e2' hy
    refine ⟨⟨xs, ys, v, u, s, s', e2, e2', e3, e4⟩, fun q H' hq => ?_⟩
    obtain ⟨T, v', u', rfl, hT, rfl, h1, h2⟩ := hq
    have := (h1 xs s).symm.trans e3
    cases this
    have := (h2 ys s').symm.trans e4
    cases this
    refine Rel.tup (xs := [v, u]) (es := [x, y]) ?_ rfl hT
    obtain ⟨Hi, own, R3⟩ := R
    have t := R3.tmp
    cases t with
    | cons t1 t2 =>
      cases t2 with
      | cons t3 t4 =>
        cases t1 with
        | tup s1 g1 =>
          cases t3 with
          | lst s2 g2 =>
            obtain ⟨w1, k1, d1⟩ := dpAll_at g1 hx
            obtain ⟨w2, k2, d2⟩ := dpAll_at g2 hy
            have z1 := (h1 _ (sqT_mono R3.sub s1)).symm.trans k1
            have z2 := (h2 _ (R3.sub.seq s2)).symm.trans k2
            cases z1
            cases z2
            exact ⟨Hi, own, R3.tmpTo (.cons d1 (.cons d2 (.cons (.tup s1 g1) (.cons (.lst s2 g2) t4))))⟩
  · unfold zipD at h
    rw [List.length_map, List.length_zip] at h
    omega
def iZTL (t : TDA) : TDI := fun ρ P => t ρ fun r es => ∃ fs gs, es = [.tuple fs, .list gs] ∧ P r (zipD fs gs)
theorem si_zipTL {ta : L2.TA} {t : TDA} (sa : SA K ta t) : SI K (iZipTL K ta) (iZTL t) := by
  refine ⟨fun ρ P P' h q => sa.mono _ _ _ (fun _ es ⟨fs, gs, e, q⟩ => ⟨fs, gs, e, h _ _ q⟩) q, fun F σ H ρ vs ds Q R q => ?_⟩
  refine sa.run F σ H ρ vs ds _ R (sa.mono _ _ _ (fun r es q xs H1 e R1 => ?_) q)
  obtain ⟨fs, gs, e1, q⟩ := q
  subst e1
  obtain ⟨x, xr, rfl, e2⟩ := len_cons e
  obtain ⟨y, yr, rfl, e3⟩ := len_cons e2
  obtain rfl := len_nil e3
  obtain ⟨p, ys, rfl, el, s, _⟩ := Rel.asTup R1
  obtain ⟨p2, zs, rfl, el2, s2, _⟩ := Rel.asList (Rel.drop R1)
  refine ⟨p, p2, ys, zs, rfl, s, s2, ?_⟩
  rw [el, el2]
  exact q _ _ [.ref p, .ref p2] [.tuple fs, .list gs] rfl walks_zipTL R1
end
end LD

/-! LD47: f(lambda: g(..)), f gives what it hears of an error; the law's table of code objects. -/
namespace LD
open PySem PySem.Spec L2 LamX PyProof.Rows
/-- the table at P: what it tells never changes -/
def TabI (Hi H : Hp) (T : Addr) (q : Str) : Prop := ∃ ps : Array Value, H T = some (.tbl ps) ∧ TriplesOk ps.toList ∧ ∀ (pos : Pos) (v : Value), codeAmong pos ps.toList = some v → ∃ c, v = .ref c ∧ Hi c = some (CodeO c q)
/-- a step that makes a lambda -/
structure LamTo (T : Addr) (q : Str) (Hi H Hi1 H1 : Hp) (c : Addr) : Prop where
  base : Same Hi Hi1
  sub : Same Hi1 H1
  new : Fresh Hi Hi1 H
  nT : Hi1 T = none
  off : ∀ b o, b ≠ T → H b = some o → H1 b = some o
  at_ : H1 T ≠ none
  tab : TabI Hi1 H1 T q
  code : Hi1 c = some (CodeO c q)
theorem LamTo.same {T : Addr} {q : Str} {Hi H : Hp} {c : Addr} (s : Same Hi H) (n : Hi T = none) (t : TabI Hi H T q) (k : Hi c = some (CodeO c q)) : LamTo T q Hi H Hi H c :=
  ⟨Same.refl _, s, fun _ h => .inl h, n, fun _ _ _ h => h, by obtain ⟨ps, h, _⟩ := t; rw [h]; simp, t, k⟩
theorem LamTo.grow {T : Addr} {q : Str} {Hi H : Hp} {c : Addr} {ps : Array Value} {pos : Pos} (s : Same Hi H) (n : Hi T = none) (hT : H T = some (.tbl ps)) (ht : TriplesOk ps.toList) (ha : ∀ (pos : Pos) (v : Value), codeAmong pos ps.toList = some v → ∃ c, v = .ref c ∧ Hi c = some (CodeO c q)) (hc : H c = none) :
    LamTo T q Hi H (upd Hi c (CodeO c q)) (upd (upd H T (.tbl (ps ++ #[rawInt pos.line, rawInt pos.col, .ref c]))) c (CodeO c q)) c := by
  have tc : T ≠ c := ne_of_none hT hc
  have hic : Hi c = none := by
    cases z : Hi c with
    | none => rfl
    | some o => rw [s _ _ z] at hc; cases hc
  have old : Same Hi (upd Hi c (CodeO c q)) := same_upd hic
  refine ⟨old, fun b o e => ?_, fun b hb => ?_, by rw [upd_ne tc]; exact n, fun b o nb e => by rw [upd_ne (ne_of_none e hc), upd_ne nb]; exact e, by rw [upd_ne tc, upd_same]; simp, ⟨_, by rw [upd_ne tc, upd_same], ?_, fun p v hv => ?_⟩, upd_same⟩
  · by_cases hb : b = c
    · subst hb
      rw [upd_same] at e ⊢
      exact e
    · rw [upd_ne hb] at e
      have nb : b ≠ T := fun z => by rw [z, n] at e; cases e
      rw [upd_ne hb, upd_ne nb]
      exact s _ _ e
  · by_cases hbc : b = c
    · right; rw [hbc]; exact hc
    · left; rwa [upd_ne hbc] at hb
  · rw [show (ps ++ #[rawInt pos.line, rawInt pos.col, Value.ref c]).toList = ps.toList ++ [rawInt pos.line, rawInt pos.col, Value.ref c] by simp]
    exact PySem.TriplesOk_snoc _ _ _ _ ht
  · rw [show (ps ++ #[rawInt pos.line, rawInt pos.col, Value.ref c]).toList = ps.toList ++ [rawInt pos.line, rawInt pos.col, Value.ref c] by simp] at hv
    rcases among_app _ ht hv with z | z
    · obtain ⟨d, e1, e2⟩ := ha p v z
      exact ⟨d, e1, old _ _ e2⟩
    · exact ⟨c, z, upd_same⟩
section
variable {X : Cx} {pins : List (Addr × Obj)} {σ : L2.St} {H : Hp} {s : Shared}
/-- a lambda is evaluated: only its maker's table may grow -/
theorem lam_new {c T : Addr} {pa : Arguments} {bd : Expr} {sc : Scope} {pos : Pos} {W : Value → Shared → Prop} {Q : Value → Shared → Prop} {Hi : Hp} (I : Inv X pins σ H s) (B : TabB X.base X.mg c T) (hcd : X.env.code = .ref c)
    (h1 : Same Hi H) (h2 : Hi T = none) (h3 : TabI Hi H T (X.env.qual ++ "<lambda>")) (hd : defaultsOf pa X.env = ([], [])) (hfree : ∀ y ∈ sc.names, y.2 = .free → ∃ c, X.env.cells.lookup y.1 = some c)
    (go : ∀ (f d : Addr) (pm ct : Value) (Hi1 H1 : Hp) (s1 : Shared), Inv X pins σ H1 s1 → LamTo T (X.env.qual ++ "<lambda>") Hi H Hi1 H1 d → f ∉ frs X.stack → H1 f = none →
      s1.heap.get? f = some (PySem.W.kla_obj "<lambda>" (X.env.qual ++ "<lambda>") pa bd sc (cloFrom X.env.cells sc.names []) pm d ct) → Q (.ref f) s1) :
    wpAny (model X.prog X.w) X.A (eval (.Lambda pa bd sc pos) X.env) Q W s := by
  have out : ∀ f, s.heap.objs.size ≤ f → f ∉ frs X.stack := fun f hf hm => by
    rcases List.mem_cons.mp (I.stkSub _ hm) with e | e
    · have lt := I.lt
      rw [← e] at lt
      exact absurd (Nat.lt_of_lt_of_le lt hf) (Nat.lt_irrefl _)
    · exact I.nofs hf e
  obtain ⟨ps, hT, ht, ha⟩ := h3
  have tH : s.heap.get? T = some { cls := .none, data := .fields ps } := I.hok T _ hT
  have bT := B.bm.keeps (h' := s.heap) I.bk
  have cT := B.code.keeps (h' := s.heap) I.bk
  have gN := I.mod.glob.keeps (h' := s.heap) I.bk
  refine PySem.W.kla_eval hd ?_
  rcases hc : codeAmong pos ps.toList with _ | v
  · refine PySem.W.kla_makeFunction (closure_ok hfree) I.ok.glob gN hcd cT tH ht hc B.gP bT fun d ct g tk ext hge hlt hrec htab => ?_
    obtain ⟨d', od, us, t, ed, hod, hus, hq⟩ := hrec
    cases ed
    have grown : s.heap.objs.size ≤ g.objs.size := by omega
    have dn : H d = none := I.hok.fresh hge
    have fT : T < s.heap.objs.size := Heap.lt_size tH
    refine go g.objs.size d _ ct _ _ _ (inv_table (t' := tk) (c := d) (P := T) (ps := ps) (q := X.env.qual ++ "<lambda>") (h' := g.push _) I hT (fun b o nb e => Heap.get?_push_of_some _ (ext b o nb e)) (Heap.get?_push_of_some _ htab) hge ⟨od, us, t, Heap.get?_push_of_some _ hod, hus, hq⟩)
      (LamTo.grow (pos := pos) h1 h2 hT ht ha dn) (out _ grown) ?_ (Heap.get?_push_size _ rfl)
    rw [upd_ne (Nat.ne_of_gt hlt), upd_ne (Nat.ne_of_gt (Nat.lt_of_lt_of_le fT grown))]
    exact I.hok.fresh grown
  · obtain ⟨d, rfl, hd'⟩ := ha pos v hc
    refine PySem.W.kla_makeFunctionHit (closure_ok hfree) I.ok.glob gN hcd cT tH ht hc bT fun ct g tk ext hsz => ?_
    exact go g.objs.size d _ ct Hi H _ (I.kept fun b o e => Heap.get?_push_of_some _ (ext b o e)) (LamTo.same h1 h2 ⟨ps, hT, ht, ha⟩ hd') (out _ hsz) (I.hok.fresh hsz) (Heap.get?_push_size _ rfl)
end
/-- a reading: f(lambda: ..) -/
def tLam1 (T : Addr) (q : Str) (TT : (XK → Hp → VK → Prop) → Hp → VK → Prop) (t : XK → TE) : TE := fun σ H Q => ∃ Hi, Same Hi H ∧ Hi T = none ∧ TabI Hi H T q ∧ ∀ Hi1 H1 d, LamTo T q Hi H Hi1 H1 d → TT (fun E H' Q' => t E σ H' Q') H1 Q
theorem pe_lam1 {X : Cx} {T c g : Addr} {q x a : Str} {TT : (XK → Hp → VK → Prop) → Hp → VK → Prop} {k : Nat} {st : Stmt} {gd : FuncData} {Ng : List Str} {pa : Arguments} {bd : Expr} {sc : Scope} {t : XK → TE} {p lp pos : Pos}
    (F : Fun X.K x x st g gd) (hm : X.mg x = some (.ref g)) (hg : Gl X x) (hb : Binds X.K gd [a] []) (S : FnScope Ng [a] (defScope st)) (hN : Ng[0]? = some a) (hv : Vis (defScope st) a) (hG : ∀ cdg, GivesTo X Ng x (defScope st) g cdg (defBody st) a q TT)
    (B : TabB X.base X.mg c T) (hcd : X.env.code = .ref c) (hq : q = X.env.qual ++ "<lambda>") (hr : Room (k + 2) X.A) (L : LamS X.env.scope sc) (hd : defaultsOf pa X.env = ([], []))
    (hbind : ∀ (q : Str) (cl : List (Str × Addr)) (pm cv ct : Value), bindArgs (PySem.W.kla_fn "<lambda>" q pa bd sc cl pm cv ct) ⟨[], []⟩ = pure [])
    (hbody : ∀ (A : Around) (outer : List Env) (s : Shared) (H : Hp) (E : XK) (f d : Addr), Room k (A.deeper (lamEnv X sc s.heap.objs.size f d)) → PE (lamCx X A outer s H E sc f d) bd (t E))
    (hdb : (x == ("__debug__" : Str)) = false := by decide) (hd1 : (a == ("__debug__" : Str)) = false := by decide) (hd2 : (a == ("__classdict__" : Str)) = false := by decide) :
    PE X (.Call (.Name x p) [.Lambda pa bd sc lp] [] pos) (tLam1 T q TT t) := by
  subst hq
  obtain ⟨oc, od, kV, doc, pm0, an, cdv, ct0, osl, rfl, lk, hco⟩ := F.ex
  refine ⟨fun pins s σ H Q I ⟨Hi, h1, h2, h3, h4⟩ => wpAny_Call_Name_kw (ld_glob I hg hm ?_ hdb)⟩
  refine PySem.W.callWith_K (h₀ := X.base) I.ok.mod.kin F.kp ?_ (by rfl) (by rfl)
  refine Calls.spliced_cons (lam_new I B hcd h1 h2 h3 hd (L.has I.ok) fun f d pm ct Hi1 H1 s1 I1 l1 nf fn hf => Calls.spliced_nil ⟨I1.kIn, ?_⟩)
  have hcode : H1 d = some (CodeO d (X.env.qual ++ "<lambda>")) := l1.sub _ _ l1.code
  refine wpAny_call (codeAny_mono (run_ofS (CX := C8.CX0) (E := C8.E0) (Q := Q) (H := H1) (N := Ng) (ps := [a]) (us := [.ref f]) (vs := [.ref f]) lk hco S hr I1.env0 (hb s1 [.ref f] I1.kIn rfl) (.cons rfl .nil) rfl fun hr2 => ?_) fun r s2 hq => ?_)
  · obtain ⟨u, hu, hu2⟩ := hG cdv f d s1 H1 Q (fun E H' Q' => t E σ H' Q') (fun W pn xe E p1 p2 tk hW => pe_act (i := 0) I1 L hf fn nf (hbind _ _ _ _ _) tk hW hr2 (fun A outer s H hr3 => hbody A outer s H E f d hr3) hN hv hd1 hd2) hcode (h4 Hi1 H1 d l1)
    exact ⟨u, hu.nox, hu2⟩
  · rcases r with e | fl
    · exact (show False from hq).elim
    · cases fl with
      | ret u => exact I1.after hq
      | next | brk | cont => exact False.elim hq
end LD

/-! LD48: what a lambda's error tells; the law's entry with its table. -/
namespace LD
open PySem PySem.Spec L2 LamX PyProof.Rows
theorem takes_len {X : Cx} {W : WX} (tk : Takes X W) : Takes X (fun cls d σ H => σ.length = X.N.length → W cls d σ H) := fun u s' ⟨a, B, sI, pins, σ, H, cls, d, e, I, nb, up, sky, na, os, ag, w⟩ =>
  tk u s' ⟨a, B, sI, pins, σ, H, cls, d, e, I, nb, up, sky, na, os, ag, w I.len⟩
/-- try: return a() / except e as n: return [n.at] -/
def TTref (K : PySem.W.Frag) (C : Addr) : (XK → Hp → VK → Prop) → Hp → VK → Prop := fun tl H Q =>
  tl (fun cls d H' => cls = .ref C ∧ ∃ dx v, d = some dx ∧ H' dx = some (.xd [("at", v)]) ∧ ∀ p, H' p = none → Q (.ref p) (upd H' p (.lst [v]))) H Q
theorem ref_gives {X : Cx} {x a n e q : Str} {sg : Scope} {g C : Addr} {cdg : Value} {p1 p2 p3 p4 p5 p6 p7 p8 p9 p10 : Pos} (T : XfC X.K C) (hat : PySem.W.findIn X.K (.ref C) "at" = some none) (hx : PySem.W.exmOne X.K (.ref C) (.ref C) = some true)
    (hme : X.mg e = some (.ref C)) (hge : sg.names.lookup e = some .globalImplicit) (hde : (e == ("__debug__" : Str)) = false) (nd : [a, n].Nodup) (hl : sg.names.lookup n = some .local) (hd1 : (n == ("__debug__" : Str)) = false) (hd2 : (n == ("__classdict__" : Str)) = false) :
    GivesTo X [a, n] x sg g cdg [.Try [.Return (some (.Call (.Name a p1) [] [] p2)) p3] [.ExceptHandler (some (.Name e p4)) (some n) [.Return (some (.List [.Attribute (.Name n p5) "at" p6] p7)) p8] p9] [] [] p10] a q (TTref X.K C) := by
  intro f d s H Q tl act hc h
  refine ⟨_, pss_one (ps_try_as (X := (cxOf C8.CX0 X.prog X.w X.K X.mg X.base [a, n] x sg g cdg X.A X.stack s H C8.E0).nox) (c := .ref C) (i := 1)
      (tb := fun W D σ H => ∃ Y : XK, (∀ cls d σ' H', Y cls d H' → σ'.length = [a, n].length → W cls d σ' H') ∧ σ[0]? = some (some (.ref f)) ∧ H d = some (CodeO d q) ∧ tl Y H D.rt)
      rfl rfl nd rfl hl ⟨hge, hde, .inl hme⟩ L2.takes0 (fun W pn xe tk _ => ?_) (fun b oe cls d pn hz hf => pss_one (ps_ret (pe_lst (pa_cons (pe_xf T hat hz hf (pe_var (i := 1) rfl (.inl hl) hd1 hd2)) pa_nil))))), ?_⟩
  · refine ⟨fun pins s' σ H' D I ⟨Y, hW, h1, h2, h3⟩ => ?_⟩
    exact (pss_one (ps_ret (pos := p3) (act _ pn xe Y p1 p2 (takes_len tk) hW))).run pins s' σ H' D I ⟨h1, h2, h3⟩
  · refine ⟨_, fun cls d' σ' H' hY hlen => ?_, rfl, hc, h⟩
    obtain ⟨rfl, dx, v, rfl, e1, e2⟩ := hY
    refine ⟨true, hx, fun _ b hb => ?_, fun z => by cases z⟩
    have e3 : (σ'.set 1 (some (.ref b)))[1]? = some (some (V.ref b)) := List.getElem?_set_self (by rw [hlen]; exact Nat.lt_succ_self 1)
    exact ⟨.ref b, e3, rfl, rfl, dx, _, v, rfl, e1, rfl, (by show 1 ≤ sizeLine; decide), e2⟩
/-! ### readings that end in a value or in an error -/
abbrev TDY := Rho → (Rho → D → Prop) → (Rho → Addr → D → Prop) → Prop
structure SY (K : PySem.W.Frag) (te : XK → TE) (u : TDY) : Prop where
  mono : ∀ ρ P P' E E', (∀ r d, P r d → P' r d) → (∀ r C x, E r C x → E' r C x) → u ρ P E → u ρ P' E'
  run : ∀ F σ H ρ vs ds (Q : VK) (E : XK), Rel K F σ H ρ vs ds → u ρ (fun r d => ∀ v H', Rel K F σ H' r (v :: vs) (d :: ds) → Q v H') (fun r C x => ∀ v p H', Rel K F σ H' r (v :: vs) (x :: ds) → H' p = none → E (.ref C) (some p) (upd H' p (.xd [("at", v)]))) → te E σ H Q
def dCallY (g : CR) (t : TDA) : TDY := fun ρ P E => t ρ fun r es => g es (fun d => P r d) (fun C x => E r C x)
theorem sy_call {K : PySem.W.Frag} {g : CR} {ta : L2.TA} {t : TDA} (hg : ∀ es P P' E E', (∀ d, P d → P' d) → (∀ C x, E C x → E' C x) → g es P E → g es P' E') (s : SA K ta t) : SY K (fun E => tCallSD (spR K g) [] (fun _ cls d H => E cls d H) ta) (dCallY g t) := by
  refine ⟨fun ρ P P' E E' h h' q => s.mono _ _ _ (fun r es q => hg _ _ _ _ _ (fun d q => h _ _ q) (fun C x q => h' _ _ _ q) q) q, fun F σ H ρ vs ds Q E R q => s.run F σ H ρ vs ds _ R (s.mono _ _ _ (fun r es q xs H1 e R1 => ?_) q)⟩
  show spR K g (xs ++ []) H1 Q (fun cls d H => E cls d H)
  rw [List.append_nil]
  obtain ⟨Hi, own, R2⟩ := R1
  obtain ⟨t1, t2⟩ := dpAll_split e R2.tmp
  refine ⟨Hi, es, R2.sub, t1, hg _ _ _ _ _ (fun d q v H' Hi' h1 h2 h3 h4 h5 => ?_) (fun C x q v p H' Hi' h1 h2 h3 h4 h5 h6 => ?_) q⟩
  · exact q v H' ⟨Hi', own, R2.after h1 h2 h3 h4 (.cons h5 (dpAll_mono h1 _ _ t2))⟩
  · exact q v p H' ⟨Hi', own, R2.after h1 h2 h3 h4 (.cons h5 (dpAll_mono h1 _ _ t2))⟩ h6
def tabφ (T : Addr) (q : Str) : PySem.W.Frag → Hp → Hp → Prop := fun _ Hi H => TabI Hi H T q
abbrev DV.tab (T : Addr) (q : Str) : DV := .ob T [T] (tabφ T q)
theorem tabI_mono {Hi H Hi' H' : Hp} {T : Addr} {q : Str} (t : TabI Hi H T q) (s : Same Hi Hi') (k : ∀ b ∈ [T], ∀ o, H b = some o → H' b = some o) : TabI Hi' H' T q := by
  obtain ⟨ps, h1, h2, h3⟩ := t
  refine ⟨ps, k T (List.mem_singleton.mpr rfl) _ h1, h2, fun pos v h => ?_⟩
  obtain ⟨c, e1, e2⟩ := h3 pos v h
  exact ⟨c, e1, s _ _ e2⟩
/-- behind the making of a lambda -/
theorem RelI.lam {K : PySem.W.Frag} {F : Fx} {σ : L2.St} {H Hi Hi1 H1 : Hp} {ρ : Rho} {vs : List V} {ds : List D} {own : Nat → List Addr} {i : Nat} {T d : Addr} {q : Str} (R : RelI K F σ H ρ vs ds Hi own) (hi : ρ[i]? = some (.tab T q)) (l : LamTo T q Hi H Hi1 H1 d) : RelI K F σ H1 ρ vs ds Hi1 own := by
  obtain ⟨e1, eo, _⟩ := R.slot i _ hi
  have iT : T ∈ own i := by rw [eo]; exact List.mem_singleton.mpr rfl
  have dom : ∀ b, H b ≠ none → H1 b ≠ none := fun b hb => by
    by_cases z : b = T
    · rw [z]; exact l.at_
    · cases q : H b with
      | none => exact absurd q hb
      | some o => rw [l.off b o z q]; simp
  refine ⟨R.base.trans l.base, l.sub, fun b hb => ?_, fun b o e hn => ?_, fun b e => dom b (R.dom b e), R.len, fun j x e => ?_, fun j a ha => ?_, fun j a ha => dom a (R.held j a ha), R.nown, R.sep, R.nls, fun z hz => ?_, dpAll_mono l.base _ _ R.tmp⟩
  · rcases l.new b hb with z | z
    · exact R.new b z
    · exact .inr (R.no0 z)
  · refine l.off b o (fun z => ?_) (R.keep b o e hn)
    rcases R.nown i T iT with w | w
    · rw [z, w] at e; cases e
    · exact hn (by rw [z]; exact w)
  · by_cases hj : j = i
    · rw [hj] at e ⊢
      rw [hi] at e
      cases e
      exact ⟨e1, eo, fun Hi' H' s k => tabI_mono l.tab s k⟩
    · exact (R.slot j x e).grow l.base fun a ha o w => l.off a o (fun z => R.sep j i hj a ha (by rw [z]; exact iT)) w
  · by_cases z : a = T
    · rw [z]; exact l.nT
    · cases w : Hi1 a with
      | none => rfl
      | some o =>
        rcases l.new a (by rw [w]; simp) with y | y
        · exact absurd (R.free j a ha) y
        · exact absurd y (R.held j a ha)
  · obtain ⟨z1, z2, z3⟩ := R.pin z hz
    refine ⟨l.off _ _ (fun y => z3 i (by rw [y]; exact iT)) z1, ?_, z3⟩
    cases w : Hi1 z.1 with
    | none => rfl
    | some o =>
      rcases l.new z.1 (by rw [w]; simp) with y | y
      · exact absurd z2 y
      · rw [z1] at y; cases y
/-- f(lambda: ..): what it tells, or [what the error keeps] -/
def dLam (i : Nat) (T : Addr) (q : Str) (C : Addr) (u : TDY) : TD := fun ρ P => ρ[i]? = some (.tab T q) ∧ u ρ P (fun r C' x => C' = C ∧ P r (.list [x]))
theorem se_lam {K : PySem.W.Frag} {T C : Addr} {q : Str} {t : XK → TE} {u : TDY} (i : Nat) (s : SY K t u) : SE K (tLam1 T q (TTref K C) t) (dLam i T q C u) := by
  refine ⟨fun ρ P P' h ⟨e, w⟩ => ⟨e, s.mono _ _ _ _ _ h (fun r C' x w => ⟨w.1, h _ _ w.2⟩) w⟩, fun F σ H ρ vs ds Q R ⟨e, w⟩ => ?_⟩
  obtain ⟨Hi, own, R⟩ := R
  obtain ⟨_, eo, hφ⟩ := R.slot i _ e
  refine ⟨Hi, R.sub, R.free i T (by rw [eo]; exact List.mem_singleton.mpr rfl), hφ Hi H (Same.refl _) (fun _ _ _ h => h), fun Hi1 H1 d l => ?_⟩
  refine s.run F σ H1 ρ vs ds Q _ ⟨Hi1, own, R.lam e l⟩ (s.mono _ _ _ _ _ (fun _ _ h => h) (fun r C' x w2 v p H' R' hp => ?_) w)
  obtain ⟨rfl, w2⟩ := w2
  refine ⟨rfl, p, v, rfl, upd_same, fun p2 hp2 => w2 _ _ ?_⟩
  exact Rel.lst (xs := [v]) (es := [x]) (Rel.junk R' hp) rfl hp2
/-! ### a slot that the program doesn't see -/
theorem inv_ghost {X : Cx} {pins : List (Addr × Obj)} {σ : L2.St} {H : Hp} {s : Shared} {i : Nat} {x : Str} {v : Option V} (I : Inv X pins σ H s) (hN : X.N[i]? = some x) (hv : ¬ Vis X.env.scope x) : Inv X pins (σ.set i v) H s := by
  obtain ⟨m, hm, hl⟩ := I.loc
  refine { I with loc := ⟨m, hm, fun j y w e1 e2 e3 => ?_⟩, len := by rw [List.length_set]; exact I.len }
  have ne : i ≠ j := fun z => by
    subst z
    rw [hN] at e1
    cases e1
    exact hv e3
  rw [List.getElem?_set_ne ne] at e2
  exact hl j y w e1 e2 e3
theorem pss_ghost {X : Cx} {body : List Stmt} {ts : TS} {i : Nat} {x : Str} {v : Option V} (hN : X.N[i]? = some x) (hv : ¬ Vis X.env.scope x) (h : PSs X body ts) : PSs X body (fun E σ H => ts E (σ.set i v) H) :=
  ⟨fun pins s σ H E I q => h.run pins s (σ.set i v) H E (inv_ghost I hN hv) q⟩
/-! ### the law's own entry -/
/-- the law: the script at hand, the table at T empty -/
def spL (K : PySem.W.Frag) (T : Addr) (n : Nat) : Sp := fun vs H Q _ => ∃ (a : Addr) (ns : List Int), vs = [.ref a] ∧ ns.length ≤ n ∧ SqL K H a (ns.map V.int) ∧ H T = some (.tbl #[]) ∧ ∀ H', Q (.bl true) H'
theorem ok_L {P : Program} {w : World} {K : PySem.W.Frag} {mg : Str → Option Value} {base : Heap} {x : Str} {st : Stmt} {f c T : Addr} {N : List Str} {k n : Nat} {q g : Str} {oc : Value} {od an : Option Addr} {osl : Array (Option Value)} {kV doc pm ct : Value}
    (lk : K.lookup f = some ⟨oc, od, .func (PySem.W.fnOf x x (defArgs st) (defBody st) (defScope st) .none kV doc pm an (.ref c) ct), osl⟩) (hcd : PySem.W.codeIn K (.ref c) x = true) {pn : Str} (S : FnScope (N ++ [g]) [pn] (defScope st)) (hv : ¬ Vis (defScope st) g) (hN : 0 < N.length)
    (hbody : ∀ (A : Around) (outer : List Env) (s : Shared) (H : Hp) (E : XK), (A.deeper (envOfC x (defScope st) s.heap.objs.size f (.ref c))).guards = some [] → Room k (A.deeper (envOfC x (defScope st) s.heap.objs.size f (.ref c))) →
      ∃ ts t, PSs (cxOf CX0 P w K mg base (N ++ [g]) x (defScope st) f (.ref c) A outer s H E).nox (defBody st) ts ∧ SS K ts t ∧ ∀ ns : List Int, ns.length ≤ n → t { nx := fun _ => False, rt := fun _ d => d = .bool true } (.sh (.list (ns.map PyData.int)) :: (List.replicate (N.length - 1) .no ++ [.tab T q]))) :
    FnQ P w K mg base CX0 (k + 1) f (PySem.W.fnOf x x (defArgs st) (defBody st) (defScope st) .none kV doc pm an (.ref c) ct) [pn] (spL K T n) := by
  refine ⟨fun vs H Q E h => by obtain ⟨a, ns, rfl, _⟩ := h; rfl, fun {A outer s H args us vs Q E} hg hr e0 hb r hsp => ?_⟩
  obtain ⟨a, ns, rfl, hn, hS, hT, hQ⟩ := hsp
  have old : ∀ b o, base.get? b = some o → s.heap.get? b = some o := fun b o e => (e0.bs b o e).1
  have KX := e0.mod.kin.keeps old
  refine codeAny_call_function hr.depth (KX _ _ lk) rfl S.co S.gen rfl (PySem.W.codeRec_of KX hcd) (hb _ _ _ _ ?_)
  refine wpAny_newFunctionEnv_cells S.kind (fun y hy => ?_) fun env he s1 x1 => ?_
  · have hm : y.1 ∈ [pn] := by
      obtain ⟨n, v⟩ := y
      exact (List.of_mem_zip hy).1
    rcases S.par _ hm with q | q
    · exact .inl q
    · exact .inr ⟨q, PySem.W.cellsFrom_some _ _ _ (.inl q)⟩
  subst he
  refine ⟨(e0.mod.nolimit.keeps old).keeps x1.toInCall.keep, codeAny_func ?_⟩
  obtain ⟨ts, t, h1, h2, h3⟩ := hbody A outer s H E hg (hr.deeper _)
  have I := inv_start (CX := CX0) (E := E) S hr.hd e0 (vs := [.ref a]) rfl r x1
  have hNg : (N ++ [g])[N.length]? = some g := by simp
  have key : ts { nx := fun _ H' => Q .non H', rt := Q } ((start (N ++ [g]) [.ref a]).set N.length (some (.ref T))) H := by
    let Hi : Hp := fun b => if b = T then none else H b
    have hi : Same Hi H := fun b o e => by
      by_cases z : b = T
      · have : (none : Option HO) = some o := by rw [← e]; exact (if_pos z).symm
        cases this
      · rw [← e]; exact (if_neg z).symm
    have hiT : Hi T = none := if_pos rfl
    have sq : SqL K Hi a (ns.map V.int) := by
      rcases hS with (h | ⟨o, h⟩) | h
      · refine .inl (.inl ?_)
        rw [← h]; exact if_neg (by rintro rfl; rw [hT] at h; cases h)
      · refine .inl (.inr ⟨o, ?_⟩)
        rw [← h]; exact if_neg (by rintro rfl; rw [hT] at h; cases h)
      · exact .inr h
    have hL : (start (N ++ [g]) [V.ref a]).length = N.length + 1 := by
      unfold L2.start
      simp only [List.length_append, List.length_map, List.length_cons, List.length_nil, List.length_replicate]
      omega
    refine h2.run ⟨Hi, H, [T], []⟩ _ H (.sh (.list (ns.map PyData.int)) :: (List.replicate (N.length - 1) .no ++ [.tab T q])) [] [] _ { nx := fun _ => False, rt := fun _ d => d = .bool true } ⟨fun _ _ _ _ z => z.elim, fun σ' H' ρ' v d R e => ?_, fun _ _ _ _ z => z.elim, fun _ _ _ _ z => z.elim, fun _ _ _ _ _ _ _ _ _ _ _ _ z => z.elim, fun _ _ _ _ _ _ _ z => z.elim, fun _ _ _ _ _ _ _ _ _ z => z.elim⟩ ⟨Hi, fun j => if j = N.length then [T] else [], ?_⟩ (h3 ns hn)
    · subst e
      have tm := R.dpAll
      cases tm with
      | cons a1 _ => cases a1; exact hQ H'
    · refine ⟨Same.refl _, hi, fun b hb => .inl hb, fun b o e _ => e, fun b e => e, ?_, fun j y e => ?_, fun j b hb => ?_, fun j b hb => ?_, fun j b hb => ?_, fun j l hjl b hb hk => ?_, fun j es e b hb => ?_, fun z hz => (by cases hz), .nil⟩
      · rw [List.length_set, hL]
        simp only [List.length_append, List.length_cons, List.length_nil, List.length_replicate]
        omega
      · by_cases hj : j = N.length
        · have ey : y = .tab T q := by
            rw [hj] at e
            have : (DV.sh (.list (ns.map PyData.int)) :: (List.replicate (N.length - 1) DV.no ++ [DV.tab T q]))[N.length]? = some (DV.tab T q) := by
              obtain ⟨m, hm⟩ : ∃ m, N.length = m + 1 := ⟨N.length - 1, by omega⟩
              rw [hm]
              show (List.replicate (m + 1 - 1) DV.no ++ [DV.tab T q])[m]? = _
              rw [Nat.add_sub_cancel, List.getElem?_append_right (by simp)]
              simp
            rw [this] at e
            exact (Option.some.inj e).symm
          rw [ey, hj, List.getElem?_set_self (by rw [hL]; omega), if_pos rfl]
          refine ⟨rfl, rfl, fun Hi' H' _ k => ⟨#[], k T (List.mem_singleton.mpr rfl) _ hT, True.intro, fun pos v h => ?_⟩⟩
          have h' : codeAmong pos [] = some v := h
          simp [codeAmong] at h'
        · rw [List.getElem?_set_ne (Ne.symm hj)]
          cases j with
          | zero =>
            cases e
            exact ⟨.ref a, rfl, .lst sq (dpAll_ints ns)⟩
          | succ j =>
            have e' : (List.replicate (N.length - 1) DV.no ++ [DV.tab T q])[j]? = some y := e
            by_cases hjl : j < N.length - 1
            · rw [List.getElem?_append_left (by simpa using hjl)] at e'
              have : y = .no := (List.mem_replicate.mp (List.mem_of_getElem? e')).2
              rw [this]; trivial
            · have hb : j < N.length - 1 + 1 := by
                have := (List.getElem?_eq_some_iff.mp e').1
                simpa using this
              omega
      all_goals try (by_cases hj : j = N.length)
      · rw [if_pos hj] at hb
        obtain rfl : b = T := by simpa using hb
        exact hiT
      · rw [if_neg hj] at hb; cases hb
      · rw [if_pos hj] at hb
        obtain rfl : b = T := by simpa using hb
        rw [hT]; simp
      · rw [if_neg hj] at hb; cases hb
      · rw [if_pos hj] at hb; exact .inr hb
      · rw [if_neg hj] at hb; cases hb
      · rw [if_neg (fun z => hjl (hj.trans z.symm))] at hk; cases hk
      · rw [if_neg hj] at hb; cases hb
      · rw [hj] at e
        have : (DV.sh (.list (ns.map PyData.int)) :: (List.replicate (N.length - 1) DV.no ++ [DV.tab T q]))[N.length]? = some (DV.tab T q) := by
          obtain ⟨m, hm⟩ : ∃ m, N.length = m + 1 := ⟨N.length - 1, by omega⟩
          rw [hm]
          show (List.replicate (m + 1 - 1) DV.no ++ [DV.tab T q])[m]? = _
          rw [Nat.add_sub_cancel, List.getElem?_append_right (by simp)]
          simp
        rw [this] at e
        cases e
      · rw [if_neg hj] at hb; cases hb
  refine wpAny_mono ((pss_ghost hNg hv h1).nox.run [] s1 (start (N ++ [g]) [.ref a]) H _ I key) (fun fl s' hs => ?_) fun e s' hs => hs
  cases fl with
  | ret u =>
    obtain ⟨v, σ', H', J, rv, q⟩ := hs
    exact ⟨v, H', J.os, J.bare, J.base, J.hok, rv, q⟩
  | next =>
    obtain ⟨σ', H', J, q⟩ := hs
    exact ⟨.non, H', J.os, J.bare, J.base, J.hok, rfl, q⟩
  | brk | cont =>
    obtain ⟨_, _, _, q⟩ := hs
    exact q.elim
end LD

/-! LD49: the law's call, its table of code objects empty at first. -/
namespace LD
open PySem PySem.Spec L2 LamX PyProof.Rows
theorem lawQT {P : Program} {w : World} {K : PySem.W.Frag} {mg mb : Str → Option Value} {k n : Nat} {fa a c T : Addr} {fd : FuncData} {x : Str} {s : Shared} {vs : List Value} {ns : List Int}
    (KX : K.In s.heap) (hns : s.heap.Ns mainGlobals mg) (hb : s.heap.Ns builtinsNs mb) (hbb : ∀ x : Str, x ≠ "__name__" → mb x = bootBuiltins x) (hlim : s.heap.NoLimit) (hg : s.gens = #[])
    (hT : s.heap.get? T = some { cls := .none, data := .fields #[] }) (nT : K.lookup T = none) (hC : PySem.W.CodeHd s.heap c T)
    (hbm : ∃ (bm : Addr) (ob : Obj), mg "__builtins__" = some (.ref bm) ∧ bm ≠ builtinsNs ∧ s.heap.get? bm = some ob ∧ ob.cls = .type "module" ∧ ob.dict = some builtinsNs ∧ ob.data = .plain)
    (ha : s.heap.get? a = some { cls := .type "list", data := .seq vs.toArray }) (hi : IntsAre vs ns) (hl : ns.length ≤ sizeLine) (hln : ns.length ≤ n) (hr : Room k callerA)
    (F : ∀ base : Heap, K.In base → base.Ns mainGlobals mg → TabB base mg c T → FnQ P w K mg base CX0 k fa fd [x] (spL K T n)) (hbind : ∀ (s : Shared) (u : Value), BindsTo s fd ⟨[u], []⟩ [(x, u)]) :
    codeAny (model P w) callerA (.call (.ref fa) ⟨[.ref a], []⟩) (fun r s' => r = .ok (.ret (.bool true)) ∧ OldK s.heap s'.heap ∧ s'.os = s.os ∧ AllBare s'.gens) s := by
  have rv := vals_ints hi
  have lenV := hi.length
  have Ta : T ≠ a := by
    rintro rfl
    rw [ha] at hT
    have : Data.seq vs.toArray _ = Data.fields #[] := congrArg Obj.data (Option.some.inj hT)
    cases this
  have run : ∀ H : Hp, H T = some (.tbl #[]) → (∀ b, b ≠ T → H b = none ∨ ∃ o xs, H b = some (.frz o (.lst xs))) → SqL K H a (ns.map V.int) → HOk P w H s.heap → (∀ b, b ≠ a → b ≠ T → H b = none) → (H a = none ∨ K.lookup a = none) →
      codeAny (model P w) callerA (.call (.ref fa) ⟨[.ref a], []⟩) (fun r s' => r = .ok (.ret (.bool true)) ∧ OldK s.heap s'.heap ∧ s'.os = s.os ∧ AllBare s'.gens) s := by
    intro H hHT hO hS hok hA hK
    have clear : ∀ {b : Addr} {o : Obj}, s.heap.get? b = some o → (∀ xs m, o.data ≠ .seq xs m) → o.data ≠ .fields #[] → H b = none := fun {b o} e d1 d2 => by
      by_cases z : b = a
      · subst z
        rw [ha] at e
        cases e
        exact absurd rfl (d1 _ _)
      · by_cases y : b = T
        · subst y
          rw [hT] at e
          cases e
          exact absurd rfl d2
        · exact hA b z y
    have ns2 : ∀ {b : Addr} {m : Str → Option Value}, s.heap.Ns b m → (hidT s.heap H).Ns b m := fun ⟨o, es, ep, e, d, r⟩ => ⟨o, es, ep, hidT_get e (clear e (fun _ _ z => by rw [d] at z; cases z) (fun z => by rw [d] at z; cases z)), d, r⟩
    have kin2 : K.In (hidT s.heap H) := fun b o e => hidT_get (KX b o e) (by
      by_cases z : b = a
      · rcases hK with q | q
        · rw [z]; exact q
        · rw [z, q] at e; cases e
      · by_cases y : b = T
        · rw [y, nT] at e; cases e
        · exact hA b z y)
    have B : TabB (hidT s.heap H) mg c T := by
      refine ⟨?_, ?_, fun z => ?_⟩
      · obtain ⟨o, us, fi, tf, fl, tg, inF, tx, tt, e1, r1, r2, r3⟩ := hC
        exact ⟨o, us, fi, tf, fl, tg, inF, tx, tt, hidT_get e1 (clear e1 (fun _ _ z => by rw [r2] at z; cases z) (fun z => by rw [r2] at z; cases z; simp at r3)), r1, r2, r3⟩
      · obtain ⟨bm, ob, b1, b2, b3, b4, b5, b6⟩ := hbm
        refine ⟨bm, ob, b1, b2, ?_, ?_, hidT_get b3 (clear b3 (fun _ _ z => by rw [b6] at z; cases z) (fun z => by rw [b6] at z; cases z)), b4, b5, b6⟩
        · rintro rfl
          obtain ⟨o, es, ep, e, d, _⟩ := hns
          rw [e] at b3; cases b3
          rw [d] at b6; cases b6
        · rintro rfl
          rw [hT] at b3; cases b3
          cases b6
      · obtain ⟨o, es, ep, e, d, _⟩ := hns
        rw [z, hT] at e; cases e
        cases d
    obtain ⟨mc, c1, c2⟩ := hlim
    have e0 : Env0 P w K mg (hidT s.heap H) callerA [] s H := ⟨rfl, ⟨kin2, ns2 hns, ⟨mb, ns2 hb, hbb⟩, ⟨mc, ns2 c1, c2⟩⟩, fun b o e => of_hidT e, Nat.le_of_eq (hidT_size _ _), trivial, fun b hb => (by cases hb), hok, .of_eq hg⟩
    refine codeAny_mono ((F _ kin2 (ns2 hns) B).run (us := [.ref a]) (vs := [V.ref a]) (Q := fun v _ => v = .bl true) (E := fun _ _ _ => False) rfl hr e0 (hbind s (.ref a)) (.cons rfl .nil) ⟨a, ns, rfl, hln, hS, hHT, fun _ => rfl⟩) fun r s' h => ?_
    cases r with
    | error e => exact h.elim
    | ok fl =>
      cases fl with
      | next | brk | cont => exact h.elim
      | ret u =>
        obtain ⟨v, H', os, bare, un, hok', r', q⟩ := h
        obtain rfl : v = .bl true := q
        obtain rfl : u = Value.bool true := r'
        have keep : ∀ b o, b ≠ T → s.heap.get? b = some o → s'.heap.get? b = some o := fun b o nb e => by
          cases z : H b with
          | none => exact un.keep b o e z (fun y => by cases y) (fun y => by cases y)
          | some y =>
            rcases hO b nb with c | ⟨ob, xs, c⟩
            · rw [z] at c; cases c
            · have e1 := (hok b _ c).1
              have e2 := (hok' b _ (un.frzs b ob _ c)).1
              rw [e] at e1
              cases e1
              exact e2
        obtain ⟨more, hm⟩ := un.tbls T #[] hHT
        have gT : s'.heap.get? T = some { cls := .none, data := .fields (#[] ++ more) } := hok' T _ hm
        refine ⟨rfl, ⟨fun b o e => ?_, fun b o e => ?_⟩, os, bare⟩
        · by_cases nb : b = T
          · subst nb
            rw [hT] at e
            cases e
            exact .inr (.inl ⟨(hC.tab hT).isCodeTable, rfl, #[], more, rfl, gT⟩)
          · exact .inl (keep b o nb e)
        · by_cases nb : b = T
          · rw [nb]; exact ⟨_, gT⟩
          · exact ⟨o, keep b o nb e⟩
  have lenL : (ns.map V.int).length ≤ sizeLine := by rw [List.length_map]; exact hl
  cases hk : K.lookup a with
  | some o =>
    have e := KX a o hk
    rw [ha] at e
    cases e
    have off : ∀ b, b ≠ T → (upd (fun _ => none) T (.tbl #[]) : Hp) b = none := fun b hb => upd_ne hb
    refine run (upd (fun _ => none) T (.tbl #[])) upd_same (fun b nb => .inl (off b nb)) (.inr ⟨_, vs.toArray, _, hk, rfl, rfl, rfl, by rw [List.size_toArray, lenV]; exact hl, by simpa using rv⟩) (fun b u z => ?_) (fun b _ nb => off b nb) (.inl (off a (Ne.symm Ta)))
    by_cases nb : b = T
    · subst nb
      rw [upd_same] at z; cases z
      exact hT
    · rw [off b nb] at z; cases z
  | none =>
    have at_a : ∀ o, (upd (upd (fun _ => none) T (.tbl #[])) a o : Hp) a = some o := fun _ => upd_same
    have at_T : ∀ o, (upd (upd (fun _ => none) T (.tbl #[])) a o : Hp) T = some (.tbl #[]) := fun _ => by rw [upd_ne Ta, upd_same]
    have off : ∀ o b, b ≠ a → b ≠ T → (upd (upd (fun _ => none) T (.tbl #[])) a o : Hp) b = none := fun _ b h1 h2 => by rw [upd_ne h1, upd_ne h2]
    refine run (upd (upd (fun _ => none) T (.tbl #[])) a (.frz { cls := .type "list", data := .seq vs.toArray } (.lst (ns.map V.int)))) (at_T _) (fun b nb => ?_) (.inl (.inr ⟨_, at_a _⟩)) (fun b u z => ?_) (off _) (.inr hk)
    · by_cases hb : b = a
      · exact .inr ⟨_, _, by rw [hb]; exact at_a _⟩
      · exact .inl (off _ b hb nb)
    · by_cases hb : b = a
      · subst hb
        rw [at_a] at z
        cases z
        exact ⟨ha, lenL, vs, _, rv, ha⟩
      · by_cases nb : b = T
        · subst nb
          rw [at_T] at z; cases z
          exact hT
        · rw [off _ b hb nb] at z; cases z
theorem walkQT {l : PySem.W.OpenLaw} {n k : Nat} {q : Program} {loose : List Str} {XP : (Str → Option Value) → Heap → Prop} {YP : World → Heap → Prop} {d d1 : DefRec} {K : Params → PySem.W.Frag} {x : Str}
    (hn : l.most = some n) (hn2 : n ≤ sizeLine) (hdf : d.params.defaults = []) (hr : Room k callerA) (hrec : (recsOf q).find? (fun e => e.name == d.name) = some d1) (hY : ∀ (w : World) (h : Heap), YP w h → (K w.params).In h)
    (F : ∀ (w : World) (mg : Str → Option Value) (fa : Addr) (h : Heap), (K w.params).In h → h.Ns mainGlobals mg → mg d.name = some (.ref fa) →
      ∃ (fd : FuncData) (c T : Addr), PySem.W.tabIn (K w.params) d.name = some (c, T) ∧ (K w.params).lookup T = none ∧ (∀ (s : Shared) (u : Value), BindsTo s fd ⟨[u], []⟩ [(x, u)]) ∧
        ∀ base : Heap, (K w.params).In base → base.Ns mainGlobals mg → TabB base mg c T → FnQ l.prog w (K w.params) mg base CX0 k fa fd [x] (spL (K w.params) T n)) :
    PySem.W.WalkO q loose XP YP l.row.toRowW d [] (fun f vs => PySem.call f vs) :=
  Att.attach_call hn hdf fun w s0 s1 mg mb fa o pm cd doc a vs ns G Y ho hd hcd hmg hobj hints hlen hg =>
    have KX := hY w _ Y
    let ⟨fd, c, T, ht, nT, hb, hF⟩ := F w mg fa _ KX G.T.g hmg
    let ⟨hC, hT⟩ := PySem.W.tab_of G.T KX hrec ht
    lawQT KX G.T.g G.T.b G.T.builtins G.T.nolimit hg hT nT hC G.T.bmain hobj hints (Nat.le_trans hlen hn2) hlen hr hF hb
end LD

/-! LD50: _law_refused(lambda: ..). -/
namespace LD
open PySem PySem.Spec L2 LamX PyProof.Rows
/-- what is known of the def that hears errors of the class at C -/
structure RefK (K : PySem.W.Frag) (mg : Str → Option Value) (x e : Str) (st : Stmt) (C : Addr) : Prop where
  fn : ∃ (f : Addr) (fd : FuncData), Fun K x x st f fd ∧ mg x = some (.ref f) ∧ Binds K fd ["work"] []
  mgx : mg e = some (.ref C)
  xf : XfC K C
  at_ : PySem.W.findIn K (.ref C) "at" = some none
  ex : PySem.W.exmOne K (.ref C) (.ref C) = some true
theorem pe_ref {X : Cx} {T c C : Addr} {q x e : Str} {k j : Nat} {st : Stmt} {pa : Arguments} {bd : Expr} {sc : Scope} {t : XK → TE} {p lp pos p1 p2 p3 p4 p5 p6 p7 p8 p9 p10 : Pos} (R : RefK X.K X.mg x e st C) (S : FnScope ["work", "wrong"] ["work"] (defScope st)) (hw : (defScope st).names.lookup ("work" : Str) = some NameKind.local) (hl : (defScope st).names.lookup ("wrong" : Str) = some NameKind.local) (hge : (defScope st).names.lookup e = some .globalImplicit)
    (hst : defBody st = [.Try [.Return (some (.Call (.Name "work" p1) [] [] p2)) p3] [.ExceptHandler (some (.Name e p4)) (some "wrong") [.Return (some (.List [.Attribute (.Name "wrong" p5) "at" p6] p7)) p8] p9] [] [] p10])
    (B : TabB X.base X.mg c T) (hcd : X.env.code = .ref c) (hq : q = X.env.qual ++ "<lambda>") (hr : Room j X.A) (hk : k + 2 ≤ j) (hg : Gl X x) (L : LamS X.env.scope sc) (hd : defaultsOf pa X.env = ([], []))
    (hbind : ∀ (q : Str) (cl : List (Str × Addr)) (pm cv ct : Value), bindArgs (PySem.W.kla_fn "<lambda>" q pa bd sc cl pm cv ct) ⟨[], []⟩ = pure [])
    (hbody : ∀ (A : Around) (outer : List Env) (s : Shared) (H : Hp) (E : XK) (f d : Addr), Room k (A.deeper (lamEnv X sc s.heap.objs.size f d)) → PE (lamCx X A outer s H E sc f d) bd (t E))
    (hde : (e == ("__debug__" : Str)) = false := by decide) (hdb : (x == ("__debug__" : Str)) = false := by decide) :
    PE X (.Call (.Name x p) [.Lambda pa bd sc lp] [] pos) (tLam1 T q (TTref X.K C) t) := by
  obtain ⟨f, fd, F, hm, hb⟩ := R.fn
  exact pe_lam1 F hm hg hb S rfl (.inl hw) (fun cdg => hst ▸ ref_gives R.xf R.at_ R.ex R.mgx hge hde (by decide) hl (by decide) (by decide)) B hcd hq (hr.mono hk) L hd hbind hbody hdb
/-- .. called with keywords alone -/
def dCallYK (n m : Nat) (o : List Nat) (g : CR) (t : TDA) : TDY := fun ρ P E => t ρ fun r es => g (ordP n m o [] es) (fun d => P r d) (fun C x => E r C x)
theorem sy_callK {K : PySem.W.Frag} {n m : Nat} {o : List Nat} {g : CR} {ta : L2.TA} {t : TDA} (hg : ∀ es P P' E E', (∀ d, P d → P' d) → (∀ C x, E C x → E' C x) → g es P E → g es P' E') (s : SA K ta t) : SY K (fun E => tCallKS (spR K g) (ordP n m o) (fun _ cls d H => E cls d H) L2.tNil ta) (dCallYK n m o g t) := by
  refine ⟨fun ρ P P' E E' h h' q => s.mono _ _ _ (fun r es q => hg _ _ _ _ _ (fun d q => h _ _ q) (fun C x q => h' _ _ _ q) q) q, fun F σ H ρ vs ds Q E R q => s.run F σ H ρ vs ds _ R (s.mono _ _ _ (fun r es q xs H1 e R1 => ?_) q)⟩
  obtain ⟨Hi, own, R2⟩ := R1
  obtain ⟨t1, t2⟩ := dpAll_split e R2.tmp
  refine ⟨Hi, ordP n m o [] es, R2.sub, dpAll_ord .nil t1 n m o, hg _ _ _ _ _ (fun d q v H' Hi' h1 h2 h3 h4 h5 => ?_) (fun C x q v p H' Hi' h1 h2 h3 h4 h5 h6 => ?_) q⟩
  · exact q v H' ⟨Hi', own, R2.after h1 h2 h3 h4 (.cons h5 (dpAll_mono h1 _ _ t2))⟩
  · exact q v p H' ⟨Hi', own, R2.after h1 h2 h3 h4 (.cons h5 (dpAll_mono h1 _ _ t2))⟩ h6
end LD

/-! LD51: rows, their choices, sums along them; terms made small. -/
namespace LD
open PySem PySem.Spec L2
def redO (p : Int) (z : List Int × Int) : Option (List Int × Int) := if elemF p z.2 = 0 then none else some (z.1, elemF p z.2)
def redF (p : Int) (kis : List (List Int × Int)) : List (List Int × Int) := kis.filterMap (redO p)
theorem red_len (p : Int) (kis : List (List Int × Int)) : (redF p kis).length ≤ kis.length := List.length_filterMap_le _ _
theorem red_keys {p : Int} {k : List Int} : ∀ kis : List (List Int × Int), k ∈ (redF p kis).map (·.1) → k ∈ kis.map (·.1) := fun kis h => by
  obtain ⟨t, ht, e⟩ := List.mem_map.mp h
  obtain ⟨z, hz, ez⟩ := List.mem_filterMap.mp ht
  unfold redO at ez
  split at ez
  · cases ez
  · cases ez
    exact List.mem_map.mpr ⟨z, hz, e⟩
theorem look_in {kis : List (List Int × Int)} {k : List Int} {v : Int} (h : lookI kis k = some v) : k ∈ kis.map (·.1) := by
  unfold lookI at h
  cases hf : kis.find? fun x => decide (x.1 = k) with
  | none => rw [hf] at h; cases h
  | some x =>
    have h1 := List.find?_some (p := fun x : List Int × Int => decide (x.1 = k)) hf
    exact List.mem_map.mpr ⟨x, List.mem_of_find?_eq_some hf, of_decide_eq_true h1⟩
def onlyF (n at_ x : Int) : List Int := List.replicate at_.toNat 0 ++ [x] ++ List.replicate (n - at_ - 1).toNat 0
def prodN : List Nat → Nat
  | [] => 1
  | x :: xs => x * prodN xs
theorem prodN_app : ∀ a b : List Nat, prodN (a ++ b) = prodN a * prodN b
  | [], b => (Nat.one_mul _).symm
  | x :: a, b => by
    show x * prodN (a ++ b) = x * prodN a * prodN b
    rw [prodN_app a b, Nat.mul_assoc]
theorem prodN_pos : ∀ {l : List Nat}, (∀ x ∈ l, 0 < x) → 0 < prodN l
  | [], _ => Nat.zero_lt_one
  | x :: l, h => Nat.mul_pos (h x List.mem_cons_self) (prodN_pos fun y hy => h y (List.mem_cons_of_mem _ hy))
theorem prodN_le : ∀ {l : List Nat}, (∀ x ∈ l, x ≤ 1000) → prodN l ≤ 1000 ^ l.length
  | [], _ => Nat.le_refl _
  | x :: l, h => by
    show x * prodN l ≤ 1000 ^ (l.length + 1)
    rw [Nat.pow_succ, Nat.mul_comm (1000 ^ l.length)]
    exact Nat.mul_le_mul (h x List.mem_cons_self) (prodN_le fun y hy => h y (List.mem_cons_of_mem _ hy))
theorem prodN_take {l : List Nat} (h : ∀ x ∈ l, 0 < x) (i : Nat) : prodN (l.take i) ≤ prodN l := by
  have e := prodN_app (l.take i) (l.drop i)
  rw [List.take_append_drop] at e
  have h1 := prodN_pos (l := l.drop i) fun x hx => h x (List.mem_of_mem_drop hx)
  rw [e]
  exact Nat.le_mul_of_pos_right _ h1
def cntR (rs : List (List Int)) : Nat := prodN (rs.map List.length)
def stepR (cs : List (List Int)) (row : List Int) : List (List Int) := cs.flatMap fun c => row.map fun x => c ++ [x]
def chL (rs : List (List Int)) : List (List Int) := rs.foldl stepR [[]]
theorem stepR_len (row : List Int) : ∀ cs : List (List Int), (stepR cs row).length = cs.length * row.length
  | [] => (Nat.zero_mul _).symm
  | c :: cs => by
    have ih := stepR_len row cs
    unfold stepR at ih ⊢
    rw [List.flatMap_cons, List.length_append, ih, List.length_map, List.length_cons, Nat.add_mul, Nat.one_mul, Nat.add_comm]
theorem chL_take (rs : List (List Int)) {i : Nat} {row : List Int} (h : rs[i]? = some row) : chL (rs.take (i + 1)) = stepR (chL (rs.take i)) row := by
  unfold chL
  rw [List.take_add_one, h, List.foldl_append]
  rfl
theorem foldR_len : ∀ (rs : List (List Int)) (cs : List (List Int)), (rs.foldl stepR cs).length = cs.length * cntR rs
  | [], cs => (Nat.mul_one _).symm
  | r :: rs, cs => by
    rw [List.foldl_cons, foldR_len rs, stepR_len, Nat.mul_assoc]
    rfl
theorem chL_len (rs : List (List Int)) : (chL rs).length = cntR rs := by
  unfold chL
  rw [foldR_len]
  exact Nat.one_mul _
theorem foldR_len2 : ∀ (rs : List (List Int)) (cs : List (List Int)) (m : Nat), (∀ c ∈ cs, c.length = m) → ∀ c ∈ rs.foldl stepR cs, c.length = m + rs.length
  | [], cs, m, h, c, hc => h c hc
  | r :: rs, cs, m, h, c, hc => by
    rw [List.length_cons, show m + (rs.length + 1) = (m + 1) + rs.length by omega]
    refine foldR_len2 rs (stepR cs r) (m + 1) (fun d hd => ?_) c hc
    obtain ⟨b, hb, hd2⟩ := List.mem_flatMap.mp hd
    obtain ⟨x, _, rfl⟩ := List.mem_map.mp hd2
    rw [List.length_append, h b hb]
    rfl
def rowsD (rs : List (List Int)) : D := .tuple (rs.map tupK)
/-- lists whose choices are few -/
structure RowsOk (rs : List (List Int)) : Prop where
  ne : ∀ r ∈ rs, r ≠ []
  few : rs.length ≤ 100
def rowF (a b : List Int) : Int := ((a.zip b).map fun q => q.1 * q.2).sum
def planeD (a : List Int) (n : Int) : D := .tuple [tupK a, .int n]
theorem onlyF_at {n i j : Nat} (hi : i < n) (hj : j < n) : (onlyF n i 1).getD j 0 = if j = i then 1 else 0 := by
  unfold onlyF
  rw [List.getD_eq_getElem?_getD]
  rcases Nat.lt_trichotomy j i with h | h | h
  · rw [List.append_assoc, List.getElem?_append_left (by rw [List.length_replicate]; omega), List.getElem?_replicate, if_pos (by omega), if_neg (by omega)]
    rfl
  · subst h
    rw [if_pos rfl, List.append_assoc, List.getElem?_append_right (by rw [List.length_replicate]; omega), List.length_replicate, Int.toNat_natCast, Nat.sub_self]
    rfl
  · rw [if_neg (by omega), List.getElem?_append_right (by rw [List.length_append, List.length_replicate]; show (i : Int).toNat + 1 ≤ j; omega), List.getElem?_replicate, if_pos (by rw [List.length_append, List.length_replicate]; show j - ((i : Int).toNat + 1) < _; omega)]
    rfl
theorem rowF_app {a b : List Int} {x y : Int} (h : a.length = b.length) : rowF (a ++ [x]) (b ++ [y]) = rowF a b + x * y := by
  unfold rowF
  rw [List.zip_append h, List.map_append, List.sum_append]
  show _ + (x * y + 0) = _
  rw [Int.add_zero]
theorem zipD_same {α : Type} (f g : α → D) (L : List α) : zipD (L.map f) (L.map g) = L.map fun c => .tuple [f c, g c] := by
  unfold zipD
  rw [List.zip_map', List.map_map]
  rfl
end LD

/-! LD52: sums of terms, sorted and small, are one however they were gathered. -/
namespace LD
open PySem PySem.Spec L2
abbrev TmI := List Int × Int
def leT (s t : TmI) : Bool := leL s.1 t.1
theorem leL_tot (k l : List Int) : (leL k l || leL l k) = true := by
  unfold leL
  by_cases h : l < k
  · have : ¬ k < l := fun z => List.lt_irrefl k (List.lt_trans z h)
    simp [this]
  · simp [h]
theorem leL_anti {k l : List Int} (h1 : leL k l = true) (h2 : leL l k = true) : k = l := by
  unfold leL at h1 h2
  simp only [Bool.not_eq_true', decide_eq_false_iff_not] at h1 h2
  exact List.le_antisymm (List.not_lt.mp h1) (List.not_lt.mp h2)
theorem leL_trans {a b c : List Int} (h1 : leL a b = true) (h2 : leL b c = true) : leL a c = true := by
  unfold leL at h1 h2 ⊢
  simp only [Bool.not_eq_true', decide_eq_false_iff_not] at h1 h2 ⊢
  exact List.not_lt.mpr (List.le_trans (List.not_lt.mp h1) (List.not_lt.mp h2))
theorem sortT_up (ts : List TmI) : (ts.mergeSort leT).Pairwise fun s t => leT s t = true := List.pairwise_mergeSort (le := leT) (fun a b c h1 h2 => leL_trans (a := a.1) (b := b.1) (c := c.1) h1 h2) (fun a b => leL_tot a.1 b.1) ts
theorem keys_uniq {ts : List TmI} (nd : (ts.map (·.1)).Nodup) {s t : TmI} (hs : s ∈ ts) (ht : t ∈ ts) (e : s.1 = t.1) : s = t := by
  induction ts with
  | nil => cases hs
  | cons x ts ih =>
    rw [List.map_cons, List.nodup_cons] at nd
    rcases List.mem_cons.mp hs with hs | hs <;> rcases List.mem_cons.mp ht with ht | ht
    · rw [hs, ht]
    · exact absurd (List.mem_map.mpr ⟨t, ht, by rw [← e, hs]⟩) nd.1
    · exact absurd (List.mem_map.mpr ⟨s, hs, by rw [e, ht]⟩) nd.1
    · exact ih nd.2 hs ht
/-- two sorted lots of the same terms are one -/
theorem sorted_one {a b : List TmI} (h : a.Perm b) (nd : (a.map (·.1)).Nodup) (ha : a.Pairwise fun s t => leT s t = true) (hb : b.Pairwise fun s t => leT s t = true) : a = b :=
  List.Perm.eq_of_pairwise (fun s t hs ht h1 h2 => keys_uniq nd hs (h.mem_iff.mpr ht) (leL_anti h1 h2)) ha hb h
theorem eqvAll_ints : ∀ {k l : List Int}, PyData.eqvAll (k.map PyData.int) (l.map PyData.int) = true → k = l
  | [], [], _ => rfl
  | [], _ :: _, h => by simp [PyData.eqvAll] at h
  | _ :: _, [], h => by simp [PyData.eqvAll] at h
  | x :: k, y :: l, h => by
    simp only [List.map_cons, PyData.eqvAll, Bool.and_eq_true] at h
    have h1 : x = y := by simpa [PyData.eqv] using h.1
    rw [h1, eqvAll_ints h.2]
theorem eqv_tupK {k l : List Int} (h : PyData.eqv (tupK k) (tupK l) = true) : k = l := eqvAll_ints (by unfold tupK at h; rwa [PyData.eqv] at h)
theorem lt_term {s t : TmI} (h : s.1 ≠ t.1) : PySem.W.dataLt (termD s) (termD t) = decide (s.1 < t.1) := by
  unfold termD
  have e : PySem.W.alike (tupK s.1) (tupK t.1) = true := by
    unfold tupK
    simp only [PySem.W.alike]
    exact alike_ints _ _
  rw [PySem.W.dataLt_pair e (by simp [PySem.W.alike]), if_neg (fun z => h (eqv_tupK z)), lt_tupK]
theorem sort_terms {ts : List TmI} (nd : (ts.map (·.1)).Nodup) : (ts.map termD).mergeSort leD = (ts.mergeSort leT).map termD := by
  refine (List.map_mergeSort (f := termD) fun s hs t ht => ?_).symm
  unfold leT leL leD
  by_cases h : t.1 = s.1
  · rw [keys_uniq nd hs ht h.symm]
    have e1 : PySem.W.dataLt (termD t) (termD t) = false := by
      unfold PySem.W.dataLt
      exact PyProof.Rows.lex_irrefl _
    rw [e1, decide_eq_false (List.lt_irrefl _)]
  · rw [lt_term h]
theorem red_nodup {p : Int} {kis : List TmI} (nd : (kis.map (·.1)).Nodup) : ((redF p kis).map (·.1)).Nodup := by
  induction kis with
  | nil => exact List.nodup_nil
  | cons x kis ih =>
    rw [List.map_cons, List.nodup_cons] at nd
    unfold redF
    rw [List.filterMap_cons]
    cases h : redO p x with
    | none => exact ih nd.2
    | some y =>
      have e : y.1 = x.1 := by
        unfold redO at h
        split at h
        · cases h
        · cases h; rfl
      rw [List.map_cons, List.nodup_cons]
      exact ⟨fun z => nd.1 (red_keys kis (e ▸ z)), ih nd.2⟩
/-- the small sum of terms: sorted, without 0s -/
def smallF (p : Int) (kis : List TmI) : List TmI := (redF p kis).mergeSort leT
theorem gath_small {p : Int} {kis : List TmI} (nd : (kis.map (·.1)).Nodup) : ((redF p kis).map termD).mergeSort leD = (smallF p kis).map termD := sort_terms (red_nodup nd)
theorem small_perm {p : Int} {a b : List TmI} (nd : (a.map (·.1)).Nodup) (h : a.Perm b) : smallF p a = smallF p b := by
  have h2 : (redF p a).Perm (redF p b) := h.filterMap _
  have h3 : (smallF p a).Perm (smallF p b) := ((List.mergeSort_perm _ _).trans h2).trans (List.mergeSort_perm _ _).symm
  refine sorted_one h3 ?_ (sortT_up _) (sortT_up _)
  exact ((List.mergeSort_perm (redF p a) leT).map (·.1)).nodup_iff.mpr (red_nodup nd)
theorem look_at {kis : List TmI} (nd : (kis.map (·.1)).Nodup) {t : TmI} (h : t ∈ kis) : lookI kis t.1 = some t.2 := by
  obtain ⟨n, e, m⟩ := look_some (List.mem_map.mpr ⟨t, h, rfl⟩)
  have := keys_uniq nd m h rfl
  rw [e, ← this]
theorem tidy_small {p : Int} {kis : List TmI} (nd : (kis.map (·.1)).Nodup) : tidyF p kis = smallF p kis := by
  have e1 : (kis.map (·.1)).mergeSort leL = (kis.mergeSort leT).map (·.1) := (List.map_mergeSort (f := fun t : TmI => t.1) fun _ _ _ _ => rfl).symm
  have e2 : tidyF p kis = (kis.mergeSort leT).filterMap (redO p) := by
    unfold tidyF
    rw [e1, List.filterMap_map]
    have key : ∀ ts : List TmI, (∀ t ∈ ts, t ∈ kis) → ts.filterMap (termF p kis ∘ fun t => t.1) = ts.filterMap (redO p) := fun ts => by
      induction ts with
      | nil => intro _; rfl
      | cons t ts ih =>
        intro h
        have e : (termF p kis ∘ fun t : TmI => t.1) t = redO p t := by
          show termF p kis t.1 = redO p t
          unfold termF redO
          rw [look_at nd (h t List.mem_cons_self)]
          rfl
        rw [List.filterMap_cons, List.filterMap_cons, e, ih fun u hu => h u (List.mem_cons_of_mem _ hu)]
    exact key _ fun t ht => (List.mergeSort_perm kis leT).mem_iff.mp ht
  rw [e2]
  refine sorted_one (((List.mergeSort_perm kis leT).filterMap (redO p)).trans (List.mergeSort_perm _ _).symm) ?_ ?_ (sortT_up _)
  · exact red_nodup (((List.mergeSort_perm kis leT).map (·.1)).nodup_iff.mpr nd)
  · rw [List.pairwise_filterMap]
    refine (sortT_up kis).imp fun {s t} h a ha b hb => ?_
    have ea : a.1 = s.1 := by
      unfold redO at ha
      split at ha
      · cases ha
      · cases ha; rfl
    have eb : b.1 = t.1 := by
      unfold redO at hb
      split at hb
      · cases hb
      · cases hb; rfl
    unfold leT at h ⊢
    rw [ea, eb]
    exact h
end LD

/-! LD53: powers, worths of sums of terms, over fields and integers. -/
namespace LD
open PySem PySem.Spec L2
def powE (p x : Int) : Nat → Int
  | 0 => 1
  | k + 1 => elemF p (powE p x k * x)
theorem bits_mul {i j : Int} {a b : Nat} (hi : i.natAbs < 2 ^ a) (hj : j.natAbs < 2 ^ b) : (i * j).natAbs < 2 ^ (a + b) := wide_lt hi hj
theorem elemF_bits {p n : Int} {a : Nat} (hp : 0 ≤ p) (hp2 : p ≤ 1000) (h : n.natAbs < 2 ^ a) (ha : 10 ≤ a) : (elemF p n).natAbs < 2 ^ a := by
  unfold elemF
  split
  · exact h
  · have h1 := Int.emod_nonneg n (show p ≠ 0 by assumption)
    have h2 := Int.emod_lt_of_pos n (show 0 < p by omega)
    have h3 : 2 ^ 10 ≤ 2 ^ a := Nat.pow_le_pow_right (by decide) ha
    have h4 : (2 : Nat) ^ 10 = 1024 := by decide
    omega
theorem small_bits {x : Int} (h : x.natAbs ≤ 1000) : x.natAbs < 2 ^ 10 := by
  have h4 : (2 : Nat) ^ 10 = 1024 := by decide
  omega
theorem powE_b {p x : Int} (hp : 0 ≤ p) (hp2 : p ≤ 1000) (hx : x.natAbs ≤ 1000) : ∀ k, (powE p x k).natAbs < 2 ^ (10 * k + 1)
  | 0 => by show 1 < 2 ^ 1; decide
  | k + 1 => by
    have h := bits_mul (powE_b hp hp2 hx k) (small_bits hx)
    exact elemF_bits hp hp2 (by rw [show 10 * (k + 1) + 1 = 10 * k + 1 + 10 by omega]; exact h) (by omega)
theorem powE_b2 {p x : Int} {k : Nat} (hp : 0 ≤ p) (hp2 : p ≤ 1000) (hx : x.natAbs ≤ 1000) (hk : k ≤ 50) : (powE p x k).natAbs < 2 ^ 501 :=
  Nat.lt_of_lt_of_le (powE_b hp hp2 hx k) (Nat.pow_le_pow_right (by decide) (by omega))
def prodI : List Int → Int
  | [] => 1
  | x :: xs => x * prodI xs
theorem prodI_app : ∀ a b : List Int, prodI (a ++ b) = prodI a * prodI b
  | [], b => (Int.one_mul _).symm
  | x :: a, b => by
    show x * prodI (a ++ b) = x * prodI a * prodI b
    rw [prodI_app a b, Int.mul_assoc]
theorem prodI_b {m : Nat} : ∀ {l : List Int}, (∀ x ∈ l, x.natAbs < 2 ^ m) → (prodI l).natAbs < 2 ^ (m * l.length + 1)
  | [], _ => by show 1 < 2 ^ (m * 0 + 1); rw [Nat.mul_zero]; decide
  | x :: l, h => by
    have h1 := bits_mul (h x List.mem_cons_self) (prodI_b fun y hy => h y (List.mem_cons_of_mem _ hy))
    rw [List.length_cons, show m * (l.length + 1) + 1 = m + (m * l.length + 1) by rw [Nat.mul_add]; omega]
    exact h1
def monE (p : Int) (es xs : List Int) : Int := prodI ((es.zip xs).map fun q => powE p q.2 q.1.toNat)
def worE (p : Int) (ts : List TmI) (xs : List Int) : Int := ts.foldl (fun tot t => elemF p (tot + t.2 * monE p t.1 xs)) 0
/-! what is left of a division by p, for any p: p = 0 leaves all -/
theorem elemF_dvd {p a b : Int} : elemF p a = elemF p b ↔ p ∣ a - b := by
  unfold elemF
  by_cases h : p = 0
  · rw [if_pos h, if_pos h, h, Int.zero_dvd]
    omega
  · rw [if_neg h, if_neg h]
    exact Int.emod_eq_emod_iff_emod_sub_eq_zero.trans (Int.dvd_iff_emod_eq_zero).symm
theorem elemF_self (p a : Int) : p ∣ elemF p a - a := by
  unfold elemF
  split
  · rw [Int.sub_self]; exact Int.dvd_zero _
  · refine ⟨-(a / p), ?_⟩
    have := Int.emod_add_mul_ediv a p
    rw [Int.mul_neg]
    omega
theorem elemF_idem (p a : Int) : elemF p (elemF p a) = elemF p a := elemF_dvd.mpr (elemF_self p a)
/-- an element of the field -/
def IsEl (p x : Int) : Prop := 0 < p → 0 ≤ x ∧ x < p
theorem elemF_of {p x : Int} (hp : 0 ≤ p) (h : IsEl p x) : elemF p x = x := by
  unfold elemF
  split
  · rfl
  · obtain ⟨h1, h2⟩ := h (by omega)
    exact Int.emod_eq_of_lt h1 h2
theorem elemF_el {p : Int} (hp : 0 ≤ p) (x : Int) : IsEl p (elemF p x) := fun h => by
  unfold elemF
  rw [if_neg (by omega)]
  exact ⟨Int.emod_nonneg _ (by omega), Int.emod_lt_of_pos _ h⟩
theorem elemF_zero {p a : Int} : elemF p a = 0 ↔ p ∣ a := by
  have h : elemF p 0 = 0 := by unfold elemF; split <;> simp
  rw [← h, elemF_dvd, Int.sub_zero]
/-- powers without division -/
def powZ (x : Int) (k : Nat) : Int := x ^ k
theorem powE_dvd (p x : Int) : ∀ k, p ∣ powE p x k - x ^ k
  | 0 => by show p ∣ 1 - x ^ 0; rw [Int.pow_zero]; exact ⟨0, by rw [Int.mul_zero]; rfl⟩
  | k + 1 => by
    have h1 := elemF_self p (powE p x k * x)
    obtain ⟨c, hc⟩ := powE_dvd p x k
    obtain ⟨d, hd⟩ := h1
    refine ⟨d + c * x, ?_⟩
    show elemF p (powE p x k * x) - x ^ (k + 1) = _
    rw [Int.pow_succ, Int.mul_add, ← hd, ← Int.mul_assoc, ← hc, Int.sub_mul]
    omega
end LD

/-! LD54: max and min of ints, of a list that a slot owns too. -/
namespace LD
open PySem PySem.Spec L2
theorem maxD_int : ∀ (xs : List Int) (x : Int), ∃ m, PySem.W.maxD (.int x) (xs.map PyData.int) = .int m ∧ m ∈ x :: xs ∧ ∀ y ∈ x :: xs, y ≤ m
  | [], x => ⟨x, rfl, List.mem_singleton.mpr rfl, fun y hy => by rw [List.mem_singleton.mp hy]; exact Int.le_refl _⟩
  | z :: xs, x => by
    have e : PySem.W.maxD (.int x) ((z :: xs).map PyData.int) = PySem.W.maxD (.int (if x < z then z else x)) (xs.map PyData.int) := by
      show PySem.W.maxD (if PySem.W.dataLt (.int x) (.int z) then .int z else .int x) (xs.map PyData.int) = _
      rw [PySem.W.dataLt_int]
      by_cases h : x < z
      · rw [decide_eq_true h, if_pos rfl, if_pos h]
      · rw [decide_eq_false h, if_neg (by decide), if_neg h]
    obtain ⟨m, h1, h2, h3⟩ := maxD_int xs (if x < z then z else x)
    refine ⟨m, by rw [e, h1], ?_, fun y hy => ?_⟩
    · rcases List.mem_cons.mp h2 with h | h
      · rw [h]; split <;> simp
      · exact List.mem_cons_of_mem _ (List.mem_cons_of_mem _ h)
    · have h4 := h3 _ List.mem_cons_self
      rcases List.mem_cons.mp hy with rfl | hy
      · split at h4 <;> omega
      · rcases List.mem_cons.mp hy with rfl | hy
        · split at h4 <;> omega
        · exact h3 y (List.mem_cons_of_mem _ hy)
theorem minD_int : ∀ (xs : List Int) (x : Int), ∃ m, PySem.W.minD (.int x) (xs.map PyData.int) = .int m ∧ m ∈ x :: xs ∧ ∀ y ∈ x :: xs, m ≤ y
  | [], x => ⟨x, rfl, List.mem_singleton.mpr rfl, fun y hy => by rw [List.mem_singleton.mp hy]; exact Int.le_refl _⟩
  | z :: xs, x => by
    have e : PySem.W.minD (.int x) ((z :: xs).map PyData.int) = PySem.W.minD (.int (if z < x then z else x)) (xs.map PyData.int) := by
      show PySem.W.minD (if PySem.W.dataLt (.int z) (.int x) then .int z else .int x) (xs.map PyData.int) = _
      rw [PySem.W.dataLt_int]
      by_cases h : z < x
      · rw [decide_eq_true h, if_pos rfl, if_pos h]
      · rw [decide_eq_false h, if_neg (by decide), if_neg h]
    obtain ⟨m, h1, h2, h3⟩ := minD_int xs (if z < x then z else x)
    refine ⟨m, by rw [e, h1], ?_, fun y hy => ?_⟩
    · rcases List.mem_cons.mp h2 with h | h
      · rw [h]; split <;> simp
      · exact List.mem_cons_of_mem _ (List.mem_cons_of_mem _ h)
    · have h4 := h3 _ List.mem_cons_self
      rcases List.mem_cons.mp hy with rfl | hy
      · split at h4 <;> omega
      · rcases List.mem_cons.mp hy with rfl | hy
        · split at h4 <;> omega
        · exact h3 y (List.mem_cons_of_mem _ hy)
theorem alike_ints2 (ks : List Int) : PySem.W.AlikeAll (ks.map PyData.int) ∧ PyData.depthAll (ks.map PyData.int) ≤ 50 := by
  refine ⟨⟨(alike_ii ks).1, fun x hx z => ?_⟩, by rw [depth_ints]; decide⟩
  obtain ⟨i, _, rfl⟩ := List.mem_map.mp hx
  cases z
/-- a reading of the greatest of ints -/
theorem cMax_ints {x : Int} {xs : List Int} {P : D → Prop} (h : ∀ m ∈ x :: xs, (∀ y ∈ x :: xs, y ≤ m) → P (.int m)) : cMaxD [.list ((x :: xs).map PyData.int)] P := by
  obtain ⟨m, e, h1, h2⟩ := maxD_int xs x
  obtain ⟨a1, a2⟩ := alike_ints2 (x :: xs)
  exact ⟨.int x, xs.map PyData.int, rfl, a1, a2, by rw [e]; exact h m h1 h2⟩
theorem cMin_ints {x : Int} {xs : List Int} {P : D → Prop} (h : ∀ m ∈ x :: xs, (∀ y ∈ x :: xs, m ≤ y) → P (.int m)) : cMinD [.list ((x :: xs).map PyData.int)] P := by
  obtain ⟨m, e, h1, h2⟩ := minD_int xs x
  obtain ⟨a1, a2⟩ := alike_ints2 (x :: xs)
  exact ⟨.int x, xs.map PyData.int, rfl, a1, a2, by rw [e]; exact h m h1 h2⟩
def dMaxO (i : Nat) : TD := fun ρ P => ∃ (x : Int) (xs : List Int), ρ[i]? = some (.ls ((x :: xs).map PyData.int)) ∧ ∀ m ∈ x :: xs, (∀ y ∈ x :: xs, y ≤ m) → P ρ (.int m)
def dMinO (i : Nat) : TD := fun ρ P => ∃ (x : Int) (xs : List Int), ρ[i]? = some (.ls ((x :: xs).map PyData.int)) ∧ ∀ m ∈ x :: xs, (∀ y ∈ x :: xs, m ≤ y) → P ρ (.int m)
section
variable {K : PySem.W.Frag}
theorem se_maxO (i : Nat) : SE K (L2.tCB (rMaxD K) (L2.tCons (tVar i) L2.tNil)) (dMaxO i) := ⟨fun ρ P P' h ⟨x, xs, e, q⟩ => ⟨x, xs, e, fun m h1 h2 => h _ _ (q m h1 h2)⟩, fun F σ H ρ vs ds Q R ⟨x, xs, e, q⟩ => by
  obtain ⟨p, ys, e1, hp, el, _⟩ := R.ownAt e
  obtain ⟨a1, a2⟩ := alike_ints2 (x :: xs)
  obtain ⟨m, em, h1, h2⟩ := maxD_int xs x
  have hd : DpAll K H ys ((x :: xs).map PyData.int) := by
    obtain ⟨Hi, own, R⟩ := R
    obtain ⟨p2, zs, f1, _, f3, f4⟩ := R.slot i _ e
    rw [e1] at f1
    cases f1
    rw [hp] at f3
    cases f3
    exact dpAll_mono R.sub _ _ f4
  refine ⟨.ref p, e1, p, ys, .int x, xs.map PyData.int, rfl, .inl (.inl hp), hd, a1, a2, fun j v hv hj => ?_⟩
  have hv2 := ints_of (K := K) (x :: xs) ys hd
  rw [hv2, List.getElem?_map] at hv
  rw [em] at hj
  have hj' : ((x :: xs).map PyData.int)[j]? = some (.int m) := hj
  rw [List.getElem?_map] at hj'
  cases hz : (x :: xs)[j]? with
  | none => rw [hz] at hv; cases hv
  | some z =>
    rw [hz] at hv hj'
    cases hv
    cases hj'
    exact q m h1 h2 _ _ (R.push (v := .int m) rfl)⟩
theorem se_minO (i : Nat) : SE K (L2.tCB (rMinD K) (L2.tCons (tVar i) L2.tNil)) (dMinO i) := ⟨fun ρ P P' h ⟨x, xs, e, q⟩ => ⟨x, xs, e, fun m h1 h2 => h _ _ (q m h1 h2)⟩, fun F σ H ρ vs ds Q R ⟨x, xs, e, q⟩ => by
  obtain ⟨p, ys, e1, hp, el, _⟩ := R.ownAt e
  obtain ⟨a1, a2⟩ := alike_ints2 (x :: xs)
  obtain ⟨m, em, h1, h2⟩ := minD_int xs x
  have hd : DpAll K H ys ((x :: xs).map PyData.int) := by
    obtain ⟨Hi, own, R⟩ := R
    obtain ⟨p2, zs, f1, _, f3, f4⟩ := R.slot i _ e
    rw [e1] at f1
    cases f1
    rw [hp] at f3
    cases f3
    exact dpAll_mono R.sub _ _ f4
  refine ⟨.ref p, e1, p, ys, .int x, xs.map PyData.int, rfl, .inl (.inl hp), hd, a1, a2, fun j v hv hj => ?_⟩
  have hv2 := ints_of (K := K) (x :: xs) ys hd
  rw [hv2, List.getElem?_map] at hv
  rw [em] at hj
  have hj' : ((x :: xs).map PyData.int)[j]? = some (.int m) := hj
  rw [List.getElem?_map] at hj'
  cases hz : (x :: xs)[j]? with
  | none => rw [hz] at hv; cases hv
  | some z =>
    rw [hz] at hv hj'
    cases hv
    cases hj'
    exact q m h1 h2 _ _ (R.push (v := .int m) rfl)⟩
end
end LD

/-! LD55: readings, step by step: each lemma takes one construct off. -/
namespace LD
open PySem PySem.Spec L2
section
variable {ρ r : Rho} {P : Rho → D → Prop} {Q : D → Prop} {PA : Rho → List D → Prop} {PT : Rho → Bool → Prop} {PO : Rho → Option Int → Prop} {PI : Rho → List D → Prop} {a b c e : TD} {t u : TDA} {dn : DE} {s1 s2 : TDS} {i j l : Nat} {d : D} {x y n m : Int} {es fs : List D} {A B : Prop} {ct cu : TDT}
theorem s_var (h : ρ[i]? = some (.sh d)) (q : P ρ d) : dVar i ρ P := ⟨d, h, q⟩
theorem s_cI (q : P ρ (.int x)) : dC (vD (V.int x)) ρ P := q
theorem s_cB {k : Bool} (q : P ρ (.bool k)) : dC (vD (V.bl k)) ρ P := q
theorem s_cS {z : Str} (q : P ρ (.str z)) : dC (vD (V.str z)) ρ P := q
theorem s_cN (q : P ρ .none) : dC (vD V.non) ρ P := q
theorem s_op {o : OD} (q : a ρ fun r x => b r fun r2 y => o x y (P r2)) : dOp o a b ρ P := q
theorem s_un {o : UD} (q : a ρ fun r x => o x (P r)) : dUn o a ρ P := q
theorem s_sh (q : t ρ fun r es => P r (.list es)) : dSh t ρ P := q
theorem s_nil (q : PA ρ []) : dNil ρ PA := q
theorem s_cons (q : a ρ fun r x => t r fun r2 xs => PA r2 (x :: xs)) : dCons a t ρ PA := q
theorem s_tup (q : t ρ fun r es => es.length ≤ sizeLine ∧ P r (.tuple es)) : dTup t ρ P := q
theorem s_lst (q : t ρ fun r es => es.length ≤ sizeLine ∧ PA r es) : dLst t ρ PA := q
theorem s_fit {k : Nat} (h : Nat.ble k sizeLine = true) (q : A) : k ≤ sizeLine ∧ A := ⟨Nat.le_of_ble_eq_true h, q⟩
theorem s_call {o : CD} (q : t ρ fun r es => o es (P r)) : dCall o t ρ P := q
theorem s_callF {o : CF} (q : t ρ fun r es => o es (PA r)) : dCallF o t ρ PA := q
theorem s_callK {n m : Nat} {o : List Nat} {g : CD} (q : t ρ fun r es => u r fun r2 fs => g (ordP n m o es fs) (P r2)) : dCallK n m o g t u ρ P := q
theorem s_callW {g : CD} {p l : Addr} (h : ρ[i]? = some (.dl p l)) (q : t ρ fun r es => (∃ a l, r[i]? = some (.dl a l)) ∧ g es (P r)) : dCallW i g t ρ P := ⟨⟨p, l, h⟩, q⟩
theorem s_dl {p l : Addr} (h : r[i]? = some (.dl p l)) (q : A) : (∃ a l, r[i]? = some (.dl a l)) ∧ A := ⟨⟨p, l, h⟩, q⟩
theorem s_callR {g : CR} (q : t ρ fun r es => g es (P r) (fun _ _ => False)) : dCallR g t ρ P := q
theorem s_callRK {n m : Nat} {o : List Nat} {g : CR} (q : t ρ fun r es => u r fun r2 fs => g (ordP n m o es fs) (P r2) (fun _ _ => False)) : dCallRK n m o g t u ρ P := q
theorem s_if (q : ct ρ fun r k => if k = true then a r P else b r P) : dIf ct a b ρ P := q
theorem s_and (q : a ρ fun r x => ∃ k, x = .bool k ∧ if k = true then b r P else P r (.bool false)) : dAndV a b ρ P := q
theorem s_or (q : a ρ fun r x => ∃ k, x = .bool k ∧ if k = true then P r (.bool true) else b r P) : dOrV a b ρ P := q
theorem s_not (q : a ρ fun r x => ∃ k, x = .bool k ∧ P r (.bool (!k))) : dNotV a ρ P := q
theorem s_tb (q : a ρ fun r d => ∃ b, d = .bool b ∧ PT r b) : dTB a ρ PT := q
theorem s_tnot (q : ct ρ fun r b => PT r (!b)) : dTNot ct ρ PT := q
theorem s_tand (q : ct ρ fun r b => if b = true then cu r PT else PT r false) : dTAnd ct cu ρ PT := q
theorem s_tor (q : ct ρ fun r b => if b = true then PT r true else cu r PT) : dTOr ct cu ρ PT := q
theorem s_tif {cv : TDT} (q : ct ρ fun r k => if k = true then cu r PT else cv r PT) : dIfT ct cu cv ρ PT := q
theorem s_yes (q : PT ρ true) : (fun (ρ : Rho) (P : Rho → Bool → Prop) => P ρ true) ρ PT := q
theorem s_exB {k : Bool} {F : Bool → Prop} (q : F k) : ∃ k', PyData.bool k = .bool k' ∧ F k' := ⟨k, rfl, q⟩
theorem s_exI {F : Int → Prop} (q : F x) : ∃ k', PyData.int x = .int k' ∧ F k' := ⟨x, rfl, q⟩
theorem s_exT {F : List D → Prop} (q : F es) : ∃ k', PyData.tuple es = .tuple k' ∧ F k' := ⟨es, rfl, q⟩
theorem s_exL {F : List D → Prop} (q : F es) : ∃ k', PyData.list es = .list k' ∧ F k' := ⟨es, rfl, q⟩
theorem s_ifT (q : A) : if true = true then A else B := q
theorem s_ifF (q : B) : if false = true then A else B := q
theorem s_ifd {p : Prop} [Decidable p] (h1 : p → A) (h2 : ¬ p → B) : if decide p = true then A else B := by
  by_cases h : p
  · rw [decide_eq_true h]; exact h1 h
  · rw [decide_eq_false h]; exact h2 h
theorem s_ifb {k : Bool} (h1 : k = true → A) (h2 : k = false → B) : if k = true then A else B := by
  cases k
  · exact h2 rfl
  · exact h1 rfl
theorem s_add (q : Q (.int (x + y))) : oI0 (fun i j => V.int (i + j)) (.int x) (.int y) Q := ⟨x, y, rfl, rfl, q⟩
theorem s_sub (q : Q (.int (x - y))) : oI0 (fun i j => V.int (i - j)) (.int x) (.int y) Q := ⟨x, y, rfl, rfl, q⟩
theorem s_lt (q : Q (.bool (decide (x < y)))) : oI0 (fun i j => V.bl (decide (i < j))) (.int x) (.int y) Q := ⟨x, y, rfl, rfl, q⟩
theorem s_le (q : Q (.bool (decide (x ≤ y)))) : oI0 (fun i j => V.bl (decide (i ≤ j))) (.int x) (.int y) Q := ⟨x, y, rfl, rfl, q⟩
theorem s_gt (q : Q (.bool (decide (y < x)))) : oI0 (fun i j => V.bl (decide (j < i))) (.int x) (.int y) Q := ⟨x, y, rfl, rfl, q⟩
theorem s_ge (q : Q (.bool (decide (y ≤ x)))) : oI0 (fun i j => V.bl (decide (j ≤ i))) (.int x) (.int y) Q := ⟨x, y, rfl, rfl, q⟩
theorem s_mul (h : CMulW x y) (q : Q (.int (x * y))) : oI CMulW (fun i j => V.int (i * j)) (.int x) (.int y) Q := ⟨x, y, rfl, rfl, h, q⟩
theorem s_mod (h : 0 < y) (q : Q (.int (x % y))) : oI (fun _ j => 0 < j) (fun i j => V.int (i % j)) (.int x) (.int y) Q := ⟨x, y, rfl, rfl, h, q⟩
theorem s_neg (q : Q (.int (-x))) : uI (fun i => -i) (.int x) Q := ⟨x, rfl, q⟩
theorem s_eqI (q : Q (.bool (decide (x = y)))) : oEq (.int x) (.int y) Q := ⟨rfl, rfl, by rw [eqv_int]; exact q⟩
theorem s_neI (q : Q (.bool (!decide (x = y)))) : oNe (.int x) (.int y) Q := ⟨rfl, rfl, by rw [eqv_int]; exact q⟩
theorem s_eqS {z w : Str} (q : Q (.bool (decide (z = w)))) : oEqS (.str z) (.str w) Q := ⟨z, w, rfl, rfl, q⟩
theorem s_neS {z w : Str} (q : Q (.bool (!decide (z = w)))) : oNeS (.str z) (.str w) Q := ⟨z, w, rfl, rfl, q⟩
theorem s_isN (q : Q (.bool (isNoneD d))) : oIsN d .none Q := ⟨rfl, q⟩
theorem s_notN (q : Q (.bool (!isNoneD d))) : oNotN d .none Q := ⟨rfl, q⟩
theorem s_isB {k k2 : Bool} (q : Q (.bool (decide (k = k2)))) : oIsB false (.bool k) (.bool k2) Q := ⟨k, k2, rfl, rfl, q⟩
theorem s_notB {k k2 : Bool} (q : Q (.bool (!decide (k = k2)))) : oIsB true (.bool k) (.bool k2) Q := ⟨k, k2, rfl, rfl, q⟩
theorem s_catT (h : es.length + fs.length ≤ sizeLine) (q : Q (.tuple (es ++ fs))) : oCatT (.tuple es) (.tuple fs) Q := ⟨es, fs, rfl, rfl, h, q⟩
theorem s_ixT (h : atI es x = some d) (q : Q d) : oIxT (.tuple es) (.int x) Q := ⟨es, x, d, rfl, rfl, h, q⟩
theorem s_ixL (h : atI es x = some d) (q : Q d) : oIxL (.list es) (.int x) Q := ⟨es, x, d, rfl, rfl, h, q⟩
theorem s_no (q : PO ρ none) : oNo ρ PO := q
theorem s_part (q : a ρ fun r d => ∃ i, d = .int i ∧ PO r (some i)) : oPart a ρ PO := q
theorem s_slL {lo hi : TDO} (q : a ρ fun r1 x => lo r1 fun r2 l1 => hi r2 fun r3 h1 => ∃ es, x = .list es ∧ PA r3 (cutD es l1 h1)) : dSlL a lo hi ρ PA := q
theorem s_slT {lo hi : TDO} (q : a ρ fun r1 x => lo r1 fun r2 l1 => hi r2 fun r3 h1 => ∃ es, x = .tuple es ∧ P r3 (.tuple (cutD es l1 h1))) : dSlT a lo hi ρ P := q
theorem s_lenL (q : Q (.int es.length)) : cLen [.list es] Q := ⟨es, .inl rfl, q⟩
theorem s_lenT (q : Q (.int es.length)) : cLen [.tuple es] Q := ⟨es, .inr rfl, q⟩
theorem s_int (q : Q (.int x)) : cInt [.int x] Q := ⟨x, rfl, q⟩
theorem s_listL {QF : List D → Prop} (q : QF es) : cList [.list es] QF := ⟨es, .inl rfl, q⟩
theorem s_listT {QF : List D → Prop} (q : QF es) : cList [.tuple es] QF := ⟨es, .inr rfl, q⟩
theorem s_tupleL (q : Q (.tuple es)) : cTuple [.list es] Q := ⟨es, .inl rfl, q⟩
theorem s_tupleT (q : Q (.tuple es)) : cTuple [.tuple es] Q := ⟨es, .inr rfl, q⟩
theorem s_min2 (q : Q (.int (if y < x then y else x))) : cMin2 [.int x, .int y] Q := ⟨x, y, rfl, q⟩
theorem s_isi {f : D → Bool} (q : a ρ fun r d => P r (.bool (f d))) : dIsi f a ρ P := q
theorem s_chain {o o' : OD} (q : a ρ fun r1 x => b r1 fun r2 y => o x y fun z => ∃ k, z = .bool k ∧ if k = true then c r2 (fun r3 w => o' y w (P r3)) else P r2 (.bool false)) : dChain o o' a b c ρ P := q
theorem s_catL (q : a ρ fun r1 x => b r1 fun r2 y => ∃ es fs, x = .list es ∧ y = .list fs ∧ es.length + fs.length ≤ sizeLine ∧ PA r2 (es ++ fs)) : dCatL a b ρ PA := q
theorem s_exLL {F : List D → List D → Prop} (q : F es fs) : ∃ k k', PyData.list es = .list k ∧ PyData.list fs = .list k' ∧ F k k' := ⟨es, fs, rfl, rfl, q⟩
/-! walks -/
theorem s_iL (q : a ρ fun r d => ∃ es, d = .list es ∧ PI r es) : iL a ρ PI := q
theorem s_iT (q : a ρ fun r d => ∃ es, d = .tuple es ∧ PI r es) : iT a ρ PI := q
/-! statements -/
theorem s_next (q : dn.nx ρ) : dNext dn ρ := q
theorem s_nx {f : Rho → Prop} {rt bk ct rm ro ex xw} (q : f ρ) : (DE.mk f rt bk ct rm ro ex xw).nx ρ := q
theorem s_rt {f : Rho → D → Prop} {nx bk ct rm ro ex xw} (q : f ρ d) : (DE.mk nx f bk ct rm ro ex xw).rt ρ d := q
theorem s_bk {f : Rho → Prop} {nx rt ct rm ro ex xw} (q : f ρ) : (DE.mk nx rt f ct rm ro ex xw).bk ρ := q
theorem s_ct {f : Rho → Prop} {nx rt bk rm ro ex xw} (q : f ρ) : (DE.mk nx rt bk f rm ro ex xw).ct ρ := q
theorem s_seq (q : s1 { nx := s2 dn, rt := dn.rt, bk := dn.bk, ct := dn.ct, rm := dn.rm, ro := dn.ro, ex := dn.ex, xw := dn.xw } ρ) : dSeq s1 s2 dn ρ := q
theorem s_ret (q : e ρ fun r d => dn.rt r d) : dRet e dn ρ := q
theorem s_drop (q : e ρ fun r _ => dn.nx r) : dDrop e dn ρ := q
theorem s_ifS (q : ct ρ fun r b => if b = true then s1 dn r else s2 dn r) : dIfS ct s1 s2 dn ρ := q
theorem s_asg {g : DG} (q : e ρ fun r d => g d r dn.nx) : dAsg e g dn ρ := q
theorem s_break (q : dn.bk ρ) : dBreak dn ρ := q
theorem s_cont (q : dn.ct ρ) : dCont dn ρ := q
theorem s_own (q : t ρ fun r es => i < r.length ∧ dn.nx (r.set i (.ls es))) : dOwn t i dn ρ := q
theorem s_lt_and {k k2 : Nat} (h : Nat.ble (k + 1) k2 = true) (q : A) : k < k2 ∧ A := ⟨Nat.le_of_ble_eq_true h, q⟩
theorem s_frz (h : ρ[i]? = some (.ls es)) (q : s1 dn (ρ.set i (.sh (.list es)))) : dFrz i s1 dn ρ := ⟨es, h, q⟩
theorem s_fgt {js : List Nat} (q : s1 dn (wipeR ρ js)) : dFgt js s1 dn ρ := q
theorem s_wipe0 {F : Rho → Prop} (q : F ρ) : F (wipeR ρ []) := q
theorem s_app (h : ρ[i]? = some (.ls fs)) (q : b ρ fun r d => ∃ es, r[i]? = some (.ls es) ∧ es.length < sizeLine ∧ dn.nx (r.set i (.ls (es ++ [d])))) : dApp i b dn ρ := ⟨⟨fs, h⟩, q⟩
theorem s_lenO (h : ρ[i]? = some (.ls es)) (q : P ρ (.int es.length)) : dLenO i ρ P := ⟨es, h, q⟩
theorem s_exls {F : List D → Prop} (h : r[i]? = some (.ls es)) (q : F es) : ∃ es, r[i]? = some (.ls es) ∧ F es := ⟨es, h, q⟩
theorem s_gname {F : Rho → Prop} (h : Nat.ble (i + 1) ρ.length = true) (q : F (ρ.set i (.sh d))) : dgName i d ρ F := ⟨Nat.le_of_ble_eq_true h, q⟩
theorem s_gtup {F : Rho → Prop} {gs : DGs} {k : Nat} (h : es.length = k) (q : gs es ρ F) : dgTup k gs (.tuple es) ρ F := ⟨es, rfl, h, q⟩
theorem s_gcons {F : Rho → Prop} {g : DG} {gs : DGs} (q : g d ρ fun ρ1 => gs es ρ1 F) : dgCons g gs (d :: es) ρ F := ⟨d, es, rfl, q⟩
theorem s_gnil {F : Rho → Prop} (q : F ρ) : dgNil [] ρ F := ⟨rfl, q⟩
theorem s_lc {di : TDI} {dg : DG} {dt : TDT} {de : TD} {js : List Nat} (q : di ρ fun ρ0 items => items.length ≤ sizeLine ∧ (∀ j ∈ js, ρ0[j]? = some .no) ∧ compW (compF dg dt de) js items ρ0 [] PA) : dLc di dg dt de js ρ PA := q
theorem s_iR1 (q : t ρ fun r es => ∃ j : Int, es = [.int j] ∧ -(2 ^ 62) ≤ j ∧ j < 2 ^ 62 ∧ PI r (rngD 0 j.toNat)) : iR1 t ρ PI := q
theorem s_ex1 {F : Int → Prop} (q : F x) : ∃ j : Int, [PyData.int x] = [.int j] ∧ F j := ⟨x, rfl, q⟩
theorem s_no1 {k : Nat} (h : r[k]? = some .no) (q : A) : (∀ j ∈ [k], r[j]? = some DV.no) ∧ A := ⟨fun j hj => by rw [List.mem_singleton.mp hj]; exact h, q⟩
theorem s_no2 {k k2 : Nat} (h : r[k]? = some .no) (h2 : r[k2]? = some .no) (q : A) : (∀ j ∈ [k, k2], r[j]? = some DV.no) ∧ A := ⟨fun j hj => by
  rcases List.mem_cons.mp hj with rfl | hj
  · exact h
  · rw [List.mem_singleton.mp hj]; exact h2, q⟩
theorem s_setI {k : TD} (q : b ρ fun r d => (∃ es, r[i]? = some (.ls es)) ∧ k r fun r2 z => ∃ es n j, r2[i]? = some (.ls es) ∧ z = .int n ∧ ixN es.length n = some j ∧ dn.nx (r2.set i (.ls (es.set j d)))) : dSetI i b k dn ρ := q
theorem s_lsAnd (h : r[i]? = some (.ls es)) (q : A) : (∃ es, r[i]? = some (.ls es)) ∧ A := ⟨⟨es, h⟩, q⟩
theorem s_nodl {p l : Addr} (h : r[i]? = some (.dl p l)) (q : A) : r[i]? = some (.dl p l) ∧ A := ⟨h, q⟩
theorem s_iN (q : t ρ fun r es => ∃ fs, es = [.tuple fs] ∧ PI r (numD fs)) : iN t ρ PI := q
theorem s_iZ (q : t ρ fun r es => ∃ fs gs, es = [.tuple fs, .tuple gs] ∧ PI r (zipD fs gs)) : iZ t ρ PI := q
theorem s_iZL (q : t ρ fun r es => ∃ fs gs, es = [.list fs, .list gs] ∧ PI r (zipD fs gs)) : iZL t ρ PI := q
theorem s_iNS (q : t ρ fun r es => ∃ fs, (es = [.list fs] ∨ es = [.tuple fs]) ∧ PI r (numD fs)) : iNS t ρ PI := q
theorem s_iS (q : a ρ fun r d => ∃ es, (d = .list es ∨ d = .tuple es) ∧ PI r es) : iS a ρ PI := q
theorem s_ex1T {F : List D → Prop} (q : F es) : ∃ fs, [PyData.tuple es] = [.tuple fs] ∧ F fs := ⟨es, rfl, q⟩
theorem s_ex1K {F : List D → Prop} {k : List Int} (q : F (k.map PyData.int)) : ∃ fs, [tupK k] = [.tuple fs] ∧ F fs := ⟨_, rfl, q⟩
theorem s_exK {F : List D → Prop} {k : List Int} (q : F (k.map PyData.int)) : ∃ fs, tupK k = .tuple fs ∧ F fs := ⟨_, rfl, q⟩
theorem s_ex2K {F : List D → List D → Prop} {k l : List Int} (q : F (k.map PyData.int) (l.map PyData.int)) : ∃ fs gs, [tupK k, tupK l] = [.tuple fs, .tuple gs] ∧ F fs gs := ⟨_, _, rfl, q⟩
theorem s_ex2T {F : List D → List D → Prop} (q : F es fs) : ∃ k l, [PyData.tuple es, .tuple fs] = [.tuple k, .tuple l] ∧ F k l := ⟨_, _, rfl, q⟩
theorem s_ex2L {F : List D → List D → Prop} (q : F es fs) : ∃ k l, [PyData.list es, .list fs] = [.list k, .list l] ∧ F k l := ⟨_, _, rfl, q⟩
theorem s_lenK {k : List Int} (q : Q (.int k.length)) : cLen [tupK k] Q := ⟨_, .inr rfl, by rw [List.length_map]; exact q⟩
theorem s_ixKz {k : List Int} (h : atI (k.map PyData.int) x = some d) (q : Q d) : oIxT (tupK k) (.int x) Q := ⟨_, x, d, rfl, rfl, h, q⟩
theorem s_compF {dg : DG} {dt : TDT} {de : TD} {k : Rho → Option D → Prop} (q : dg d ρ fun r1 => dt r1 fun r2 b => if b = true then de r2 (fun r3 y => k r3 (some y)) else k r2 none) : compF dg dt de d ρ k := q
theorem s_eqNil (h : SeqAt.shaped (.list es) = true) (q : Q (.bool es.isEmpty)) : oEq (.list es) (.list []) Q := ⟨h, rfl, by rw [eqv_lnil]; exact q⟩
theorem s_eqNilI {ks : List Int} (q : Q (.bool ks.isEmpty)) : oEq (.list (ks.map PyData.int)) (.list []) Q := ⟨sh_ints ks, rfl, by rw [eqv_nil]; exact q⟩
theorem s_mk {g : List D → Prop} (q : t ρ fun r es => i < r.length ∧ g es ∧ ∀ a l, dn.nx (r.set i (.dl a l))) : dMk g t i dn ρ := q
theorem s_catKT {k : List Int} (h : k.length + fs.length ≤ sizeLine) (q : Q (.tuple (k.map PyData.int ++ fs))) : oCatT (tupK k) (.tuple fs) Q := ⟨_, fs, rfl, rfl, by rw [List.length_map]; exact h, q⟩
theorem s_catTK {k : List Int} (h : es.length + k.length ≤ sizeLine) (q : Q (.tuple (es ++ k.map PyData.int))) : oCatT (.tuple es) (tupK k) Q := ⟨es, _, rfl, rfl, by rw [List.length_map]; exact h, q⟩
theorem s_repA (h : 0 < es.length ∧ es.length ≤ 1000 ∧ -1000 ≤ x ∧ x ≤ 1000) (q : Q (.tuple (List.replicate x.toNat es).flatten)) : oRepA (.tuple es) (.int x) Q := ⟨es, x, rfl, rfl, List.length_pos_iff.mp h.1, h.2.2.1, h.2.2.2, h.2.1, q⟩
theorem s_listK {QF : List D → Prop} {k : List Int} (q : QF (k.map PyData.int)) : cList [tupK k] QF := ⟨_, .inr rfl, q⟩
theorem s_dict1 {k : TD} (q : k ρ fun r y => b r fun r2 d => i < r2.length ∧ ∃ ks : List Int, y = .tuple (ks.map PyData.int) ∧ ∀ p zs, zs.map Ent.kv = [(ks, d)] → dn.nx (r2.set i (.dt p zs))) : dDict1 i k b dn ρ := q
theorem s_setX {k : TD} (q : b ρ fun r d => (∃ p zs, r[i]? = some (.dt p zs)) ∧ k r fun r2 y => ∃ p zs ks, r2[i]? = some (.dt p zs) ∧ y = .tuple (ks.map PyData.int) ∧ zs.length < sizeLine ∧ ∀ zs', zs'.map Ent.kv = putD (zs.map Ent.kv) ks d → dn.nx (r2.set i (.dt p zs'))) : dSetX i b k dn ρ := q
theorem s_newX (h : Nat.ble (i + 1) ρ.length = true) (q : ∀ p, dn.nx (ρ.set i (.dt p []))) : dNewX i dn ρ := ⟨Nat.le_of_ble_eq_true h, q⟩
theorem s_callT {g : CT} (q : e ρ fun r d => ∃ p zs, r[i]? = some (.dt p zs) ∧ g d (zs.map Ent.kv) (P r)) : dCallT i g e ρ P := q
theorem s_getX {k : TD} (q : (∃ p zs, ρ[i]? = some (.dt p zs)) ∧ k ρ fun r y => b r fun r2 d => ∃ p zs ks, r2[i]? = some (.dt p zs) ∧ y = .tuple (ks.map PyData.int) ∧ P r2 ((lookD (zs.map Ent.kv) ks).getD d)) : dGetX i k b ρ P := q
theorem s_ixX (q : (∃ p zs, ρ[i]? = some (.dt p zs)) ∧ b ρ fun r y => ∃ p zs k d, r[i]? = some (.dt p zs) ∧ y = .tuple (k.map PyData.int) ∧ lookD (zs.map Ent.kv) k = some d ∧ P r d) : dIxX i b ρ P := q
theorem s_dtAnd {p : Addr} {zs : List Ent} (h : r[i]? = some (.dt p zs)) (q : A) : (∃ p zs, r[i]? = some (.dt p zs)) ∧ A := ⟨⟨p, zs, h⟩, q⟩
theorem s_exdt {F : Addr → List Ent → Prop} {p : Addr} {zs : List Ent} (h : r[i]? = some (.dt p zs)) (q : F p zs) : ∃ p zs, r[i]? = some (.dt p zs) ∧ F p zs := ⟨p, zs, h, q⟩
theorem s_exdtK {F : Addr → List Ent → List Int → Prop} {p : Addr} {zs : List Ent} {k : List Int} (h : r[i]? = some (.dt p zs)) (q : F p zs k) : ∃ p zs ks, r[i]? = some (.dt p zs) ∧ tupK k = .tuple (ks.map PyData.int) ∧ F p zs ks := ⟨p, zs, k, h, rfl, q⟩
theorem s_exdtT {F : Addr → List Ent → List Int → Prop} {p : Addr} {zs : List Ent} {k : List Int} (h : r[i]? = some (.dt p zs)) (q : F p zs k) : ∃ p zs ks, r[i]? = some (.dt p zs) ∧ PyData.tuple (k.map PyData.int) = .tuple (ks.map PyData.int) ∧ F p zs ks := ⟨p, zs, k, h, rfl, q⟩
theorem s_rg (h : -1000000 ≤ x ∧ x ≤ 1000000) (q : A) : -2 ^ 62 ≤ x ∧ x < 2 ^ 62 ∧ A := ⟨by omega, by omega, q⟩
theorem s_rlen {k : Int} {m : Nat} (h : m ≤ 1000000) (q : A) : (rngD k m).length ≤ sizeLine ∧ A := ⟨by rw [rngD_len, sizeLine_eq]; omega, q⟩
theorem s_for {di : TDI} {dg : DG} (q : di ρ fun ρ0 items => ∃ I : Nat → Rho → Prop, I 0 ρ0 ∧ (∀ i d r, items[i]? = some d → I i r → dg d r fun r1 => s1 { nx := I (i + 1), rt := dn.rt, bk := dn.nx, ct := I (i + 1), rm := dn.rm, ro := dn.ro, ex := dn.ex, xw := dn.xw } r1) ∧ ∀ r, I items.length r → dn.nx r) : dFor di dg s1 dn ρ := q
end
theorem wide_s {i j : Int} (h : i.natAbs < 1000000) (h2 : j.natAbs < 1000000) : CMulW i j := wide_mul (a := 20) (b := 20) (by omega) (by omega) (by decide) (by decide) (by decide)
theorem s_sumI {ns : List Int} {Q : D → Prop} (q : Q (.int ns.sum)) : cSum [.list (ns.map PyData.int)] Q := ⟨ns, rfl, q⟩
/-- enumerate over ints -/
theorem numD_ints (b : List Int) : numD (b.map PyData.int) = (List.range b.length).map fun (i : Nat) => .tuple [.int (i : Int), .int (b.getD i 0)] := by
  unfold numD
  rw [List.length_map]
  refine List.map_congr_left fun i hi => ?_
  have h := List.mem_range.mp hi
  rw [List.getD_eq_getElem?_getD, List.getD_eq_getElem?_getD, List.getElem?_map, List.getElem?_eq_getElem h]
  rfl
theorem atI_int {k : List Int} {i : Nat} (h : i < k.length) : atI (k.map PyData.int) (i : Int) = some (.int (k.getD i 0)) := by
  rw [List.getD_eq_getElem?_getD, List.getElem?_eq_getElem h]
  exact atI_nat (by rw [List.getElem?_map, List.getElem?_eq_getElem h]; rfl)
theorem getD_mem {k : List Int} {i : Nat} (h : i < k.length) : k.getD i 0 ∈ k := by
  rw [List.getD_eq_getElem?_getD, List.getElem?_eq_getElem h]
  exact List.getElem_mem h
theorem rowF_range : ∀ {a b : List Int}, a.length = b.length → (List.range b.length).map (fun i => a.getD i 0 * b.getD i 0) = (a.zip b).map fun q => q.1 * q.2
  | [], [], _ => rfl
  | x :: a, y :: b, h => by
    rw [List.length_cons, List.range_succ_eq_map, List.map_cons, List.map_map, List.zip_cons_cons, List.map_cons, ← rowF_range (a := a) (b := b) (Nat.succ.inj h)]
    rfl
  | [], _ :: _, h => by cases h
  | _ :: _, [], h => by cases h
end LD

/-! LD56: choices' elements; small things' shapes. -/
namespace LD
open PySem PySem.Spec L2
theorem foldR_mem : ∀ (rs : List (List Int)) (cs : List (List Int)) (S : Int → Prop), (∀ c ∈ cs, ∀ x ∈ c, S x) → (∀ r ∈ rs, ∀ x ∈ r, S x) → ∀ c ∈ rs.foldl stepR cs, ∀ x ∈ c, S x
  | [], cs, S, h, _, c, hc, x, hx => h c hc x hx
  | r :: rs, cs, S, h, hr, c, hc, x, hx => by
    refine foldR_mem rs (stepR cs r) S (fun d hd y hy => ?_) (fun r' h' => hr r' (List.mem_cons_of_mem _ h')) c hc x hx
    obtain ⟨e, he, hd⟩ := List.mem_flatMap.mp hd
    obtain ⟨z, hz, rfl⟩ := List.mem_map.mp hd
    rcases List.mem_append.mp hy with h1 | h1
    · exact h e he y h1
    · obtain rfl : y = z := List.mem_singleton.mp h1
      exact hr r List.mem_cons_self y hz
/-- what stands in a choice stands in a row -/
theorem chL_mem {rs : List (List Int)} {S : Int → Prop} (h : ∀ r ∈ rs, ∀ x ∈ r, S x) {c : List Int} (hc : c ∈ chL rs) : ∀ x ∈ c, S x := foldR_mem rs [[]] S (fun c hc x hx => by rw [List.mem_singleton.mp hc] at hx; cases hx) h c hc
theorem chL_len2 {rs : List (List Int)} {c : List Int} (hc : c ∈ chL rs) : c.length = rs.length := by
  have := foldR_len2 rs [[]] 0 (fun d hd => by rw [List.mem_singleton.mp hd]; rfl) c hc
  omega
/-- leaves and depth alone -/
structure Sm (M k : Nat) (d : D) : Prop where
  lv : lvs M d = true
  dp : d.depth ≤ k
theorem Sm.shp {M k : Nat} {d : D} (h : Sm M k d) (h1 : M ≤ 999999999999) (h3 : k ≤ 60) : SeqAt.shaped d = true := (Nt.mk (b := d.bulk) h.lv (Nat.le_refl _) h.dp).shp h1 h3
theorem sm_all {M k : Nat} {ds : List D} (h : ∀ d ∈ ds, Sm M k d) : NtL M (PyData.bulkAll ds) k ds := by
  obtain ⟨h1, h2⟩ := ntL_all.mpr fun d hd => ⟨(h d hd).lv, (h d hd).dp⟩
  exact ⟨h1, Nat.le_refl _, h2⟩
theorem Sm.of {M b k : Nat} {d : D} (h : Nt M b k d) : Sm M k d := ⟨h.lv, h.dp⟩
theorem sm_tup {M k : Nat} {ds : List D} (h : ∀ d ∈ ds, Sm M k d) : Sm M (k + 1) (.tuple ds) := .of (sm_all h).tup
theorem sm_lst {M k : Nat} {ds : List D} (h : ∀ d ∈ ds, Sm M k d) : Sm M (k + 1) (.list ds) := .of (sm_all h).lst
theorem sm_int {M k : Nat} {i : Int} (h : i.natAbs ≤ M) : Sm M k (.int i) := .of (nt_int (b := 0) h)
theorem sm_bool {M k : Nat} {i : Bool} : Sm M k (.bool i) := .of (nt_bool (b := 0))
theorem sm_none {M k : Nat} : Sm M k .none := .of (nt_none (b := 0))
theorem sm_tupK {M k : Nat} {a : List Int} (h : ∀ x ∈ a, x.natAbs ≤ M) : Sm M (k + 1) (tupK a) := sm_tup fun d hd => by
  obtain ⟨x, hx, rfl⟩ := List.mem_map.mp hd
  exact sm_int (h x hx)
theorem Sm.mono {M N k j : Nat} {d : D} (h : Sm M k d) (h1 : M ≤ N) (h2 : k ≤ j) : Sm N j d := ⟨lvs_mono h1 d h.lv, Nat.le_trans h.dp h2⟩
theorem s_eqSm {a b : D} {Q : D → Prop} {M k : Nat} (h : Sm M k a) (h2 : Sm M k b) (hM : M ≤ 999999999999) (hk : k ≤ 60) (q : Q (.bool (PyData.eqv a b))) : oEq a b Q := ⟨h.shp hM hk, h2.shp hM hk, q⟩
theorem s_neSm {a b : D} {Q : D → Prop} {M k : Nat} (h : Sm M k a) (h2 : Sm M k b) (hM : M ≤ 999999999999) (hk : k ≤ 60) (q : Q (.bool (!PyData.eqv a b))) : oNe a b Q := ⟨h.shp hM hk, h2.shp hM hk, q⟩
theorem filt_empty {α : Type} (f : α → D) (p : α → Bool) : ∀ l : List α, ((l.filter p).map f).isEmpty = !(l.any p)
  | [] => rfl
  | x :: l => by
    rw [List.filter_cons, List.any_cons]
    cases h : p x with
    | true => rfl
    | false => rw [if_neg (by decide), Bool.false_or]; exact filt_empty f p l
theorem onlyF_len {n i : Nat} (hi : i < n) : (onlyF n i 1).length = n := by
  unfold onlyF
  simp only [List.length_append, List.length_replicate, List.length_cons, List.length_nil]
  omega
theorem onlyF_map {n at_ : Int} (h0 : 0 ≤ at_) (h1 : at_ < n) : onlyF n at_ 1 = (List.range n.toNat).map fun (i : Nat) => if (i : Int) = at_ then 1 else 0 := by
  obtain ⟨m, rfl⟩ : ∃ m : Nat, n = (m : Int) := ⟨n.toNat, by omega⟩
  obtain ⟨i, rfl⟩ : ∃ i : Nat, at_ = (i : Int) := ⟨at_.toNat, by omega⟩
  have hi : i < m := by omega
  have hl := onlyF_len hi
  refine List.ext_getElem (by rw [hl, List.length_map, List.length_range]; rfl) fun j h1 h2 => ?_
  have hj : j < m := by rw [hl] at h1; exact h1
  have := onlyF_at hi hj
  rw [List.getD_eq_getElem?_getD, List.getElem?_eq_getElem h1] at this
  rw [List.getElem_map, List.getElem_range]
  rw [show (onlyF (m : Int) (i : Int) 1)[j] = if j = i then 1 else 0 from this]
  by_cases h : j = i
  · rw [if_pos h, if_pos (by omega)]
  · rw [if_neg h, if_neg (by omega)]
end LD

/-! LD57: what sums of terms come to. -/
namespace LD
open PySem PySem.Spec L2
theorem dvd_add' {p a b : Int} (h : p ∣ a) (k : p ∣ b) : p ∣ a + b := Int.dvd_add h k
theorem elemF_cong {p a b : Int} (h : p ∣ a - b) : elemF p a = elemF p b := elemF_dvd.mpr h
theorem elemF_add (p a b : Int) : elemF p (elemF p a + b) = elemF p (a + b) := elemF_cong (by
  have := elemF_self p a
  rw [show elemF p a + b - (a + b) = elemF p a - a by omega]
  exact this)
theorem worE_fold (p : Int) (xs : List Int) : ∀ (ts : List TmI) (a : Int), ts.foldl (fun tot t => elemF p (tot + t.2 * monE p t.1 xs)) (elemF p a) = elemF p (a + (ts.map fun t => t.2 * monE p t.1 xs).sum)
  | [], a => by rw [List.map_nil, List.sum_nil, Int.add_zero]; rfl
  | t :: ts, a => by
    rw [List.foldl_cons, elemF_add, worE_fold p xs ts, List.map_cons, List.sum_cons, Int.add_assoc]
theorem worE_sum (p : Int) (ts : List TmI) (xs : List Int) : worE p ts xs = elemF p ((ts.map fun t => t.2 * monE p t.1 xs).sum) := by
  have h := worE_fold p xs ts 0
  have e : elemF p 0 = 0 := by unfold elemF; split <;> simp
  rw [e, Int.zero_add] at h
  exact h
theorem sum_perm {l m : List Int} (h : l.Perm m) : l.sum = m.sum := by
  induction h with
  | nil => rfl
  | cons x _ ih => rw [List.sum_cons, List.sum_cons, ih]
  | swap x y l => rw [List.sum_cons, List.sum_cons, List.sum_cons, List.sum_cons]; omega
  | trans _ _ h1 h2 => rw [h1, h2]
theorem red_sum (p : Int) (m : List Int → Int) : ∀ kis : List TmI, p ∣ ((redF p kis).map fun t => t.2 * m t.1).sum - (kis.map fun t => t.2 * m t.1).sum
  | [] => by exact ⟨0, by rw [Int.mul_zero]; rfl⟩
  | z :: kis => by
    have ih := red_sum p m kis
    have h := elemF_self p z.2
    unfold redF at ih ⊢
    rw [List.filterMap_cons, List.map_cons, List.sum_cons]
    by_cases h0 : elemF p z.2 = 0
    · have e : redO p z = none := by unfold redO; rw [if_pos h0]
      rw [e]
      rw [h0] at h
      have h2 : p ∣ -(z.2 * m z.1) := by
        rw [show -(z.2 * m z.1) = (0 - z.2) * m z.1 by rw [Int.zero_sub, Int.neg_mul]]
        exact Int.dvd_trans h (Int.dvd_mul_right _ _)
      have := Int.dvd_add ih h2
      rw [show ∀ A B C : Int, A - (B + C) = A - C + -B by intros; omega]
      exact this
    · have e : redO p z = some (z.1, elemF p z.2) := by unfold redO; rw [if_neg h0]
      rw [e]
      show p ∣ (((z.1, elemF p z.2) :: kis.filterMap (redO p)).map (fun t => t.2 * m t.1)).sum - (z.2 * m z.1 + _)
      rw [List.map_cons, List.sum_cons]
      have h2 : p ∣ elemF p z.2 * m z.1 - z.2 * m z.1 := by
        rw [← Int.sub_mul]
        exact Int.dvd_trans h (Int.dvd_mul_right _ _)
      have := Int.dvd_add ih h2
      rw [show ∀ A B C E : Int, A + B - (C + E) = B - E + (A - C) by intros; omega]
      exact this
/-- a term's worth without division -/
def monZ (es xs : List Int) : Int := prodI ((es.zip xs).map fun q => q.2 ^ q.1.toNat)
theorem mul_cong {p a b c d : Int} (h : p ∣ a - b) (k : p ∣ c - d) : p ∣ a * c - b * d := by
  have h1 : p ∣ (a - b) * c := Int.dvd_trans h (Int.dvd_mul_right _ _)
  have h2 : p ∣ b * (c - d) := Int.dvd_trans k (Int.dvd_mul_left _ _)
  have := Int.dvd_add h1 h2
  rw [Int.sub_mul, Int.mul_sub] at this
  rw [show a * c - b * d = a * c - b * c + (b * c - b * d) by omega]
  exact this
theorem prod_cong {p : Int} {α : Type} (f g : α → Int) : ∀ l : List α, (∀ x ∈ l, p ∣ f x - g x) → p ∣ prodI (l.map f) - prodI (l.map g)
  | [], _ => ⟨0, by rw [Int.mul_zero]; exact Int.sub_self _⟩
  | x :: l, h => mul_cong (h x List.mem_cons_self) (prod_cong f g l fun y hy => h y (List.mem_cons_of_mem _ hy))
theorem monE_dvd (p : Int) (es xs : List Int) : p ∣ monE p es xs - monZ es xs := prod_cong _ _ _ fun q _ => powE_dvd p q.2 q.1.toNat
theorem sum_cong {p : Int} {α : Type} (f g : α → Int) : ∀ l : List α, (∀ x ∈ l, p ∣ f x - g x) → p ∣ (l.map f).sum - (l.map g).sum
  | [], _ => ⟨0, by rw [Int.mul_zero]; rfl⟩
  | x :: l, h => by
    have := Int.dvd_add (h x List.mem_cons_self) (sum_cong f g l fun y hy => h y (List.mem_cons_of_mem _ hy))
    rw [List.map_cons, List.map_cons, List.sum_cons, List.sum_cons, show ∀ A B C E : Int, A + B - (C + E) = A - C + (B - E) by intros; omega]
    exact this
/-- the worth of a small sum is what its terms come to -/
theorem worE_small (p : Int) (kis : List TmI) (xs : List Int) : worE p (smallF p kis) xs = elemF p ((kis.map fun t => t.2 * monZ t.1 xs).sum) := by
  rw [worE_sum]
  refine elemF_cong ?_
  have e1 : ((smallF p kis).map fun t => t.2 * monE p t.1 xs).sum = ((redF p kis).map fun t => t.2 * monE p t.1 xs).sum := sum_perm ((List.mergeSort_perm _ _).map _)
  rw [e1]
  have h1 := red_sum p (fun es => monE p es xs) kis
  have h2 : p ∣ (kis.map fun t => t.2 * monE p t.1 xs).sum - (kis.map fun t => t.2 * monZ t.1 xs).sum := sum_cong _ _ _ fun t _ => by
    rw [← Int.mul_sub]
    exact Int.dvd_trans (monE_dvd p t.1 xs) (Int.dvd_mul_left _ _)
  have := Int.dvd_add h1 h2
  rw [show ∀ A B C : Int, A - B + (B - C) = A - C by intros; omega] at this
  exact this
theorem prodI_ones {l : List Int} (h : ∀ x ∈ l, x = 1) : prodI l = 1 := by
  induction l with
  | nil => rfl
  | cons x l ih =>
    show x * prodI l = 1
    rw [h x List.mem_cons_self, ih fun y hy => h y (List.mem_cons_of_mem _ hy)]
    rfl
theorem monZ_zeros (n : Nat) (xs : List Int) : monZ (List.replicate n 0) xs = 1 := prodI_ones fun x hx => by
  obtain ⟨q, hq, rfl⟩ := List.mem_map.mp hx
  have := List.eq_of_mem_replicate (List.of_mem_zip (a := q.1) (b := q.2) hq).1
  rw [this]
  exact Int.pow_zero _
theorem monZ_cons (e x : Int) (es xs : List Int) : monZ (e :: es) (x :: xs) = x ^ e.toNat * monZ es xs := rfl
theorem onlyF_zero (n : Nat) : onlyF (n + 1 : Nat) (0 : Nat) 1 = 1 :: List.replicate n 0 := by
  unfold onlyF
  rw [show ((n + 1 : Nat) : Int) - ((0 : Nat) : Int) - 1 = (n : Int) by omega]
  rfl
theorem onlyF_succ (n i : Nat) : onlyF (n + 1 : Nat) (i + 1 : Nat) 1 = 0 :: onlyF (n : Nat) (i : Nat) 1 := by
  unfold onlyF
  rw [show ((n + 1 : Nat) : Int) - ((i + 1 : Nat) : Int) - 1 = (n : Int) - (i : Int) - 1 by omega]
  rfl
theorem monZ_only : ∀ (n i : Nat) (xs : List Int), i < n → xs.length = n → monZ (onlyF n i 1) xs = xs.getD i 0
  | n + 1, 0, x :: xs, _, h => by
    rw [onlyF_zero, monZ_cons, monZ_zeros, Int.mul_one]
    exact Int.pow_succ x 0 |>.trans (by rw [Int.pow_zero, Int.one_mul]; rfl)
  | n + 1, i + 1, x :: xs, hi, h => by
    rw [onlyF_succ, monZ_cons, monZ_only n i xs (by omega) (Nat.succ.inj h)]
    show x ^ 0 * _ = _
    rw [Int.pow_zero, Int.one_mul]
    rfl
  | _ + 1, _, [], _, h => by cases h
end LD

/-! LD58: texts of rows and of sums of terms. -/
namespace LD
open PySem PySem.Spec L2
theorem nt_tupK {M : Nat} {k : List Int} (h : ∀ x ∈ k, x.natAbs ≤ M) : Nt M k.length 1 (tupK k) := (ntL_ints h).tup
theorem ntL_lots {M b k : Nat} : ∀ {ds : List D}, (∀ d ∈ ds, Nt M b k d) → NtL M (ds.length * (b + 1)) k ds
  | [], _ => ntL_nil
  | d :: ds, h => (ntL_cons (h d List.mem_cons_self) (ntL_lots fun e he => h e (List.mem_cons_of_mem _ he))).mono (Nat.le_refl _) (by rw [List.length_cons, Nat.add_mul, Nat.one_mul, Nat.add_comm]; exact Nat.le_refl _) (Nat.le_refl _)
theorem ntL_rows {M m : Nat} {rs : List (List Int)} (h : ∀ r ∈ rs, r.length ≤ m ∧ ∀ x ∈ r, x.natAbs ≤ M) : NtL M (rs.length * (m + 1)) 1 (rs.map tupK) := by
  have := ntL_lots (M := M) (b := m) (k := 1) (ds := rs.map tupK) fun d hd => by
    obtain ⟨r, hr, rfl⟩ := List.mem_map.mp hd
    exact (nt_tupK (h r hr).2).mono (Nat.le_refl _) (h r hr).1 (Nat.le_refl _)
  rwa [List.length_map] at this
theorem rep_rows {M m : Nat} {rs : List (List Int)} (hM : M ≤ 999999999999) (h : ∀ r ∈ rs, r.length ≤ m ∧ ∀ x ∈ r, x.natAbs ≤ M) (hb : rs.length * (m + 1) ≤ 1000000) : RepOk (.tuple (rs.map tupK)) := (ntL_rows h).tup.rep hM hb (by decide)
theorem nt_term {M m : Nat} {t : TmI} (h : t.1.length ≤ m ∧ (∀ x ∈ t.1, x.natAbs ≤ M) ∧ t.2.natAbs ≤ M) : Nt M (m + 2) 2 (termD t) := by
  have h1 := (nt_tupK (M := M) h.2.1).mono (Nat.le_refl _) h.1 (Nat.le_refl 1)
  have h2 : Nt M 0 1 (PyData.int t.2) := nt_int h.2.2
  exact ((ntL_cons h1 (ntL_cons h2 (ntL_nil (b := 0)))).tup).mono (Nat.le_refl _) (by omega) (Nat.le_refl _)
theorem ntL_terms {M m : Nat} {ts : List TmI} (h : ∀ t ∈ ts, t.1.length ≤ m ∧ (∀ x ∈ t.1, x.natAbs ≤ M) ∧ t.2.natAbs ≤ M) : NtL M (ts.length * (m + 3)) 2 (ts.map termD) := by
  have := ntL_lots (M := M) (b := m + 2) (k := 2) (ds := ts.map termD) fun d hd => by
    obtain ⟨t, ht, rfl⟩ := List.mem_map.mp hd
    exact nt_term (h t ht)
  rwa [List.length_map] at this
theorem rep_terms {M m : Nat} {ts : List TmI} (hM : M ≤ 999999999999) (h : ∀ t ∈ ts, t.1.length ≤ m ∧ (∀ x ∈ t.1, x.natAbs ≤ M) ∧ t.2.natAbs ≤ M) (hb : ts.length * (m + 3) ≤ 1000000) : RepOk (.tuple (ts.map termD)) := (ntL_terms h).tup.rep hM hb (by decide)
theorem s_repr {d : D} {Q : D → Prop} (h : RepOk d) (q : Q (.str d.shown)) : cReprD [d] Q := ⟨d, rfl, h.show_, h.flat, h.deep, h.len, q⟩
theorem s_ifne {x : Str} {A B : Prop} (q : B) : if (!decide (x = x)) = true then A else B := by simpa using q
theorem s_ifeq {x : Str} {A B : Prop} (q : A) : if decide (x = x) = true then A else B := by simpa using q
theorem s_ifnb {A B : Prop} (q : B) : if (!decide (true = true)) = true then A else B := by simpa using q
theorem s_ifnb2 {A B : Prop} (q : B) : if (!decide (false = false)) = true then A else B := by simpa using q
theorem rep_bool {b : Bool} : RepOk (.bool b) := (nt_bool (M := 0) (b := 0) (k := 0)).rep (by decide) (by decide) (by decide)
theorem s_neBl {k k2 : Bool} {Q : D → Prop} (q : Q (.bool (!decide (k = k2)))) : oNe (.bool k) (.bool k2) Q := ⟨rfl, rfl, by
  rw [eqv_bool]
  have e : (k == k2) = decide (k = k2) := by cases k <;> cases k2 <;> rfl
  rw [e]
  exact q⟩
theorem s_eqBl {k k2 : Bool} {Q : D → Prop} (q : Q (.bool (decide (k = k2)))) : oEq (.bool k) (.bool k2) Q := ⟨rfl, rfl, by
  rw [eqv_bool]
  have e : (k == k2) = decide (k = k2) := by cases k <;> cases k2 <;> rfl
  rw [e]
  exact q⟩
theorem s_ifneB {k : Bool} {A B : Prop} (q : B) : if (!decide (k = k)) = true then A else B := by simpa using q
theorem s_ifeqB {k : Bool} {A B : Prop} (q : A) : if decide (k = k) = true then A else B := by simpa using q
theorem prodN_m {m : Nat} : ∀ {l : List Nat}, (∀ x ∈ l, x ≤ m) → prodN l ≤ m ^ l.length
  | [], _ => Nat.le_refl _
  | x :: l, h => by
    show x * prodN l ≤ m ^ (l.length + 1)
    rw [Nat.pow_succ, Nat.mul_comm (m ^ l.length)]
    exact Nat.mul_le_mul (h x List.mem_cons_self) (prodN_m fun y hy => h y (List.mem_cons_of_mem _ hy))
theorem cnt_le {rs : List (List Int)} {m k : Nat} (h : ∀ r ∈ rs, r.length ≤ m) (hm : 0 < m) (hk : rs.length ≤ k) : cntR rs ≤ m ^ k := by
  refine Nat.le_trans (prodN_m (l := rs.map List.length) (m := m) fun x hx => ?_) ?_
  · obtain ⟨r, hr, rfl⟩ := List.mem_map.mp hx
    exact h r hr
  · rw [List.length_map]
    exact Nat.pow_le_pow_right hm hk
theorem s_tg1 {a : TD} {ρ : Rho} {P : Rho → D → Prop} (q : a ρ fun r d => ∃ n, d = .int n ∧ RgOk 0 n ∧ P r (.tuple (rngD 0 n.toNat))) : dTg1 a ρ P := q
theorem s_lam {i : Nat} {T C : Addr} {z : Str} {u : TDY} {ρ : Rho} {P : Rho → D → Prop} (h : ρ[i]? = some (.tab T z)) (q : u ρ P (fun r C' x => C' = C ∧ P r (.list [x]))) : dLam i T z C u ρ P := ⟨h, q⟩
theorem s_callY {g : CR} {t : TDA} {ρ : Rho} {P : Rho → D → Prop} {E : Rho → Addr → D → Prop} (q : t ρ fun r es => g es (fun d => P r d) (fun C x => E r C x)) : dCallY g t ρ P E := q
theorem s_callYK {g : CR} {n m : Nat} {o : List Nat} {t : TDA} {ρ : Rho} {P : Rho → D → Prop} {E : Rho → Addr → D → Prop} (q : t ρ fun r es => g (ordP n m o [] es) (fun d => P r d) (fun C x => E r C x)) : dCallYK n m o g t ρ P E := q
theorem eqv_shp {d : D} (h : SeqAt.shaped d = true) : PyData.eqv d d = true := SeqAt.eqv_refl d (SeqAt.canLay_of_shaped h)
theorem s_eqSame {M k : Nat} {d : D} {Q : D → Prop} (h : Sm M k d) (hM : M ≤ 999999999999) (hk : k ≤ 60) (q : Q (.bool true)) : oEq d d Q := ⟨h.shp hM hk, h.shp hM hk, by rw [eqv_shp (h.shp hM hk)]; exact q⟩
theorem sm_rows {M : Nat} {rs : List (List Int)} (h : ∀ r ∈ rs, ∀ x ∈ r, x.natAbs ≤ M) : Sm M 2 (.tuple (rs.map tupK)) := sm_tup fun d hd => by
  obtain ⟨r, hr, rfl⟩ := List.mem_map.mp hd
  exact sm_tupK (h r hr)
theorem small_mem {p : Int} {kis : List TmI} {t : TmI} (h : t ∈ smallF p kis) : ∃ z ∈ kis, t.1 = z.1 ∧ t.2 = elemF p z.2 := by
  have h1 := (List.mergeSort_perm _ _).mem_iff.mp h
  obtain ⟨z, hz, e⟩ := List.mem_filterMap.mp h1
  unfold redO at e
  split at e
  · cases e
  · cases e; exact ⟨z, hz, rfl, rfl⟩
theorem small_len (p : Int) (kis : List TmI) : (smallF p kis).length ≤ kis.length := by
  rw [show (smallF p kis).length = (redF p kis).length from (List.mergeSort_perm _ _).length_eq]
  exact red_len p kis
theorem elemF_small {p n : Int} {M : Nat} (hp : 0 ≤ p) (hp2 : p ≤ M) (h : n.natAbs ≤ M) : (elemF p n).natAbs ≤ M := by
  unfold elemF
  split
  · exact h
  · have h1 := Int.emod_nonneg n (show p ≠ 0 by assumption)
    have h2 := Int.emod_lt_of_pos n (show 0 < p by omega)
    omega
theorem tabIn_of {K : PySem.W.Frag} {x : Str} {f c T : Addr} {oc e : Value} {od d : Option Addr} {sl s2 : Array (Option Value)} {fd : FuncData} {vs : Array Value} (a : PySem.W.nsIn K mainGlobals x = some (some (.ref f))) (l : K.lookup f = some ⟨oc, od, .func fd, sl⟩) (hc : fd.code = .ref c) (tc : K.lookup c = some ⟨e, d, .fields vs, s2⟩) (h : vs[11]? = some (.ref T)) : PySem.W.tabIn K x = some (c, T) := by
  unfold PySem.W.tabIn
  rw [a]
  simp only [l, hc, tc, h]
end LD

/-! LD59: how few places a polynomial of a degree can leave (Alon and Füredi), for any domain of integers modulo p. -/
namespace LD
open PySem PySem.Spec L2
/-- no product is 0 but with a factor 0 -/
structure Dom (p : Int) : Prop where
  or_ : ∀ a b : Int, p ∣ a * b → p ∣ a ∨ p ∣ b
theorem dom_zero : Dom 0 := ⟨fun a b h => by
  rw [Int.zero_dvd] at h ⊢
  rw [Int.zero_dvd]
  exact Int.mul_eq_zero.mp h⟩
theorem dom_of {m : Nat} (hm : 0 < m) (h : ∀ r < m, ∀ s < m, (r * s) % m = 0 → r = 0 ∨ s = 0) : Dom (m : Int) := ⟨fun a b hd => by
  have e := Int.emod_eq_zero_of_dvd hd
  rw [Int.mul_emod] at e
  have a0 := Int.emod_nonneg a (show (m : Int) ≠ 0 by omega)
  have a1 := Int.emod_lt_of_pos a (show (0 : Int) < m by omega)
  have b0 := Int.emod_nonneg b (show (m : Int) ≠ 0 by omega)
  have b1 := Int.emod_lt_of_pos b (show (0 : Int) < m by omega)
  obtain ⟨r, hr⟩ := Int.eq_ofNat_of_zero_le a0
  obtain ⟨s, hs⟩ := Int.eq_ofNat_of_zero_le b0
  rw [hr, hs] at e
  have e' : (r * s) % m = 0 := by
    have : (((r * s) % m : Nat) : Int) = 0 := by rw [Int.natCast_emod, Int.natCast_mul]; exact e
    omega
  rcases h r (by omega) s (by omega) e' with z | z
  · left; exact Int.dvd_of_emod_eq_zero (by rw [hr, z]; rfl)
  · right; exact Int.dvd_of_emod_eq_zero (by rw [hs, z]; rfl)⟩
theorem dom_fields : ∀ p ∈ fieldsL, Dom p := fun p hp => by
  simp only [fieldsL, List.mem_cons, List.not_mem_nil, or_false] at hp
  rcases hp with rfl | rfl | rfl | rfl | rfl | rfl
  · exact dom_zero
  · exact dom_of (m := 2) (by decide) (by decide)
  · exact dom_of (m := 3) (by decide) (by decide)
  · exact dom_of (m := 5) (by decide) (by decide)
  · exact dom_of (m := 7) (by decide) (by decide +kernel)
  · exact dom_of (m := 11) (by decide) (by decide +kernel)
abbrev Fn := List Int → Int
def hd0 : List Int → Int
  | [] => 0
  | x :: _ => x
/-- f is, modulo p, a polynomial of n unknowns of degree at most d -/
inductive Dgr (p : Int) : Nat → Nat → Fn → Prop where
  | const (d : Nat) (f : Fn) : Dgr p 0 d f
  | base {n d : Nat} {g : Fn} : Dgr p n d g → Dgr p (n + 1) d (fun v => g v.tail)
  | step {n d : Nat} {g : Fn} : Dgr p (n + 1) d g → Dgr p (n + 1) (d + 1) (fun v => hd0 v * g v)
  | add {n d : Nat} {f g : Fn} : Dgr p n d f → Dgr p n d g → Dgr p n d (fun v => f v + g v)
  | smul {n d : Nat} {f : Fn} (c : Int) : Dgr p n d f → Dgr p n d (fun v => c * f v)
  | cong {n d : Nat} {f g : Fn} : Dgr p n d f → (∀ v, v.length = n → p ∣ g v - f v) → Dgr p n d g
  | mono {n d e : Nat} {f : Fn} : Dgr p n d f → d ≤ e → Dgr p n e f
theorem dgr_one (p : Int) : ∀ n, Dgr p n 0 (fun _ => 1)
  | 0 => .const 0 _
  | n + 1 => (dgr_one p n).base
theorem dgr_zero (p : Int) (n d : Nat) : Dgr p n d (fun _ => 0) := (((dgr_one p n).smul 0).mono (Nat.zero_le d)).cong fun v _ => by simp
/-- one unknown put in -/
theorem Dgr.at_ {p : Int} (a : Int) {m d : Nat} {f : Fn} (h : Dgr p m d f) : ∀ n, m = n + 1 → Dgr p n d (fun y => f (a :: y)) := by
  induction h with
  | const d f => intro n e; cases e
  | @base n d g h _ => intro k e; cases e; exact h
  | @step n d g h ih => intro k e; cases e; exact ((ih _ rfl).smul a).mono (Nat.le_succ _)
  | add _ _ ih1 ih2 => intro k e; exact (ih1 k e).add (ih2 k e)
  | smul c _ ih => intro k e; exact (ih k e).smul c
  | @cong n d f g _ hc ih => intro k e; exact (ih k e).cong fun v hv => hc (a :: v) (by rw [e, List.length_cons, hv])
  | mono _ hd ih => intro k e; exact (ih k e).mono hd
/-- f(x, y) - f(b, y) is divided by x - b -/
theorem Dgr.div {p : Int} (b : Int) {m d : Nat} {f : Fn} (h : Dgr p m d f) : ∀ n, m = n + 1 → ∃ q, Dgr p (n + 1) (d - 1) q ∧ (d = 0 → ∀ v, p ∣ q v) ∧ ∀ x y, y.length = n → p ∣ f (x :: y) - f (b :: y) - (x - b) * q (x :: y) := by
  induction h with
  | const d f => intro n e; cases e
  | @base n d g h _ => intro k e; cases e; exact ⟨_, dgr_zero p _ _, fun _ _ => Int.dvd_zero _, fun x y _ => by simp⟩
  | @step n d g h ih =>
    intro k e
    cases e
    obtain ⟨q, hq, _, hd⟩ := ih _ rfl
    refine ⟨fun v => g v + b * q v, (h.add ((hq.smul b).mono (Nat.sub_le _ _))), fun z => absurd z (Nat.succ_ne_zero _), fun x y hy => ?_⟩
    obtain ⟨c, hc⟩ := hd x y hy
    refine ⟨b * c, ?_⟩
    show x * g (x :: y) - b * g (b :: y) - (x - b) * (g (x :: y) + b * q (x :: y)) = p * (b * c)
    have e1 : p * (b * c) = b * (p * c) := Int.mul_left_comm _ _ _
    rw [e1, ← hc]
    simp only [Int.sub_mul, Int.mul_sub, Int.mul_add]
    rw [Int.mul_left_comm b x (q (x :: y))]
    omega
  | @add n d f g _ _ ih1 ih2 =>
    intro k e
    obtain ⟨q1, h1, z1, d1⟩ := ih1 k e
    obtain ⟨q2, h2, z2, d2⟩ := ih2 k e
    refine ⟨_, h1.add h2, fun z v => Int.dvd_add (z1 z v) (z2 z v), fun x y hy => ?_⟩
    have := Int.dvd_add (d1 x y hy) (d2 x y hy)
    have e : f (x :: y) + g (x :: y) - (f (b :: y) + g (b :: y)) - (x - b) * (q1 (x :: y) + q2 (x :: y)) = f (x :: y) - f (b :: y) - (x - b) * q1 (x :: y) + (g (x :: y) - g (b :: y) - (x - b) * q2 (x :: y)) := by
      rw [Int.mul_add]; omega
    show p ∣ f (x :: y) + g (x :: y) - (f (b :: y) + g (b :: y)) - (x - b) * (q1 (x :: y) + q2 (x :: y))
    rw [e]; exact this
  | @smul n d f c _ ih =>
    intro k e
    obtain ⟨q, hq, z0, hd⟩ := ih k e
    refine ⟨_, hq.smul c, fun z v => Int.dvd_trans (z0 z v) (Int.dvd_mul_left c _), fun x y hy => ?_⟩
    have := Int.dvd_trans (hd x y hy) (Int.dvd_mul_left c _)
    show p ∣ c * f (x :: y) - c * f (b :: y) - (x - b) * (c * q (x :: y))
    rw [Int.mul_left_comm (x - b) c, ← Int.mul_sub, ← Int.mul_sub]
    exact this
  | @cong n d f g _ hc ih =>
    intro k e
    obtain ⟨q, hq, z0, hd⟩ := ih k e
    refine ⟨q, hq, z0, fun x y hy => ?_⟩
    have h1 := hc (x :: y) (by rw [e, List.length_cons, hy])
    have h2 := hc (b :: y) (by rw [e, List.length_cons, hy])
    have h3 := Int.dvd_add (Int.dvd_sub h1 h2) (hd x y hy)
    rw [show g (x :: y) - g (b :: y) - (x - b) * q (x :: y) = g (x :: y) - f (x :: y) - (g (b :: y) - f (b :: y)) + (f (x :: y) - f (b :: y) - (x - b) * q (x :: y)) by omega]
    exact h3
  | mono _ hd ih =>
    intro k e
    obtain ⟨q, hq, z0, hd2⟩ := ih k e
    exact ⟨q, hq.mono (by omega), fun z => z0 (by omega), hd2⟩
/-- times an unknown -/
theorem Dgr.unk {p : Int} {n d : Nat} {f : Fn} (h : Dgr p n d f) : ∀ i < n, Dgr p n (d + 1) (fun v => v.getD i 0 * f v) := by
  induction h with
  | const d f => intro i hi; omega
  | @base n d g h ih =>
    intro i hi
    cases i with
    | zero =>
      refine (h.base.step).cong fun v hv => ?_
      cases v with
      | nil => simp at hv
      | cons x v => exact ⟨0, by rw [Int.mul_zero]; exact Int.sub_self _⟩
    | succ i =>
      refine ((ih i (by omega)).base).cong fun v hv => ?_
      cases v with
      | nil => simp at hv
      | cons x v => exact ⟨0, by rw [Int.mul_zero]; exact Int.sub_self _⟩
  | @step n d g h ih =>
    intro i hi
    exact ((ih i hi).step).cong fun v _ => ⟨0, by
      show v.getD i 0 * (hd0 v * g v) - hd0 v * (v.getD i 0 * g v) = p * 0
      rw [Int.mul_left_comm, Int.sub_self, Int.mul_zero]⟩
  | add _ _ ih1 ih2 =>
    intro i hi
    exact ((ih1 i hi).add (ih2 i hi)).cong fun v _ => ⟨0, by rw [Int.mul_zero, Int.mul_add, Int.sub_self]⟩
  | smul c _ ih =>
    intro i hi
    exact ((ih i hi).smul c).cong fun v _ => ⟨0, by rw [Int.mul_zero, Int.mul_left_comm, Int.sub_self]⟩
  | @cong n d f g _ hc ih =>
    intro i hi
    exact (ih i hi).cong fun v hv => by
      rw [← Int.mul_sub]
      exact Int.dvd_trans (hc v hv) (Int.dvd_mul_left _ _)
  | mono _ hd ih => intro i hi; exact (ih i hi).mono (by omega)
theorem dgr_sum {p : Int} {n d : Nat} (F : Nat → Fn) : ∀ l : List Nat, (∀ i ∈ l, Dgr p n d (F i)) → Dgr p n d (fun v => (l.map fun i => F i v).sum)
  | [], _ => dgr_zero p n d
  | i :: l, h => ((h i List.mem_cons_self).add (dgr_sum F l fun j hj => h j (List.mem_cons_of_mem _ hj))).cong fun v _ => ⟨0, by rw [Int.mul_zero, List.map_cons, List.sum_cons, Int.sub_self]⟩
/-- times a plane's sum less its number -/
theorem Dgr.plane {p : Int} {n d : Nat} {f : Fn} (h : Dgr p n d f) {a : List Int} {c : Int} (ha : a.length = n) : Dgr p n (d + 1) (fun v => (rowF a v - c) * f v) := by
  have h1 := dgr_sum (p := p) (n := n) (d := d + 1) (fun i v => a.getD i 0 * (v.getD i 0 * f v)) (List.range n) fun i hi => (h.unk i (List.mem_range.mp hi)).smul _
  refine (h1.add ((h.smul (-c)).mono (Nat.le_succ d))).cong fun v hv => ⟨0, ?_⟩
  rw [Int.mul_zero]
  have e : ((List.range n).map fun i => a.getD i 0 * (v.getD i 0 * f v)).sum = rowF a v * f v := by
    unfold rowF
    rw [← rowF_range (by rw [ha, hv]), hv]
    generalize List.range n = l
    induction l with
    | nil => simp
    | cons i l ih => rw [List.map_cons, List.map_cons, List.sum_cons, List.sum_cons, ih, Int.add_mul, Int.mul_assoc]
  rw [e, Int.sub_mul, Int.neg_mul]
  omega
/-- the planes' product -/
def plProd : List (List Int × Int) → Fn
  | [], _ => 1
  | q :: ps, v => (rowF q.1 v - q.2) * plProd ps v
theorem dgr_planes {p : Int} {n : Nat} : ∀ ps : List (List Int × Int), (∀ q ∈ ps, q.1.length = n) → Dgr p n ps.length (plProd ps)
  | [], _ => dgr_one p n
  | q :: ps, h => (dgr_planes ps fun r hr => h r (List.mem_cons_of_mem _ hr)).plane (h q List.mem_cons_self)
/-! ### the bound -/
/-- elements that differ, differ modulo p -/
structure RDist (p : Int) (r : List Int) : Prop where
  nd : r.Nodup
  ne : ∀ a ∈ r, ∀ b ∈ r, a ≠ b → ¬ p ∣ a - b
theorem peel {p : Int} (D : Dom p) {n : Nat} {Y : List Int → Prop} (hY : ∀ y, Y y → y.length = n) : ∀ (A : List Int) (d : Nat) (f : Fn), Dgr p (n + 1) d f → A.Pairwise (fun a b => ¬ p ∣ a - b) → (∀ b ∈ A, ∀ y, Y y → p ∣ f (b :: y)) →
    (∃ a y, Y y ∧ ¬ p ∣ f (a :: y)) → A.length ≤ d ∧ ∃ h, Dgr p (n + 1) (d - A.length) h ∧ ∀ x, (∀ b ∈ A, ¬ p ∣ x - b) → ∀ y, Y y → (p ∣ f (x :: y) ↔ p ∣ h (x :: y))
  | [], d, f, hf, _, _, _ => ⟨Nat.zero_le _, f, hf, fun _ _ _ _ => Iff.rfl⟩
  | b :: A, d, f, hf, hA, hz, ⟨a, y0, hy0, hn⟩ => by
    obtain ⟨q, hq, z0, hd⟩ := hf.div b n rfl
    have key : ∀ x y, Y y → (p ∣ f (x :: y) ↔ p ∣ (x - b) * q (x :: y)) := fun x y hy => by
      have h1 := hd x y (hY y hy)
      have h2 := hz b List.mem_cons_self y hy
      constructor
      · intro h
        have := Int.dvd_sub (Int.dvd_sub h h2) h1
        rw [show f (x :: y) - f (b :: y) - (f (x :: y) - f (b :: y) - (x - b) * q (x :: y)) = (x - b) * q (x :: y) by omega] at this
        exact this
      · intro h
        have := Int.dvd_add (Int.dvd_add h1 h) h2
        rw [show f (x :: y) - f (b :: y) - (x - b) * q (x :: y) + (x - b) * q (x :: y) + f (b :: y) = f (x :: y) by omega] at this
        exact this
    have nq : ¬ p ∣ q (a :: y0) := fun z => hn ((key a y0 hy0).mpr (Int.dvd_trans z (Int.dvd_mul_left _ _)))
    have d1 : 1 ≤ d := by
      by_cases h : d = 0
      · exact absurd (z0 h _) nq
      · omega
    rw [List.pairwise_cons] at hA
    obtain ⟨l1, h, hh, hk⟩ := peel D hY A (d - 1) q hq hA.2 (fun b' hb' y hy => by
      have h1 := (key b' y hy).mp (hz b' (List.mem_cons_of_mem _ hb') y hy)
      rcases D.or_ _ _ h1 with z | z
      · refine absurd ?_ (hA.1 b' hb')
        rw [show b - b' = -(b' - b) by omega]
        exact Int.dvd_neg.mpr z
      · exact z) ⟨a, y0, hy0, nq⟩
    rw [List.length_cons]
    refine ⟨by omega, h, by rw [show d - (A.length + 1) = d - 1 - A.length by omega]; exact hh, fun x hx y hy => ?_⟩
    rw [key x y hy, ← hk x (fun b' hb' => hx b' (List.mem_cons_of_mem _ hb')) y hy]
    constructor
    · intro z
      rcases D.or_ _ _ z with w | w
      · exact absurd w (hx b List.mem_cons_self)
      · exact w
    · intro z
      exact Int.dvd_trans z (Int.dvd_mul_left _ _)
def gr : List (List Int) → List (List Int)
  | [] => [[]]
  | r :: rs => r.flatMap fun x => (gr rs).map (x :: ·)
theorem gr_len : ∀ {rs : List (List Int)} {c : List Int}, c ∈ gr rs → c.length = rs.length
  | [], c, h => by rw [List.mem_singleton.mp h]; rfl
  | r :: rs, c, h => by
    obtain ⟨x, _, hc⟩ := List.mem_flatMap.mp h
    obtain ⟨y, hy, rfl⟩ := List.mem_map.mp hc
    rw [List.length_cons, List.length_cons, gr_len hy]
def cntF (p : Int) (f : Fn) (L : List (List Int)) : Nat := (L.filter fun c => !decide (p ∣ f c)).length
theorem cntF_app (p : Int) (f : Fn) (L M : List (List Int)) : cntF p f (L ++ M) = cntF p f L + cntF p f M := by
  unfold cntF; rw [List.filter_append, List.length_append]
theorem cntF_map (p : Int) (f : Fn) (x : Int) (L : List (List Int)) : cntF p f (L.map (x :: ·)) = cntF p (fun y => f (x :: y)) L := by
  unfold cntF; rw [List.filter_map, List.length_map]; rfl
theorem cntF_eq {p : Int} {f g : Fn} {L : List (List Int)} (h : ∀ c ∈ L, (p ∣ f c ↔ p ∣ g c)) : cntF p f L = cntF p g L := by
  unfold cntF
  rw [List.filter_congr fun c hc => by rw [decide_eq_decide.mpr (h c hc)]]
/-- ys: what is left of lengths ns when d are taken away at most -/
def PkOk : List Nat → Nat → List Nat → Prop
  | [], _, [] => True
  | n :: ns, d, y :: ys => 1 ≤ y ∧ y ≤ n ∧ n - y ≤ d ∧ PkOk ns (d - (n - y)) ys
  | _, _, _ => False
theorem least_of {P : List Nat → Prop} {c : Int → Nat} : ∀ {B : List Int}, B ≠ [] → (∀ a ∈ B, ∃ ys, P ys ∧ prodN ys ≤ c a) → ∃ ys, P ys ∧ ∀ a ∈ B, prodN ys ≤ c a
  | [], h, _ => absurd rfl h
  | [a], _, h => by
    obtain ⟨ys, h1, h2⟩ := h a List.mem_cons_self
    exact ⟨ys, h1, fun b hb => by rw [List.mem_singleton.mp hb]; exact h2⟩
  | a :: b :: B, _, h => by
    obtain ⟨ys, h1, h2⟩ := h a List.mem_cons_self
    obtain ⟨zs, h3, h4⟩ := least_of (B := b :: B) (List.cons_ne_nil _ _) fun x hx => h x (List.mem_cons_of_mem _ hx)
    by_cases hc : prodN ys ≤ prodN zs
    · exact ⟨ys, h1, fun x hx => by
        rcases List.mem_cons.mp hx with rfl | hx
        · exact h2
        · exact Nat.le_trans hc (h4 x hx)⟩
    · exact ⟨zs, h3, fun x hx => by
        rcases List.mem_cons.mp hx with rfl | hx
        · omega
        · exact h4 x hx⟩
theorem cnt_rows {p : Int} {f : Fn} {G : List (List Int)} {q : Int → Bool} {m : Nat} : ∀ r : List Int, (∀ a ∈ r, q a = true → m ≤ cntF p (fun y => f (a :: y)) G) → (r.filter q).length * m ≤ cntF p f (r.flatMap fun x => G.map (x :: ·))
  | [], _ => by simp
  | a :: r, h => by
    have ih := cnt_rows r fun b hb => h b (List.mem_cons_of_mem _ hb)
    rw [List.flatMap_cons, cntF_app, cntF_map, List.filter_cons]
    by_cases hq : q a = true
    · have := h a List.mem_cons_self hq
      rw [if_pos hq, List.length_cons, Nat.add_mul, Nat.one_mul]
      omega
    · rw [if_neg hq]
      omega
theorem filt_two {α : Type} (q : α → Bool) : ∀ r : List α, (r.filter q).length + (r.filter fun x => !q x).length = r.length
  | [] => rfl
  | a :: r => by
    have ih := filt_two q r
    rw [List.filter_cons, List.filter_cons]
    cases h : q a with
    | true => simp only [if_true, List.length_cons, Bool.not_true, Bool.false_eq_true, if_false]; omega
    | false => simp only [Bool.false_eq_true, if_false, Bool.not_false, if_true, List.length_cons]; omega
/-- a polynomial that isn't 0 on all of the grid isn't 0 at as many places as some ys tell, at least -/
theorem alon_furedi {p : Int} (D : Dom p) (hp1 : ¬ p ∣ 1) : ∀ (rs : List (List Int)) (d : Nat) (f : Fn), Dgr p rs.length d f → (∀ r ∈ rs, RDist p r) → (∃ c ∈ gr rs, ¬ p ∣ f c) → ∃ ys, PkOk (rs.map List.length) d ys ∧ prodN ys ≤ cntF p f (gr rs)
  | [], d, f, _, _, ⟨c, hc, hn⟩ => ⟨[], True.intro, by
    have e : c = [] := List.mem_singleton.mp hc
    subst e
    show 1 ≤ ([[]].filter fun c => !decide (p ∣ f c)).length
    rw [List.filter_cons, decide_eq_false hn]
    exact Nat.le_refl _⟩
  | r :: rs, d, f, hf, hr, ⟨c, hc, hn⟩ => by
    have rd := hr r List.mem_cons_self
    let Z : Int → Bool := fun a => decide (∀ y ∈ gr rs, p ∣ f (a :: y))
    have hZ : ∀ a, Z a = true ↔ ∀ y ∈ gr rs, p ∣ f (a :: y) := fun a => decide_eq_true_iff
    obtain ⟨a0, ha0, hc0⟩ := List.mem_flatMap.mp hc
    obtain ⟨y0, hy0, rfl⟩ := List.mem_map.mp hc0
    have pw : (r.filter Z).Pairwise (fun a b => ¬ p ∣ a - b) := by
      have h1 := (rd.nd.sublist (List.filter_sublist (p := Z)))
      exact List.Pairwise.imp_of_mem (fun {a b} ha hb hab => rd.ne a (List.mem_filter.mp ha).1 b (List.mem_filter.mp hb).1 hab) h1
    obtain ⟨kd, h, hh, hk⟩ := peel D (Y := fun y => y ∈ gr rs) (fun y hy => gr_len hy) (r.filter Z) d f hf pw (fun b hb y hy => (hZ b).mp (List.mem_filter.mp hb).2 y hy) ⟨a0, y0, hy0, hn⟩
    have nz : ∀ a ∈ r.filter fun x => !Z x, ∃ y ∈ gr rs, ¬ p ∣ f (a :: y) := fun a ha => by
      have h1 := (List.mem_filter.mp ha).2
      have h2 : ¬ ∀ y ∈ gr rs, p ∣ f (a :: y) := fun z => by
        rw [(hZ a).mpr z] at h1; cases h1
      exact Classical.byContradiction fun z => h2 fun y hy => Classical.byContradiction fun w => z ⟨y, hy, w⟩
    have away : ∀ a ∈ r.filter fun x => !Z x, ∀ b ∈ r.filter Z, ¬ p ∣ a - b := fun a ha b hb => by
      obtain ⟨a1, a2⟩ := List.mem_filter.mp ha
      obtain ⟨b1, b2⟩ := List.mem_filter.mp hb
      refine rd.ne a a1 b b1 fun e => ?_
      rw [e, b2] at a2
      cases a2
    have hB : (r.filter fun x => !Z x) ≠ [] := fun e => by
      have : a0 ∈ r.filter fun x => !Z x := List.mem_filter.mpr ⟨ha0, by
        cases hz : Z a0 with
        | false => rfl
        | true => exact absurd ((hZ a0).mp hz y0 hy0) hn⟩
      rw [e] at this
      cases this
    obtain ⟨ys, h1, h2⟩ := least_of (P := PkOk (rs.map List.length) (d - (r.filter Z).length)) (c := fun a => cntF p (fun y => f (a :: y)) (gr rs)) hB fun a ha => by
      obtain ⟨y, hy, hny⟩ := nz a ha
      have eqv := fun y hy => hk a (away a ha) y hy
      obtain ⟨ys, g1, g2⟩ := alon_furedi D hp1 rs (d - (r.filter Z).length) (fun y => h (a :: y)) (hh.at_ a _ rfl) (fun r' h' => hr r' (List.mem_cons_of_mem _ h')) ⟨y, hy, fun z => hny ((eqv y hy).mpr z)⟩
      exact ⟨ys, g1, by rw [cntF_eq (g := fun y => h (a :: y)) fun c hc => eqv c hc]; exact g2⟩
    have two := filt_two Z r
    have pos : 0 < (r.filter fun x => !Z x).length := List.length_pos_iff.mpr hB
    refine ⟨(r.filter fun x => !Z x).length :: ys, ⟨by omega, by omega, by omega, ?_⟩, ?_⟩
    · rw [show d - (r.length - (r.filter fun x => !Z x).length) = d - (r.filter Z).length by omega]
      exact h1
    · exact cnt_rows (f := f) (G := gr rs) r fun a ha hq => h2 a (List.mem_filter.mpr ⟨ha, hq⟩)
/-- the grid is the choices in order -/
theorem fold_gr : ∀ (rs cs : List (List Int)), rs.foldl stepR cs = cs.flatMap fun c => (gr rs).map (c ++ ·)
  | [], cs => by
    show cs = cs.flatMap fun c => [c ++ []]
    induction cs with
    | nil => rfl
    | cons c cs ih => rw [List.flatMap_cons, ← ih, List.append_nil]; rfl
  | r :: rs, cs => by
    rw [List.foldl_cons, fold_gr rs (stepR cs r)]
    unfold stepR
    rw [List.flatMap_assoc]
    congr 1
    funext c
    show (r.map fun x => c ++ [x]).flatMap _ = (r.flatMap fun x => (gr rs).map (x :: ·)).map (c ++ ·)
    rw [List.flatMap_map, List.map_flatMap]
    congr 1
    funext x
    rw [List.map_map]
    refine List.map_congr_left fun y _ => ?_
    show c ++ [x] ++ y = c ++ (x :: y)
    rw [List.append_assoc]
    rfl
theorem chL_gr (rs : List (List Int)) : chL rs = gr rs := by
  unfold chL
  rw [fold_gr, List.flatMap_cons, List.flatMap_nil, List.append_nil]
  have : (fun y : List Int => ([] : List Int) ++ y) = id := by funext y; rfl
  rw [this, List.map_id]
end LD

/-! LD60: x in t, t a tuple of data; tuples that are known to be plain, and their index. -/
namespace LD
open PySem PySem.Spec L2 PyProof.Rows
section
variable {X : Cx}
def rInTD (K : PySem.W.Frag) (n : Bool) : R2 := fun x y H Q => ∃ d ds, Dp K H x d ∧ Dp K H y (.tuple ds) ∧ SeqAt.shaped d = true ∧ SeqAt.shaped (.tuple ds) = true ∧ Q (.bl (if n = true then !inB d ds else inB d ds)) H
theorem op_inTD (hu : X.A.units + 65 < cLine) : OpR X (compareOp .In) (rInTD X.K false) := by
  intro pins s σ H x y v u Q I rx ry h
  obtain ⟨d, ds, hd, he, sd, se, q⟩ := h
  obtain ⟨as, r1⟩ := Dp.reads I d x v hd rx
  obtain ⟨bs, r2⟩ := Dp.reads I (.tuple ds) y u he ry
  exact SeqAt.in_tuple_reads r2 r1 (SeqAt.canLay_of_shaped se) (SeqAt.canLay_of_shaped sd) (room_in_shaped sd hu) ⟨.bl _, H, I, rfl, q⟩
theorem op_notInTD (hu : X.A.units + 65 < cLine) : OpR X (compareOp .NotIn) (rInTD X.K true) := by
  intro pins s σ H x y v u Q I rx ry h
  obtain ⟨d, ds, hd, he, sd, se, q⟩ := h
  obtain ⟨as, r1⟩ := Dp.reads I d x v hd rx
  obtain ⟨bs, r2⟩ := Dp.reads I (.tuple ds) y u he ry
  exact SeqAt.notIn_tuple_reads r2 r1 (SeqAt.canLay_of_shaped se) (SeqAt.canLay_of_shaped sd) (room_in_shaped sd hu) ⟨.bl _, H, I, rfl, q⟩
end
def oInTD (n : Bool) : OD := fun a b P => ∃ ds, b = .tuple ds ∧ SeqAt.shaped a = true ∧ SeqAt.shaped (.tuple ds) = true ∧ P (.bool (if n = true then !inB a ds else inB a ds))
theorem so_inTD {K : PySem.W.Frag} (n : Bool) : SO K (rInTD K n) (oInTD n) := ⟨fun a b P P' h ⟨ds, e, h1, h2, q⟩ => ⟨ds, e, h1, h2, h _ q⟩, fun F σ H ρ vs ds x y a b Q R ⟨es, e, h1, h2, q⟩ => by
  subst e
  exact ⟨a, es, R.drop.dp, R.dp, h1, h2, q _ _ (R.drop.drop.push (v := .bl (if n = true then !inB a es else inB a es)) rfl)⟩⟩
/-! ### plain tuples: their objects are known, and bear no dict -/
def NoDict (H : Hp) (a : Addr) : Prop := ∃ (ob : Obj) (xs : List V), H a = some (.frz ob (.tup xs)) ∧ ob.dict = none ∧ ob.cls = .type "tuple"
theorem NoDict.up {H H' : Hp} {a : Addr} (h : NoDict H a) (e : Same H H') : NoDict H' a := by
  obtain ⟨ob, xs, h1, h2⟩ := h
  exact ⟨ob, xs, e _ _ h1, h2⟩
section
variable {X : Cx}
/-- tuple(a list): a plain one -/
def rTupF (K : PySem.W.Frag) : List V → Hp → VK → Prop := fun xs H Q => ∃ p ys, xs = [.ref p] ∧ SqL K H p ys ∧ ∀ (l : Addr) (ob : Obj), ob.dict = none → ob.cls = .type "tuple" → H l = none → Q (.ref l) (upd H l (.frz ob (.tup ys)))
theorem call_tupF : CallR X (.type "tuple") (rTupF X.K) := by
  intro pins s σ H xs us Q I r h
  obtain ⟨p, ys, rfl, hq, q⟩ := h
  obtain ⟨u, rfl, rx⟩ := vals1 r
  cases rx
  obtain ⟨its, r', pl, hz⟩ := I.list hq
  have hlen := r'.length
  refine call_tuple_list pl.isList (fun h' kp => ?_) (by rw [List.size_toArray, ← hlen]; exact hz)
  have I1 : Inv X pins σ H { s with heap := h' } := I.kept (t' := s.toks) kp
  have I2 : Inv X pins σ (upd H h'.objs.size (.frz { cls := .type "tuple", data := .seq its.toArray } (.tup ys))) { s with heap := h'.push { cls := .type "tuple", data := .seq its.toArray } } :=
    I1.laid (t' := s.toks) (fun b o e => Heap.get?_push_of_some _ e) (Nat.le_refl _) (show ObjOk X.prog X.w _ _ _ (.frz _ (.tup ys)) from ⟨Heap.get?_push_size _ rfl, hz, its, r', IsTup.new _ _⟩)
  exact ⟨.ref h'.objs.size, _, I2, rfl, q _ _ rfl rfl (I1.hok.fresh (Nat.le_refl _))⟩
/-- t.index(k), t plain, of ints -/
def tIxT (to te : TE) : TE := fun σ H Q => to σ H fun x H1 => ∃ a, x = .ref a ∧ NoDict H1 a ∧ L2.tCons te L2.tNil σ H1 fun ys H2 => ∃ (ob : Obj) (ns : List Int) (k : Int), H2 a = some (.frz ob (.tup (ns.map V.int))) ∧ ob.dict = none ∧ ys = [.int k] ∧ k ∈ ns ∧ Q (.int (ns.idxOf k : Nat)) H2
theorem pe_ixT {o e : Expr} {to te : TE} {apos cpos : Pos} (ho : PE X o to) (he : PE X e te)
    (hbase : attributeBase o "index" X.env (eval o X.env) = eval o X.env := by rfl)
    (hfew : ((backTo cpos (starEach (e :: []) X.env)).all (fun x => !x.1) && (backToKw cpos (keywordEach [] X.env)).all (fun x => x.1.isSome)
      && decide ((e :: []).length + ([] : List Keyword).length + (if ([] : List Keyword).isEmpty then 0 else 1) < 30)) = true := by rfl)
    (hline : (apos.endLine == cpos.line) = true := by rfl) (hs : starEach (e :: []) X.env = (false, eval e X.env) :: starEach [] X.env := by rfl) (hplain : (backTo cpos (starEach [] X.env)).any (·.1) = false := by rfl) :
    PE X (.Call (.Attribute o "index" apos) (e :: []) [] cpos) (tIxT to te) := by
  refine ⟨fun pins s σ H Q I h => wpAny_Call_method_late hbase hfew hline rfl (thn (ho.run pins s σ H _ I h) fun v s1 ⟨x, H1, I1, r1, a, ex, nd, q1⟩ => ?_)⟩
  subst ex
  obtain rfl : v = Value.ref a := r1
  obtain ⟨ob, xs, hH, hdn, hcl⟩ := nd
  have ho1 : s1.heap.get? a = some ob := (I1.hok a _ hH).1
  refine ⟨"tuple", "tuple.index", PySem.F.plainAttrs_tuple, PySem.F.slot_tuple_index, PySem.F.type_tuple_index, ⟨ob, ho1, hcl⟩, fun a' e => by cases e; exact ⟨ob, ho1, hdn⟩, ?_⟩
  have hA := (pa_cons he pa_nil hs).run cpos pins s1 σ H1 (fun ys H2 => ∃ (ob : Obj) (ns : List Int) (k : Int), H2 a = some (.frz ob (.tup (ns.map V.int))) ∧ ob.dict = none ∧ ys = [.int k] ∧ k ∈ ns ∧ Q (.int (ns.idxOf k : Nat)) H2) I1
    q1
  rw [hs] at hA ⊢
  refine Calls.callWith_builtin (by show (false || (backTo cpos (starEach [] X.env)).any (·.1)) = false; rw [hplain] <;> rfl) (Calls.evalArgs_plain ?_)
  refine thn hA fun us s2 ⟨vs, H2, I2, r2, ob2, ns, k, e1, e2, e3, e4, q2⟩ => ?_
  subst e3
  obtain ⟨u, rfl, t, rfl⟩ := vals1 r2
  obtain ⟨_, hz, its, rv, pl⟩ := I2.hok a _ e1
  have hi : IntsAre its ns := intsAre_of rv
  exact SeqAt.tuple_index_ints pl (by simpa using hi) e4 ⟨.int (ns.idxOf k : Nat), H2, I2.tok _, ⟨_, rfl⟩, q2⟩
end
/-! ### slots that hold a plain tuple -/
def PlainT (K : PySem.W.Frag) (Hi : Hp) (a : Addr) (d : D) : Prop := ∃ (ob : Obj) (xs : List V) (es : List D), Hi a = some (.frz ob (.tup xs)) ∧ ob.dict = none ∧ ob.cls = .type "tuple" ∧ d = .tuple es ∧ DpAll K Hi xs es
theorem PlainT.up {K : PySem.W.Frag} {Hi Hi' : Hp} {a : Addr} {d : D} (h : PlainT K Hi a d) (e : Same Hi Hi') : PlainT K Hi' a d := by
  obtain ⟨ob, xs, es, h1, h2, h3, h4, h5⟩ := h
  exact ⟨ob, xs, es, e _ _ h1, h2, h3, h4, dpAll_mono e _ _ h5⟩
theorem PlainT.dp {K : PySem.W.Frag} {Hi : Hp} {a : Addr} {d : D} (h : PlainT K Hi a d) : Dp K Hi (.ref a) d := by
  obtain ⟨ob, xs, es, h1, h2, h3, rfl, h5⟩ := h
  exact .tup (.inl (.inr ⟨ob, h1⟩)) h5
theorem PlainT.nd {K : PySem.W.Frag} {Hi : Hp} {a : Addr} {d : D} (h : PlainT K Hi a d) : NoDict Hi a := by
  obtain ⟨ob, xs, es, h1, h2, h3, rfl, h5⟩ := h
  exact ⟨ob, xs, h1, h2, h3⟩
def ptφ (a : Addr) (d : D) : PySem.W.Frag → Hp → Hp → Prop := fun K Hi _ => PlainT K Hi a d
abbrev DV.pt (a : Addr) (d : D) : DV := .ob a [] (ptφ a d)
theorem pt_ok {K : PySem.W.Frag} {a : Addr} {d : D} {Hi H : Hp} (h : ptφ a d K Hi H) : ∀ Hi' H', Same Hi Hi' → (∀ b ∈ ([] : List Addr), ∀ o, H b = some o → H' b = some o) → ptφ a d K Hi' H' := fun Hi' H' e _ => PlainT.up h e
def dVarP (i : Nat) : TD := fun ρ P => ∃ d, (ρ[i]? = some (.sh d) ∨ ∃ a, ρ[i]? = some (.pt a d)) ∧ P ρ d
section
variable {K : PySem.W.Frag} {ta : L2.TA} {t : TDA} {E : XK}
theorem se_varP (i : Nat) : SE K (tVar i) (dVarP i) := ⟨fun ρ P P' h ⟨d, e, q⟩ => ⟨d, e, h _ d q⟩, fun F σ H ρ vs ds Q R ⟨d, e, q⟩ => by
  rcases e with e | ⟨a, e⟩
  · obtain ⟨v, e1, R1⟩ := R.get e
    exact ⟨v, e1, q v H R1⟩
  · obtain ⟨e1, Hi, own, R1, _, h⟩ := R.obAt e
    exact ⟨.ref a, e1, q _ _ ⟨Hi, own, R1.tmpTo (.cons (PlainT.dp h) R1.tmp)⟩⟩⟩
/-- a def that hands back a plain tuple -/
def spP (K : PySem.W.Frag) (g : CD) : Sp := fun vs H Q _ => ∃ Hi ds, Same Hi H ∧ DpAll K Hi vs ds ∧ g ds fun d => ∀ a H' Hi', Same Hi Hi' → Same Hi' H' → Same H H' → Fresh Hi Hi' H → PlainT K Hi' a d → Q (.ref a) H'
/-- slot i keeps a plain tuple -/
theorem RelI.storeP {F : Fx} {σ : L2.St} {H Hi : Hp} {ρ : Rho} {vs : List V} {ds : List D} {own : Nat → List Addr} {i : Nat} {a : Addr} {d : D} (R : RelI K F σ H ρ vs ds Hi own) (hi : i < ρ.length) (h : PlainT K Hi a d) : Rel K F (σ.set i (some (.ref a))) H (ρ.set i (.pt a d)) vs ds :=
  ⟨Hi, _, R.put hi ⟨rfl, rfl, pt_ok h⟩ R.tmp⟩
/-- x = f(..), f hands back a plain tuple -/
def dAsgP (g : CD) (i : Nat) (t : TDA) : TDS := fun dn ρ => t ρ fun r es => i < r.length ∧ g es (fun d => ∀ a, dn.nx (r.set i (.pt a d)))
theorem ss_asgP {g : CD} {i : Nat} (hg : ∀ es P P', (∀ d, P d → P' d) → g es P → g es P') (s : SA K ta t) : SS K (tAsg (tCall (spP K g) [] E ta) (gName i)) (dAsgP g i t) := by
  refine ⟨fun a b ρ h q => s.mono _ _ _ (fun r es q => ⟨q.1, hg _ _ _ (fun d q a => h.nx _ (q a)) q.2⟩) q, fun F σ H ρ vs ds En dn G R q => s.run F σ H ρ vs ds _ R (s.mono _ _ _ (fun r es q xs H1 e R1 => ?_) q)⟩
  show spP K g (xs ++ []) H1 _ E
  rw [List.append_nil]
  obtain ⟨Hi, own, R2⟩ := R1
  obtain ⟨t1, t2⟩ := dpAll_split e R2.tmp
  refine ⟨Hi, es, R2.sub, t1, hg _ _ _ (fun d q2 a H' Hi' h1 h2 h3 h4 h5 => ?_) q.2⟩
  exact G.nx _ _ _ (RelI.storeP (R2.after h1 h2 h3 h4 (dpAll_mono h1 _ _ t2)) q.1 h5) (q2 a)
/-- return tuple(..), a plain one -/
def dRetP (t : TDA) : TDS := fun dn ρ => t ρ fun r es => ∃ fs, es = [.list fs] ∧ 0 < r.length ∧ ∀ a, dn.ro (r.set 0 (.pt a (.tuple fs))) 0
theorem ss_retP (s : SA K ta t) : SS K (tRet (L2.tCB (rTupF K) ta)) (dRetP t) := by
  refine ⟨fun a b ρ h q => s.mono _ _ _ (fun r es ⟨fs, e1, e2, q⟩ => ⟨fs, e1, e2, fun x => h.ro _ _ (q x)⟩) q, fun F σ H ρ vs ds En dn G R q => s.run F σ H ρ vs ds _ R (s.mono _ _ _ (fun r es q xs H1 e R1 => ?_) q)⟩
  obtain ⟨fs, rfl, hr, q⟩ := q
  obtain ⟨x, xr, rfl, e2⟩ := len_cons e
  obtain rfl := len_nil e2
  obtain ⟨p, ys, rfl, e3, sq, R2⟩ := Rel.asList R1
  refine ⟨p, ys, rfl, sq, fun l ob hd hc hl => ?_⟩
  obtain ⟨Hi, own, R3⟩ := R2
  obtain ⟨g1, g2⟩ := dpAll_split e3 R3.tmp
  have s1 : Same Hi (upd Hi l (.frz ob (.tup ys))) := same_upd (R3.noSub hl)
  have g3 : DpAll K Hi vs ds := by cases g2 with | cons _ b => exact b
  have R4 := R3.lay (o := .frz ob (.tup ys)) hl (dpAll_mono s1 _ _ g3)
  have hp : PlainT K (upd Hi l (.frz ob (.tup ys))) l (.tuple fs) := ⟨ob, ys, fs, upd_same, hd, hc, rfl, dpAll_mono s1 _ _ g1⟩
  refine G.ro (σ.set 0 (some (.ref l))) _ _ 0 (.ref l) (RelI.storeP R4 hr hp) ?_ (q l)
  have hl2 : σ.length = r.length := R3.len
  exact List.getElem?_set_self (by omega)
/-- the index in a plain tuple of ints -/
def dIxP (i : Nat) (k : TD) : TD := fun ρ P => (∃ a ns, ρ[i]? = some (.pt a (tupK ns))) ∧ k ρ fun r y => ∃ a ns m, r[i]? = some (.pt a (tupK ns)) ∧ y = .int m ∧ m ∈ ns ∧ P r (.int (ns.idxOf m : Nat))
theorem se_ixP {te : TE} {k : TD} (i : Nat) (s : SE K te k) : SE K (tIxT (tVar i) te) (dIxP i k) := by
  refine ⟨fun ρ P P' h ⟨e, q⟩ => ⟨e, s.mono _ _ _ (fun r y ⟨a, ns, m, e1, e2, e3, q⟩ => ⟨a, ns, m, e1, e2, e3, h _ _ q⟩) q⟩, fun F σ H ρ vs ds Q R ⟨⟨a, ns0, e⟩, q⟩ => ?_⟩
  obtain ⟨e1, Hi, own, R1, _, h⟩ := R.obAt e
  refine ⟨.ref a, e1, a, rfl, (PlainT.nd h).up R1.sub, s.run F σ H ρ vs ds _ R (s.mono _ _ _ (fun r y q v H1 R2 => ?_) q)⟩
  obtain ⟨b, ns, m, e2, ey, hm, q⟩ := q
  subst ey
  obtain rfl := R2.int
  obtain ⟨e3, Hi2, own2, R3, _, h2⟩ := R2.obAt e2
  obtain rfl : b = a := by rw [e1] at e3; cases e3; rfl
  obtain ⟨ob, xs, es, n1, n2, n3, n4, n5⟩ := (show PlainT K Hi2 b (tupK ns) from h2)
  cases n4
  have hx := ints_of (K := K) ns xs n5
  subst hx
  exact ⟨ob, ns, m, R3.sub _ _ n1, n2, rfl, hm, q _ _ (R2.drop.push (v := .int (ns.idxOf m : Nat)) rfl)⟩
theorem run_P {N : List Str} {ts : TS} {t : TDS} {Hi H : Hp} {vs : List V} {ds : List D} {Q : VK} {P : D → Prop} (s : SS K ts t) (h1 : Same Hi H) (h2 : DpAll K Hi vs ds) (hq : ∀ d, P d → ∀ a H' Hi', Same Hi Hi' → Same Hi' H' → Same H H' → Fresh Hi Hi' H → PlainT K Hi' a d → Q (.ref a) H')
    (ht : t { nx := fun _ => False, rt := fun _ _ => False, ro := fun ρ i => ∃ a d, ρ[i]? = some (.pt a d) ∧ P d } (rho0 ds (N.length - ds.length))) : ts { nx := fun _ H' => Q .non H', rt := Q } (start N vs) H := by
  have el := dpAll_len h2
  refine s.run ⟨Hi, H, [], []⟩ (start N vs) H (rho0 ds (N.length - ds.length)) [] [] { nx := fun _ H' => Q .non H', rt := Q } { nx := fun _ => False, rt := fun _ _ => False, ro := fun ρ i => ∃ a d, ρ[i]? = some (.pt a d) ∧ P d } ⟨fun _ _ _ _ z => z.elim, fun _ _ _ _ _ _ z => z.elim, fun _ _ _ _ z => z.elim, fun _ _ _ _ z => z.elim, fun _ _ _ _ _ _ _ _ _ _ _ _ z => z.elim, fun σ' H' ρ' i v R e ⟨a, d, e1, p⟩ => ?_, fun _ _ _ _ _ _ _ _ _ z => z.elim⟩ ⟨Hi, fun _ => [], ?_⟩ ht
  · obtain ⟨e2, Hi', own, R2, _, h⟩ := R.obAt e1
    rw [e] at e2
    cases e2
    exact hq d p a H' Hi' R2.base R2.sub (fun b o e => R2.keep b o e (by simp)) (fun b hb => R2.new b hb) h
  refine ⟨Same.refl _, h1, fun b hb => .inl hb, fun b o e _ => e, fun b e => e, ?_, fun i x e => ?_, fun i a ha => (by cases ha), fun i a ha => (by cases ha), fun i a ha => (by cases ha), fun i j _ a ha => (by cases ha), fun i es e a ha => (by cases ha), fun z hz => (by cases hz), DpAll.nil⟩
  · unfold L2.start rho0
    rw [List.length_append, List.length_append, List.length_map, List.length_map, List.length_replicate, List.length_replicate, el]
  · unfold rho0 at e
    rcases start_sh (N := N) h2 e with z | ⟨d, v, z, e2, q⟩
    · rw [z]; trivial
    · rw [z]
      refine ⟨v, ?_, q⟩
      unfold L2.start
      rw [el, e2]
      rfl
end
section
variable {P : Program} {w : World} {K : PySem.W.Frag} {mg : Str → Option Value} {base : Heap}
theorem ok_P {x qual : Str} {st : Stmt} {f : Addr} {fd : FuncData} {N ps : List Str} {k : Nat} {g : CD} (F : Fun K x qual st f fd) (S : FnScope N ps (defScope st)) (hl : ∀ ds P, g ds P → ds.length = ps.length)
    (hbody : ∀ (cdv : Value) (A : Around) (outer : List Env) (s : Shared) (H : Hp) (E : XK), Room k (A.deeper (PyProof.Rows.envOfC qual (defScope st) s.heap.objs.size f cdv)) →
      ∃ ts t, PSs (cxOf CX0 P w K mg base N qual (defScope st) f cdv A outer s H E).nox (defBody st) ts ∧ SS K ts t ∧ ∀ ds Pd, g ds Pd → t { nx := fun _ => False, rt := fun _ _ => False, ro := fun ρ i => ∃ a d, ρ[i]? = some (.pt a d) ∧ Pd d } (rho0 ds (N.length - ds.length))) : FnOk P w K mg base CX0 (k + 1) f fd ps (spP K g) := by
  refine F.ok S (fun vs H Q E h => ?_) (fun cdv A outer s H vs Q E hr h => ?_)
  · obtain ⟨Hi, ds, _, h2, hg⟩ := h
    rw [dpAll_len h2]
    exact hl _ _ hg
  · obtain ⟨ts, t, h1, h2, h3⟩ := hbody cdv A outer s H E hr
    obtain ⟨Hi, ds, e1, e2, hg⟩ := h
    exact ⟨ts, h1, run_P h2 e1 e2 (fun d q => q) (h3 ds _ hg)⟩
end
end LD

/-! LD61: min of a tuple, name.index(k) of an own list of ints, step lemmas of LD60's slots. -/
namespace LD
open PySem PySem.Spec L2 PyProof.Rows
def rMinT (K : PySem.W.Frag) : List V → Hp → VK → Prop := fun vs H Q => ∃ (a : Addr) (xs : List V) (d : D) (ds : List D), vs = [.ref a] ∧ SqT K H a xs ∧ DpAll K H xs (d :: ds) ∧ PySem.W.AlikeAll (d :: ds) ∧ PyData.depthAll (d :: ds) ≤ 50 ∧
  ∀ (i : Nat) (v : V), xs[i]? = some v → (d :: ds)[i]? = some (PySem.W.minD d ds) → Q v H
theorem cr_minT {X : Cx} (hc : X.calm = true) (hu : X.A.units + 64 < cLine) : CallR X (.builtin "min") (rMinT X.K) := by
  intro pins s σ H vs us Q I r h
  obtain ⟨a, xs, d, ds, rfl, hs, hd, ha, hz, q⟩ := h
  obtain ⟨its, rv, hl, _⟩ := I.tuple hs
  rw [Vals.ref1 r]
  obtain ⟨as, hr⟩ := Dp.readsAll I _ xs its hd rv
  have hn : its.length = ds.length + 1 := by rw [← rv.length, dpAll_len hd]; rfl
  have hr' : ReadsAll s.heap its.toArray.toList (d :: ds) as := hr
  refine PySem.call_min_walkH (PySem.W.iter_tupleW (A := X.A.in1) (I.ok.hd hc) hl fun s₂ e W st hfp hw hk => ?_)
  refine ⟨_, _, _, _, _, _, _, s.heap, _, rfl, W, st, hfp, by rw [List.size_toArray]; omega, hw, hk, PySem.W.cmpIn_lt (A := X.A.in1) hr' ha (by show X.A.units + 1 + _ < _; omega), fun v s' hP m => ?_⟩
  obtain ⟨h', tk, rfl, hk'⟩ := PySem.W.moved_old e rfl m
  have e1 : its.toArray.size - 1 = ds.length := by rw [List.size_toArray]; omega
  obtain ⟨e3, e2⟩ := PySem.W.argBest_fold PySem.W.dataLt PyData.none d ds ds.length (Nat.le_refl _)
  rw [List.take_length] at e2
  rw [e1] at hP
  rw [List.getElem?_toArray] at hP
  obtain ⟨x, hx, rx⟩ := vals_back rv hP
  exact ⟨x, H, I.kept hk', rx, q _ x hx (getD_some (Nat.lt_succ_of_le e3) e2)⟩
theorem eqV_int2 (a b : Int) : eqV (.int a) (.int b) = (a == b) := rfl
theorem idx_not {m k : Int} : ∀ {ns : List Int} {i : Nat}, i < ns.idxOf m → ns[i]? = some k → (k == m) = false
  | [], i, h, e => by cases e
  | n :: ns, i, h, e => by
    by_cases hn : n = m
    · rw [hn, List.idxOf_cons_self] at h
      exact absurd h (Nat.not_lt_zero i)
    · have hb : (n == m) = false := by simp [hn]
      rw [List.idxOf_cons, hb] at h
      cases i with
      | zero => cases e; exact hb
      | succ i => exact idx_not (ns := ns) (i := i) (by simpa using h) e
section
variable {K : PySem.W.Frag}
def cMinT : CD := fun es P => ∃ d ds, es = [.tuple (d :: ds)] ∧ PySem.W.AlikeAll (d :: ds) ∧ PyData.depthAll (d :: ds) ≤ 50 ∧ P (PySem.W.minD d ds)
theorem sc_minT : SC K (rMinT K) cMinT := ⟨fun a P P' h ⟨d, ds, e, h1, h2, q⟩ => ⟨d, ds, e, h1, h2, h _ q⟩, fun F σ H ρ vs ds xs es Q e R ⟨d, fs, h, h1, h2, q⟩ => by
  subst h
  obtain ⟨x, r, rfl, e1⟩ := len_cons e
  obtain rfl := len_nil e1
  obtain ⟨p, ys, rfl, e2, s, R1⟩ := Rel.asTup R
  refine ⟨p, ys, d, fs, rfl, s, (dpAll_split e2 R1.dpAll).1, h1, h2, fun i v hv hd => ?_⟩
  obtain ⟨w, hw, R2⟩ := R1.pick e2 hd
  rw [hv] at hw
  cases hw
  exact q _ _ R2.drop2⟩
theorem cMinT_ints {x : Int} {xs : List Int} {P : D → Prop} (h : ∀ m ∈ x :: xs, (∀ y ∈ x :: xs, m ≤ y) → P (.int m)) : cMinT [.tuple ((x :: xs).map PyData.int)] P := by
  obtain ⟨m, e, h1, h2⟩ := minD_int xs x
  obtain ⟨a1, a2⟩ := alike_ints2 (x :: xs)
  exact ⟨.int x, xs.map PyData.int, rfl, a1, a2, by rw [e]; exact h m h1 h2⟩
/-- name.index(k), name an own list of ints -/
def dIdxO (i : Nat) (k : TD) : TD := fun ρ P => (∃ es, ρ[i]? = some (.ls es)) ∧ k ρ fun r z => ∃ (ns : List Int) (m : Int), r[i]? = some (.ls (ns.map PyData.int)) ∧ z = .int m ∧ m ∈ ns ∧ P r (.int (ns.idxOf m : Nat))
theorem se_idxO {tk : TE} {k : TD} (i : Nat) (sk : SE K tk k) : SE K (tBM K "list" (rIndex K) (tVar i) (tCons tk tNil)) (dIdxO i k) := by
  refine ⟨fun ρ P P' h ⟨q0, q⟩ => ⟨q0, sk.mono _ _ _ (fun r z ⟨ns, m, e, e1, e2, q⟩ => ⟨ns, m, e, e1, e2, h _ _ q⟩) q⟩, fun F σ H ρ vs ds Q R q => ?_⟩
  obtain ⟨⟨es0, e0⟩, q⟩ := q
  obtain ⟨p, xs, e1, hp, el, _⟩ := R.ownAt e0
  refine ⟨.ref p, e1, .inl ⟨rfl, xs, .inl (.inl hp)⟩, sk.run F σ H ρ vs ds _ R (sk.mono _ _ _ (fun r z q w H1 R1 => ?_) q)⟩
  obtain ⟨ns, m, e, ez, hm, q⟩ := q
  subst ez
  obtain rfl := R1.int
  obtain ⟨p2, xs2, e2, hp2, el2, _⟩ := R1.drop.ownAt e
  have e3 : p2 = p := by rw [e1] at e2; cases e2; rfl
  subst e3
  have hd : DpAll K H1 xs2 (ns.map PyData.int) := by
    obtain ⟨Hi, own, R3⟩ := R1.drop
    obtain ⟨p3, zs, f1, _, f3, f4⟩ := R3.slot i _ e
    rw [e1] at f1
    cases f1
    rw [hp2] at f3
    cases f3
    exact dpAll_mono R3.sub _ _ f4
  have hv2 := ints_of (K := K) ns xs2 hd
  subst hv2
  have hlt : ns.idxOf m < ns.length := List.idxOf_lt_length_iff.mpr hm
  have hat : ns[ns.idxOf m]? = some m := by
    rw [List.getElem?_eq_getElem hlt, List.getElem_idxOf hlt]
  refine ⟨p2, ns.map V.int, .int m, ns.idxOf m, .int m, rfl, rfl, .inl (.inl hp2), rfl, List.all_eq_true.mpr fun z hz => ?_, by rw [List.getElem?_map, hat]; rfl, by rw [eqV_int2]; simp, fun j z' hj hz' => ?_, q _ _ (R1.drop.push (v := .int (ns.idxOf m : Nat)) rfl)⟩
  · obtain ⟨y, _, rfl⟩ := List.mem_map.mp hz
    rfl
  · rw [List.getElem?_map] at hz'
    cases hk : ns[j]? with
    | none => rw [hk] at hz'; cases hz'
    | some k =>
      rw [hk] at hz'
      cases hz'
      rw [eqV_int2]
      exact idx_not hj hk
variable {ρ r : Rho} {P : Rho → D → Prop} {i : Nat} {d : D} {a : Addr}
theorem s_varP (h : ρ[i]? = some (.sh d)) (q : P ρ d) : dVarP i ρ P := ⟨d, .inl h, q⟩
theorem s_varPt (h : ρ[i]? = some (.pt a d)) (q : P ρ d) : dVarP i ρ P := ⟨d, .inr ⟨a, h⟩, q⟩
theorem s_ixP {k : TD} {ns : List Int} (h : ρ[i]? = some (.pt a (tupK ns))) (q : k ρ fun r y => ∃ (a : Addr) (ns : List Int) (m : Int), r[i]? = some (.pt a (tupK ns)) ∧ y = .int m ∧ m ∈ ns ∧ P r (.int (ns.idxOf m : Nat))) : dIxP i k ρ P := ⟨⟨a, ns, h⟩, q⟩
theorem s_exPt {ns : List Int} {m : Int} {F : Int → Prop} (h : r[i]? = some (.pt a (tupK ns))) (hm : m ∈ ns) (q : P r (.int (ns.idxOf m : Nat))) : ∃ (a : Addr) (ns : List Int) (n : Int), r[i]? = some (.pt a (tupK ns)) ∧ PyData.int m = .int n ∧ n ∈ ns ∧ P r (.int (ns.idxOf n : Nat)) := ⟨a, ns, m, h, rfl, hm, q⟩
theorem s_idxO {k : TD} {es : List D} (h : ρ[i]? = some (.ls es)) (q : k ρ fun r z => ∃ (ns : List Int) (m : Int), r[i]? = some (.ls (ns.map PyData.int)) ∧ z = .int m ∧ m ∈ ns ∧ P r (.int (ns.idxOf m : Nat))) : dIdxO i k ρ P := ⟨⟨es, h⟩, q⟩
theorem s_lc2 {PA : Rho → List D → Prop} {di di1 : TDI} {dg dg1 : DG} {dt dt1 : TDT} {de : TD} {js js1 : List Nat} (q : di ρ fun ρ0 items => (∀ j ∈ js, ρ0[j]? = some .no) ∧ compW2 (compF2 dg dt di1 dg1 dt1 de js1) js items ρ0 [] PA) : dLc2 di dg dt di1 dg1 dt1 de js js1 ρ PA := q
theorem s_compF2 {di1 : TDI} {dg dg1 : DG} {dt dt1 : TDT} {de : TD} {js1 : List Nat} {acc : List D} {k : KL} (q : dg d r fun r1 => dt r1 fun r2 b => if b = true then di1 r2 fun r3 items => acc.length + items.length ≤ sizeLine ∧ (∀ j ∈ js1, r3[j]? = some .no) ∧ compW (compF dg1 dt1 de) js1 items r3 acc k else k r2 acc) : compF2 dg dt di1 dg1 dt1 de js1 d r acc k := q
theorem s_retP {t : TDA} {dn : DE} (q : t ρ fun r es => ∃ fs, es = [.list fs] ∧ 0 < r.length ∧ ∀ a, dn.ro (r.set 0 (.pt a (.tuple fs))) 0) : dRetP t dn ρ := q
theorem s_asgP {t : TDA} {g : CD} {dn : DE} (q : t ρ fun r es => i < r.length ∧ g es (fun d => ∀ a, dn.nx (r.set i (.pt a d)))) : dAsgP g i t dn ρ := q
theorem s_par {t : TDA} {dn : DE} {j : Nat} (q : t ρ fun r es => ∃ d e, es = [d, e] ∧ i < r.length ∧ j < r.length ∧ dn.nx ((r.set i (.sh d)).set j (.sh e))) : dPar i j t dn ρ := q
theorem s_expar {x y : D} {F : D → D → Prop} (q : F x y) : ∃ d e, [x, y] = [d, e] ∧ F d e := ⟨x, y, rfl, q⟩
end
end LD

/-! LD62: for x in f(..), f a def that raises. -/
namespace LD
open PySem PySem.Spec L2 PyProof.Rows
section
variable {K : PySem.W.Frag} {ta : L2.TA} {ts : TS} {t : TDA} {u : TDS}
/-- for x in f(..): .., f hands back a tuple or raises -/
def dForR (W : WX) (g : CR) (t : TDA) (dg : DG) (tb : TDS) : TDS := fun dn ρ => dn.xw = W ∧ t ρ fun r es => g es (fun d => ∃ items, d = .tuple items ∧ ∃ I : Nat → Rho → Prop, I 0 r ∧
  (∀ i d r, items[i]? = some d → I i r → dg d r fun r1 => tb { nx := I (i + 1), rt := dn.rt, bk := dn.nx, ct := I (i + 1), rm := dn.rm, ro := dn.ro, ex := dn.ex, xw := dn.xw } r1) ∧ ∀ r, I items.length r → dn.nx r) (fun C x => dn.ex r C x)
theorem ss_forR {W : WX} {g : CR} {js : List Nat} {tg : TG} {dg : DG} (hg : ∀ es P P' E E', (∀ d, P d → P' d) → (∀ C x, E C x → E' C x) → g es P E → g es P' E') (sa : SA K ta t) (sg : SG K js tg dg) (s : SS K ts u) : SS K (tFor (iTup K (tCallSD (spR K g) [] (fun σ cls d H => W cls d σ H) ta)) tg ts) (dForR W g t dg u) := by
  refine ⟨fun a b ρ h q => ⟨h.ex.1 ▸ q.1, sa.mono _ _ _ (fun r es q => hg _ _ _ _ _ (fun d ⟨items, e, I, q1, q2, q3⟩ => ⟨items, e, I, q1, fun i d r e hI => sg.mono _ _ _ _ (fun r q => s.mono { nx := I (i + 1), rt := a.rt, bk := a.nx, ct := I (i + 1), rm := a.rm, ro := a.ro, ex := a.ex, xw := a.xw } { nx := I (i + 1), rt := b.rt, bk := b.nx, ct := I (i + 1), rm := b.rm, ro := b.ro, ex := b.ex, xw := b.xw } _ ⟨fun _ z => z, h.rt, h.nx, fun _ z => z, h.rm, h.ro, h.ex⟩ q) (q2 i d r e hI), fun r z => h.nx _ (q3 r z)⟩) (fun C x q => h.ex.2 _ _ _ q) q) q.2⟩, fun F σ H ρ vs ds E dn G R ⟨hw0, q⟩ => ?_⟩
  refine sa.run F σ H ρ vs ds _ R (sa.mono _ _ _ (fun r es q xs H1 e R1 => ?_) q)
  show spR K g (xs ++ []) H1 _ (fun cls d H => W cls d σ H)
  rw [List.append_nil]
  obtain ⟨Hi, own, R2⟩ := R1
  obtain ⟨t1, t2⟩ := dpAll_split e R2.tmp
  refine ⟨Hi, es, R2.sub, t1, hg _ _ _ _ _ (fun d q2 v H' Hi' h1 h2 h3 h4 h5 => ?_) (fun C x q v p H' Hi' h1 h2 h3 h4 h5 h6 => ?_) q⟩
  · obtain ⟨items, ed, I, q1, q2, q3⟩ := q2
    subst ed
    have R3 : Rel K F σ H' r (v :: vs) (.tuple items :: ds) := ⟨Hi', own, R2.after h1 h2 h3 h4 (.cons h5 (dpAll_mono h1 _ _ t2))⟩
    obtain ⟨p, ys, rfl, e2, sq, _⟩ := Rel.asTup R3
    refine ⟨p, rfl, ⟨ys, sq⟩, ?_⟩
    have hw : Walks K (Itt K p) items [.ref p] [.tuple items] := walks_tup
    have ew : ([.ref p] : List V).length = ([.tuple items] : List D).length := rfl
    refine ⟨fun i m σ H => ∃ r, i + m = items.length ∧ Rel K F σ H r ([.ref p] ++ vs) ([.tuple items] ++ ds) ∧ I i r, ⟨items.length, r, Nat.zero_add _, R3, q1⟩, fun i m σ H hW => ?_⟩
    obtain ⟨r, em, R4, hI⟩ := hW
    by_cases hi : i < items.length
    · right
      have hd : items[i]? = some items[i] := List.getElem?_eq_getElem hi
      obtain ⟨hgo, hy⟩ := (hw F σ H r vs ds i R4).1 _ hd
      refine ⟨hgo, fun σ H => ∃ r, Rel K F σ H r ([.ref p] ++ vs) ([.tuple items] ++ ds) ∧ I (i + 1) r, fun σ' H' ⟨r, R3, h3⟩ => ⟨m - 1, by omega, r, by omega, R3, h3⟩, fun x H' hx => ?_⟩
      have R3 := hy x H' hx
      refine sg.run F σ H' r ([.ref p] ++ vs) ([.tuple items] ++ ds) x _ _ R3 (sg.mono _ _ _ _ (fun r1 q σ2 H2 R4 _ => ?_) (q2 i _ r hd hI))
      refine s.run F σ2 H2 r1 ([.ref p] ++ vs) ([.tuple items] ++ ds) _ { nx := I (i + 1), rt := dn.rt, bk := dn.nx, ct := I (i + 1), rm := dn.rm, ro := dn.ro, ex := dn.ex, xw := dn.xw } ⟨fun σ H ρ R q => ⟨ρ, R, q⟩, fun σ H ρ v d R q => G.rt _ _ _ _ _ (R.dropMid ew) q, fun σ H ρ R q => G.nx _ _ _ (R.dropN ew) q, fun σ H ρ R q => ⟨ρ, R, q⟩, fun σ H ρ a l ns b R n h1 h2 ok q => G.rm _ _ _ _ _ _ _ (R.dropN ew) n h1 h2 ok q, fun σ H ρ i v R e q => G.ro _ _ _ _ _ (R.dropN ew) e q, fun σ H ρ C x v p R hp q => G.ex _ _ _ _ _ _ _ (R.dropMid ew) hp q⟩ R4 q
    · left
      have ei : i = items.length := by omega
      refine ⟨(hw F σ H r vs ds i R4).2 (by omega), G.nx _ _ _ (R4.dropN ew) (q3 r (ei ▸ hI))⟩
  · rw [← hw0]
    exact G.ex _ _ _ _ _ _ _ ⟨Hi', own, R2.after h1 h2 h3 h4 (.cons h5 (dpAll_mono h1 _ _ t2))⟩ h6 q
theorem s_forR {W : WX} {g : CR} {dg : DG} {dn : DE} {ρ : Rho} (h : dn.xw = W) (q : t ρ fun r es => g es (fun d => ∃ items, d = .tuple items ∧ ∃ I : Nat → Rho → Prop, I 0 r ∧
  (∀ i d r, items[i]? = some d → I i r → dg d r fun r1 => u { nx := I (i + 1), rt := dn.rt, bk := dn.nx, ct := I (i + 1), rm := dn.rm, ro := dn.ro, ex := dn.ex, xw := dn.xw } r1) ∧ ∀ r, I items.length r → dn.nx r) (fun C x => dn.ex r C x)) : dForR W g t dg u dn ρ := ⟨h, q⟩
end
end LD

/-! LD63: pairs whose first is a plain tuple: slots, reading, own[0].index(k), i, j = e, f(..). -/
namespace LD
open PySem PySem.Spec L2 PyProof.Rows
def PairT (K : PySem.W.Frag) (Hi : Hp) (q a : Addr) (d1 d2 : D) : Prop := ∃ x, Hi q = some (.tup [.ref a, x]) ∧ PlainT K Hi a d1 ∧ Dp K Hi x d2
theorem PairT.up {K : PySem.W.Frag} {Hi Hi' : Hp} {q a : Addr} {d1 d2 : D} (h : PairT K Hi q a d1 d2) (e : Same Hi Hi') : PairT K Hi' q a d1 d2 := by
  obtain ⟨x, h1, h2, h3⟩ := h
  exact ⟨x, e _ _ h1, h2.up e, dp_mono e _ _ h3⟩
theorem PairT.dp {K : PySem.W.Frag} {Hi : Hp} {q a : Addr} {d1 d2 : D} (h : PairT K Hi q a d1 d2) : Dp K Hi (.ref q) (.tuple [d1, d2]) := by
  obtain ⟨x, h1, h2, h3⟩ := h
  exact .tup (.inl (.inl h1)) (.cons h2.dp (.cons h3 .nil))
def ppφ (q a : Addr) (d1 d2 : D) : PySem.W.Frag → Hp → Hp → Prop := fun K Hi _ => PairT K Hi q a d1 d2
abbrev DV.pp (q a : Addr) (d1 d2 : D) : DV := .ob q [] (ppφ q a d1 d2)
theorem pp_ok {K : PySem.W.Frag} {q a : Addr} {d1 d2 : D} {Hi H : Hp} (h : ppφ q a d1 d2 K Hi H) : ∀ Hi' H', Same Hi Hi' → (∀ b ∈ ([] : List Addr), ∀ o, H b = some o → H' b = some o) → ppφ q a d1 d2 K Hi' H' := fun Hi' H' e _ => PairT.up h e
def dVarA (i : Nat) : TD := fun ρ P => ∃ d, (ρ[i]? = some (.sh d) ∨ ∃ q a d1 d2, ρ[i]? = some (.pp q a d1 d2) ∧ d = .tuple [d1, d2]) ∧ P ρ d
section
variable {K : PySem.W.Frag} {ta : L2.TA} {te : TE} {t : TDA} {e : TD} {E : XK}
theorem se_varA (i : Nat) : SE K (tVar i) (dVarA i) := ⟨fun ρ P P' h ⟨d, e, q⟩ => ⟨d, e, h _ d q⟩, fun F σ H ρ vs ds Q R ⟨d, e, q⟩ => by
  rcases e with e | ⟨a, b, d1, d2, e, rfl⟩
  · obtain ⟨v, e1, R1⟩ := R.get e
    exact ⟨v, e1, q v H R1⟩
  · obtain ⟨e1, Hi, own, R1, _, h⟩ := R.obAt e
    exact ⟨.ref a, e1, q _ _ ⟨Hi, own, R1.tmpTo (.cons (PairT.dp h) R1.tmp)⟩⟩⟩
abbrev CA := List D → (D → D → Prop) → Prop
/-- a def that hands back a pair whose first is a plain tuple -/
def spA (K : PySem.W.Frag) (g : CA) : Sp := fun vs H Q _ => ∃ Hi ds, Same Hi H ∧ DpAll K Hi vs ds ∧ g ds fun d1 d2 => ∀ q a H' Hi', Same Hi Hi' → Same Hi' H' → Same H H' → Fresh Hi Hi' H → PairT K Hi' q a d1 d2 → Q (.ref q) H'
/-- i, j = e, f(..), f hands back such a pair -/
def dParA (i j : Nat) (e : TD) (g : CA) (t : TDA) : TDS := fun dn ρ => e ρ fun r x => t r fun r2 es => i < r2.length ∧ j < r2.length ∧ g es (fun d1 d2 => ∀ q a, dn.nx ((r2.set i (.sh x)).set j (.pp q a d1 d2)))
theorem ss_parA {g : CA} {i j : Nat} (hij : i ≠ j) (hg : ∀ es P P', (∀ d1 d2, P d1 d2 → P' d1 d2) → g es P → g es P') (se : SE K te e) (s : SA K ta t) : SS K (tPar i j (L2.tCons te (L2.tCons (tCall (spA K g) [] E ta) L2.tNil))) (dParA i j e g t) := by
  refine ⟨fun a b ρ h q => se.mono _ _ _ (fun r x q => s.mono _ _ _ (fun r es q => ⟨q.1, q.2.1, hg _ _ _ (fun d1 d2 q x y => h.nx _ (q x y)) q.2.2⟩) q) q, fun F σ H ρ vs ds En dn G R q => se.run F σ H ρ vs ds _ R (se.mono _ _ _ (fun r x q v1 H1 R1 => s.run F σ H1 r (v1 :: vs) (x :: ds) _ R1 (s.mono _ _ _ (fun r2 es q xs H2 el R2 => ?_) q)) q)⟩
  show spA K g (xs ++ []) H2 _ E
  rw [List.append_nil]
  obtain ⟨h1, h2, q⟩ := q
  obtain ⟨Hi, own, R3⟩ := R2
  obtain ⟨t1, t2⟩ := dpAll_split el R3.tmp
  refine ⟨Hi, es, R3.sub, t1, hg _ _ _ (fun d1 d2 q a b H' Hi' g1 g2 g3 g4 g5 => ?_) q⟩
  have R4 := R3.after g1 g2 g3 g4 (dpAll_mono g1 _ _ t2)
  have R5 : Rel K F (σ.set j (some (.ref a))) H' (r2.set j (.pp a b d1 d2)) (v1 :: vs) (x :: ds) := ⟨Hi', _, R4.put h2 ⟨rfl, rfl, pp_ok g5⟩ R4.tmp⟩
  have R6 := R5.store (i := i) (by rw [List.length_set]; exact h1)
  rw [List.set_comm _ _ hij.symm, List.set_comm _ _ hij.symm] at R6
  exact ⟨v1, .ref a, rfl, G.nx _ _ _ R6 (q a b)⟩
/-- own[0].index(k) -/
def dIxQ (j : Nat) (k : TD) : TD := fun ρ P => ∃ q a ns d2, ρ[j]? = some (.pp q a (tupK ns) d2) ∧ k ρ fun r y => r[j]? = some (.pp q a (tupK ns) d2) ∧ ∃ m, y = .int m ∧ m ∈ ns ∧ P r (.int (ns.idxOf m : Nat))
theorem se_ixQ {k : TD} (j : Nat) (s : SE K te k) : SE K (tIxT (tOp (rIxT K) (tVar j) (tC (V.int 0))) te) (dIxQ j k) := by
  refine ⟨fun ρ P P' h ⟨q, a, ns, d2, e, p⟩ => ⟨q, a, ns, d2, e, s.mono _ _ _ (fun r y ⟨e2, m, e3, e4, p⟩ => ⟨e2, m, e3, e4, h _ _ p⟩) p⟩, fun F σ H ρ vs ds Q R ⟨q, a, ns, d2, e, p⟩ => ?_⟩
  obtain ⟨e1, Hi, own, R1, _, h⟩ := R.obAt e
  obtain ⟨x, hq, hp, hx⟩ := (show PairT K Hi q a (tupK ns) d2 from h)
  refine ⟨.ref q, e1, q, [.ref a, x], 0, .ref a, rfl, rfl, .inl (.inl (R1.sub _ _ hq)), rfl, a, rfl, (PlainT.nd hp).up R1.sub, s.run F σ H ρ vs ds _ R (s.mono _ _ _ (fun r y p v H1 R2 => ?_) p)⟩
  obtain ⟨e2, m, ey, hm, p⟩ := p
  subst ey
  obtain rfl := R2.int
  obtain ⟨e3, Hi2, own2, R3, _, h2⟩ := R2.obAt e2
  obtain ⟨x2, hq2, hp2, hx2⟩ := (show PairT K Hi2 q a (tupK ns) d2 from h2)
  obtain ⟨ob, xs, es, n1, n2, n3, n4, n5⟩ := hp2
  cases n4
  have hx := ints_of (K := K) ns xs n5
  subst hx
  exact ⟨ob, ns, m, R3.sub _ _ n1, n2, rfl, hm, p _ _ (R2.drop.push (v := .int (ns.idxOf m : Nat)) rfl)⟩
/-- return (tuple(..), name) -/
def dRetA (t : TDA) (i : Nat) : TDS := fun dn ρ => t ρ fun r es => ∃ fs d2, es = [.list fs] ∧ r[i]? = some (.sh d2) ∧ 0 < r.length ∧ ∀ q a, dn.ro (r.set 0 (.pp q a (.tuple fs) d2)) 0
theorem ss_retA {i : Nat} (s : SA K ta t) : SS K (tRet (tTup (L2.tCons (L2.tCB (rTupF K) ta) (L2.tCons (tVar i) L2.tNil)))) (dRetA t i) := by
  refine ⟨fun a b ρ h q => s.mono _ _ _ (fun r es ⟨fs, d2, e1, e2, e3, q⟩ => ⟨fs, d2, e1, e2, e3, fun x y => h.ro _ _ (q x y)⟩) q, fun F σ H ρ vs ds En dn G R q => s.run F σ H ρ vs ds _ R (s.mono _ _ _ (fun r es q xs H1 e R1 => ?_) q)⟩
  obtain ⟨fs, d2, rfl, ei, hr, q⟩ := q
  obtain ⟨x, xr, rfl, e2⟩ := len_cons e
  obtain rfl := len_nil e2
  obtain ⟨p, ys, rfl, e3, sq, R2⟩ := Rel.asList R1
  refine ⟨p, ys, rfl, sq, fun l ob hd hc hl => ?_⟩
  obtain ⟨Hi, own, R3⟩ := R2
  obtain ⟨g1, g2⟩ := dpAll_split e3 R3.tmp
  have s1 : Same Hi (upd Hi l (.frz ob (.tup ys))) := same_upd (R3.noSub hl)
  have g3 : DpAll K Hi vs ds := by cases g2 with | cons _ b => exact b
  have R4 := R3.lay (o := .frz ob (.tup ys)) hl (dpAll_mono s1 _ _ g3)
  have hp : PlainT K (upd Hi l (.frz ob (.tup ys))) l (.tuple fs) := ⟨ob, ys, fs, upd_same, hd, hc, rfl, dpAll_mono s1 _ _ g1⟩
  obtain ⟨v, ev, dv⟩ := R4.slot i _ ei
  have ev2 : σ[i]? = some (some v) := by
    cases h : σ[i]? with
    | none => rw [h] at ev; cases ev
    | some o => rw [h] at ev; exact congrArg some ev
  refine ⟨v, ev2, (by decide : 2 ≤ sizeLine), fun w hw => ?_⟩
  have s2 := same_upd (o := .tup [.ref l, v]) (R4.noSub hw)
  have R5 := R4.lay (o := .tup [.ref l, v]) hw (dpAll_mono s2 _ _ R4.tmp)
  have hpp : PairT K (upd (upd Hi l (.frz ob (.tup ys))) w (.tup [.ref l, v])) w l (.tuple fs) d2 := ⟨v, upd_same, hp.up s2, dp_mono s2 _ _ dv⟩
  have R6 : Rel K F (σ.set 0 (some (.ref w))) _ (r.set 0 (.pp w l (.tuple fs) d2)) vs ds := ⟨_, _, R5.put hr ⟨rfl, rfl, pp_ok hpp⟩ R5.tmp⟩
  refine G.ro (σ.set 0 (some (.ref w))) _ _ 0 (.ref w) R6 ?_ (q w l)
  have hl2 : σ.length = r.length := R3.len
  exact List.getElem?_set_self (by omega)
theorem run_A {N : List Str} {ts : TS} {t : TDS} {Hi H : Hp} {vs : List V} {ds : List D} {Q : VK} {P : D → D → Prop} (s : SS K ts t) (h1 : Same Hi H) (h2 : DpAll K Hi vs ds) (hq : ∀ d1 d2, P d1 d2 → ∀ q a H' Hi', Same Hi Hi' → Same Hi' H' → Same H H' → Fresh Hi Hi' H → PairT K Hi' q a d1 d2 → Q (.ref q) H')
    (ht : t { nx := fun _ => False, rt := fun _ _ => False, ro := fun ρ i => ∃ q a d1 d2, ρ[i]? = some (.pp q a d1 d2) ∧ P d1 d2 } (rho0 ds (N.length - ds.length))) : ts { nx := fun _ H' => Q .non H', rt := Q } (start N vs) H := by
  have el := dpAll_len h2
  refine s.run ⟨Hi, H, [], []⟩ (start N vs) H (rho0 ds (N.length - ds.length)) [] [] { nx := fun _ H' => Q .non H', rt := Q } { nx := fun _ => False, rt := fun _ _ => False, ro := fun ρ i => ∃ q a d1 d2, ρ[i]? = some (.pp q a d1 d2) ∧ P d1 d2 } ⟨fun _ _ _ _ z => z.elim, fun _ _ _ _ _ _ z => z.elim, fun _ _ _ _ z => z.elim, fun _ _ _ _ z => z.elim, fun _ _ _ _ _ _ _ _ _ _ _ _ z => z.elim, fun σ' H' ρ' i v R e ⟨b, a, d1, d2, e1, p⟩ => ?_, fun _ _ _ _ _ _ _ _ _ z => z.elim⟩ ⟨Hi, fun _ => [], ?_⟩ ht
  · obtain ⟨e2, Hi', own, R2, _, h⟩ := R.obAt e1
    rw [e] at e2
    cases e2
    exact hq d1 d2 p b a H' Hi' R2.base R2.sub (fun b o e => R2.keep b o e (by simp)) (fun b hb => R2.new b hb) h
  refine ⟨Same.refl _, h1, fun b hb => .inl hb, fun b o e _ => e, fun b e => e, ?_, fun i x e => ?_, fun i a ha => (by cases ha), fun i a ha => (by cases ha), fun i a ha => (by cases ha), fun i j _ a ha => (by cases ha), fun i es e a ha => (by cases ha), fun z hz => (by cases hz), DpAll.nil⟩
  · unfold L2.start rho0
    rw [List.length_append, List.length_append, List.length_map, List.length_map, List.length_replicate, List.length_replicate, el]
  · unfold rho0 at e
    rcases start_sh (N := N) h2 e with z | ⟨d, v, z, e2, q⟩
    · rw [z]; trivial
    · rw [z]
      refine ⟨v, ?_, q⟩
      unfold L2.start
      rw [el, e2]
      rfl
end
section
variable {P : Program} {w : World} {K : PySem.W.Frag} {mg : Str → Option Value} {base : Heap}
theorem ok_A {x qual : Str} {st : Stmt} {f : Addr} {fd : FuncData} {N ps : List Str} {k : Nat} {g : CA} (F : Fun K x qual st f fd) (S : FnScope N ps (defScope st)) (hl : ∀ ds P, g ds P → ds.length = ps.length)
    (hbody : ∀ (cdv : Value) (A : Around) (outer : List Env) (s : Shared) (H : Hp) (E : XK), Room k (A.deeper (PyProof.Rows.envOfC qual (defScope st) s.heap.objs.size f cdv)) →
      ∃ ts t, PSs (cxOf CX0 P w K mg base N qual (defScope st) f cdv A outer s H E).nox (defBody st) ts ∧ SS K ts t ∧ ∀ ds Pd, g ds Pd → t { nx := fun _ => False, rt := fun _ _ => False, ro := fun ρ i => ∃ q a d1 d2, ρ[i]? = some (.pp q a d1 d2) ∧ Pd d1 d2 } (rho0 ds (N.length - ds.length))) : FnOk P w K mg base CX0 (k + 1) f fd ps (spA K g) := by
  refine F.ok S (fun vs H Q E h => ?_) (fun cdv A outer s H vs Q E hr h => ?_)
  · obtain ⟨Hi, ds, _, h2, hg⟩ := h
    rw [dpAll_len h2]
    exact hl _ _ hg
  · obtain ⟨ts, t, h1, h2, h3⟩ := hbody cdv A outer s H E hr
    obtain ⟨Hi, ds, e1, e2, hg⟩ := h
    exact ⟨ts, h1, run_A h2 e1 e2 (fun d1 d2 q => q) (h3 ds _ hg)⟩
end
section
variable {K : PySem.W.Frag}
def cMax2 : CD := fun es P => ∃ i j : Int, es = [.int i, .int j] ∧ P (.int (if j > i then j else i))
theorem sc_max2 : SC K (fun xs H Q => ∃ i j, xs = [.int i, .int j] ∧ Q (.int (if j > i then j else i)) H) cMax2 := ⟨fun a P P' h ⟨i, j, e, q⟩ => ⟨i, j, e, h _ q⟩, fun F σ H ρ vs ds xs es Q e R ⟨i, j, h, q⟩ => by
  subst h
  obtain ⟨x, r, rfl, e1⟩ := len_cons e
  obtain ⟨y, r, rfl, e2⟩ := len_cons e1
  obtain rfl := len_nil e2
  have ex := Rel.int R
  have ey := Rel.int R.drop
  subst ex ey
  exact ⟨i, j, rfl, q _ _ (Rel.push (v := .int (if j > i then j else i)) R.drop.drop rfl)⟩⟩
variable {ρ r : Rho} {P : Rho → D → Prop} {i : Nat} {d : D}
theorem s_max2 {x y : Int} {Q : D → Prop} (q : Q (.int (if y > x then y else x))) : cMax2 [.int x, .int y] Q := ⟨x, y, rfl, q⟩
theorem s_varA (h : ρ[i]? = some (.sh d)) (q : P ρ d) : dVarA i ρ P := ⟨d, .inl h, q⟩
theorem s_varAp {q a : Addr} {d1 d2 : D} (h : ρ[i]? = some (.pp q a d1 d2)) (p : P ρ (.tuple [d1, d2])) : dVarA i ρ P := ⟨_, .inr ⟨q, a, d1, d2, h, rfl⟩, p⟩
theorem s_parA {e : TD} {t : TDA} {g : CA} {dn : DE} {j : Nat} (q : e ρ fun r x => t r fun r2 es => i < r2.length ∧ j < r2.length ∧ g es (fun d1 d2 => ∀ q a, dn.nx ((r2.set i (.sh x)).set j (.pp q a d1 d2)))) : dParA i j e g t dn ρ := q
theorem s_retA {t : TDA} {dn : DE} (q : t ρ fun r es => ∃ fs d2, es = [.list fs] ∧ r[i]? = some (.sh d2) ∧ 0 < r.length ∧ ∀ q a, dn.ro (r.set 0 (.pp q a (.tuple fs) d2)) 0) : dRetA t i dn ρ := q
end
end LD

/-! LD64: {k: True for ..} whose keys are ints; reversed(range(n)). -/
namespace LD
open PySem PySem.Spec L2 PyProof.Rows
section
variable {X : Cx}
/-- name = {..} on one line, its keys ints -/
theorem ps_setDcK {i : Nat} {y : Str} {py spos : Pos} {kx vx tg iter : Expr} {ifs : List Expr} {scope : Scope} {own : List (Str × Nat)} {pos : Pos} {wi : TI} {g : TG} {tt : TT} {tk tv : TE} (hc : X.calm = true) (hN : X.N.Nodup) (hy : X.N[i]? = some y) (hyl : X.env.scope.names.lookup y = some .local)
    (hsw : swapsWith (.DictComp kx vx [⟨tg, iter, ifs, 0⟩] scope pos) (some (.Name y py)) spos.line X.env = pure true) (hi : PI X tg iter wi) (ok : BlkOk X.N X.env.scope scope own)
    (hg : ∀ (s : Shared) (H : Hp) (C : Addr) (cl : List (Str × Addr)) (fp : List Addr), PG (X.blk s H scope (compEnvC scope cl C X.env) fp) tg g)
    (ht : ∀ (s : Shared) (H : Hp) (C : Addr) (cl : List (Str × Addr)) (fp : List Addr), PTs (X.blk s H scope (compEnvC scope cl C X.env) fp) ifs tt)
    (hk : ∀ (s : Shared) (H : Hp) (C : Addr) (cl : List (Str × Addr)) (fp : List Addr), PE (X.blk s H scope (compEnvC scope cl C X.env) fp) kx tk)
    (he : ∀ (s : Shared) (H : Hp) (C : Addr) (cl : List (Str × Addr)) (fp : List Addr), PE (X.blk s H scope (compEnvC scope cl C X.env) fp) vx tv) (hs : ∀ x, foldedSetIterable iter X.env x = pure x := by intro _; rfl) :
    PS X (.Assign [.Name y py] (.DictComp kx vx [⟨tg, iter, ifs, 0⟩] scope pos) spos) (tAsg (tDc wi g tt tk tv (own.map (·.2))) (gName i)) := by
  refine ⟨fun pins s σ H D I h => ?_⟩
  rw [exec_Assign_Name_used _ _ _ _ hsw]
  refine wpAny_bind (wpAny_standAt (wpAny_bind ?_))
  show wpAny _ X.A (do let _ ← comprehension (.DictComp kx vx [⟨tg, iter, ifs, 0⟩] scope pos) scope X.env (firstIterPos [⟨tg, iter, ifs, 0⟩] pos) newDict false (eval iter X.env) (some (assign (.Name y py) X.env))) _ _ s
  have h : tDc wi g tt tk tv (own.map (·.2)) σ H (fun x H1 => gName i x σ H1 D.nx) := h
  refine wpAny_bind (thn (dc_core (Qf := fun _ s' => SP X pins D .next s') hc hN I hi ok hg ht hk he hs h fun L C s' m H' I' q hn f => ?_) fun _ s' hq => wpAny_pure (wpAny_pure hq))
  show wpAny _ _ (assign (.Name y py) X.env (.ref L)) _ _ _
  refine wpAny_assign_Name (store_ok2 (v := V.ref L) I' hN hy (.inl hyl) rfl (fun s2 I2 ⟨a, sb, ha⟩ => ?_) (.inr hyl))
  obtain ⟨f0, f1, f2, f3, f4, f5⟩ := f
  have haC : C ≠ a := by
    rcases ha with z | z
    · rw [z]; exact f1
    · exact fun e => f4 y a z e.symm
  exact ⟨m, hn.sameBut sb haC, fun h3 sb3 => ⟨_, H', I2.turned (t' := s2.toks) (fun b o hb e => (sb3.2 b hb).trans e) f0 f1 f3 f4 f5, q⟩⟩
end
section
variable {K : PySem.W.Frag} {wi : TI} {di : TDI} {g : TG} {dg : DG} {tk tv : TE} {dk dv : TD}
/-- a dict of ints is made; a key's value is a truth -/
def djW (f : D → Rho → (Rho → Int → Bool → Prop) → Prop) (js : List Nat) : List D → Rho → List (Int × D) → (Rho → List (Int × D) → Prop) → Prop
  | [], ρ, acc, P => P ρ acc
  | d :: r, ρ, acc, P => f d ρ fun ρ1 k x => djW f js r (wipeR ρ1 js) (putJ acc k (.bool x)) P
theorem djW_mono {f : D → Rho → (Rho → Int → Bool → Prop) → Prop} {js : List Nat} (hf : ∀ d ρ k k', (∀ r y x, k r y x → k' r y x) → f d ρ k → f d ρ k') : ∀ {items : List D} {ρ : Rho} {acc : List (Int × D)} {P P' : Rho → List (Int × D) → Prop}, (∀ r d, P r d → P' r d) → djW f js items ρ acc P → djW f js items ρ acc P'
  | [], _, _, _, _, h, q => h _ _ q
  | d :: r, ρ, acc, P, P', h, q => hf _ _ _ _ (fun r1 y x q => djW_mono hf h q) q
def djF (dg : DG) (dk dv : TD) : D → Rho → (Rho → Int → Bool → Prop) → Prop := fun d r k => dg d r fun r1 => dk r1 fun r2 y => dv r2 fun r3 x => ∃ (n : Int) (b : Bool), y = .int n ∧ x = .bool b ∧ k r3 n b
theorem djF_mono (sg : SG K js g dg) (sk : SE K tk dk) (sv : SE K tv dv) : ∀ d ρ k k', (∀ r y x, k r y x → k' r y x) → djF dg dk dv d ρ k → djF dg dk dv d ρ k' := fun d ρ k k' h q =>
  sg.mono _ _ _ _ (fun r1 q => sk.mono _ _ _ (fun r2 y q => sv.mono _ _ _ (fun r3 x ⟨n, b, e1, e2, q⟩ => ⟨n, b, e1, e2, h _ _ _ q⟩) q) q) q
/-- x = {k: v for .. in ..} -/
def dDcJ (i : Nat) (di : TDI) (dg : DG) (dk dv : TD) (js : List Nat) : TDS := fun dn ρ => di ρ fun ρ0 items => (∀ x ∈ js, ρ0[x]? = some .no) ∧ items.length ≤ sizeLine ∧
  djW (djF dg dk dv) js items ρ0 [] fun r kvs => i < r.length ∧ ∀ p zs', kvI zs' = kvs → dn.nx (r.set i (.dk p zs'))
def flatE (z : Int × V × D) : Prop := ∃ b, z.2.1 = .bl b ∧ z.2.2 = .bool b
theorem flat_put {zs : KI} {k : Int} {b : Bool} (h : ∀ z ∈ zs, flatE z) : ∀ z ∈ putE1 zs k (.bl b) (.bool b), flatE z := fun z hz => by
  unfold putE1 at hz
  split at hz
  · obtain ⟨y, hy, rfl⟩ := List.mem_map.mp hz
    split
    · exact ⟨b, rfl, rfl⟩
    · exact h y hy
  · rcases List.mem_append.mp hz with hz | hz
    · exact h z hz
    · rw [List.mem_singleton.mp hz]; exact ⟨b, rfl, rfl⟩
theorem flat_dp {Hi : Hp} {zs : KI} (h : ∀ z ∈ zs, flatE z) : ∀ z ∈ zs, Dp K Hi z.2.1 z.2.2 := fun z hz => by
  obtain ⟨b, e1, e2⟩ := h z hz
  rw [e1, e2]
  exact .bl b
theorem putE1_len (zs : KI) (k : Int) (v : V) (d : D) : (putE1 zs k v d).length ≤ zs.length + 1 := by
  unfold putE1
  split
  · rw [List.length_map]; omega
  · rw [List.length_append]; exact Nat.le_refl _
theorem ss_dcJ {i : Nat} {js jg : List Nat} (si : SI K wi di) (sg : SG K jg g dg) (sk : SE K tk dk) (sv : SE K tv dv) (hj : ∀ j ∈ jg, j ∈ js := by decide) : SS K (tAsg (tDc wi g tYes tk tv js) (gName i)) (dDcJ i di dg dk dv js) := by
  refine ⟨fun a b ρ h q => si.mono _ _ _ (fun r items ⟨h1, h2, q⟩ => ⟨h1, h2, djW_mono (djF_mono sg sk sv) (fun r d q => ⟨q.1, fun p zs' hz => h.nx _ (q.2 p zs' hz)⟩) q⟩) q, fun F σ H ρ vs ds E dn G R q => ?_⟩
  refine si.run F σ H ρ vs ds _ R (si.mono _ _ _ (fun ρ0 items q J H1 ws es ew hw R1 => ?_) q)
  obtain ⟨hno, hzl, q⟩ := q
  intro D hD
  have f0 := R1.pinFree hD
  refine ⟨fun n m H2 => ∃ (ρ1 : Rho) (acc : KI), n + m = items.length ∧ acc.length ≤ n ∧ (∀ z ∈ acc, flatE z) ∧ (∀ x y, x ∈ js → ρ1[x]? = some y → y = .no) ∧ Rel K (F.mk1 D (.dK (hoI acc))) (L2.wipe σ js) H2 ρ1 (ws ++ vs) (es ++ ds) ∧
    djW (djF dg dk dv) js (items.drop n) ρ1 (kvI acc) fun r kvs => i < r.length ∧ ∀ (p : Addr) (zs' : KI), kvI zs' = kvs → dn.nx (r.set i (.dk p zs')), ⟨items.length, ρ0, [], Nat.zero_add _, Nat.zero_le _, (fun z hz => by cases hz), fun x y hx hy => ?_, ?_, q⟩, fun n m H2 hW => ?_⟩
  · rw [hno x hx] at hy
    exact (Option.some.inj hy).symm
  · have R2 := (R1.pinNew (o := .dK []) hD).wipe (js := js)
    rw [wipe_no hno] at R2
    exact R2
  obtain ⟨ρ1, acc, em, hl, hrv, hn, R2, q4⟩ := hW
  by_cases hlt : n < items.length
  · right
    have hd : items[n]? = some items[n] := List.getElem?_eq_getElem hlt
    rw [List.drop_eq_getElem_cons hlt] at q4
    obtain ⟨hgo, hy⟩ := (hw (F.mk1 D (.dK (hoI acc))) (L2.wipe σ js) H2 ρ1 vs ds n R2).1 _ hd
    refine ⟨hgo, fun H2 => ∃ (ρ1 : Rho) (acc : KI), (n + 1) + (m - 1) = items.length ∧ acc.length ≤ n + 1 ∧ (∀ z ∈ acc, flatE z) ∧ (∀ x y, x ∈ js → ρ1[x]? = some y → y = .no) ∧ Rel K (F.mk1 D (.dK (hoI acc))) (L2.wipe σ js) H2 ρ1 (ws ++ vs) (es ++ ds) ∧
      djW (djF dg dk dv) js (items.drop (n + 1)) ρ1 (kvI acc) fun r kvs => i < r.length ∧ ∀ (p : Addr) (zs' : KI), kvI zs' = kvs → dn.nx (r.set i (.dk p zs')), fun H' h' => ⟨m - 1, by omega, h'⟩, fun x H' hx => ?_⟩
    have R3 := hy x H' hx
    refine sg.run _ _ _ ρ1 _ _ _ _ _ R3 (sg.mono _ _ _ _ (fun r1 q σ2 H3 R4 A => ?_) q4)
    have ew2 : L2.wipe σ2 js = L2.wipe σ js := by
      have e1 : L2.wipe σ2 js = L2.wipe (L2.wipe σ js) js := wipe_eq A.1 fun j hjn => A.2.1 j fun z => hjn (hj j z)
      rw [e1]
      exact wipe_eq (wipe_length ..) fun j hjn => wipe_out hjn
    refine ⟨ew2, ?_⟩
    show tk _ _ _
    refine sk.run _ σ2 H3 r1 _ _ _ R4 (sk.mono _ _ _ (fun r2 y q yv H4 R5 => ?_) q)
    refine sv.run _ σ2 H4 r2 _ _ _ R5 (sv.mono _ _ _ (fun r3 x q xv H5 R6 => ?_) q)
    obtain ⟨k, b, ey, ex, q7⟩ := q
    subst ey ex
    have ev : xv = V.bl b ∧ yv = V.int k := by
      obtain ⟨Hi, own, R7⟩ := R6
      have t := R7.tmp
      cases t with
      | cons t1 t2 =>
        cases t2 with
        | cons t3 t4 =>
          cases t1
          cases t3
          exact ⟨rfl, rfl⟩
    obtain ⟨rfl, rfl⟩ := ev
    refine ⟨hoI acc, .inl k, rfl, R6.pinAt, by show (acc.map _).length < _; rw [List.length_map]; omega, ?_⟩
    rw [put_V acc k (.bl b) (.bool b)]
    have pl := putE1_len acc k (.bl b) (.bool b)
    refine ⟨wipeR r3 js, putE1 acc k (.bl b) (.bool b), by omega, by omega, flat_put hrv, fun x y hx hy => wipeR_in hx hy, ?_, ?_⟩
    · have R8 := (R6.repin (o' := .dK (hoI (putE1 acc k (.bl b) (.bool b)))) f0.1 f0.2).wipe (js := js)
      rw [ew2] at R8
      exact R8.drop.drop
    · rw [put_J]
      exact q7
  · left
    obtain ⟨_, hs⟩ := hw (F.mk1 D (.dK (hoI acc))) (L2.wipe σ js) H2 ρ1 vs ds n R2
    refine ⟨hs (by omega), ?_⟩
    rw [List.drop_eq_nil_iff.mpr (by omega)] at q4
    obtain ⟨hi1, q5⟩ := q4
    obtain ⟨u1, u2, u3⟩ := R2.unpin f0.1 f0.2
    have R9 : Rel K F σ (hide H2 D) ρ1 vs ds := (u3.dropN ew).resig (wipe_length ..).symm fun x y ex => by
      by_cases hjs : x ∈ js
      · exact .inl (hn x y hjs ex)
      · exact .inr (wipe_out hjs).symm
    have R11 := R9.keepNew (p := D) (i := i) (o := .dK (hoI acc)) (x := .dk D acc) u1 hi1 fun Hi s => ⟨rfl, rfl, dk_grow ⟨upd_same, flat_dp hrv⟩⟩
    rw [← u2] at R11
    exact G.nx _ _ _ R11 (q5 D acc rfl)
end
/-! what such a comprehension makes -/
theorem djW_det {f : D → Rho → (Rho → Int → Bool → Prop) → Prop} {js : List Nat} {ρ : Rho} (key : D → Int) : ∀ {items : List D} {acc : List (Int × D)} {P : Rho → List (Int × D) → Prop}, (∀ d ∈ items, ∀ k : Rho → Int → Bool → Prop, (∀ r, wipeR r js = ρ → k r (key d) true) → f d ρ k) →
    P ρ (items.foldl (fun a d => putJ a (key d) (.bool true)) acc) → djW f js items ρ acc P
  | [], acc, P, _, q => q
  | d :: r, acc, P, hf, q => hf d List.mem_cons_self _ fun r1 e => by
    rw [e]
    exact djW_det key (fun d hd => hf d (List.mem_cons_of_mem _ hd)) q
theorem lookJ_map (acc : List (Int × D)) (k n : Int) (x : D) : (lookJ (acc.map fun p => if p.1 = n then (p.1, x) else p) k).isSome = (lookJ acc k).isSome := by
  unfold lookJ
  rw [Option.isSome_map, Option.isSome_map]
  induction acc with
  | nil => rfl
  | cons a acc ih =>
    have e1 : (if a.1 = n then (a.1, x) else a).1 = a.1 := by split <;> rfl
    rw [List.map_cons, List.find?_cons, List.find?_cons, e1]
    cases decide (a.1 = k) with
    | true => rfl
    | false => exact ih
theorem lookJ_put (acc : List (Int × D)) (n k : Int) (x : D) : (lookJ (putJ acc n x) k).isSome = ((lookJ acc k).isSome || decide (n = k)) := by
  unfold putJ
  by_cases h : (lookJ acc n).isSome = true
  · rw [if_pos h, lookJ_map]
    by_cases e : n = k
    · rw [← e, h]; rfl
    · rw [decide_eq_false e, Bool.or_false]
  · rw [if_neg h]
    unfold lookJ
    rw [Option.isSome_map, Option.isSome_map, List.find?_append]
    cases acc.find? fun p => decide (p.1 = k) with
    | some y => rfl
    | none =>
      rw [Option.none_or, List.find?_cons]
      cases decide (n = k) <;> rfl
theorem lookJ_fold (key : D → Int) (k : Int) : ∀ (items : List D) (acc : List (Int × D)), (lookJ (items.foldl (fun a d => putJ a (key d) (.bool true)) acc) k).isSome = ((lookJ acc k).isSome || items.any fun d => decide (key d = k))
  | [], acc => by rw [List.any_nil, Bool.or_false]; rfl
  | d :: r, acc => by rw [List.foldl_cons, lookJ_fold key k r, lookJ_put, List.any_cons, Bool.or_assoc]
/-! reversed(range(n)) -/
section
variable {K : PySem.W.Frag}
def revD (n : Nat) : List D := (List.range n).map fun (k : Nat) => PyData.int (0 + ((n : Nat) : Int) - 1 + (k : Int) * (-1))
theorem walks_rev {lo c : Int} {n : Nat} : Walks K (Itc lo c n) ((List.range n).map fun (k : Nat) => PyData.int (lo + (k : Int) * c)) [] [] := by
  intro F σ H ρ vs ds i R
  refine ⟨fun d hd => ?_, fun h => ?_⟩
  · rw [List.getElem?_map] at hd
    have hi : i < n := by
      cases e : (List.range n)[i]? with
      | none => rw [e] at hd; cases hd
      | some k => have := (List.getElem?_eq_some_iff.mp e).1; rwa [List.length_range] at this
    rw [List.getElem?_range hi] at hd
    cases hd
    refine ⟨hi, fun x H' hy => ?_⟩
    obtain ⟨rfl, rfl⟩ := hy
    exact R.push (v := .int (lo + (i : Nat) * c)) rfl
  · rw [List.length_map, List.length_range] at h
    exact h
def iRv (a : TD) : TDI := fun ρ P => a ρ fun r d => ∃ j : Int, d = .int j ∧ -(2 ^ 62) ≤ j ∧ j < 2 ^ 62 ∧ P r (revD j.toNat)
theorem si_revR {ta : TE} {a : TD} (sa : SE K ta a) : SI K (iRevR (tRg1 ta)) (iRv a) := by
  refine ⟨fun ρ P P' h q => sa.mono _ _ _ (fun _ d ⟨j, e, h1, h2, q⟩ => ⟨j, e, h1, h2, h _ _ q⟩) q, fun F σ H ρ vs ds Q R q => ?_⟩
  refine sa.run F σ H ρ vs ds _ R (sa.mono _ _ _ (fun r d q v H1 R1 => ?_) q)
  obtain ⟨j, e1, h1, h2, q⟩ := q
  subst e1
  obtain rfl := R1.int
  have e : (j - 0).toNat = j.toNat := by rw [Int.sub_zero]
  refine ⟨j, rfl, by decide, by decide, h1, h2, ?_⟩
  rw [e]
  exact q _ _ [] [] rfl walks_rev R1.drop
end
/-! x.extend(t), t a tuple -/
theorem ext_tup (l : Addr) (ys : Array Value) (n : Nat) (b : Addr) (zs : Array Value) (hc : ys.size + zs.size ≤ sizeLine) :
    Meets (Builtin.«list.extend» ⟨[.ref l, .ref b], []⟩) (fun _ R s => s.heap.get? l = some { cls := .type "list", data := .seq ys n } ∧ s.heap.IsTuple b zs ∧ R (.ok (.ret .none)) { s with heap := s.heap.update l (Obj.mapSeq fun x => x ++ zs) }) := by
  intro prog w A R s ⟨hl, ⟨ob, gb, cb, m, db⟩, hR⟩
  show wpAny _ A.in1 (Builtin.List.listExtendWith (.ref l) (.ref b) .none) _ _ s
  unfold Builtin.List.listExtendWith
  refine wpAny_bind (wpAny_typeOf ⟨ob, gb, cb⟩ ?_)
  have kind : (Builtin.List.listSameRef (.ref l) (.ref b) || Value.type "tuple" == Value.type "list" || Value.type "tuple" == Value.type "tuple") = true := by simp
  simp only [kind, if_true]
  unfold Builtin.List.listItems
  refine wpAny_bind (wpAny_bind (wpAny_seqItems gb db (wpAny_pure ?_)))
  refine wpAny_bind (wpAny_bind (wpAny_seqItems hl rfl (wpAny_pure ?_)))
  have few : ¬ (!ys.isEmpty && Builtin.List.listTooLong (ys.size + zs.size)) = true := by
    rw [notLongL hc, Bool.and_false]
    decide
  rw [if_neg few]
  refine wpAny_bind (wpAny_updateSeq hl rfl (hz := by omega) ?_)
  exact wpAny_pure hR
section
variable {X : Cx}
def rExtT (K : PySem.W.Frag) : V → List V → Hp → VK → Prop := fun x vs H Q => ∃ l b xs zs, x = .ref l ∧ vs = [.ref b] ∧ H l = some (.lst xs) ∧ SqT K H b zs ∧ xs.length + zs.length ≤ sizeLine ∧ Q .non (upd H l (.lst (xs ++ zs)))
theorem mt_extT : MtM X "list.extend" (rExtT X.K) := by
  intro pins s σ H x vs v us Q I rx rv h
  obtain ⟨l, b, xs, zs, rfl, rfl, hH, hB, hz, q⟩ := h
  cases rx
  rw [Vals.ref1 rv]
  obtain ⟨z, its, n, r, hl, e⟩ := I.lstM hH
  obtain ⟨its2, r2, hp, _⟩ := I.tuple hB
  have hl2 := r2.length
  have hsz : its.toArray.size + its2.toArray.size ≤ sizeLine := by rw [List.size_toArray, List.size_toArray]; omega
  refine call_meets PySem.F.slot_list_extend ⟨_, e, rfl⟩ PySem.F.entry_list_extend (PySem.F.args_list_extend_2 _ _) (ext_tup l its.toArray n b its2.toArray hsz) ⟨e, hp, ?_⟩
  exact ⟨.non, _, I.lset (its' := its ++ its2) hH e (by simp) (r.append r2) (by rw [List.length_append]; omega), rfl, q⟩
end
section
variable {K : PySem.W.Frag}
def dExt (i : Nat) (b : TD) : TDS := fun dn ρ => (∃ es, ρ[i]? = some (.ls es)) ∧ b ρ fun r d => ∃ es fs, r[i]? = some (.ls es) ∧ d = .tuple fs ∧ es.length + fs.length ≤ sizeLine ∧ dn.nx (r.set i (.ls (es ++ fs)))
theorem ss_extT {tb : TE} {b : TD} (i : Nat) (sb : SE K tb b) : SS K (tDrop (tBM K "list" (rExtT K) (tVar i) (tCons tb tNil))) (dExt i b) := by
  refine ⟨fun a b ρ h ⟨q0, q⟩ => ⟨q0, sb.mono _ _ _ (fun r y ⟨es, fs, e, e1, e2, q⟩ => ⟨es, fs, e, e1, e2, h.nx _ q⟩) q⟩, fun F σ H ρ vs ds E dn G R q => ?_⟩
  obtain ⟨⟨es0, e0⟩, q⟩ := q
  obtain ⟨p, xs, e1, hp, el, _⟩ := R.ownAt e0
  refine ⟨.ref p, e1, .inl ⟨rfl, xs, .inl (.inl hp)⟩, sb.run F σ H ρ vs ds _ R (sb.mono _ _ _ (fun r y q v H1 R1 => ?_) q)⟩
  obtain ⟨es, fs, e, ey, ez, q⟩ := q
  subst ey
  obtain ⟨p2, xs2, e2, hp2, el2, hd⟩ := R1.ownAt e
  rw [e1] at e2
  cases e2
  obtain ⟨t, zs, rfl, e4, s, R2⟩ := R1.asTup
  refine ⟨p, t, xs2, zs, rfl, rfl, hp2, s, by omega, G.nx _ _ _ (R2.turn e e1 hp2 fun Hi h1 h2 => ?_) q⟩
  obtain ⟨g1, g2⟩ := dpAll_split e4 h2
  cases g2 with
  | cons a b => exact ⟨dpAll_app h1 g1, b⟩
end
end LD

/-! LD65: sorted(set(t)) of a tuple of tuples of ints. -/
namespace LD
open PySem PySem.Spec L2 PyProof.Rows
def newSet (w : World) : Obj := { cls := .type "set", dict := none, data := .set #[] 0 (.fresh 0 0 (!w.params.followText "set-order")) }
section
variable {P : Program} {w : World} {A : Around} {E : Value → Shared → Prop} {s : Shared}
/-- what the walk over the tuple leaves in the new set -/
def SetLeft (P : Program) (w : World) (s : Shared) (ks : List (Addr × List Int)) (S : Addr) (r : Value) (s2 : Shared) : Prop := r = .none ∧ ∃ h' tk L es ep t, s2 = { s with heap := h', toks := tk } ∧ SetTR P w h' S L es ep t ∧ Got ks ks.length L ∧ ∀ b o, s.heap.get? b = some o → h'.get? b = some o
theorem set_init_tupT {l S : Addr} {items : Array Value} {h1 : Heap} (ks : List (Addr × List Int)) (hh : A.handled = none) (hsz : items.size = ks.length) (hit : items.toList = ks.map fun p => Value.ref p.1) (hk : ∀ p ∈ ks, IsT P w s.heap p.2 p.1) (few : ks.length < 64) (room : A.in1.in1.units < cLine) (eS : S = s.heap.objs.size) (e1 : h1 = s.heap.push (newSet w)) (hl : h1.IsTuple l items) (hlS : l < S) :
    wpAny (model P w) A.in1 (Builtin.«set.__init__» ⟨[.ref S, .ref l], []⟩) (fun fin s' => match fin with | .done f => wants (SetLeft P w s ks S) E (.ok f) s' | .again c' => c'.quiet = true ∧ codeAny (model P w) A c' (wants (SetLeft P w s ks S) E) s') (fun e s' => wants (SetLeft P w s ks S) E (.error e) s') { s with heap := h1 } := by
  have new1 : h1.get? S = some (newSet w) := by rw [e1, eS]; exact Heap.get?_push_size _ rfl
  have size1 : h1.objs.size = S + 1 := by rw [e1, eS]; exact Heap.size_push ..
  have old1 : ∀ b o, s.heap.get? b = some o → h1.get? b = some o := fun b o q => by rw [e1]; exact Heap.get?_push_of_some _ q
  have big : ∀ b, S ≤ b → s.heap.get? b = none := fun b hb => by
    cases q : s.heap.get? b with
    | none => rfl
    | some o =>
      have z : b < s.heap.objs.size := Heap.lt_size q
      rw [← eS] at z
      exact absurd z (Nat.not_lt_of_le hb)
  obtain ⟨⟨ocl, odi, oda, osl⟩, gl, cl, nl, dl⟩ := hl
  simp only at cl dl
  subst cl dl
  have t1 := PySem.F.sub_tuple_set
  have t2 := PySem.F.sub_tuple_frozenset
  have t3 : (Value.type "tuple" == Value.type "dict") = false := by decide
  have tl : h1.IsTuple l items := ⟨_, gl, rfl, nl, rfl⟩
  unfold newSet at new1
  unfold Builtin.«set.__init__» noKeywords Builtin.Frozenset.updateFrom; generalize eI : pyIter = PI
  wp_walk
  subst eI
  refine wpAny_pyIter_tuple tl (wpAny_bind (wpAny_runValue ?_))
  have c1 : A.in1.in1.handled = none := by simp [hh]
  have away : l ≠ h1.objs.size := by rw [size1]; exact Nat.ne_of_lt (Nat.lt_succ_of_lt hlS)
  have off : S ∉ [h1.objs.size, l] := fun z => by
    rcases List.mem_cons.mp z with z | z
    · rw [size1] at z; exact absurd z (Nat.ne_of_lt (Nat.lt_succ_self S))
    · exact absurd (List.mem_singleton.mp z).symm (Nat.ne_of_lt hlS)
  have each : ∀ (i : Nat) (v : Value), items[i]? = some v → ∃ p, ks[i]? = some p ∧ v = .ref p.1 := fun i v hv => by
    have q := congrArg (fun t : List Value => t[i]?) hit
    simp only [Array.getElem?_toList, hv, List.getElem?_map] at q
    cases z : ks[i]? with
    | none => rw [z] at q; exact absurd q (by simp)
    | some p => exact ⟨p, rfl, by rw [z] at q; exact Option.some.inj q⟩
  refine set_update_tups ((Walks.tuple c1 _ l away items).toS) S off ks hsz few each s.heap hk (big S (Nat.le_refl _)) (fun b hb => big b (by rw [List.mem_singleton.mp hb, size1]; exact Nat.le_succ _)) ?units (items.size - 0) 0 _ (by omega) (Nat.zero_le _) ⟨⟨_, Heap.get?_push_size _ rfl, rfl, rfl⟩, tl.push _⟩ (fun b o q => Heap.get?_push_of_some _ (old1 b o q)) ⟨[], #[], 0, _, setTR_fresh (Heap.get?_push_of_some _ new1), Got.zero ks⟩ ?last
  case units => exact room
  case last =>
    intro s2 L es ep t hm hS hg hkp
    obtain ⟨h2, g2, d2, k2, o2⟩ := s2
    obtain rfl : g2 = s.gens := hm.gens
    obtain rfl : d2 = s.drawn := hm.drawn
    obtain rfl : o2 = s.os := hm.os
    rw [hsz] at hg
    have last : wants (SetLeft P w s ks S) E (.ok (.ret .none)) { s with heap := h2, toks := k2 } := ⟨rfl, h2, k2, L, es, ep, t, rfl, hS, hg, hkp⟩
    exact wpAny_pure (show wpAny (model P w) A.in1 (ret Value.none) _ _ _ from wpAny_pure last)
theorem call_set_tupT {l : Addr} {items : Array Value} (ks : List (Addr × List Int)) {Q : Value → Shared → Prop} (hh : A.handled = none) (hl : s.heap.IsTuple l items) (hit : items.toList = ks.map fun p => Value.ref p.1) (hk : ∀ p ∈ ks, IsT P w s.heap p.2 p.1) (few : ks.length < 64) (room : A.units + 3 < cLine)
    (h : ∀ (h' : Heap) (tk : Nat) L es ep t, SetTR P w h' s.heap.objs.size L es ep t → Got ks ks.length L → (∀ b o, s.heap.get? b = some o → h'.get? b = some o) → Q (.ref s.heap.objs.size) { s with heap := h', toks := tk }) : wpAny (model P w) A (call (.type "set") [.ref l]) Q E s := by
  have hsz : items.size = ks.length := by
    have q := congrArg List.length hit
    simpa using q
  have hlS : l < s.heap.objs.size := by
    obtain ⟨_, q, _⟩ := hl
    exact Heap.lt_size q
  obtain ⟨mc, mt, mro⟩ := PySem.F.called_set.mro
  have f1 := PySem.F.called_set.made; have f2 := PySem.F.called_set.sub; have f3 := PySem.F.called_set.notType; have f4 := PySem.F.called_set.canCreate; have f5 := PySem.F.typeCall_set_1 (.ref l)
  refine wpAny_call (codeAny_of_tree (show wpAny _ _ (callAny (.type "set") _) _ _ _ from wpAny_pure ⟨Code.quiet_builtin _ (by decide +kernel), codeAny_builtin PySem.F.entry_type_call ?_⟩))
  rw [Around.under_plain (weight_type_call_type "set" _ []) rfl]; repeat (any_goals (first | assumption | wp_step))
  refine codeAny_mono (code_set_led1 (.ref l) (E := E) (Q₁ := fun obj s1 => obj = .ref s.heap.objs.size ∧ s1 = { s with heap := s.heap.push (newSet w) }) ⟨rfl, rfl⟩) fun r s1 hr => ?_
  match r, hr with
  | .error e, hr => exact hr
  | .ok (.ret obj), hr =>
    obtain ⟨rfl, rfl⟩ := hr
    have kind : Shared.TypeIs { s with heap := s.heap.push (newSet w) } (.ref s.heap.objs.size) "set" := ⟨_, Heap.get?_push_size _ rfl, rfl⟩
    have f6 := PySem.F.called_set.init.lookup; have f7 := PySem.F.called_set.init.bind (.ref s.heap.objs.size)
    repeat (any_goals (first | assumption | wp_step))
    refine codeAny_mono (codeAny_call_builtin (R := wants (SetLeft P w s ks s.heap.objs.size) E) PySem.F.called_set.init.plain PySem.F.entry_set_init (check_set_init_1 kind (set_init_tupT ks (by simp [hh]) hsz hit hk few (by simp; omega) rfl rfl (hl.push _) hlS))) fun r2 s2 hr2 => ?_
    match r2, hr2 with
    | .error e, hr2 => exact hr2
    | .ok (.ret v), hr2 =>
      obtain ⟨rfl, h', tk, L, es, ep, t, rfl, hS, hg, hkp⟩ := hr2
      repeat (any_goals (first | assumption | wp_step))
      exact h _ _ _ _ _ _ hS hg hkp
end
section
variable {X : Cx}
/-- set(t), t a tuple of tuples of ints -/
def rSetTT (K : PySem.W.Frag) (P : Program) (w : World) : List V → Hp → VK → Prop := fun xs H Q => ∃ (t : Addr) (ks : List (Addr × List Int)), xs = [.ref t] ∧ SqT K H t (ks.map fun p => V.ref p.1) ∧ (∀ p ∈ ks, SqT K H p.1 (p.2.map V.int)) ∧ ks.length < 64 ∧
  ∀ a L, H a = none → (∀ p ∈ L, p ∈ ks) → (∀ p ∈ ks, p.2 ∈ L.map (·.2)) → Q (.ref a) (upd H a (SetTO P w a L))
theorem cr_setTT (hc : X.calm = true) (hu : X.A.units + 64 < cLine) : CallR X (.type "set") (rSetTT X.K X.prog X.w) := by
  intro pins s σ H xs us Q I r h
  obtain ⟨t, ks, rfl, ht, hk, few, q⟩ := h
  rw [Vals.ref1 r]
  obtain ⟨its, rv, pl, _⟩ := I.tuple ht
  have fresh : H s.heap.objs.size = none := I.hok.fresh (Nat.le_refl _)
  refine call_set_tupT (P := X.prog) (w := X.w) (items := its.toArray) ks (I.ok.hd hc) pl (by simpa using refs_of_vals rv) (fun p hp => I.isT (hk p hp)) few (by omega) fun h' tk L es ep t2 R g old => ?_
  have all : ∀ p ∈ ks, p.2 ∈ L.map (·.2) := fun p hp => g.all p (by rw [List.take_length]; exact hp)
  exact ⟨.ref s.heap.objs.size, _, I.laid (t' := tk) old (Nat.le_refl _) (setTO_new R.t0), rfl, q _ L fresh (fun p hp => List.mem_of_mem_take (g.sub p hp)) all⟩
end
/-! over data -/
theorem code_lex {B : Int} : ∀ {a b : List Int}, a.length = b.length → TS.Bd B a → TS.Bd B b → TS.code B a ≤ TS.code B b → a ≠ b → a < b
  | [], [], _, _, _, _, ne => absurd rfl ne
  | [], y :: b, hl, _, _, _, _ => by simp at hl
  | x :: a, [], hl, _, _, _, _ => by simp at hl
  | x :: a, y :: b, hl, ha, hb, hc, ne => by
    have hl2 : a.length = b.length := by simpa using hl
    rcases Int.lt_trichotomy x y with h | h | h
    · exact List.cons_lt_cons_iff.mpr (.inl h)
    · subst h
      have h2 : ¬ TS.code B (x :: b) < TS.code B (x :: a) := by omega
      rw [TS.code_same hl2.symm] at h2
      exact List.cons_lt_cons_iff.mpr (.inr ⟨rfl, code_lex hl2 ha.tail hb.tail (by omega) fun z => ne (by rw [z])⟩)
    · have := TS.code_lt hl2.symm hb.tail ha.tail h
      omega
section
variable {K : PySem.W.Frag} {P : Program} {w : World}
theorem tups_are {H : Hp} : ∀ {kss : List (List Int)} {xs : List V}, DpAll K H xs (kss.map tupK) → ∃ ks : List (Addr × List Int), xs = ks.map (fun p => V.ref p.1) ∧ ks.map (·.2) = kss
  | [], xs, h => by cases h; exact ⟨[], rfl, rfl⟩
  | k :: kss, xs, h => by
    cases h with
    | cons a b =>
      obtain ⟨ks, e1, e2⟩ := tups_are b
      cases a with
      | tup s g => exact ⟨(_, k) :: ks, by rw [e1]; rfl, by rw [List.map_cons, e2]⟩
theorem tups_sq {H : Hp} : ∀ {ks : List (Addr × List Int)}, DpAll K H (ks.map fun p => V.ref p.1) ((ks.map (·.2)).map tupK) → ∀ p ∈ ks, SqT K H p.1 (p.2.map V.int)
  | [], _, p, hp => by cases hp
  | k :: ks, h, p, hp => by
    cases h with
    | cons a b =>
      rcases List.mem_cons.mp hp with rfl | hp
      · cases a with
        | tup s g =>
          have := ints_of (K := K) p.2 _ g
          subst this
          exact s
      · exact tups_sq b p hp
theorem sq_tups {H : Hp} : ∀ {ks : List (Addr × List Int)}, (∀ p ∈ ks, SqT K H p.1 (p.2.map V.int)) → DpAll K H (ks.map fun p => V.ref p.1) ((ks.map (·.2)).map tupK)
  | [], _ => .nil
  | k :: ks, h => .cons (.tup (h k List.mem_cons_self) (dpAll_ints k.2)) (sq_tups fun p hp => h p (List.mem_cons_of_mem _ hp))
def dSortSetT (a : TD) : TDA := fun ρ PA => a ρ fun r x => ∃ (kss : List (List Int)) (d : Nat) (B : Int), x = .tuple (kss.map tupK) ∧ kss.length < 64 ∧ 1 ≤ d ∧ (∀ k ∈ kss, k.length = d ∧ TS.Bd B k) ∧ ∀ ms : List (List Int), ms.Pairwise (· < ·) → (∀ k, k ∈ ms ↔ k ∈ kss) → PA r (ms.map tupK)
theorem sf_sortSetT {te : TE} {a : TD} (sa : SE K te a) : SF K (tCB (rSortedT K P w) (tCons (tCB (rSetTT K P w) (tCons te tNil)) tNil)) (dSortSetT a) := by
  refine ⟨fun ρ P P' h q => sa.mono _ _ _ (fun _ x ⟨kss, d, B, e, h1, h2, h3, q⟩ => ⟨kss, d, B, e, h1, h2, h3, fun ms a b => h _ _ (q ms a b)⟩) q, fun F σ H ρ vs ds Q R q => ?_⟩
  refine sa.run F σ H ρ vs ds _ R (sa.mono _ _ _ (fun r1 x q v H1 R1 => ?_) q)
  obtain ⟨kss, d, B, rfl, few, hd, hk, q⟩ := q
  obtain ⟨p, xs, rfl, e, s, R4⟩ := R1.asTup
  obtain ⟨ks, rfl, rfl⟩ := tups_are (dpAll_split e R4.dpAll).1
  rw [List.length_map] at few
  have hin : ∀ p ∈ ks, p.2 ∈ ks.map (·.2) := fun p hp => List.mem_map.mpr ⟨p, hp, rfl⟩
  refine ⟨p, ks, rfl, s, tups_sq (dpAll_split e R4.dpAll).1, few, fun t L ht hL hall => ?_⟩
  have R5 : Rel K F σ (upd H1 t (SetTO P w t L)) r1 _ _ := (R4.pinNew (o := SetTO P w t L) ht).unZ
  refine ⟨t, L, d, B, rfl, upd_same, fun p hp => tups_sq (dpAll_split e R5.dpAll).1 p (hL p hp), hd, fun p hp => hk _ (hin p (hL p hp)), fun L' l pm nd hl pw hfree => ?_⟩
  have hL' : ∀ p ∈ L', p ∈ ks := fun p hp => hL p (pm.mem_iff.mp hp)
  refine q (L'.map (·.2)) ?_ (fun k => ⟨fun h => ?_, fun h => ?_⟩) _ _ l (by rw [List.length_map, List.length_map, List.length_map]) (R5.swap fun Hi h => ?_) hfree
  · have nd2 : L'.Pairwise fun q r => q.2 ≠ r.2 := List.pairwise_map.mp nd
    refine List.pairwise_map.mpr ((pw.and nd2).imp_of_mem fun {a b} ha hb ⟨h1, h2⟩ => ?_)
    have g1 := hk _ (hin a (hL' a ha))
    have g2 := hk _ (hin b (hL' b hb))
    exact code_lex (by rw [g1.1, g2.1]) g1.2 g2.2 h1 h2
  · obtain ⟨p, hp, rfl⟩ := List.mem_map.mp h
    exact hin p (hL' p hp)
  · obtain ⟨p, hp, rfl⟩ := List.mem_map.mp h
    obtain ⟨p2, h2, e2⟩ := List.mem_map.mp (hall p hp)
    exact List.mem_map.mpr ⟨p2, pm.mem_iff.mpr h2, e2⟩
  · obtain ⟨g1, g2⟩ := dpAll_split e h
    have h3 := tups_sq g1
    refine dpAll_app (sq_tups fun p hp => h3 p (hL' p hp)) ?_
    cases g2 with
    | cons _ g3 => exact g3
end
end LD

/-! LD66: more step lemmas. -/
namespace LD
open PySem PySem.Spec L2
theorem s_repN {a k : TD} {ρ : Rho} {P : Rho → List D → Prop} (q : a ρ fun r x => k r fun r2 d => ∃ (es : List D) (n : Int), x = .list es ∧ d = .int n ∧ -(2 ^ 62) ≤ n ∧ n < 2 ^ 62 ∧ es.length * n.toNat ≤ sizeLine ∧ P r2 (List.replicate n.toNat es).flatten) : dRepN a k ρ P := q
theorem s_rg1 {a : TD} {ρ : Rho} {P : Rho → List D → Prop} (q : a ρ fun r d => ∃ n, d = .int n ∧ RgOk 0 n ∧ P r (rngD 0 n.toNat)) : dRg1 a ρ P := q
theorem s_repL {k : Int} {t : TDA} {ρ : Rho} {PA : Rho → List D → Prop} (q : t ρ fun r es => es.length * k.toNat ≤ sizeLine ∧ PA r (List.replicate k.toNat es).flatten) : dRepL k t ρ PA := q
theorem s_dcJ {di : TDI} {dg : DG} {dk dv : TD} {js : List Nat} {dn : DE} {ρ : Rho} {i : Nat} (q : di ρ fun ρ0 items => (∀ x ∈ js, ρ0[x]? = some .no) ∧ items.length ≤ sizeLine ∧ djW (djF dg dk dv) js items ρ0 [] fun r kvs => i < r.length ∧ ∀ p zs', kvI zs' = kvs → dn.nx (r.set i (.dk p zs'))) : dDcJ i di dg dk dv js dn ρ := q
theorem s_iRv {a : TD} {ρ : Rho} {PI : Rho → List D → Prop} (q : a ρ fun r d => ∃ j : Int, d = .int j ∧ -(2 ^ 62) ≤ j ∧ j < 2 ^ 62 ∧ PI r (revD j.toNat)) : iRv a ρ PI := q
theorem s_ext {b : TD} {dn : DE} {ρ : Rho} {i : Nat} {es : List D} (h : ρ[i]? = some (.ls es)) (q : b ρ fun r d => ∃ es fs, r[i]? = some (.ls es) ∧ d = .tuple fs ∧ es.length + fs.length ≤ sizeLine ∧ dn.nx (r.set i (.ls (es ++ fs)))) : dExt i b dn ρ := ⟨⟨es, h⟩, q⟩
theorem s_inK {n : Bool} {b : TD} {ρ : Rho} {P : Rho → D → Prop} {i : Nat} (q : b ρ fun r y => ∃ p zs k, r[i]? = some (.dk p zs) ∧ y = .int k ∧ P r (.bool (if n = true then !(lookJ (kvI zs) k).isSome else (lookJ (kvI zs) k).isSome))) : dInK n i b ρ P := q
theorem flat_rep {x : D} : ∀ n : Nat, (List.replicate n [x]).flatten = List.replicate n x
  | 0 => rfl
  | n + 1 => by rw [List.replicate_succ, List.flatten_cons, flat_rep n]; rfl
theorem cMaxT_any {ls : List Int} {P : D → Prop} (ne : ls ≠ []) (h : ∀ m ∈ ls, (∀ y ∈ ls, y ≤ m) → P (.int m)) : cMaxT [tupK ls] P := by
  cases ls with
  | nil => exact absurd rfl ne
  | cons l0 lr =>
    obtain ⟨m, e, h1, h2⟩ := maxD_int lr l0
    obtain ⟨a1, a2⟩ := alike_ints2 (l0 :: lr)
    exact ⟨.int l0, lr.map PyData.int, rfl, a1, a2, by rw [e]; exact h m h1 h2⟩
theorem s_revT {a : TD} {ρ : Rho} {P : Rho → D → Prop} (q : a ρ fun r x => ∃ es, x = .tuple es ∧ P r (.tuple es.reverse)) : dRevT a ρ P := q
theorem s_sortSetT {a : TD} {ρ : Rho} {PA : Rho → List D → Prop} (q : a ρ fun r x => ∃ (kss : List (List Int)) (d : Nat) (B : Int), x = .tuple (kss.map tupK) ∧ kss.length < 64 ∧ 1 ≤ d ∧ (∀ k ∈ kss, k.length = d ∧ TS.Bd B k) ∧ ∀ ms : List (List Int), ms.Pairwise (· < ·) → (∀ k, k ∈ ms ↔ k ∈ kss) → PA r (ms.map tupK)) : dSortSetT a ρ PA := q
theorem s_djF {dg : DG} {dk dv : TD} {d : D} {ρ : Rho} {k : Rho → Int → Bool → Prop} (q : dg d ρ fun r1 => dk r1 fun r2 y => dv r2 fun r3 x => ∃ (n : Int) (b : Bool), y = .int n ∧ x = .bool b ∧ k r3 n b) : djF dg dk dv d ρ k := q
theorem s_exIB {x : Int} {b : Bool} {F : Int → Bool → Prop} (q : F x b) : ∃ (n : Int) (c : Bool), PyData.int x = .int n ∧ PyData.bool b = .bool c ∧ F n c := ⟨x, b, rfl, rfl, q⟩
theorem s_exdk {r : Rho} {i : Nat} {x : Int} {F : Addr → KI → Int → Prop} {p : Addr} {zs : KI} (h : r[i]? = some (.dk p zs)) (q : F p zs x) : ∃ p zs k, r[i]? = some (.dk p zs) ∧ PyData.int x = .int k ∧ F p zs k := ⟨p, zs, x, h, rfl, q⟩
theorem s_iR2 {t : TDA} {ρ : Rho} {PI : Rho → List D → Prop} (q : t ρ fun r es => ∃ i j : Int, es = [.int i, .int j] ∧ (-(2 ^ 62) ≤ i ∧ i < 2 ^ 62 ∧ -(2 ^ 62) ≤ j ∧ j < 2 ^ 62) ∧ PI r (rngD i (j - i).toNat)) : iR2 t ρ PI := q
end LD

namespace K19
open PySem PySem.Spec L2 LD
/-! ### the reckoning -/
def prodI (ns : List Int) : Int := ns.foldl (fun a b => a * b) 1
abbrev Pr := Int × Nat
def lexP (p q : Pr) : Bool := decide (p.1 < q.1 ∨ (p.1 = q.1 ∧ p.2 < q.2))
theorem lexP_iff {p q : Pr} : lexP p q = true ↔ (p.1 < q.1 ∨ (p.1 = q.1 ∧ p.2 < q.2)) := by unfold lexP; simp
theorem lexP_no {p q : Pr} : lexP p q = false ↔ ¬ (p.1 < q.1 ∨ (p.1 = q.1 ∧ p.2 < q.2)) := by unfold lexP; simp
def candP (ls sh : List Int) : List Pr := ((List.range sh.length).filter fun i => decide (1 < sh.getD i 0)).map fun i => (ls.getD i 0, i)
def minP (p : Pr) (ps : List Pr) : Pr := ps.foldl (fun a y => if lexP y a then y else a) p
def stepF (ls sh : List Int) : List Int := match candP ls sh with
  | [] => sh
  | p :: ps => sh.set (minP p ps).2 (sh.getD (minP p ps).2 0 - 1)
def leastF (ls : List Int) : Nat → List Int
  | 0 => ls
  | n + 1 => stepF ls (leastF ls n)
def takeF : List Pr → List Int → Int → List Int
  | [], sh, _ => sh
  | (l, i) :: r, sh, left => takeF r (sh.set i (l - if l - 1 < left then l - 1 else left)) (left - if l - 1 < left then l - 1 else left)
def pairsP (ls : List Int) : List Pr := (List.range ls.length).map fun i => (ls.getD i 0, i)
def sortP (ls : List Int) : List Pr := (pairsP ls).mergeSort fun p q => !lexP q p
def stepBy (ps : List Pr) (sh : List Int) : List Int := match ps.find? fun p => decide (1 < sh.getD p.2 0) with
  | none => sh
  | some p => sh.set p.2 (sh.getD p.2 0 - 1)
theorem getD_set_ne {sh : List Int} {i j : Nat} {v : Int} (h : i ≠ j) : (sh.set i v).getD j 0 = sh.getD j 0 := by
  rw [List.getD_eq_getElem?_getD, List.getElem?_set_ne h, ← List.getD_eq_getElem?_getD]
theorem getD_set_eq {sh : List Int} {i : Nat} {v : Int} (h : i < sh.length) : (sh.set i v).getD i 0 = v := by
  rw [List.getD_eq_getElem?_getD, List.getElem?_set_self h]
  rfl
structure Fit (ps : List Pr) (sh : List Int) : Prop where
  nodup : (ps.map Prod.snd).Nodup
  at_ : ∀ p ∈ ps, sh.getD p.2 0 = p.1 ∧ 1 ≤ p.1 ∧ p.2 < sh.length
theorem Fit.tail {l : Int} {i : Nat} {r : List Pr} {sh : List Int} {v : Int} (F : Fit ((l, i) :: r) sh) : Fit r (sh.set i v) := by
  have h := List.nodup_cons.mp F.nodup
  refine ⟨h.2, fun p hp => ?_⟩
  have hi : i ≠ p.2 := fun e => h.1 (by rw [e]; exact List.mem_map.mpr ⟨p, hp, rfl⟩)
  obtain ⟨a, b, c⟩ := F.at_ p (List.mem_cons_of_mem _ hp)
  rw [getD_set_ne hi, List.length_set]
  exact ⟨a, b, c⟩
theorem take_zero : ∀ {ps : List Pr} {sh : List Int}, Fit ps sh → takeF ps sh 0 = sh
  | [], _, _ => rfl
  | (l, i) :: r, sh, F => by
    obtain ⟨a, b, c⟩ := F.at_ (l, i) List.mem_cons_self
    have e : (if l - 1 < 0 then l - 1 else 0) = (0 : Int) := if_neg (by omega)
    have e2 : sh.set i l = sh := by
      refine List.ext_getElem? fun j => ?_
      by_cases hj : i = j
      · subst hj
        rw [List.getElem?_set_self c, List.getElem?_eq_getElem c]
        rw [List.getD_eq_getElem?_getD, List.getElem?_eq_getElem c] at a
        exact congrArg some a.symm
      · rw [List.getElem?_set_ne hj]
    show takeF r (sh.set i (l - if l - 1 < 0 then l - 1 else 0)) (0 - if l - 1 < 0 then l - 1 else 0) = sh
    rw [e, Int.sub_zero, Int.sub_zero]
    have := take_zero (F.tail (v := l))
    rw [e2] at this ⊢
    exact this
theorem take_len : ∀ {ps : List Pr} {sh : List Int} {d : Int}, (takeF ps sh d).length = sh.length
  | [], _, _ => rfl
  | (l, i) :: r, sh, d => by
    unfold takeF
    rw [take_len, List.length_set]
theorem take_off : ∀ {ps : List Pr} {sh : List Int} {d : Int} {j : Nat}, j ∉ ps.map Prod.snd → (takeF ps sh d).getD j 0 = sh.getD j 0
  | [], _, _, _, _ => rfl
  | (l, i) :: r, sh, d, j, h => by
    unfold takeF
    have hi : i ≠ j := fun e => h (by rw [← e]; exact List.mem_cons_self)
    rw [take_off fun z => h (List.mem_cons_of_mem _ z), getD_set_ne hi]
theorem set_set (sh : List Int) (i : Nat) (u v : Int) : (sh.set i u).set i v = sh.set i v := List.set_set ..
theorem take_step : ∀ {ps : List Pr} {sh : List Int} {d : Int}, 0 ≤ d → Fit ps sh → takeF ps sh (d + 1) = stepBy ps (takeF ps sh d)
  | [], _, _, _, _ => rfl
  | (l, i) :: r, sh, d, hd, F => by
    obtain ⟨a, b, c⟩ := F.at_ (l, i) List.mem_cons_self
    have hn := List.nodup_cons.mp F.nodup
    show takeF r (sh.set i (l - if l - 1 < d + 1 then l - 1 else d + 1)) (d + 1 - if l - 1 < d + 1 then l - 1 else d + 1) = stepBy ((l, i) :: r) (takeF r (sh.set i (l - if l - 1 < d then l - 1 else d)) (d - if l - 1 < d then l - 1 else d))
    by_cases h : d < l - 1
    · have e1 : (if l - 1 < d + 1 then l - 1 else d + 1) = d + 1 := if_neg (by omega)
      have e2 : (if l - 1 < d then l - 1 else d) = d := if_neg (by omega)
      rw [e1, e2, Int.sub_self, Int.sub_self, take_zero F.tail, take_zero F.tail]
      unfold stepBy
      have g : (sh.set i (l - d)).getD i 0 = l - d := getD_set_eq c
      rw [List.find?_cons_of_pos (by rw [g]; exact decide_eq_true (by omega))]
      show _ = (sh.set i (l - d)).set i ((sh.set i (l - d)).getD i 0 - 1)
      rw [g, set_set]
      congr 1
      omega
    · have e1 : (if l - 1 < d + 1 then l - 1 else d + 1) = l - 1 := if_pos (by omega)
      have e2 : (if l - 1 < d then l - 1 else d) = l - 1 := by
        by_cases z : l - 1 < d
        · exact if_pos z
        · rw [if_neg z]; omega
      rw [e1, e2, show d + 1 - (l - 1) = (d - (l - 1)) + 1 by omega, take_step (by omega) F.tail]
      unfold stepBy
      have g : (takeF r (sh.set i (l - (l - 1))) (d - (l - 1))).getD i 0 = l - (l - 1) := by
        rw [take_off hn.1, getD_set_eq c]
      rw [List.find?_cons_of_neg (by rw [g]; simp; omega)]
theorem mem_pairs {ls : List Int} {p : Pr} : p ∈ pairsP ls ↔ p.2 < ls.length ∧ p.1 = ls.getD p.2 0 := by
  unfold pairsP
  rw [List.mem_map]
  constructor
  · rintro ⟨i, hi, rfl⟩
    exact ⟨List.mem_range.mp hi, rfl⟩
  · rintro ⟨h1, h2⟩
    exact ⟨p.2, List.mem_range.mpr h1, Prod.ext h2.symm rfl⟩
theorem sort_mem {ls : List Int} {p : Pr} : p ∈ sortP ls ↔ p.2 < ls.length ∧ p.1 = ls.getD p.2 0 := by
  rw [← mem_pairs]
  exact (List.mergeSort_perm _ _).mem_iff
theorem sort_fit {ls : List Int} (h1 : ∀ l ∈ ls, 1 ≤ l) : Fit (sortP ls) ls := by
  refine ⟨?_, fun p hp => ?_⟩
  · have hp : (sortP ls).map Prod.snd |>.Perm ((pairsP ls).map Prod.snd) := (List.mergeSort_perm _ _).map _
    rw [hp.nodup_iff]
    unfold pairsP
    rw [List.map_map]
    have : (Prod.snd ∘ fun i => (ls.getD i 0, i)) = (fun i : Nat => i) := rfl
    rw [this, List.map_id']
    exact List.nodup_range
  · obtain ⟨a, b⟩ := sort_mem.mp hp
    refine ⟨b.symm, ?_, a⟩
    rw [b, List.getD_eq_getElem?_getD, List.getElem?_eq_getElem a]
    exact h1 _ (List.getElem_mem a)
theorem sort_pw (ls : List Int) : (sortP ls).Pairwise fun p q => lexP q p = false := by
  have := List.pairwise_mergeSort (le := fun p q : Pr => !lexP q p) (fun a b c h1 h2 => ?_) (fun a b => ?_) (pairsP ls)
  · exact this.imp fun {a b} h => by simpa using h
  · simp only [Bool.not_eq_true', lexP_no] at h1 h2 ⊢
    omega
  · simp only [Bool.or_eq_true, Bool.not_eq_true', lexP_no]
    omega
theorem min_mem (p : Pr) : ∀ ps : List Pr, minP p ps ∈ p :: ps ∧ ∀ q ∈ p :: ps, lexP q (minP p ps) = false := by
  intro ps
  unfold minP
  induction ps generalizing p with
  | nil =>
    refine ⟨List.mem_cons_self, fun q hq => ?_⟩
    obtain rfl : q = p := by simpa using hq
    show lexP q q = false
    exact lexP_no.mpr (by omega)
  | cons y ys ih =>
    obtain ⟨a, b⟩ := ih (if lexP y p then y else p)
    rw [List.foldl_cons]
    generalize hm : ys.foldl (fun a y => if lexP y a then y else a) (if lexP y p then y else p) = m at a b
    by_cases h : lexP y p = true
    · rw [if_pos h] at a b
      refine ⟨List.mem_cons_of_mem _ a, fun q hq => ?_⟩
      rcases List.mem_cons.mp hq with e | hq
      · have h2 := lexP_iff.mp h
        have h3 := lexP_no.mp (b y List.mem_cons_self)
        rw [e]
        exact lexP_no.mpr (by omega)
      · exact b q hq
    · rw [if_neg h] at a b
      refine ⟨?_, fun q hq => ?_⟩
      · rcases List.mem_cons.mp a with e | a
        · rw [e]; exact List.mem_cons_self
        · exact List.mem_cons_of_mem _ (List.mem_cons_of_mem _ a)
      · rcases List.mem_cons.mp hq with e | hq
        · rw [e]; exact b p List.mem_cons_self
        · rcases List.mem_cons.mp hq with e | hq
          · have h2 := lexP_no.mp (by simpa using h : lexP y p = false)
            have h3 := lexP_no.mp (b p List.mem_cons_self)
            rw [e]
            exact lexP_no.mpr (by omega)
          · exact b q (List.mem_cons_of_mem _ hq)
theorem mem_cand {ls sh : List Int} {q : Pr} : q ∈ candP ls sh ↔ q.2 < sh.length ∧ 1 < sh.getD q.2 0 ∧ q.1 = ls.getD q.2 0 := by
  unfold candP
  rw [List.mem_map]
  constructor
  · rintro ⟨i, hi, rfl⟩
    obtain ⟨a, b⟩ := List.mem_filter.mp hi
    exact ⟨List.mem_range.mp a, of_decide_eq_true b, rfl⟩
  · rintro ⟨h1, h2, h3⟩
    exact ⟨q.2, List.mem_filter.mpr ⟨List.mem_range.mpr h1, decide_eq_true h2⟩, Prod.ext h3.symm rfl⟩
theorem step_eq {ls sh : List Int} (hl : sh.length = ls.length) : stepBy (sortP ls) sh = stepF ls sh := by
  unfold stepBy
  cases hf : (sortP ls).find? fun p => decide (1 < sh.getD p.2 0) with
  | none =>
    have hn := List.find?_eq_none.mp hf
    have hc : candP ls sh = [] := List.eq_nil_iff_forall_not_mem.mpr fun q hq => by
      obtain ⟨a, b, c⟩ := mem_cand.mp hq
      exact hn q (sort_mem.mpr ⟨by omega, c⟩) (decide_eq_true b)
    unfold stepF
    rw [hc]
  | some p =>
    obtain ⟨hp, as, bs, hs, hbf⟩ := List.find?_eq_some_iff_append.mp hf
    have hp1 : 1 < sh.getD p.2 0 := of_decide_eq_true hp
    have pm : p ∈ sortP ls := by rw [hs]; simp
    obtain ⟨c1, c2⟩ := sort_mem.mp pm
    have pc : p ∈ candP ls sh := mem_cand.mpr ⟨by omega, hp1, c2⟩
    unfold stepF
    cases hc : candP ls sh with
    | nil => rw [hc] at pc; cases pc
    | cons x xs =>
      have e : minP x xs = p := by
        obtain ⟨m1, m2⟩ := min_mem x xs
        rw [← hc] at m1 m2
        obtain ⟨a, b, c⟩ := mem_cand.mp m1
        have mm : minP x xs ∈ sortP ls := sort_mem.mpr ⟨by omega, c⟩
        have h3 := lexP_no.mp (m2 p pc)
        rw [hs] at mm
        have pw := sort_pw ls
        rw [hs] at pw
        rcases List.mem_append.mp mm with z | z
        · have := hbf _ z
          rw [decide_eq_true b] at this
          cases this
        · rcases List.mem_cons.mp z with z | z
          · exact z
          · have h4 := lexP_no.mp ((List.pairwise_cons.mp (List.pairwise_append.mp pw).2.1).1 _ z)
            refine Prod.ext ?_ ?_ <;> omega
      show _ = sh.set (minP x xs).2 (sh.getD (minP x xs).2 0 - 1)
      rw [e]
theorem step_len (ls sh : List Int) : (stepF ls sh).length = sh.length := by
  unfold stepF
  split
  · rfl
  · rw [List.length_set]
theorem least_len (ls : List Int) : ∀ n, (leastF ls n).length = ls.length
  | 0 => rfl
  | n + 1 => by
    unfold leastF
    rw [step_len, least_len ls n]
theorem take_least {ls : List Int} (h1 : ∀ l ∈ ls, 1 ≤ l) : ∀ n : Nat, takeF (sortP ls) ls (n : Int) = leastF ls n
  | 0 => take_zero (sort_fit h1)
  | n + 1 => by
    rw [show ((n + 1 : Nat) : Int) = (n : Int) + 1 by omega, take_step (by omega) (sort_fit h1), take_least h1 n, step_eq (least_len ls n)]
    rfl
theorem least_two : ((List.range 12).all fun d => decide (prodI (leastF (List.replicate 10 2) d) = 2 ^ (10 - d))) = true := by decide +kernel
/-! sums, products -/
theorem prod_cons (x : Int) (xs : List Int) : prodI (x :: xs) = x * prodI xs := by
  have h : ∀ (ys : List Int) (a : Int), ys.foldl (fun a b => a * b) a = a * ys.foldl (fun a b => a * b) 1 := by
    intro ys
    induction ys with
    | nil => intro a; exact (Int.mul_one a).symm
    | cons y ys ih => intro a; rw [List.foldl_cons, List.foldl_cons, ih, ih (1 * y), Int.one_mul, Int.mul_assoc]
  unfold prodI
  rw [List.foldl_cons, h, Int.one_mul]
theorem prod_pos : ∀ {xs : List Int}, (∀ x ∈ xs, 1 ≤ x) → 1 ≤ prodI xs
  | [], _ => Int.le_refl _
  | x :: xs, h => by
    rw [prod_cons]
    have h1 := h x List.mem_cons_self
    have h2 := prod_pos fun y hy => h y (List.mem_cons_of_mem _ hy)
    have := Int.mul_le_mul h1 h2 (by omega) (by omega)
    omega
theorem prod_set : ∀ {xs : List Int} {i : Nat}, (∀ x ∈ xs, 1 ≤ x) → 1 ≤ xs.getD i 0 - 1 → prodI (xs.set i (xs.getD i 0 - 1)) ≤ prodI xs
  | [], _, _, h => Int.le_refl _
  | x :: xs, 0, h, h2 => by
    have e : (x :: xs).getD 0 0 = x := rfl
    rw [e] at h2 ⊢
    show prodI ((x - 1) :: xs) ≤ _
    rw [prod_cons, prod_cons]
    exact Int.mul_le_mul_of_nonneg_right (by omega) (by have := prod_pos fun y hy => h y (List.mem_cons_of_mem _ hy); omega)
  | x :: xs, i + 1, h, h2 => by
    have e : (x :: xs).getD (i + 1) 0 = xs.getD i 0 := rfl
    rw [e] at h2 ⊢
    show prodI (x :: xs.set i (xs.getD i 0 - 1)) ≤ _
    rw [prod_cons, prod_cons]
    have h1 := h x List.mem_cons_self
    exact Int.mul_le_mul_of_nonneg_left (prod_set (fun y hy => h y (List.mem_cons_of_mem _ hy)) h2) (by omega)
theorem sum_set : ∀ {xs : List Int} {i : Nat} {v : Int}, i < xs.length → (xs.set i v).sum = xs.sum - xs.getD i 0 + v
  | [], _, _, h => by cases h
  | x :: xs, 0, v, h => by
    show v + xs.sum = x + xs.sum - x + v
    omega
  | x :: xs, i + 1, v, h => by
    have e : (x :: xs).getD (i + 1) 0 = xs.getD i 0 := rfl
    rw [e]
    show x + (xs.set i v).sum = x + xs.sum - _ + v
    rw [sum_set (Nat.lt_of_succ_lt_succ h)]
    omega
theorem sum_ge : ∀ {xs : List Int}, (∀ x ∈ xs, 1 ≤ x) → (xs.length : Int) ≤ xs.sum
  | [], _ => Int.le_refl _
  | x :: xs, h => by
    have h1 := h x List.mem_cons_self
    have h2 := sum_ge fun y hy => h y (List.mem_cons_of_mem _ hy)
    show ((xs.length + 1 : Nat) : Int) ≤ x + xs.sum
    omega
theorem prod_one : ∀ {xs : List Int}, (∀ x ∈ xs, 1 ≤ x) → (prodI xs = 1 ↔ xs.sum = (xs.length : Int))
  | [], _ => ⟨fun _ => rfl, fun _ => rfl⟩
  | x :: xs, h => by
    have h1 := h x List.mem_cons_self
    have ht : ∀ y ∈ xs, 1 ≤ y := fun y hy => h y (List.mem_cons_of_mem _ hy)
    have h2 := prod_pos ht
    have h3 := sum_ge ht
    have ih := prod_one ht
    rw [prod_cons]
    show _ ↔ x + xs.sum = ((xs.length + 1 : Nat) : Int)
    constructor
    · intro e
      have hx : x = 1 := by
        by_cases z : x = 1
        · exact z
        · have := Int.mul_le_mul (show (2 : Int) ≤ x by omega) h2 (by omega) (by omega)
          omega
      rw [hx, Int.one_mul] at e
      have := ih.mp e
      omega
    · intro e
      have hx : x = 1 := by omega
      rw [hx, Int.one_mul]
      exact ih.mpr (by omega)
structure Low (ls sh : List Int) : Prop where
  len : sh.length = ls.length
  one : ∀ x ∈ sh, 1 ≤ x
theorem getD_mem {xs : List Int} {i : Nat} (h : i < xs.length) : xs.getD i 0 ∈ xs := by
  rw [List.getD_eq_getElem?_getD, List.getElem?_eq_getElem h]
  exact List.getElem_mem h
theorem step_low {ls sh : List Int} (L : Low ls sh) : Low ls (stepF ls sh) ∧ prodI (stepF ls sh) ≤ prodI sh ∧ ((stepF ls sh).sum = sh.sum - 1 ∧ (ls.length : Int) < sh.sum ∨ (stepF ls sh).sum = sh.sum ∧ sh.sum = (ls.length : Int)) := by
  unfold stepF
  cases hc : candP ls sh with
  | nil =>
    refine ⟨L, Int.le_refl _, .inr ⟨rfl, ?_⟩⟩
    have h1 : ∀ x ∈ sh, x = 1 := fun x hx => by
      obtain ⟨i, hi, e⟩ := List.getElem_of_mem hx
      have h2 := L.one x hx
      have h3 : ¬ 1 < sh.getD i 0 := fun z => by
        have : ((ls.getD i 0, i) : Pr) ∈ candP ls sh := mem_cand.mpr ⟨hi, z, rfl⟩
        rw [hc] at this
        cases this
      rw [List.getD_eq_getElem?_getD, List.getElem?_eq_getElem hi] at h3
      have : ¬ 1 < sh[i] := h3
      omega
    have : ∀ ys : List Int, (∀ x ∈ ys, x = 1) → ys.sum = (ys.length : Int) := by
      intro ys
      induction ys with
      | nil => intro _; rfl
      | cons y ys ih =>
        intro h
        have e := ih fun z hz => h z (List.mem_cons_of_mem _ hz)
        have e2 := h y List.mem_cons_self
        show y + ys.sum = ((ys.length + 1 : Nat) : Int)
        omega
    rw [this sh h1, L.len]
  | cons p ps =>
    obtain ⟨m1, _⟩ := min_mem p ps
    rw [← hc] at m1
    obtain ⟨a, b, _⟩ := mem_cand.mp m1
    show Low ls (sh.set (minP p ps).2 (sh.getD (minP p ps).2 0 - 1)) ∧ prodI (sh.set (minP p ps).2 (sh.getD (minP p ps).2 0 - 1)) ≤ prodI sh ∧ ((sh.set (minP p ps).2 (sh.getD (minP p ps).2 0 - 1)).sum = sh.sum - 1 ∧ (ls.length : Int) < sh.sum ∨ (sh.set (minP p ps).2 (sh.getD (minP p ps).2 0 - 1)).sum = sh.sum ∧ sh.sum = (ls.length : Int))
    have lo : ∀ x ∈ sh.set (minP p ps).2 (sh.getD (minP p ps).2 0 - 1), 1 ≤ x := fun x hx => by
      rcases List.mem_or_eq_of_mem_set hx with z | z
      · exact L.one x z
      · omega
    have es : (sh.set (minP p ps).2 (sh.getD (minP p ps).2 0 - 1)).sum = sh.sum - 1 := by
      rw [sum_set a]
      omega
    refine ⟨⟨by rw [List.length_set]; exact L.len, lo⟩, prod_set L.one (by omega), .inl ⟨es, ?_⟩⟩
    have := sum_ge lo
    rw [es, List.length_set, L.len] at this
    omega
theorem least_low {ls : List Int} (h1 : ∀ l ∈ ls, 1 ≤ l) : ∀ n : Nat, Low ls (leastF ls n) ∧ ((leastF ls n).sum = ls.sum - n ∨ (leastF ls n).sum = (ls.length : Int) ∧ ls.sum - n ≤ (ls.length : Int))
  | 0 => ⟨⟨rfl, h1⟩, .inl (by show ls.sum = ls.sum - ((0 : Nat) : Int); omega)⟩
  | n + 1 => by
    obtain ⟨L, e⟩ := least_low h1 n
    obtain ⟨L2, _, e2⟩ := step_low L
    have lo := sum_ge L2.one
    rw [L2.len] at lo
    refine ⟨L2, ?_⟩
    show (stepF ls (leastF ls n)).sum = _ ∨ (stepF ls (leastF ls n)).sum = _ ∧ _
    omega
theorem least_prod {ls : List Int} (h1 : ∀ l ∈ ls, 1 ≤ l) (n : Nat) : 1 ≤ prodI (leastF ls n) ∧ prodI (leastF ls (n + 1)) ≤ prodI (leastF ls n) ∧ (prodI (leastF ls n) = 1 ↔ ls.sum - (ls.length : Int) ≤ n) := by
  obtain ⟨L, e⟩ := least_low h1 n
  refine ⟨prod_pos L.one, (step_low L).2.1, ?_⟩
  rw [prod_one L.one, L.len]
  have lo := sum_ge L.one
  rw [L.len] at lo
  omega
/-! the least product, for few lists that are short -/
def chooseF (rows : List (List Int)) : List (List Int) := rows.foldl (fun found row => found.foldl (fun later c => later ++ row.map fun x => c ++ [x]) []) [[]]
def rowsOf (ls : List Int) : List (List Int) := ls.map fun l => rngI 1 (l + 1 - 1).toNat
def lists1 : List (List Int) := [1, 2, 3, 4, 5].map fun a => [a]
def lists2 : List (List Int) := lists1.flatMap fun l => [1, 2, 3, 4, 5].map fun a => a :: l
def lists3 : List (List Int) := lists2.flatMap fun l => [1, 2, 3, 4, 5].map fun a => a :: l
def okAt (ls : List Int) (s p : Int) : Bool := ((chooseF (rowsOf ls)).any fun c => decide (c.sum = s ∧ prodI c = p)) && (chooseF (rowsOf ls)).all fun c => decide (c.sum = s → p ≤ prodI c)
def okL (ls : List Int) : Bool := (List.range 17).all fun d => okAt ls (leastF ls d).sum (prodI (leastF ls d))
set_option maxHeartbeats 4000000 in
theorem ok1 : (lists1.all okL) = true := by decide +kernel
set_option maxHeartbeats 4000000 in
theorem ok2 : (lists2.all okL) = true := by decide +kernel
set_option maxHeartbeats 40000000 in
theorem ok3 : (lists3.all okL) = true := by decide +kernel
theorem five {a : Int} (h1 : 1 ≤ a) (h2 : a ≤ 5) : a ∈ ([1, 2, 3, 4, 5] : List Int) := by
  simp only [List.mem_cons, List.not_mem_nil, or_false]
  omega
theorem ok_all : ∀ {ls : List Int}, ls ≠ [] → ls.length ≤ 3 → (∀ l ∈ ls, 1 ≤ l ∧ l ≤ 5) → okL ls = true
  | [], h, _, _ => absurd rfl h
  | [a], _, _, h => List.all_eq_true.mp ok1 _ (List.mem_map.mpr ⟨a, five (h a (by simp)).1 (h a (by simp)).2, rfl⟩)
  | [b, a], _, _, h => List.all_eq_true.mp ok2 _ (List.mem_flatMap.mpr ⟨[a], List.mem_map.mpr ⟨a, five (h a (by simp)).1 (h a (by simp)).2, rfl⟩, List.mem_map.mpr ⟨b, five (h b (by simp)).1 (h b (by simp)).2, rfl⟩⟩)
  | [c, b, a], _, _, h => List.all_eq_true.mp ok3 _ (List.mem_flatMap.mpr ⟨[b, a], List.mem_flatMap.mpr ⟨[a], List.mem_map.mpr ⟨a, five (h a (by simp)).1 (h a (by simp)).2, rfl⟩, List.mem_map.mpr ⟨b, five (h b (by simp)).1 (h b (by simp)).2, rfl⟩⟩, List.mem_map.mpr ⟨c, five (h c (by simp)).1 (h c (by simp)).2, rfl⟩⟩)
  | _ :: _ :: _ :: _ :: _, _, h, _ => absurd h (by simp)
theorem least_is {ls : List Int} {d : Nat} (h1 : ls ≠ []) (h2 : ls.length ≤ 3) (h3 : ∀ l ∈ ls, 1 ≤ l ∧ l ≤ 5) (hd : d < 17) : okAt ls (leastF ls d).sum (prodI (leastF ls d)) = true := List.all_eq_true.mp (ok_all h1 h2 h3) d (List.mem_range.mpr hd)
end K19

/-! the reckoning of k27: planes, and how few choices they leave -/
namespace K27
open PySem PySem.Spec L2 LD K19
abbrev Pl := List Int × Int
def plD (q : Pl) : D := planeD q.1 q.2
def holdsB (p : Int) (a : List Int) (c : Int) (b : List Int) : Bool := decide (elemF p (rowF a b - c) = 0)
def lawLeft (p : Int) (rs : List (List Int)) (ps : List Pl) : List (List Int) := (chL rs).filter fun c => !(ps.any fun q => holdsB p q.1 q.2 c)
def heldB (p : Int) (ps : List (List Int × Int)) (c : List Int) : Bool := ps.any fun q => decide (elemF p (rowF q.1 c) = q.2)
def leftL (p : Int) (rs : List (List Int)) (ps : List (List Int × Int)) : List (List Int) := (chL rs).filter fun c => !heldB p ps c
def FacOk (p : Int) (a : List Int) : Prop := (∀ x ∈ a, IsEl p x ∧ -6 ≤ x ∧ x < 1000) ∧ ∃ x ∈ a, x ≠ 0
structure PlOk (p n : Int) (q : Pl) : Prop where
  len : (q.1.length : Int) = n
  fac : FacOk p q.1
  el : IsEl p q.2
  lo : -6 ≤ q.2
  hi : q.2 < 1000
theorem fields_not1 : ∀ p ∈ fieldsL, ¬ p ∣ 1 := by decide
theorem fields_nn : ∀ p ∈ fieldsL, 0 ≤ p := by decide
theorem el_ne {p a b : Int} (hp : 0 ≤ p) (ha : IsEl p a) (hb : IsEl p b) (h : p ∣ a - b) : a = b := by
  have := elemF_dvd.mpr h
  rwa [elemF_of hp ha, elemF_of hp hb] at this
theorem row_dist {p : Int} {r : List Int} (hp : 0 ≤ p) (h : RowOk p r) : RDist p r := ⟨h.up.imp fun h => by omega, fun a ha b hb hab z => hab (el_ne hp (h.at_ a ha).2 (h.at_ b hb).2 z)⟩
theorem held_dvd {p : Int} (D : Dom p) (h1 : ¬ p ∣ 1) (c : List Int) : ∀ ps : List Pl, (ps.any fun q => holdsB p q.1 q.2 c) = decide (p ∣ plProd ps c)
  | [] => by
    show false = _
    rw [decide_eq_false]
    exact h1
  | q :: ps => by
    rw [List.any_cons, held_dvd D h1 c ps]
    unfold holdsB
    rw [← Bool.decide_or]
    refine decide_eq_decide.mpr ?_
    rw [elemF_zero]
    constructor
    · intro h
      rcases h with h | h
      · exact Int.dvd_trans h (Int.dvd_mul_right _ _)
      · exact Int.dvd_trans h (Int.dvd_mul_left _ _)
    · intro h
      exact D.or_ _ _ h
theorem left_cnt {p : Int} (hp : p ∈ fieldsL) {rs : List (List Int)} {ps : List Pl} (hr : ∀ r ∈ rs, RowOk p r) (hl : ∀ q ∈ ps, q.1.length = rs.length) (ne : lawLeft p rs ps ≠ []) : ∃ ys, PkOk (rs.map List.length) ps.length ys ∧ prodN ys ≤ (lawLeft p rs ps).length := by
  have D := dom_fields p hp
  have h1 := fields_not1 p hp
  have e : lawLeft p rs ps = (gr rs).filter fun c => !decide (p ∣ plProd ps c) := by
    unfold lawLeft
    rw [chL_gr]
    exact List.filter_congr fun c _ => by rw [held_dvd D h1]
  rw [e] at ne ⊢
  refine alon_furedi D h1 rs ps.length (plProd ps) (dgr_planes ps hl) (fun r h => row_dist (fields_nn p hp) (hr r h)) ?_
  obtain ⟨c, hc⟩ := List.exists_mem_of_ne_nil _ ne
  obtain ⟨hc1, hc2⟩ := List.mem_filter.mp hc
  exact ⟨c, hc1, by simpa using hc2⟩
/-! ### the least products -/
theorem fold_app {α β : Type} (g : α → List β) : ∀ (l : List α) (acc : List β), l.foldl (fun later c => later ++ g c) acc = acc ++ l.flatMap g
  | [], acc => by simp
  | c :: l, acc => by rw [List.foldl_cons, fold_app g l, List.flatMap_cons, List.append_assoc]
theorem choose_chL (rs : List (List Int)) : chooseF rs = chL rs := by
  unfold chooseF chL
  congr 1
  funext found row
  rw [fold_app (fun c => row.map fun x => c ++ [x])]
  rfl
inductive All2 {α β : Type} (R : α → β → Prop) : List α → List β → Prop where
  | nil : All2 R [] []
  | cons {a : α} {b : β} {as : List α} {bs : List β} : R a b → All2 R as bs → All2 R (a :: as) (b :: bs)
theorem mem_gr : ∀ {rs : List (List Int)} {c : List Int}, All2 (fun x r => x ∈ r) c rs → c ∈ gr rs
  | [], _, .nil => List.mem_singleton.mpr rfl
  | r :: rs, x :: c, .cons h t => List.mem_flatMap.mpr ⟨x, h, List.mem_map.mpr ⟨c, mem_gr t, rfl⟩⟩
def castL (ns : List Nat) : List Int := ns.map fun (n : Nat) => (n : Int)
theorem cast_sum : ∀ ns : List Nat, (castL ns).sum = (ns.sum : Nat)
  | [] => rfl
  | n :: ns => by
    show (n : Int) + (castL ns).sum = ((n + ns.sum : Nat) : Int)
    rw [cast_sum ns]; omega
theorem cast_prod : ∀ ns : List Nat, K19.prodI (castL ns) = (prodN ns : Nat)
  | [] => rfl
  | n :: ns => by
    show K19.prodI ((n : Int) :: castL ns) = ((n * prodN ns : Nat) : Int)
    rw [prod_cons, cast_prod ns, Int.natCast_mul]
theorem sum_ge_len : ∀ {ys : List Nat}, (∀ y ∈ ys, 1 ≤ y) → ys.length ≤ ys.sum
  | [], _ => Nat.le_refl _
  | y :: ys, h => by
    have := sum_ge_len (ys := ys) fun z hz => h z (List.mem_cons_of_mem _ hz)
    have := h y List.mem_cons_self
    show ys.length + 1 ≤ y + ys.sum
    omega
theorem pk_facts : ∀ {ls : List Nat} {d : Nat} {ys : List Nat}, PkOk ls d ys → All2 (fun y l => 1 ≤ y ∧ y ≤ l) ys ls ∧ ls.sum ≤ ys.sum + d
  | [], d, [], _ => ⟨.nil, Nat.zero_le _⟩
  | l :: ls, d, y :: ys, h => by
    obtain ⟨h1, h2, h3, h4⟩ := h
    obtain ⟨g1, g2⟩ := pk_facts h4
    refine ⟨.cons ⟨h1, h2⟩ g1, ?_⟩
    show l + ls.sum ≤ y + ys.sum + d
    omega
  | [], d, y :: ys, h => h.elim
  | l :: ls, d, [], h => h.elim
theorem down : ∀ {ys ls : List Nat} {s : Nat}, All2 (fun y l => 1 ≤ y ∧ y ≤ l) ys ls → ys.length ≤ s → s ≤ ys.sum → ∃ zs, All2 (fun z l => 1 ≤ z ∧ z ≤ l) zs ls ∧ zs.sum = s ∧ prodN zs ≤ prodN ys
  | [], [], s, .nil, _, h2 => ⟨[], .nil, by have : s ≤ 0 := h2; show 0 = s; omega, Nat.le_refl _⟩
  | y :: ys, l :: ls, s, .cons h t, h1, h2 => by
    have h1' : ys.length + 1 ≤ s := h1
    have h2' : s ≤ y + ys.sum := h2
    have g : ys.length ≤ ys.sum := by
      refine sum_ge_len fun z hz => ?_
      clear h1 h2 h1' h2'
      induction t with
      | nil => cases hz
      | cons a b ih =>
        rcases List.mem_cons.mp hz with rfl | hz
        · exact a.1
        · exact ih hz
    obtain ⟨z, z1, z2, z3, z4⟩ : ∃ z, 1 ≤ z ∧ z ≤ y ∧ ys.length ≤ s - z ∧ s - z ≤ ys.sum ∧ z ≤ s := by
      by_cases hy : y ≤ s - ys.length
      · exact ⟨y, h.1, Nat.le_refl _, by omega, by omega, by omega⟩
      · exact ⟨s - ys.length, by omega, by omega, by omega, by omega, by omega⟩
    obtain ⟨zs, g1, g2, g3⟩ := down t z3 z4.1
    refine ⟨z :: zs, .cons ⟨z1, by omega⟩ g1, ?_, Nat.mul_le_mul z2 g3⟩
    show z + zs.sum = s
    omega
theorem choice_of : ∀ {zs ls : List Nat}, All2 (fun z l => 1 ≤ z ∧ z ≤ l) zs ls → All2 (fun x r => x ∈ r) (castL zs) (rowsOf (castL ls))
  | _, _, .nil => .nil
  | z :: zs, l :: ls, .cons h t => by
    refine .cons ?_ (choice_of t)
    show (z : Int) ∈ rngI 1 ((l : Int) + 1 - 1).toNat
    unfold rngI
    refine List.mem_map.mpr ⟨z - 1, List.mem_range.mpr (by omega), by omega⟩
theorem f2_pos : ∀ {ys ls : List Nat}, All2 (fun y l => 1 ≤ y ∧ y ≤ l) ys ls → (∀ y ∈ ys, 1 ≤ y) ∧ ys.length = ls.length
  | _, _, .nil => ⟨fun _ h => (by cases h), rfl⟩
  | y :: ys, l :: ls, .cons h t => by
    obtain ⟨a, b⟩ := f2_pos t
    refine ⟨fun z hz => ?_, by rw [List.length_cons, List.length_cons, b]⟩
    rcases List.mem_cons.mp hz with rfl | hz
    · exact h.1
    · exact a z hz
theorem prodN_one {ys : List Nat} (h : ∀ y ∈ ys, 1 ≤ y) : 1 ≤ prodN ys := prodN_pos fun y hy => h y hy
/-- no choice of what is left is less than the least product -/
theorem least_min {ls : List Nat} (h1 : ls ≠ []) (h2 : ls.length ≤ 3) (h3 : ∀ l ∈ ls, 1 ≤ l ∧ l ≤ 4) {d e : Nat} (hde : d ≤ e) {ys : List Nat} (hy : PkOk ls d ys) : K19.prodI (leastF (castL ls) e) ≤ (prodN ys : Nat) := by
  obtain ⟨f1, f2⟩ := pk_facts hy
  obtain ⟨y1, yl⟩ := f2_pos f1
  have l1 : ∀ l ∈ castL ls, 1 ≤ l := fun l hl => by
    obtain ⟨n, hn, rfl⟩ := List.mem_map.mp hl
    have := (h3 n hn).1
    omega
  have l5 : ∀ l ∈ castL ls, 1 ≤ l ∧ l ≤ 5 := fun l hl => by
    obtain ⟨n, hn, rfl⟩ := List.mem_map.mp hl
    have := h3 n hn
    omega
  have cl : (castL ls).length = ls.length := List.length_map ..
  have s12 : ls.sum ≤ 4 * ls.length := by
    clear f1 f2 y1 yl l1 l5 cl hy h1 h2
    induction ls with
    | nil => exact Nat.le_refl _
    | cons l ls ih =>
      have := ih fun m hm => h3 m (List.mem_cons_of_mem _ hm)
      have := h3 l List.mem_cons_self
      show l + ls.sum ≤ 4 * (ls.length + 1)
      omega
  have P := prodN_one y1
  by_cases he : e < 17
  · have ok := least_is (ls := castL ls) (d := e) (fun z => h1 (by cases ls with | nil => rfl | cons a b => cases z)) (by omega) l5 he
    obtain ⟨_, ok2⟩ := Bool.and_eq_true_iff.mp ok
    have L := least_low l1 e
    have sl := sum_ge (xs := leastF (castL ls) e) L.1.one
    have ll := L.1.len
    obtain ⟨s, hs⟩ : ∃ s : Nat, (leastF (castL ls) e).sum = (s : Int) := ⟨(leastF (castL ls) e).sum.toNat, by omega⟩
    have g := sum_ge_len y1
    have cs := cast_sum ls
    obtain ⟨zs, g1, g2, g3⟩ := down (s := s) f1 (by omega) (by
      rcases L.2 with h | h
      · omega
      · omega)
    have hc : castL zs ∈ chooseF (rowsOf (castL ls)) := by
      rw [choose_chL, chL_gr]
      exact mem_gr (choice_of g1)
    have := of_decide_eq_true (List.all_eq_true.mp ok2 _ hc) (by rw [cast_sum, g2, hs])
    rw [cast_prod] at this
    omega
  · have := (least_prod l1 e).2.2.mpr (by rw [cast_sum, cl]; omega)
    omega
/-! ### fewer planes than the elements of each list leave some -/
theorem pigeon (kill : Pl → Int → Bool) : ∀ (A : List Pl) (r : List Int), r.Nodup → (∀ q ∈ A, ∀ x ∈ r, ∀ y ∈ r, kill q x = true → kill q y = true → x = y) → A.length < r.length → ∃ x ∈ r, ∀ q ∈ A, kill q x = false
  | [], r, _, _, h => by
    cases r with
    | nil => exact absurd h (Nat.lt_irrefl _)
    | cons x r => exact ⟨x, List.mem_cons_self, fun q hq => by cases hq⟩
  | q :: A, r, nd, hk, h => by
    have hlen : r.length ≤ (r.filter fun x => !kill q x).length + 1 := by
      have e := filt_two (kill q) r
      have : (r.filter (kill q)).length ≤ 1 := by
        have nd2 : (r.filter (kill q)).Nodup := nd.sublist List.filter_sublist
        have hm : ∀ x ∈ r.filter (kill q), ∀ y ∈ r.filter (kill q), x = y := fun x hx y hy => by
          obtain ⟨a1, a2⟩ := List.mem_filter.mp hx
          obtain ⟨b1, b2⟩ := List.mem_filter.mp hy
          exact hk q List.mem_cons_self x a1 y b1 a2 b2
        generalize r.filter (kill q) = l at nd2 hm
        match l, nd2, hm with
        | [], _, _ => exact Nat.zero_le _
        | [_], _, _ => exact Nat.le_refl _
        | a :: b :: l, nd2, hm =>
          have := hm a List.mem_cons_self b (List.mem_cons_of_mem _ List.mem_cons_self)
          exact absurd (this ▸ List.mem_cons_self) (List.nodup_cons.mp nd2).1
      omega
    obtain ⟨x, hx, h2⟩ := pigeon kill A (r.filter fun x => !kill q x) (nd.sublist List.filter_sublist) (fun q2 hq x hx y hy => hk q2 (List.mem_cons_of_mem _ hq) x (List.mem_filter.mp hx).1 y (List.mem_filter.mp hy).1) (by rw [List.length_cons] at h; omega)
    obtain ⟨x1, x2⟩ := List.mem_filter.mp hx
    exact ⟨x, x1, fun q2 hq => by
      rcases List.mem_cons.mp hq with rfl | hq
      · simpa using x2
      · exact h2 q2 hq⟩
theorem rowF_cons (a x : Int) (as xs : List Int) : rowF (a :: as) (x :: xs) = a * x + rowF as xs := rfl
theorem rowF_zero : ∀ (as xs : List Int), (∀ a ∈ as, a = 0) → rowF as xs = 0
  | [], _, _ => rfl
  | a :: as, [], _ => rfl
  | a :: as, x :: xs, h => by
    rw [rowF_cons, rowF_zero as xs fun b hb => h b (List.mem_cons_of_mem _ hb), h a List.mem_cons_self, Int.zero_mul]
    rfl
theorem few_left {p : Int} (hp : p ∈ fieldsL) : ∀ (rs : List (List Int)) (ps : List Pl), (∀ r ∈ rs, RowOk p r) → (∀ q ∈ ps, q.1.length = rs.length ∧ (∀ x ∈ q.1, IsEl p x) ∧ ∃ x ∈ q.1, x ≠ 0) → (∀ r ∈ rs, ps.length < r.length) → ∃ c ∈ gr rs, ∀ q ∈ ps, holdsB p q.1 q.2 c = false
  | [], ps, _, hq, _ => ⟨[], List.mem_singleton.mpr rfl, fun q h => by
    obtain ⟨h1, _, x, hx, _⟩ := hq q h
    rw [List.length_eq_zero_iff.mp h1] at hx
    cases hx⟩
  | r :: rs, ps, hr, hq, hl => by
    have p0 := fields_nn p hp
    have D := dom_fields p hp
    have r0 := hr r List.mem_cons_self
    have rd := row_dist p0 r0
    let zr : Pl → Bool := fun q => q.1.tail.all fun x => decide (x = 0)
    have lf := filt_two zr ps
    have lr := hl r List.mem_cons_self
    have hA : ∀ q ∈ ps, ∃ a as, q.1 = a :: as ∧ as.length = rs.length := fun q h => by
      obtain ⟨h1, _⟩ := hq q h
      cases e : q.1 with
      | nil => rw [e] at h1; cases h1
      | cons a as => rw [e] at h1; exact ⟨a, as, rfl, by simpa using h1⟩
    obtain ⟨x, hx, hk⟩ := pigeon (fun q x => decide (p ∣ hd0 q.1 * x - q.2)) (ps.filter zr) r rd.nd (fun q h x hx y hy k1 k2 => by
      obtain ⟨hq1, hq2⟩ := List.mem_filter.mp h
      obtain ⟨a, as, ea, _⟩ := hA q hq1
      obtain ⟨_, el, z, hz, z0⟩ := hq q hq1
      have k1 := of_decide_eq_true k1
      have k2 := of_decide_eq_true k2
      have a0 : a ≠ 0 := fun e => by
        rw [ea] at hz
        rcases List.mem_cons.mp hz with h | h
        · exact z0 (h.trans e)
        · have : (q.1.tail.all fun x => decide (x = 0)) = true := hq2
          rw [ea] at this
          exact z0 (of_decide_eq_true (List.all_eq_true.mp this z h))
      have k3 := Int.dvd_sub k1 k2
      rw [ea] at k3
      rw [show hd0 (a :: as) * x - q.2 - (hd0 (a :: as) * y - q.2) = a * (x - y) by
        rw [Int.mul_sub]
        show a * x - q.2 - (a * y - q.2) = _
        omega] at k3
      rcases D.or_ _ _ k3 with h | h
      · exact absurd (el_ne p0 (el a (by rw [ea]; exact List.mem_cons_self)) (fun h => ⟨Int.le_refl _, h⟩) (by rw [Int.sub_zero]; exact h)) a0
      · exact el_ne p0 (r0.at_ x hx).2 (r0.at_ y hy).2 h) (by omega)
    obtain ⟨c, hc, hh⟩ := few_left hp rs ((ps.filter fun q => !zr q).map fun q => (q.1.tail, q.2 - hd0 q.1 * x)) (fun r h => hr r (List.mem_cons_of_mem _ h)) (fun q h => by
      obtain ⟨q', h', rfl⟩ := List.mem_map.mp h
      obtain ⟨h1, h2⟩ := List.mem_filter.mp h'
      obtain ⟨a, as, ea, la⟩ := hA q' h1
      obtain ⟨_, el, _⟩ := hq q' h1
      refine ⟨by show q'.1.tail.length = _; rw [ea]; exact la, fun z hz => el z (by rw [ea] at hz ⊢; exact List.mem_cons_of_mem _ hz), ?_⟩
      have h3 : (q'.1.tail.all fun x => decide (x = 0)) = false := by
        have h5 : (!zr q') = true := h2
        rw [Bool.not_eq_true'] at h5
        exact h5
      obtain ⟨z, hz, h4⟩ := List.all_eq_false.mp h3
      exact ⟨z, hz, fun e => h4 (decide_eq_true e)⟩) (fun r' h => by
      have := hl r' (List.mem_cons_of_mem _ h)
      rw [List.length_map]
      omega)
    refine ⟨x :: c, List.mem_flatMap.mpr ⟨x, hx, List.mem_map.mpr ⟨c, hc, rfl⟩⟩, fun q h => ?_⟩
    obtain ⟨a, as, ea, la⟩ := hA q h
    unfold holdsB
    rw [ea, rowF_cons]
    by_cases hz : zr q = true
    · have h0 : ∀ b ∈ as, b = 0 := fun b hb => by
        have : (q.1.tail.all fun x => decide (x = 0)) = true := hz
        rw [ea] at this
        exact of_decide_eq_true (List.all_eq_true.mp this b hb)
      rw [rowF_zero as c h0, Int.add_zero]
      have := hk q (List.mem_filter.mpr ⟨h, hz⟩)
      rw [ea] at this
      refine decide_eq_false fun z => ?_
      exact absurd (decide_eq_true (elemF_zero.mp z)) (by rw [show decide (p ∣ a * x - q.2) = false from this]; decide)
    · have := hh (q.1.tail, q.2 - hd0 q.1 * x) (List.mem_map.mpr ⟨q, List.mem_filter.mpr ⟨h, by simpa using hz⟩, rfl⟩)
      unfold holdsB at this
      rw [ea] at this
      rw [show a * x + rowF as c - q.2 = rowF as c - (q.2 - a * x) by omega]
      exact this
/-! ### planes in their order -/
def lePl (s t : Pl) : Bool := leD (plD s) (plD t)
def sortPl (xs : List Pl) : List Pl := xs.mergeSort lePl
theorem sort_pl (xs : List Pl) : (xs.map plD).mergeSort leD = (sortPl xs).map plD := (List.map_mergeSort (f := plD) fun s _ t _ => rfl).symm
theorem sortPl_perm (xs : List Pl) : (sortPl xs).Perm xs := List.mergeSort_perm _ _
theorem pl_ok (ps : List Pl) : PySem.W.AllAlike (ps.map plD) ∧ PySem.W.Sortable (ps.map plD) := terms_ok ps
theorem eqvAll_same : ∀ k : List Int, PyData.eqvAll (k.map PyData.int) (k.map PyData.int) = true
  | [] => by simp [PyData.eqvAll]
  | x :: k => by
    simp only [List.map_cons, PyData.eqvAll, Bool.and_eq_true]
    exact ⟨by rw [eqv_int]; simp, eqvAll_same k⟩
theorem lt_same {a : List Int} {x y : Int} : PySem.W.dataLt (plD (a, x)) (plD (a, y)) = decide (x < y) := by
  unfold plD planeD
  have e : PySem.W.alike (tupK a) (tupK a) = true := by
    unfold tupK
    simp only [PySem.W.alike]
    exact alike_ints _ _
  rw [PySem.W.dataLt_pair e (by simp [PySem.W.alike]), if_pos (by unfold tupK; rw [PyData.eqv]; exact eqvAll_same a), PySem.W.dataLt_int, eqv_int]
  by_cases h : x = y
  · rw [if_pos (decide_eq_true h), h, decide_eq_false (Int.lt_irrefl _)]
  · rw [if_neg (by rw [decide_eq_false h]; decide)]
def leP (s t : Pl) : Bool := !(decide (t.1 < s.1) || (decide (t.1 = s.1) && decide (t.2 < s.2)))
theorem lePl_eq (s t : Pl) : lePl s t = leP s t := by
  unfold lePl leP leD
  by_cases h : t.1 = s.1
  · obtain ⟨a, x⟩ := s
    obtain ⟨b, y⟩ := t
    simp only at h
    subst h
    rw [lt_same]
    simp [List.lt_irrefl]
  · rw [show PySem.W.dataLt (plD t) (plD s) = decide (t.1 < s.1) from lt_term (s := t) (t := s) h, decide_eq_false h]
    simp
theorem leP_iff {s t : Pl} : leP s t = true ↔ s.1 < t.1 ∨ (s.1 = t.1 ∧ s.2 ≤ t.2) := by
  unfold leP
  simp only [Bool.not_eq_true', Bool.or_eq_false_iff, decide_eq_false_iff_not, Bool.and_eq_false_iff]
  constructor
  · intro ⟨h1, h2⟩
    by_cases e : t.1 = s.1
    · exact .inr ⟨e.symm, by
        rcases h2 with h2 | h2
        · exact absurd e h2
        · omega⟩
    · left
      rcases List.le_iff_lt_or_eq.mp (List.not_lt.mp h1) with h | h
      · exact h
      · exact absurd h.symm e
  · intro h
    rcases h with h | ⟨h, h2⟩
    · exact ⟨fun z => List.lt_irrefl _ (List.lt_trans h z), .inl fun z => List.lt_irrefl _ (z ▸ h)⟩
    · exact ⟨fun z => List.lt_irrefl _ (h ▸ z), .inr (by omega)⟩
theorem leP_trans {a b c : Pl} (h1 : leP a b = true) (h2 : leP b c = true) : leP a c = true := by
  rw [leP_iff] at *
  rcases h1 with h1 | ⟨h1, g1⟩ <;> rcases h2 with h2 | ⟨h2, g2⟩
  · exact .inl (List.lt_trans h1 h2)
  · exact .inl (h2 ▸ h1)
  · exact .inl (h1 ▸ h2)
  · exact .inr ⟨h1.trans h2, by omega⟩
theorem leP_tot (a b : Pl) : (leP a b || leP b a) = true := by
  rw [Bool.or_eq_true, leP_iff, leP_iff]
  by_cases e : a.1 = b.1
  · by_cases h : a.2 ≤ b.2
    · exact .inl (.inr ⟨e, h⟩)
    · exact .inr (.inr ⟨e.symm, by omega⟩)
  · by_cases h : a.1 < b.1
    · exact .inl (.inl h)
    · rcases List.le_iff_lt_or_eq.mp (List.not_lt.mp h) with h | h
      · exact .inr (.inl h)
      · exact absurd h.symm e
theorem leP_anti {a b : Pl} (h1 : leP a b = true) (h2 : leP b a = true) : a = b := by
  rw [leP_iff] at h1 h2
  rcases h1 with h1 | ⟨h1, g1⟩ <;> rcases h2 with h2 | ⟨h2, g2⟩
  · exact absurd (List.lt_trans h1 h2) (List.lt_irrefl _)
  · exact absurd (h2 ▸ h1) (List.lt_irrefl _)
  · exact absurd (h1 ▸ h2) (List.lt_irrefl _)
  · exact Prod.ext h1 (by omega)
theorem lePl_fun : lePl = leP := by funext s t; exact lePl_eq s t
theorem sortPl_up (xs : List Pl) : (sortPl xs).Pairwise fun s t => leP s t = true := by
  unfold sortPl
  rw [lePl_fun]
  exact List.pairwise_mergeSort (le := leP) (fun a b c h1 h2 => leP_trans h1 h2) leP_tot xs
theorem sort_one {xs ys : List Pl} (h : xs.Perm ys) : sortPl xs = sortPl ys :=
  List.Perm.eq_of_pairwise (fun s t _ _ h1 h2 => leP_anti h1 h2) (sortPl_up xs) (sortPl_up ys) (((sortPl_perm xs).trans h).trans (sortPl_perm ys).symm)
theorem sort_up {xs : List Pl} (h : xs.Pairwise fun s t => leP s t = true) : sortPl xs = xs :=
  List.Perm.eq_of_pairwise (fun s t _ _ h1 h2 => leP_anti h1 h2) (sortPl_up xs) h (sortPl_perm xs)
/-! ### planes of elements -/
def axP (n i : Nat) (r : List Int) : List Pl := r.map fun x => (onlyF (n : Int) (i : Int) 1, x)
def sidesF (n : Nat) (rs : List (List Int)) : List Pl := (List.range rs.length).flatMap fun i => axP n i (rs.getD i [])
theorem ax_sorted {n i : Nat} {r : List Int} (h : r.Pairwise (· < ·)) : sortPl (axP n i r) = axP n i r :=
  sort_up (List.pairwise_map.mpr (List.Pairwise.imp (S := fun x y => leP (onlyF (n : Int) (i : Int) 1, x) (onlyF (n : Int) (i : Int) 1, y) = true) (fun h => leP_iff.mpr (.inr ⟨rfl, Int.le_of_lt h⟩)) h))
theorem side_mem {n : Nat} {rs : List (List Int)} {q : Pl} : q ∈ sidesF n rs ↔ ∃ i x, i < rs.length ∧ x ∈ rs.getD i [] ∧ q = (onlyF (n : Int) (i : Int) 1, x) := by
  unfold sidesF axP
  rw [List.mem_flatMap]
  constructor
  · intro ⟨i, hi, h⟩
    obtain ⟨x, hx, e⟩ := List.mem_map.mp h
    exact ⟨i, x, List.mem_range.mp hi, hx, e.symm⟩
  · intro ⟨i, x, hi, hx, e⟩
    exact ⟨i, List.mem_range.mpr hi, List.mem_map.mpr ⟨x, hx, e.symm⟩⟩
theorem row_only : ∀ (n i : Nat) (c : List Int), i < n → c.length = n → rowF (onlyF (n : Int) (i : Int) 1) c = c.getD i 0 := by
  intro n i c hi hc
  have z : ∀ (m : Nat) (c : List Int), rowF (List.replicate m 0) c = 0 := fun m c => rowF_zero _ c fun a ha => List.eq_of_mem_replicate ha
  have g : ∀ (i m : Nat) (c : List Int), c.length = i + 1 + m → rowF (List.replicate i 0 ++ [1] ++ List.replicate m 0) c = c.getD i 0 := by
    intro i
    induction i with
    | zero =>
      intro m c hc
      cases c with
      | nil => rw [List.length_nil] at hc; omega
      | cons x c =>
        show rowF (1 :: List.replicate m 0) (x :: c) = x
        rw [rowF_cons, z]
        omega
    | succ i ih =>
      intro m c hc
      cases c with
      | nil => rw [List.length_nil] at hc; omega
      | cons x c =>
        show rowF (0 :: (List.replicate i 0 ++ [1] ++ List.replicate m 0)) (x :: c) = c.getD i 0
        rw [rowF_cons, ih m c (by rw [List.length_cons] at hc; omega)]
        omega
  unfold onlyF
  have e1 : (i : Int).toNat = i := Int.toNat_natCast i
  have e2 : ((n : Int) - (i : Int) - 1).toNat = n - i - 1 := by omega
  rw [e1, e2]
  exact g i _ c (by omega)
theorem side_held {p : Int} {n i : Nat} {x : Int} {c : List Int} (p0 : 0 ≤ p) (hi : i < n) (hc : c.length = n) (h1 : IsEl p x) (h2 : IsEl p (c.getD i 0)) : holdsB p (onlyF (n : Int) (i : Int) 1) x c = decide (c.getD i 0 = x) := by
  unfold holdsB
  rw [row_only n i c hi hc]
  refine decide_eq_decide.mpr ?_
  rw [elemF_zero]
  exact ⟨fun h => el_ne p0 h2 h1 h, fun h => by rw [h, Int.sub_self]; exact Int.dvd_zero _⟩
def badL : List (List Int) → List Int → Bool
  | t :: ts, x :: c => decide (x ∈ t) || badL ts c
  | _, _ => false
theorem bad_iff : ∀ {ts : List (List Int)} {c : List Int}, c.length = ts.length → (badL ts c = true ↔ ∃ i, i < ts.length ∧ c.getD i 0 ∈ ts.getD i [])
  | [], [], _ => ⟨fun h => (by cases h), fun ⟨i, h, _⟩ => absurd h (Nat.not_lt_zero i)⟩
  | t :: ts, x :: c, h => by
    show (decide (x ∈ t) || badL ts c) = true ↔ _
    rw [Bool.or_eq_true, decide_eq_true_iff, bad_iff (ts := ts) (c := c) (by simpa using h)]
    constructor
    · intro h
      rcases h with h | ⟨i, h1, h2⟩
      · exact ⟨0, Nat.zero_lt_succ _, h⟩
      · exact ⟨i + 1, Nat.succ_lt_succ h1, h2⟩
    · intro ⟨i, h1, h2⟩
      cases i with
      | zero => exact .inl h2
      | succ i => exact .inr ⟨i, Nat.lt_of_succ_lt_succ h1, h2⟩
  | [], _ :: _, h => by cases h
  | _ :: _, [], h => by cases h
theorem good_len : ∀ (rs ts : List (List Int)), rs.length = ts.length → ((gr rs).filter fun c => !badL ts c).length = prodN ((rs.zip ts).map fun q => (q.1.filter fun x => !decide (x ∈ q.2)).length)
  | [], [], _ => rfl
  | r :: rs, t :: ts, h => by
    have ih := good_len rs ts (by simpa using h)
    show ((r.flatMap fun x => (gr rs).map (x :: ·)).filter fun c => !badL (t :: ts) c).length = (r.filter fun x => !decide (x ∈ t)).length * prodN ((rs.zip ts).map fun q => (q.1.filter fun x => !decide (x ∈ q.2)).length)
    rw [← ih]
    clear h ih
    induction r with
    | nil => simp
    | cons x r ih2 =>
      rw [List.flatMap_cons, List.filter_append, List.length_append, ih2, List.filter_cons]
      have e : (((gr rs).map (x :: ·)).filter fun c => !badL (t :: ts) c) = ((gr rs).filter fun c => !(decide (x ∈ t) || badL ts c)).map (x :: ·) := by
        rw [List.filter_map]
        rfl
      rw [e, List.length_map]
      by_cases hx : x ∈ t
      · rw [if_neg (by simp [hx])]
        simp [hx]
      · rw [if_pos (by simp [hx]), List.length_cons, Nat.add_mul, Nat.one_mul]
        simp [hx, Nat.add_comm]
  | [], _ :: _, h => by cases h
  | _ :: _, [], h => by cases h
theorem take_rest {r : List Int} (nd : r.Nodup) (k : Nat) : (r.filter fun x => !decide (x ∈ r.take k)).length = r.length - k := by
  have e : (r.filter fun x => !decide (x ∈ r.take k)) = r.drop k := by
    conv => lhs; arg 2; rw [← List.take_append_drop k r]
    rw [List.filter_append]
    rw [← List.take_append_drop k r] at nd
    obtain ⟨_, _, h3⟩ := List.nodup_append.mp nd
    have e1 : (r.take k).filter (fun x => !decide (x ∈ r.take k)) = [] := List.filter_eq_nil_iff.mpr fun x hx => by simp [hx]
    have e2 : (r.drop k).filter (fun x => !decide (x ∈ r.take k)) = r.drop k := List.filter_eq_self.mpr fun x hx => by
      have : x ∉ r.take k := fun z => h3 x z x hx rfl
      simp [this]
    rw [e1, e2, List.nil_append]
  rw [e, List.length_drop]
theorem gr_at : ∀ {rs : List (List Int)} {c : List Int}, c ∈ gr rs → ∀ i, i < rs.length → c.getD i 0 ∈ rs.getD i []
  | [], c, _, i, h => absurd h (Nat.not_lt_zero i)
  | r :: rs, c, hc, i, h => by
    obtain ⟨x, hx, h2⟩ := List.mem_flatMap.mp hc
    obtain ⟨y, hy, rfl⟩ := List.mem_map.mp h2
    cases i with
    | zero => exact hx
    | succ i => exact gr_at hy i (Nat.lt_of_succ_lt_succ h)
theorem getD_row {rs : List (List Int)} {i : Nat} (h : i < rs.length) : rs.getD i [] ∈ rs := by
  rw [List.getD_eq_getElem?_getD, List.getElem?_eq_getElem h]
  exact List.getElem_mem h
/-- planes of parts of the rows leave just the choices of the rest -/
theorem sides_left {p : Int} (p0 : 0 ≤ p) {rs ts : List (List Int)} (hr : ∀ r ∈ rs, RowOk p r) (hl : rs.length = ts.length) (ht : ∀ i, i < rs.length → ∀ x ∈ ts.getD i [], x ∈ rs.getD i []) {ps : List Pl} (hp : ∀ q, q ∈ ps ↔ q ∈ sidesF rs.length ts) :
    lawLeft p rs ps = (gr rs).filter fun c => !badL ts c := by
  unfold lawLeft
  rw [chL_gr]
  refine List.filter_congr fun c hc => ?_
  have cl := gr_len hc
  congr 1
  rw [Bool.eq_iff_iff, List.any_eq_true, bad_iff (by omega)]
  have el : ∀ i, i < rs.length → ∀ x ∈ rs.getD i [], IsEl p x := fun i hi x hx => ((hr _ (getD_row hi)).at_ x hx).2
  constructor
  · intro ⟨q, hq, h⟩
    obtain ⟨i, x, hi, hx, rfl⟩ := side_mem.mp ((hp q).mp hq)
    have hi' : i < rs.length := by omega
    rw [side_held p0 hi' cl (el i hi' x (ht i hi' x hx)) (el i hi' _ (gr_at hc i hi'))] at h
    exact ⟨i, hi, by rw [of_decide_eq_true h]; exact hx⟩
  · intro ⟨i, hi, h⟩
    have hi' : i < rs.length := by omega
    refine ⟨(onlyF (rs.length : Int) (i : Int) 1, c.getD i 0), (hp _).mpr (side_mem.mpr ⟨i, _, hi, h, rfl⟩), ?_⟩
    rw [side_held p0 hi' cl (el i hi' _ (gr_at hc i hi')) (el i hi' _ (gr_at hc i hi'))]
    exact decide_eq_true rfl
end K27

namespace K28
open PySem PySem.Spec L2 LD K27
local macro_rules | `(tactic| trivial) => `(tactic| (repeat (first | with_reducible (first | apply s_cI | apply s_cB | apply s_cS | apply s_cN | apply s_op | apply s_un | apply s_sh | apply s_nil | apply s_cons | apply s_tup | apply s_lst | apply s_call | apply s_callF | apply s_callK | apply s_callR | apply s_callRK | apply s_if | apply s_and | apply s_or | apply s_not | apply s_tb | apply s_tnot | apply s_tand | apply s_tor | apply s_tif | apply s_exB | apply s_exI | apply s_exT | apply s_exL | apply s_exLL | apply s_ifT | apply s_ifF | apply s_add | apply s_sub | apply s_lt | apply s_le | apply s_gt | apply s_ge | apply s_neg | apply s_eqI | apply s_neI | apply s_eqS | apply s_neS | apply s_isN | apply s_notN | apply s_isB | apply s_notB | apply s_no | apply s_part | apply s_slL | apply s_slT | apply s_lenL | apply s_lenT | apply s_int | apply s_listL | apply s_listT | apply s_tupleL | apply s_tupleT | apply s_min2 | apply s_isi | apply s_chain | apply s_catL | apply s_iL | apply s_iT | apply s_next | apply s_seq | apply s_ret | apply s_drop | apply s_ifS | apply s_asg | apply s_own | apply s_gcons | apply s_gnil | apply s_lc | apply s_iR1 | apply s_ex1 | apply s_for | apply s_setI | apply s_iN | apply s_iZ | apply s_iZL | apply s_iNS | apply s_iS | apply s_ex1T | apply s_ex1K | apply s_exK | apply s_ex2K | apply s_ex2T | apply s_ex2L | apply s_lenK | apply s_compF | apply s_eqNilI | apply s_mk | apply s_listK | apply s_ifne | apply s_ifeq | apply s_ifnb | apply s_ifnb2 | apply s_neBl | apply s_eqBl | apply s_ifneB | apply s_ifeqB | apply s_tg1 | apply s_lc2 | apply s_compF2 | apply s_asgP | apply s_par | apply s_expar | apply s_repN | apply s_rg1 | apply s_repL | apply s_dcJ | apply s_iRv | apply s_inK | apply s_revT | apply s_sortSetT | apply s_djF | apply s_iR2 | apply s_exIB) | ((with_reducible (first | apply s_var | apply s_fit | apply s_callW | apply s_dl | apply s_lt_and | apply s_frz | apply s_app | apply s_lenO | apply s_exls | apply s_gtup | apply s_no1 | apply s_lsAnd | apply s_nodl | apply s_varP | apply s_ixP | apply s_idxO | apply s_ext | apply s_exdk)); (case h => exact rfl)) | with_reducible refine (s_nx ?_ : DE.nx _ _) | with_reducible refine (s_rt ?_ : DE.rt _ _ _) | with_reducible refine (s_bk ?_ : DE.bk _ _) | with_reducible refine (s_ct ?_ : DE.ct _ _) | ((with_reducible apply s_no2); (case h => exact rfl); (case h2 => exact rfl)) | ((with_reducible apply s_gname); (case h => exact rfl); dsimp only [List.set_cons_succ, List.set_cons_zero]) | ((with_reducible apply s_fgt); dsimp only [wipeR, List.set_cons_succ, List.set_cons_zero]) | ((with_reducible apply s_mod); (case h => omega)) | ((with_reducible apply s_rg); (case h => omega)) | ((with_reducible apply s_rlen); (case h => omega)) | ((with_reducible apply s_catKT); (case h => (simp only [List.length_map, List.length_cons, List.length_nil, List.length_append, sizeLine_eq]; omega))) | ((with_reducible apply s_catTK); (case h => (simp only [List.length_map, List.length_cons, List.length_nil, List.length_append, sizeLine_eq]; omega))) | ((with_reducible apply s_catT); (case h => (simp only [List.length_map, List.length_cons, List.length_nil, List.length_append, sizeLine_eq]; omega))) | ((with_reducible apply s_repA); (case h => (simp only [List.length_map, List.length_cons, List.length_nil, List.length_append, sizeLine_eq]; omega))) | ((with_reducible apply s_ixT); (case h => exact atI_nat (j := 0) rfl)) | ((with_reducible apply s_ixT); (case h => exact atI_nat (j := 1) rfl)) | ((with_reducible apply s_ixT); (case h => exact atI_nat (j := 2) rfl)) | ((with_reducible apply s_ixT); (case h => exact atI_nat (j := 3) rfl)) | ((with_reducible apply s_varPt); (case h => exact rfl)) | ((with_reducible apply s_varA); (case h => exact rfl)) | ((with_reducible apply s_varAp); (case h => exact rfl)) | with_reducible apply s_max2 | with_reducible apply s_parA)))
def topS (i : Nat) : Stmt := PySem.Challenge.pw_listpicks_k28_whole_points_that_meet_all.main.body.getD i (.Pass ⟨0, 0, 0, 0⟩)
/-! an error class: C.__init__(self, at): PickError.__init__(self, ".."); self.at = at -/
def clsBody : Stmt → List Stmt
  | .ClassDef _ _ _ body _ _ _ _ _ _ _ => body
  | _ => []
structure BaseK (K : PySem.W.Frag) (mg : Str → Option Value) (Cb : Addr) : Prop where
  mgx : mg "PickError" = some (.ref Cb)
  rd : ClX.CRead K Cb (.type "type")
  ini : PySem.W.findCls K (.ref Cb) (.type "type") "__init__" = some (.val (.builtin "ValueError.__init__"))

abbrev s_is_integer : Stmt := topS 4
abbrev N_is_integer : List Str := ["value"]
theorem sc_is_integer : FnScope N_is_integer ["value"] (defScope s_is_integer) := ⟨rfl, rfl, rfl, by decide +kernel, rfl, by decide +kernel, by decide +kernel⟩
abbrev s_is_element : Stmt := topS 5
abbrev N_is_element : List Str := ["p", "value"]
theorem sc_is_element : FnScope N_is_element ["p", "value"] (defScope s_is_element) := ⟨rfl, rfl, rfl, by decide +kernel, rfl, by decide +kernel, by decide +kernel⟩
abbrev s_are_elements : Stmt := topS 6
abbrev N_are_elements : List Str := ["p", "many", "value", "one"]
theorem sc_are_elements : FnScope N_are_elements ["p", "many", "value"] (defScope s_are_elements) := ⟨rfl, rfl, rfl, by decide +kernel, rfl, by decide +kernel, by decide +kernel⟩
abbrev s_is_ascending : Stmt := topS 7
abbrev N_is_ascending : List Str := ["values", "one", "other"]
theorem sc_is_ascending : FnScope N_is_ascending ["values"] (defScope s_is_ascending) := ⟨rfl, rfl, rfl, by decide +kernel, rfl, by decide +kernel, by decide +kernel⟩
abbrev s_element : Stmt := topS 9
abbrev N_element : List Str := ["p", "number"]
theorem sc_element : FnScope N_element ["p", "number"] (defScope s_element) := ⟨rfl, rfl, rfl, by decide +kernel, rfl, by decide +kernel, by decide +kernel⟩
abbrev s_product_of : Stmt := topS 11
abbrev N_product_of : List Str := ["numbers", "found", "number"]
theorem sc_product_of : FnScope N_product_of ["numbers"] (defScope s_product_of) := ⟨rfl, rfl, rfl, by decide +kernel, rfl, by decide +kernel, by decide +kernel⟩
abbrev s_row_times : Stmt := topS 12
abbrev N_row_times : List Str := ["row", "column", "one", "other"]
theorem sc_row_times : FnScope N_row_times ["row", "column"] (defScope s_row_times) := ⟨rfl, rfl, rfl, by decide +kernel, rfl, by decide +kernel, by decide +kernel⟩
abbrev s_only_at : Stmt := topS 13
abbrev N_only_at : List Str := ["n", "at", "number"]
theorem sc_only_at : FnScope N_only_at ["n", "at", "number"] (defScope s_only_at) := ⟨rfl, rfl, rfl, by decide +kernel, rfl, by decide +kernel, by decide +kernel⟩
abbrev s_all_tuples : Stmt := topS 15
abbrev N_all_tuples : List Str := ["rows", "found", "row", "ahead", "one"]
theorem sc_all_tuples : FnScope N_all_tuples ["rows"] (defScope s_all_tuples) := ⟨rfl, rfl, rfl, by decide +kernel, rfl, by decide +kernel, by decide +kernel⟩
abbrev s_check_points : Stmt := topS 18
abbrev N_check_points : List Str := ["p", "n", "count"]
theorem sc_check_points : FnScope N_check_points ["p", "n"] (defScope s_check_points) := ⟨rfl, rfl, rfl, by decide +kernel, rfl, by decide +kernel, by decide +kernel⟩
abbrev s_directions : Stmt := topS 19
abbrev N_directions : List Str := ["p", "n", "found", "zeros", "rows"]
theorem sc_directions : FnScope N_directions ["p", "n"] (defScope s_directions) := ⟨rfl, rfl, rfl, by decide +kernel, rfl, by decide +kernel, by decide +kernel⟩
abbrev s_first_missing : Stmt := topS 20
abbrev N_first_missing : List Str := ["p", "factors", "points", "told", "number", "point"]
theorem sc_first_missing : FnScope N_first_missing ["p", "factors", "points"] (defScope s_first_missing) := ⟨rfl, rfl, rfl, by decide +kernel, rfl, by decide +kernel, by decide +kernel⟩
abbrev s_missed_plane : Stmt := topS 21
abbrev N_missed_plane : List Str := ["p", "n", "points", "factors", "number"]
theorem sc_missed_plane : FnScope N_missed_plane ["p", "n", "points"] (defScope s_missed_plane) := ⟨rfl, rfl, rfl, by decide +kernel, rfl, by decide +kernel, by decide +kernel⟩
abbrev s_is_meeting : Stmt := topS 22
abbrev N_is_meeting : List Str := ["p", "n", "value", "point"]
theorem sc_is_meeting : FnScope N_is_meeting ["p", "n", "value"] (defScope s_is_meeting) := ⟨rfl, rfl, rfl, by decide +kernel, rfl, by decide +kernel, by decide +kernel⟩
abbrev s_least_meeting : Stmt := topS 23
abbrev N_least_meeting : List Str := ["p", "n", "axes", "at", "one"]
theorem sc_least_meeting : FnScope N_least_meeting ["p", "n"] (defScope s_least_meeting) := ⟨rfl, rfl, rfl, by decide +kernel, rfl, by decide +kernel, by decide +kernel⟩
abbrev s_law_draw : Stmt := topS 25
abbrev N_law_draw : List Str := ["script", "salt", "cells", "blend", "cell"]
theorem sc_law_draw : FnScope N_law_draw ["script", "salt"] (defScope s_law_draw) := ⟨rfl, rfl, rfl, by decide +kernel, rfl, by decide +kernel, by decide +kernel⟩
abbrev s_law_any : Stmt := topS 26
abbrev N_law_any : List Str := ["deal", "bound", "rest"]
theorem sc_law_any : FnScope N_law_any ["deal", "bound"] (defScope s_law_any) := ⟨rfl, rfl, rfl, by decide +kernel, rfl, by decide +kernel, by decide +kernel⟩
abbrev s_law_of : Stmt := topS 27
abbrev N_law_of : List Str := ["deal", "some"]
theorem sc_law_of : FnScope N_law_of ["deal", "some"] (defScope s_law_of) := ⟨rfl, rfl, rfl, by decide +kernel, rfl, by decide +kernel, by decide +kernel⟩
abbrev s_law_mixed : Stmt := topS 28
abbrev N_law_mixed : List Str := ["deal", "some", "left", "found"]
theorem sc_law_mixed : FnScope N_law_mixed ["deal", "some"] (defScope s_law_mixed) := ⟨rfl, rfl, rfl, by decide +kernel, rfl, by decide +kernel, by decide +kernel⟩
abbrev s_law_choices : Stmt := topS 29
abbrev N_law_choices : List Str := ["lists", "found", "row", "later", "choice", "one"]
theorem sc_law_choices : FnScope N_law_choices ["lists"] (defScope s_law_choices) := ⟨rfl, rfl, rfl, by decide +kernel, rfl, by decide +kernel, by decide +kernel⟩
abbrev s_law_refused : Stmt := topS 30
abbrev N_law_refused : List Str := ["work", "wrong"]
theorem sc_law_refused : FnScope N_law_refused ["work"] (defScope s_law_refused) := ⟨rfl, rfl, rfl, by decide +kernel, rfl, by decide +kernel, by decide +kernel⟩
abbrev s_law_missed : Stmt := topS 31
abbrev N_law_missed : List Str := ["p", "n", "points", "factors", "sums", "number", "point", "at", "one"]
theorem sc_law_missed : FnScope N_law_missed ["p", "n", "points"] (defScope s_law_missed) := ⟨rfl, rfl, rfl, by decide +kernel, rfl, by decide +kernel, by decide +kernel⟩
abbrev s_law : Stmt := topS 32
abbrev N0_law : List Str := ["script", "deal", "every", "due", "at", "away", "some", "points", "odd", "wrong", "p", "n", "first", "point", "one"]
abbrev N_law : List Str := N0_law ++ (["?"] : List Str)
theorem sc_law : FnScope N_law ["script"] (defScope s_law) := ⟨rfl, rfl, rfl, by decide +kernel, rfl, by decide +kernel, by decide +kernel⟩
abbrev s_init_Refused : Stmt := (clsBody (topS 2)).getD 0 (.Pass ⟨0, 0, 0, 0⟩)
theorem sc_init_Refused : FnScope ["self", "at"] ["self", "at"] (defScope s_init_Refused) := ⟨rfl, rfl, rfl, by decide +kernel, rfl, by decide +kernel, by decide +kernel⟩
theorem ok_init_Refused {P : Program} {w : World} {K : PySem.W.Frag} {mg : Str → Option Value} {base : Heap} {f Cb : Addr} {fd : FuncData} (F : Fun K "__init__" "Refused.__init__" s_init_Refused f fd) (B : BaseK K mg Cb) : FnOk P w K mg base CX0 1 f fd ["self", "at"] (spErr K) := by
  refine F.ok sc_init_Refused (fun vs H Q E h => by obtain ⟨a, C, y, rfl, _⟩ := h; rfl) (fun cdv A outer s H vs Q E hr h => ⟨_, pss_cons (ps_expr (pe_binit (by rfl) B.mgx B.rd B.ini (pa_cons (pv 0) (pa_cons pe_str pa_nil)))) (pss_one (ps_ost (pv 0) (pv 1))), ?_⟩)
  obtain ⟨a, C, y, rfl, T, ha, q⟩ := h
  exact err_body T ha q

section
variable {P : Program} {w : World} {K : PySem.W.Frag} {mg : Str → Option Value} {base : Heap}
theorem ok_law_of {f : Addr} {fd : FuncData} (F : Fun K "_law_of" "_law_of" s_law_of f fd) (T : TA P w K mg base) : FnOk P w K mg base CX0 2 f fd ["deal", "some"] (spW K g_of) := by
  refine ok_W F sc_law_of (fun ds P ⟨es, e, _⟩ => by rw [e]; rfl) (by decide) (fun cdv A outer s H E hr => ⟨_, _, (pss_one (ps_ret (pe_ix ix_list (pv 1) (C8.pe_c T.d_law_any hr (by first | decide | omega) (by rfl) (pa_cons (pv 0) (pa_cons (pe_callB call_len_seq (by rfl) T.b_len (by decide +kernel) (pa_cons (pv 1) pa_nil)) pa_nil))) (fun _ _ => rfl)))), (ss_ret (se_op so_ixL (se_var 1) (se_callW (i := 0) g_any_mono (sa_cons (se_cb sc_len (sa_cons (se_var 1) sa_nil)) sa_nil)))), fun a l ds Pd h => ?_⟩)
  obtain ⟨es, rfl, hne, hl, q⟩ := h
  have pos : 0 < es.length := List.length_pos_iff.mpr hne
  refine ⟨_, rfl, ⟨a, l, rfl⟩, _, rfl, es, .inl rfl, ⟨a, l, rfl⟩, es.length, rfl, by omega, ?_, fun x x0 x1 => ?_⟩
  · have : (es.length : Int).natAbs < 2 ^ 20 := by omega
    exact Nat.lt_trans (PySem.Flt.log2_lt_of (by decide) this) (by decide)
  · have hx : x.toNat < es.length := by omega
    refine ⟨es, x, es[x.toNat], rfl, rfl, ?_, rfl, q _ (List.getElem_mem hx)⟩
    have e := atI_nat (xs := es) (j := x.toNat) (List.getElem?_eq_getElem hx)
    rw [Int.toNat_of_nonneg x0] at e
    exact e
theorem ok_law_draw {f : Addr} {fd : FuncData} (F : Fun K "_law_draw" "_law_draw" s_law_draw f fd) (T : TB K mg) : FnOk P w K mg base CX0 1 f fd ["script", "salt"] (spM K g_draw) := by
  refine ok_M F sc_law_draw (fun ds ⟨ns, s, e, _⟩ => by rw [e]; rfl) (fun cdv A outer s H E hr => ⟨_, _, (pss_cons (ps_setLc (i := 2) (own := [("cell", 4)]) (g := (gName 4)) (tt := tYes) rfl sc_law_draw.nd rfl rfl (sw_true rfl rfl rfl (by decide +kernel)) (pi_list (pe_slice sl_list (pv 0) po_none (po_some pe_int))) (blkOk_by (N := N_law_draw) (sc := defScope s_law_draw) (own := [("cell", 4)]) (by decide +kernel)) (fun _ _ _ _ _ => (pg_name (i := 4) sc_law_draw.nd rfl (by first | exact Or.inl rfl | exact Or.inr rfl))) (fun _ _ _ _ _ => pts_nil) (fun _ _ _ _ _ => (pe_callB call_abs (by rfl) T.b_abs (by decide +kernel) (pa_cons (pe_callTy call_int1 (by rfl) T.b_int (by decide +kernel) (pa_cons (pv 4) pa_nil)) pa_nil))))
      (pss_cons (ps_set (i := 3) sc_law_draw.nd rfl (by first | exact Or.inl rfl | exact Or.inr rfl) (pe_op op_add pe_int (pe_op op_mulW pe_int (pv 1))))
      (pss_cons (ps_for PassesOwn.never rfl (pi_list (pv 2)) (pg_name (i := 4) sc_law_draw.nd rfl (by first | exact Or.inl rfl | exact Or.inr rfl)) (pss_one (ps_set (i := 3) sc_law_draw.nd rfl (by first | exact Or.inl rfl | exact Or.inr rfl) (pe_op op_mod (pe_callTy call_int1 (by rfl) T.b_int (by decide +kernel) (pa_cons (pe_op op_add (pe_op op_add (pe_op op_mulW (pv 3) pe_int) (pe_op op_mod (pv 4) pe_int)) pe_int) pa_nil)) pe_int))))
      (pss_one (ps_ret (pe_lst (pa_cons (pe_revL (pe_lc (own := [("cell", 4)]) (g := (gName 4)) (tt := _) rfl sc_law_draw.nd (pi_list (pv 2)) (blkOk_by (N := N_law_draw) (sc := defScope s_law_draw) (own := [("cell", 4)]) (by decide +kernel)) (fun _ _ _ _ _ => (pg_name (i := 4) sc_law_draw.nd rfl (by first | exact Or.inl rfl | exact Or.inr rfl))) (fun _ _ _ _ _ => (pts_one (pt_cmpR op_ge (pv 4) (pe_op op_pow pe_int pe_int) (nomark _)))) (fun _ _ _ _ _ => (pv 4)))) (pa_cons (pv 3) pa_nil)))))))), (ss_cons (ss_fgt [4] (ss_asg (se_sh (sf_lc (js := [4]) (si_list (se_sh (sf_slL (se_var 0) sop_none (sop_some se_c)))) (sg_name 4) st_yes (se_cb sc_abs (sa_cons (se_cb sc_int (sa_cons (se_var 4) sa_nil)) sa_nil)))) (sg_name 2)))
      (ss_cons (ss_asg (se_op so_rI0 se_c (se_op so_rI se_c (se_var 1))) (sg_name 3))
      (ss_cons (ss_for (si_list (se_var 2)) (sg_name 4) (ss_asg (se_op so_rI (se_cb sc_int (sa_cons (se_op so_rI0 (se_op so_rI0 (se_op so_rI (se_var 3) se_c) (se_op so_rI (se_var 4) se_c)) se_c) sa_nil)) se_c) (sg_name 3)))
      (ss_fgt [4] (ss_retM (sf_revL (se_sh (sf_lc (js := [4]) (si_list (se_var 2)) (sg_name 4) (st_test (se_op so_rI0 (se_var 4) (se_op so_rI se_c se_c))) (se_var 4)))) (se_var 3)))))), fun ds h => ?_⟩)
  obtain ⟨ns, s, rfl, hl, s0, s1⟩ := h
  obtain ⟨ms, em, hm⟩ := cut48 ns
  have hms : ∀ k ∈ ms.map (fun k : Int => if k < 0 then -k else k), 0 ≤ k := fun k hk => by
    obtain ⟨z, _, rfl⟩ := List.mem_map.mp hk
    show 0 ≤ if z < 0 then -z else z
    split <;> omega
  refine ⟨_, rfl, _, rfl, _, rfl, _, congrArg PyData.list em, ?_⟩
  refine ⟨by rw [List.length_map, sizeLine_eq]; omega, fun j hj => by
    obtain rfl : j = 4 := by simpa using hj
    rfl, ?_⟩
  refine compW_det (oInt fun k => some (PyData.int (if k < 0 then -k else k))) (fun d hd k hk => ?_) ?_
  · obtain ⟨z, rfl, _⟩ := mem_int hd
    refine ⟨(by show 4 < 5; decide), _, rfl, z, rfl, z, rfl, ?_⟩
    exact hk _ rfl
  rw [List.nil_append, fm_oInt, fm_some]
  refine ⟨(by show 2 < 5; decide), ?_⟩
  -- blend = 7919 + 104729 * salt
  refine ⟨_, rfl, _, _, rfl, rfl, ?_, _, _, rfl, rfl, (by show 3 < 5; decide), ?_⟩
  · show CMulW _ _
    exact wide_mul (a := 20) (b := 20) (by omega) (by omega) (by decide) (by decide) (by decide)
  -- for cell in cells
  refine ⟨_, rfl, _, rfl, fun i r => ∃ (b : Int) (x : DV), r = [.sh (.list (ns.map PyData.int)), .sh (.int s), .sh (.list ((ms.map fun k => if k < 0 then -k else k).map PyData.int)), .sh (.int b), x] ∧ 0 ≤ b ∧ b < 2147483647, ⟨_, _, rfl, by show (0 : Int) ≤ 7919 + 104729 * s; omega, by show 7919 + 104729 * s < (2147483647 : Int); omega⟩, fun i d r hd hI => ?_, fun r hI => ?_⟩
  · obtain ⟨b, x, rfl, b0, b2⟩ := hI
    obtain ⟨z, rfl, _⟩ := mem_int (List.mem_of_getElem? hd)
    refine ⟨(by show 4 < 5; decide), _, rfl, _, _, rfl, rfl, ?_, _, rfl, _, _, rfl, rfl, (by show (0 : Int) < 2147483549; decide), _, _, rfl, rfl, _, _, rfl, rfl, _, rfl, _, _, rfl, rfl, (by show (0 : Int) < 2147483647; decide), (by show 3 < 5; decide), ?_⟩
    · show CMulW b 48271
      have hb : b.natAbs < 2 ^ 40 := by omega
      exact wide_mul (a := 40) (b := 20) hb (by decide) (by decide) (by decide) (by decide)
    · exact ⟨_, _, rfl, Int.emod_nonneg _ (by decide), Int.emod_lt_of_pos _ (by decide)⟩
  · obtain ⟨b, x, rfl, b0, b2⟩ := hI
    refine ⟨_, rfl, _, rfl, ?_⟩
    generalize hcs : ms.map (fun k : Int => if k < 0 then -k else k) = cs at *
    have hcl : cs.length ≤ 48 := by rw [← hcs, List.length_map]; exact hm
    refine ⟨by rw [List.length_map, sizeLine_eq]; omega, fun j hj => by
      obtain rfl : j = 4 := by simpa using hj
      rfl, ?_⟩
    refine compW_det (oInt fun k => if decide ((10 : Int) ^ 18 ≤ k) = true then some (PyData.int k) else none) (fun d hd k hk => ?_) ?_
    · obtain ⟨z, rfl, _⟩ := mem_int hd
      refine ⟨(by show 4 < 5; decide), _, rfl, _, _, rfl, rfl, ⟨by decide, by decide, by decide⟩, _, _, rfl, rfl, _, rfl, ?_⟩
      by_cases h : (10 : Int) ^ 18 ≤ z
      · refine ifT (decide_eq_true h) ⟨_, rfl, ?_⟩
        have := hk ([.sh (.list (ns.map PyData.int)), .sh (.int s), .sh (.list (cs.map PyData.int)), .sh (.int b), .sh (.int z)]) rfl
        rw [show oInt (fun k => if decide ((10 : Int) ^ 18 ≤ k) = true then some (PyData.int k) else none) (.int z) = some (.int z) from if_pos (decide_eq_true h)] at this
        exact this
      · refine ifF (decide_eq_false h) ?_
        have := hk ([.sh (.list (ns.map PyData.int)), .sh (.int s), .sh (.list (cs.map PyData.int)), .sh (.int b), .sh (.int z)]) rfl
        rw [show oInt (fun k => if decide ((10 : Int) ^ 18 ≤ k) = true then some (PyData.int k) else none) (.int z) = none from if_neg (by rw [decide_eq_false h]; decide)] at this
        exact this
    · rw [List.nil_append, fm_oInt, fm_if]
      refine ⟨_, rfl, _, rfl, (cs.filter fun k => decide ((10 : Int) ^ 18 ≤ k)).reverse, b, by rw [List.map_reverse], rfl, ⟨fun n hn => ?_, ?_, b0, b2⟩, trivial⟩
      · exact hms n (List.mem_filter.mp (List.mem_reverse.mp hn)).1
      · rw [List.length_reverse]
        exact Nat.le_trans (List.length_filter_le ..) hcl
theorem ok_law_any {f : Addr} {fd : FuncData} (F : Fun K "_law_any" "_law_any" s_law_any f fd) (T : TB K mg) : FnOk P w K mg base CX0 1 f fd ["deal", "bound"] (spW K g_any) := by
  refine F.ok sc_law_any (fun vs H Q E h => ?_) (fun cdv A outer s H vs Q E hr h => ?_)
  · obtain ⟨Hi, a, l, vs', ds, rfl, _, _, _, _, _, h2, m, e, _⟩ := h
    subst e
    rw [List.length_cons, dpAll_len h2]
    rfl
  · obtain ⟨Hi, a, l, vs', ds, rfl, nal, hs, ha, hl, ⟨ns, b, ok, ea, el⟩, hv, m, e, m0, m1, q⟩ := h
    subst e
    have ev : vs' = [.int m] := ints_of (K := K) [m] vs' hv
    subst ev
    have ps : Int → Prop := fun _ => True
    refine ⟨_, pss_cons (ps_while PassesOwn.never (PW.pt (pw_and (pt_cmpR (op_neD hr.units) (pe_ix ix_list (pv 0) pe_int (fun _ _ => rfl)) (pe_lst pa_nil) (nomark _)) (pw_and1 (pt_cmpR (op_eqD hr.units) (pe_ix ix_list (pe_ix ix_list (pv 0) pe_int (fun _ _ => rfl)) (pe_un un_neg pe_int) (fun _ _ => rfl)) pe_int (nomark _)))))
        (pss_one (ps_expr (pe_bm0 PySem.F.plainAttrs_list PySem.F.slot_list_pop PySem.F.type_list_pop mt_pop (pe_ix ix_list (pv 0) pe_int (fun _ _ => rfl))))))
      (pss_cons (ps_if (pt_cmpR (op_neD hr.units) (pe_ix ix_list (pv 0) pe_int (fun _ _ => rfl)) (pe_lst pa_nil) (nomark _))
        (pss_cons (ps_set (i := 2) sc_law_any.nd rfl (by first | exact Or.inl rfl | exact Or.inr rfl) (pe_callTy call_int1 (by rfl) T.b_int (by decide +kernel) (pa_cons (pe_bm0 PySem.F.plainAttrs_list PySem.F.slot_list_pop PySem.F.type_list_pop mt_pop (pe_ix ix_list (pv 0) pe_int (fun _ _ => rfl))) pa_nil)))
        (pss_cons (ps_expr (pe_bm PySem.F.plainAttrs_list PySem.F.slot_list_append PySem.F.type_list_append mt_append (pe_ix ix_list (pv 0) pe_int (fun _ _ => rfl)) (pa_cons (pe_op op_fdivW (pv 2) (pv 1)) pa_nil)))
        (pss_one (ps_ret (pe_op op_mod (pv 2) (pv 1)))))) pss_nil)
      (pss_cons (ps_asg (pe_op op_mod (pe_callTy call_int1 (by rfl) T.b_int (by decide +kernel) (pa_cons (pe_op op_add (pe_op op_mulW (pe_ix ix_list (pv 0) pe_int (fun _ _ => rfl)) pe_int) pe_int) pa_nil)) pe_int) (pg_sub (pv 0) pe_int set_list))
      (pss_one (ps_ret (pe_op op_mod (pe_callTy call_int1 (by rfl) T.b_int (by decide +kernel) (pa_cons (pe_op op_fdivW (pe_ix ix_list (pv 0) pe_int (fun _ _ => rfl)) pe_int) pa_nil)) (pv 1)))))), ?_⟩
    -- what is wanted at a return
    have fin : ∀ (x : Int) (H' : Hp) (ns' : List Int) (b' : Int), 0 ≤ x → x < m → DX H H' a l ns' b' → DealOk ns' b' → Q (.int x) H' := fun x H' ns' b' x0 x1 d k =>
      q x x0 x1 (.int x) H' Hi (Same.refl _) (fun c o e => d.keep c o (hs c o e) (fun z => by rw [z, ha] at e; cases e) (fun z => by rw [z, hl] at e; cases e)) d.keep d.dom (fun c hc => .inl hc) ⟨ns', b', k, d.at_a, d.at_l⟩ (.int x)
    have at0 : ∀ {H' : Hp} {ns' : List Int} {b' : Int}, atI [V.ref l, .int b'] 0 = some (.ref l) := rfl
    have dpl : ∀ {H' : Hp} {ns' : List Int} {b' : Int}, DX H H' a l ns' b' → Dp K H' (.ref l) (.list (ns'.map PyData.int)) := fun d => .lst (.inl (.inl d.at_l)) (dpAll_ints _)
    have tst : ∀ (Q2 : Bool → Hp → Prop) (H' : Hp) (ns' : List Int), DX H H' a l ns' b → (∀ b2 H2, DX H H2 a l ns' b → (b2 = true → ∃ ms, ns' = ms ++ [0]) → Q2 b2 H2) →
        (tAnd (tTest (tOp (rNeD K) (tOp (rIxL K) (tVar 0) (tC (.int 0))) (tLst tNil))) (tTest (tOp (rEqD K) (tOp (rIxL K) (tOp (rIxL K) (tVar 0) (tC (.int 0))) (tUn (rU fun i => .int (-i)) (tC (.int 1)))) (tC (.int 0))))) [some (.ref a), some (.int m), none] H' Q2 := by
      intro Q2 H' ns' d k
      refine ⟨.ref a, rfl, a, _, 0, .ref l, rfl, rfl, SqL.of d.at_a, rfl, Nat.zero_le _, fun p hp => ?_⟩
      have d1 : DX H (upd H' p (.lst [])) a l ns' b := d.new hp
      refine ⟨_, .list [], dpl d1, .lst (.inl (.inl upd_same)) .nil, sh_ints _, rfl, _, rfl, ?_⟩
      rcases snoc_or ns' with e | ⟨ms, z, e⟩
      · subst e
        exact ifF (by rw [eqv_nil]; rfl) (k false _ d1 fun h => by cases h)
      · subst e
        refine ifT (by rw [eqv_nil]; simp) ?_
        refine ⟨.ref a, rfl, a, _, 0, .ref l, rfl, rfl, SqL.of d1.at_a, rfl, 1, rfl, l, _, -1, .int z, rfl, rfl, SqL.of d1.at_l, (by rw [List.map_append]; exact atI_last _ _), .int z, .int 0, .int z, .int 0, rfl, rfl, _, rfl, k _ _ d1 fun h => ⟨ms, ?_⟩⟩
        rw [eqv_int] at h
        rw [of_decide_eq_true h]
    refine ⟨fun k σ H' => σ = [some (.ref a), some (.int m), none] ∧ ∃ ns', k = ns'.length ∧ DX H H' a l ns' b ∧ DealOk ns' b, ⟨ns.length, rfl, ns, rfl, ⟨fun c o e _ _ => e, fun c e => e, nal, ea, el⟩, ok⟩, fun k σ H' hW => ?_⟩
    obtain ⟨rfl, ns', rfl, d, k'⟩ := hW
    refine tst _ H' ns' d fun b2 H2 d2 hb => ?_
    cases b2 with
    | true =>
      obtain ⟨ms, rfl⟩ := hb rfl
      refine ⟨fun σ' H' => σ' = [some (.ref a), some (.int m), none] ∧ DX H H' a l ms b ∧ DealOk ms b, fun σ' H' h' => ⟨ms.length, by rw [List.length_append]; exact Nat.lt_succ_self _, h'.1, ms, rfl, h'.2⟩, ?_⟩
      refine ⟨.ref a, rfl, a, _, 0, .ref l, rfl, rfl, SqL.of d2.at_a, rfl, .inl ⟨rfl, _, SqL.of d2.at_l⟩, l, _, .int 0, rfl, rfl, d2.at_l, by simp, rfl, ?_, ⟨fun n hn => k'.pos n (List.mem_append_left _ hn), ?_, k'.lo, k'.hi⟩⟩
      · rw [List.map_append, List.map_singleton, List.dropLast_concat]
        exact d2.setL
      · have := k'.few
        rw [List.length_append] at this
        exact Nat.le_of_succ_le this
    | false =>
      -- if deal[0] != []
      refine ⟨.ref a, rfl, a, _, 0, .ref l, rfl, rfl, SqL.of d2.at_a, rfl, Nat.zero_le _, fun p hp => ?_⟩
      have d3 : DX H (upd H2 p (.lst [])) a l ns' b := d2.new hp
      refine ⟨_, .list [], dpl d3, .lst (.inl (.inl upd_same)) .nil, sh_ints _, rfl, _, rfl, ?_⟩
      rcases snoc_or ns' with e | ⟨ms, z, e⟩
      · subst e
        refine ifF (by rw [eqv_nil]; rfl) ?_
        have hb : b.natAbs < 2 ^ 40 := by
          have h1 := k'.lo
          have h2 := k'.hi
          omega
        refine ⟨.ref a, rfl, a, _, 1, .int b, rfl, rfl, SqL.of d3.at_a, rfl, b, 40693, rfl, rfl, wide_mul (a := 40) (b := 20) hb (by decide) (by decide) (by decide) (by decide), _, _, rfl, rfl, .inl ⟨_, rfl, _, _, rfl, rfl, (by show (0 : Int) < 2147483647; decide), .ref a, rfl, a, _, 1, 1, rfl, rfl, d3.at_a, rfl, ?_⟩⟩
        have d4 := d3.setA (c := (b * 40693 + 71) % 2147483647)
        refine ⟨.ref a, rfl, a, _, 1, .int ((b * 40693 + 71) % 2147483647), rfl, rfl, SqL.of d4.at_a, rfl, _, _, rfl, rfl, ⟨by decide, by decide⟩, .inl ⟨_, rfl, .int m, rfl, _, _, rfl, rfl, m0, ?_⟩⟩
        exact fin _ _ [] _ (Int.emod_nonneg _ (by omega)) (Int.emod_lt_of_pos _ m0) d4 ⟨fun _ h => (by cases h), by decide, Int.emod_nonneg _ (by decide), Int.emod_lt_of_pos _ (by decide)⟩
      · subst e
        refine ifT (by rw [eqv_nil]; simp) ?_
        have hz : 0 ≤ z := k'.pos z (List.mem_append_right _ (by simp))
        refine ⟨.ref a, rfl, a, _, 0, .ref l, rfl, rfl, SqL.of d3.at_a, rfl, .inl ⟨rfl, _, SqL.of d3.at_l⟩, l, _, .int z, rfl, rfl, d3.at_l, by simp, .inl ⟨z, rfl, ?_⟩⟩
        rw [List.map_append, List.map_singleton, List.dropLast_concat]
        have d4 : DX H _ a l ms b := d3.setL
        refine ⟨.ref a, rfl, a, _, 0, .ref l, rfl, rfl, SqL.of d4.at_a, rfl, .inl ⟨rfl, _, SqL.of d4.at_l⟩, .int z, rfl, .int m, rfl, z, m, rfl, rfl, ⟨m0, m1⟩, l, _, .int (z / m), rfl, rfl, d4.at_l, ?_, .int z, rfl, .int m, rfl, z, m, rfl, rfl, m0, ?_⟩
        · have := k'.few
          rw [List.length_append] at this
          rw [List.length_map, sizeLine_eq]
          omega
        · have d5 := d4.setL (ms := ms ++ [z / m])
          rw [List.map_append, List.map_singleton] at d5
          refine fin _ _ (ms ++ [z / m]) b (Int.emod_nonneg _ (by omega)) (Int.emod_lt_of_pos _ m0) ?_ ⟨fun n hn => ?_, by rw [List.length_append]; have := k'.few; rw [List.length_append] at this; exact this, k'.lo, k'.hi⟩
          · exact d5
          · rcases List.mem_append.mp hn with hn | hn
            · exact k'.pos n (List.mem_append_left _ hn)
            · obtain rfl : n = z / m := by simpa using hn
              exact Int.ediv_nonneg hz (Int.le_of_lt m0)

def isIntB (d : D) : Bool := typD d == "int" || typD d == "bool"
def isBoolD (d : D) : Bool := typD d == "bool"
def isTupB (d : D) : Bool := typD d == "tuple"
theorem i_int : IsiD K "int" isIntB := isi_of (f := fun s => s == "int" || s == "bool") (by decide +kernel)
theorem i_bool : IsiD K "bool" isBoolD := isi_of (f := fun s => s == "bool") (by decide +kernel)
theorem i_tuple : IsiD K "tuple" isTupB := isi_of (f := fun s => s == "tuple") (by decide +kernel)
structure TKI (K : PySem.W.Frag) (mg : Str → Option Value) : Prop where
  b_isinstance : mg "isinstance" = none
  b_int : mg "int" = none
  b_bool : mg "bool" = none
  i_int : IsiD K "int" isIntB
  i_bool : IsiD K "bool" isBoolD
def isIntD : D → Bool
  | .int _ => true
  | _ => false
def g_is_integer : CD := fun ds P => ∃ d, ds = [d] ∧ P (.bool (isIntD d))
theorem g_is_integer_mono : ∀ es P P', (∀ d, P d → P' d) → g_is_integer es P → g_is_integer es P' := fun es P P' h ⟨d, e, q⟩ => ⟨d, e, h _ q⟩
theorem ok_is_integer {f : Addr} {fd : FuncData} (F : Fun K "is_integer" "is_integer" s_is_integer f fd) (T : TKI K mg) : FnOk P w K mg base CX0 1 f fd ["value"] (spD K g_is_integer) := by
  refine ok_D F sc_is_integer (fun ds P ⟨d, e, _⟩ => by rw [e]; rfl) (fun cdv A outer s H E hr => ⟨_, _, (pss_one (ps_ret (pe_and (pe_callB call_isi (by rfl) T.b_isinstance (by decide +kernel) (pa_cons (pv 0) (pa_cons (pe_bltn (v := .ty "int") (u := .type "int") (by rfl) T.b_int (by decide +kernel) rfl) pa_nil))) (pe_one (pe_not (pe_callB call_isi (by rfl) T.b_isinstance (by decide +kernel) (pa_cons (pv 0) (pa_cons (pe_bltn (v := .ty "bool") (u := .type "bool") (by rfl) T.b_bool (by decide +kernel) rfl) pa_nil)))))))), (ss_ret (se_andV (se_isi (T.i_int) (se_var 0)) (se_notV (se_isi (T.i_bool) (se_var 0))))), fun ds Pd h => ?_⟩)
  obtain ⟨d, rfl, q⟩ := h
  refine ⟨d, rfl, isIntB d, rfl, ?_⟩
  cases d with
  | bool b =>
    rw [if_pos (show isIntB (.bool b) = true by rfl)]
    refine ⟨_, rfl, _, rfl, ?_⟩
    rw [show isBoolD (.bool b) = true by rfl]
    exact q
  | int i =>
    rw [if_pos (show isIntB (.int i) = true by rfl)]
    refine ⟨_, rfl, _, rfl, ?_⟩
    rw [show isBoolD (.int i) = false by rfl]
    exact q
  | none => exact q
  | str x => exact q
  | list x => exact q
  | tuple x => exact q
  | dict x => exact q

def lenOf (r : Rho) : Nat := match r[2]? with
  | some (DV.ls es) => es.length
  | _ => 0
structure TX (P : Program) (w : World) (K : PySem.W.Frag) (mg : Str → Option Value) (base : Heap) : Prop extends TA P w K mg base where
  b_list : mg "list" = none
theorem ok_law_mixed {f : Addr} {fd : FuncData} (F : Fun K "_law_mixed" "_law_mixed" s_law_mixed f fd) (T : TX P w K mg base) : FnOk P w K mg base CX0 2 f fd ["deal", "some"] (spW K g_mixD) := by
  refine ok_W F sc_law_mixed (fun ds P ⟨ns, _, _, _, e, _⟩ => by rw [e]; rfl) (by decide) (fun cdv A outer s H E hr => ⟨_, _, (pss_cons (ps_par (i := 2) (j := 3) rfl sc_law_mixed.nd rfl rfl (by decide) rfl rfl (pa_cons (pe_callTy call_list_of (by rfl) T.b_list (by decide +kernel) (pa_cons (pv 1) pa_nil)) (pa_cons (pe_lst pa_nil) pa_nil)) (by rfl))
      (pss_cons (ps_while PassesOwn.never (pt_cmpR (op_neD hr.units) (pv 2) (pe_lst pa_nil) (nomark _)) (pss_one (ps_expr (pe_bm PySem.F.plainAttrs_list PySem.F.slot_list_append PySem.F.type_list_append mt_append (pv 3) (pa_cons (pe_bm PySem.F.plainAttrs_list PySem.F.slot_list_pop PySem.F.type_list_pop mt_popAt (pv 2) (pa_cons (C8.pe_c T.d_law_any hr (by first | decide | omega) (by rfl) (pa_cons (pv 0) (pa_cons (pe_callB call_len_seq (by rfl) T.b_len PySem.boot_len (pa_cons (pv 2) pa_nil)) pa_nil))) pa_nil)) pa_nil)))))
      (pss_one (ps_ret (pv 3))))), (ss_cons (ss_parO (i := 2) (j := 3) (sf_cb scf_list (sa_cons (se_var 1) sa_nil)) (sf_lst sa_nil))
      (ss_cons (ss_while (st_test (se_opO 2 sov_neD (se_sh (sf_lst sa_nil)))) (ss_app 3 (se_popI 2 (se_callW (i := 0) g_any_mono (sa_cons (se_lenO 2) sa_nil)))))
      (ss_frz 3 (ss_ret (se_var 3))))), fun a l ds Pd h => ?_⟩)
  obtain ⟨ns, M, b, k, rfl, nt, hM, hk, hl, q⟩ := h
  have shp : ∀ ls : List D, (∀ e ∈ ls, e ∈ ns) → SeqAt.shaped (.list ls) = true := fun ls h => by
    obtain ⟨h1, h2⟩ := ntL_all.mpr fun e he => ntL_all.mp ⟨nt.lv, nt.dp⟩ e (h e he)
    exact (NtL.lst (M := M) (b := PyData.bulkAll ls) (k := k) ⟨h1, Nat.le_refl _, h2⟩).shp hM (by omega)
  generalize hS : PyData.list ns = S
  refine ⟨S, rfl, ns, .inl (by rw [hS]), Nat.zero_le _, (by show 2 < 4; decide), (by show 3 < 4; decide), ?_⟩
  refine ⟨fun r => ∃ ls fs : List D, r = [.dl a l, .sh S, .ls ls, .ls fs] ∧ (fs ++ ls).Perm ns, lenOf, ⟨ns, [], rfl, List.Perm.refl _⟩, fun r hI => ?_⟩
  obtain ⟨ls, fs, rfl, hp⟩ := hI
  have hlen := hp.length_eq
  rw [List.length_append] at hlen
  refine ⟨⟨_, rfl⟩, Nat.zero_le _, _, rfl, shp ls (fun e he => hp.mem_iff.mp (List.mem_append_right _ he)), rfl, _, rfl, ?_⟩
  rw [eqv_lnil]
  cases ls with
  | nil =>
    refine ifF rfl ⟨_, rfl, _, rfl, rfl, q fs ?_⟩
    rw [List.append_nil] at hp
    exact hp
  | cons z zs =>
    rw [List.length_cons] at hlen
    refine ifT rfl ⟨⟨_, rfl⟩, ⟨_, rfl⟩, ⟨a, l, rfl⟩, _, rfl, ⟨a, l, rfl⟩, ((z :: zs).length : Nat), rfl, by rw [List.length_cons]; omega, Nat.lt_trans (PySem.Flt.log2_lt_of (k := 20) (by decide) (by rw [List.length_cons]; omega)) (by decide), fun x x0 x1 => ?_⟩
    obtain ⟨j, rfl⟩ : ∃ j : Nat, x = (j : Int) := ⟨x.toNat, by omega⟩
    have hj : j < (z :: zs).length := by omega
    refine ⟨_, j, j, (z :: zs)[j], rfl, rfl, ⟨by omega, by rw [List.length_cons] at hj; omega⟩, seq_nat hj, List.getElem?_eq_getElem hj, _, rfl, by rw [sizeLine_eq]; omega, ?_⟩
    refine ⟨⟨(z :: zs).eraseIdx j, fs ++ [(z :: zs)[j]], rfl, ?_⟩, ?_⟩
    · rw [List.append_assoc]
      exact (List.Perm.append_left fs (erase_perm hj)).trans hp
    · show ((z :: zs).eraseIdx j).length < (z :: zs).length
      rw [List.length_eraseIdx]
      rw [if_pos hj, List.length_cons]
      omega

structure TP (P : Program) (w : World) (K : PySem.W.Frag) (mg : Str → Option Value) (base : Heap) : Prop where
  b_len : mg "len" = none
  b_tuple : mg "tuple" = none
  b_zip : mg "zip" = none
  b_sum : mg "sum" = none
  b_sorted : mg "sorted" = none
  b_enumerate : mg "enumerate" = none
  b_range : mg "range" = none
  b_reversed : mg "reversed" = none
  b_all : mg "all" = none
  b_int : mg "int" = none
  b_max : mg "max" = none
  b_list : mg "list" = none
  c_MOST_POINTS : ∃ u, mg "MOST_POINTS" = some u ∧ RelV (.int 1000) u
def g_element : CD := g_law_element
theorem g_element_mono : ∀ es P P', (∀ d, P d → P' d) → g_element es P → g_element es P' := g_law_element_mono
theorem ok_element {f : Addr} {fd : FuncData} (F : Fun K "element" "element" s_element f fd) (T : TP P w K mg base) : FnOk P w K mg base CX0 1 f fd ["p", "number"] (spD K g_element) := by
  refine ok_D F sc_element (fun ds P ⟨p, n, e, _⟩ => by rw [e]; rfl) (fun cdv A outer s H E hr => ⟨_, _, (pss_cons (ps_if (pt_cmpR (op_eqD hr.units) (pv 0) pe_int (nomark _)) (pss_one (ps_ret (pv 1))) pss_nil)
      (pss_one (ps_ret (pe_op op_mod (pv 1) (pv 0))))), (ss_cons (ss_if (st_test (se_op so_eqD (se_var 0) se_c)) (ss_ret (se_var 1)) ss_nil)
      (ss_ret (se_op so_rI (se_var 1) (se_var 0)))), fun ds Pd h => ?_⟩)
  obtain ⟨p, n, rfl, hp, q⟩ := h
  refine ⟨_, rfl, rfl, rfl, _, rfl, ?_⟩
  unfold elemF at q
  show if PyData.eqv (.int p) (.int 0) = true then _ else _
  rw [eqv_int]
  by_cases h0 : p = 0
  · rw [if_pos h0] at q
    rw [if_pos (decide_eq_true h0)]
    exact ⟨_, rfl, q⟩
  · rw [if_neg h0] at q
    rw [if_neg (by rw [decide_eq_false h0]; decide)]
    exact ⟨_, rfl, _, rfl, _, _, rfl, rfl, by omega, q⟩
def g_only_at : CD := fun ds P => ∃ n at_ x : Int, ds = [.int n, .int at_, .int x] ∧ 0 ≤ at_ ∧ at_ < n ∧ n ≤ 1000 ∧ P (.tuple ((onlyF n at_ x).map PyData.int))
theorem g_only_at_mono : ∀ es P P', (∀ d, P d → P' d) → g_only_at es P → g_only_at es P' := fun es P P' h ⟨n, a, x, e, h1, h2, h3, q⟩ => ⟨n, a, x, e, h1, h2, h3, h _ q⟩
theorem ok_only_at {f : Addr} {fd : FuncData} (F : Fun K "only_at" "only_at" s_only_at f fd) (T : TP P w K mg base) : FnOk P w K mg base CX0 1 f fd ["n", "at", "number"] (spD K g_only_at) := by
  refine ok_D F sc_only_at (fun ds P ⟨p, n, x, e, _⟩ => by rw [e]; rfl) (fun cdv A outer s H E hr => ⟨_, _, (pss_one (ps_ret (pe_op op_catA (pe_op op_catA (pe_op op_repA (pe_tup (pa_cons pe_int pa_nil)) (pv 1)) (pe_tup (pa_cons (pv 2) pa_nil))) (pe_op op_repA (pe_tup (pa_cons pe_int pa_nil)) (pe_op op_sub (pe_op op_sub (pv 0) (pv 1)) pe_int))))), (ss_ret (se_op so_catT (se_op so_catT (se_op so_repA (se_tup (sa_cons se_c sa_nil)) (se_var 1)) (se_tup (sa_cons (se_var 2) sa_nil))) (se_op so_repA (se_tup (sa_cons se_c sa_nil)) (se_op so_rI0 (se_op so_rI0 (se_var 0) (se_var 1)) se_c)))), fun ds Pd h => ?_⟩)
  obtain ⟨n, at_, x, rfl, h0, h1, h2, q⟩ := h
  have er : ∀ k : Int, (List.replicate k.toNat [PyData.int 0]).flatten = (List.replicate k.toNat (0 : Int)).map PyData.int := fun k => by
    generalize k.toNat = m
    induction m with
    | zero => rfl
    | succ m ih => rw [List.replicate_succ, List.flatten_cons, ih]; rfl
  refine ⟨(by show 1 ≤ sizeLine; decide), _, rfl, [.int 0], at_, rfl, rfl, List.cons_ne_nil _ _, by omega, by omega, (by show 1 ≤ 1000; decide), _, rfl, (by show 1 ≤ sizeLine; decide), _, _, rfl, rfl, ?_, (by show 1 ≤ sizeLine; decide), _, rfl, _, rfl, _, _, rfl, rfl, _, _, rfl, rfl, [.int 0], n - at_ - 1, rfl, rfl, List.cons_ne_nil _ _, by omega, by omega, (by show 1 ≤ 1000; decide), _, _, rfl, rfl, ?_, ?_⟩
  · rw [er, List.length_map, List.length_replicate, sizeLine_eq]
    show at_.toNat + 1 ≤ _
    omega
  · rw [er, er, List.length_append, List.length_map, List.length_replicate, List.length_map, List.length_replicate, sizeLine_eq]
    show at_.toNat + 1 + _ ≤ _
    omega
  · rw [er, er]
    unfold onlyF at q
    rw [List.map_append, List.map_append] at q
    exact q

def g_all_tuples : CD := fun ds P => ∃ rs : List (List Int), ds = [.list (rs.map tupK)] ∧ RowsOk rs ∧ cntR rs ≤ 100000 ∧ P (rowsD (chL rs))
theorem g_all_tuples_mono : ∀ es P P', (∀ d, P d → P' d) → g_all_tuples es P → g_all_tuples es P' := fun es P P' h ⟨rs, e, h1, h2, q⟩ => ⟨rs, e, h1, h2, h _ q⟩
theorem ok_all_tuples {f : Addr} {fd : FuncData} (F : Fun K "all_tuples" "all_tuples" s_all_tuples f fd) (T : TP P w K mg base) : FnOk P w K mg base CX0 1 f fd ["rows"] (spD K g_all_tuples) := by
  refine ok_D F sc_all_tuples (fun ds P ⟨d, e, _⟩ => by rw [e]; rfl) (fun cdv A outer s H E hr => ⟨_, _, (pss_cons (ps_set (i := 1) sc_all_tuples.nd rfl (by first | exact Or.inl rfl | exact Or.inr rfl) (pe_lst (pa_cons (pe_tup pa_nil) pa_nil)))
      (pss_cons (ps_for PassesOwn.never rfl (pi_list (pv 0)) (pg_name (i := 2) sc_all_tuples.nd rfl (by first | exact Or.inl rfl | exact Or.inr rfl)) (pss_one (ps_setLc2 (i := 1) (own := [("ahead", 3), ("one", 4)]) (vs1 := [4]) (g := (gName 3)) (tt := tYes) (g1 := (gName 4)) (tt1 := tYes) rfl sc_all_tuples.nd rfl rfl (sw_true rfl rfl rfl (by decide +kernel)) (pi_list (pv 1)) (blkOk_by (N := N_all_tuples) (sc := defScope s_all_tuples) (own := [("ahead", 3), ("one", 4)]) (by decide +kernel)) (by decide) (fun _ _ _ _ _ => (pg_name (i := 3) sc_all_tuples.nd rfl (by first | exact Or.inl rfl | exact Or.inr rfl))) (fun _ _ _ _ _ => pts_nil) (fun _ _ _ _ _ => (pi_tup (pv 2))) (fun _ _ _ _ _ => (pg_name (i := 4) sc_all_tuples.nd rfl (by first | exact Or.inl rfl | exact Or.inr rfl))) (fun _ _ _ _ _ => pts_nil) (fun _ _ _ _ _ => (pe_op op_catA (pv 3) (pe_tup (pa_cons (pv 4) pa_nil)))))))
      (pss_one (ps_ret (pe_callTy call_tuple_of (by rfl) T.b_tuple (by decide +kernel) (pa_cons (pv 1) pa_nil)))))), (ss_cons (ss_asg (se_sh (sf_lst (sa_cons (se_tup sa_nil) sa_nil))) (sg_name 1))
      (ss_cons (ss_for (si_list (se_var 0)) (sg_name 2) (ss_asg (se_sh (sf_lc2 (js := [3, 4]) (js1 := [4]) (si_list (se_var 1)) (sg_name 3) st_yes (si_tup (se_var 2)) (sg_name 4) st_yes (se_op so_catT (se_var 3) (se_tup (sa_cons (se_var 4) sa_nil))))) (sg_name 1)))
      (ss_ret (se_cb sc_tuple (sa_cons (se_var 1) sa_nil))))), fun ds Pd h => ?_⟩)
  obtain ⟨rs, rfl, ok, hc, q⟩ := h
  have pos : ∀ x ∈ rs.map List.length, 0 < x := fun x hx => by
    obtain ⟨r, hr, rfl⟩ := List.mem_map.mp hx
    exact List.length_pos_iff.mpr (ok.ne r hr)
  generalize hS : (PyData.list (rs.map tupK)) = S
  refine ⟨Nat.zero_le _, (by show 1 ≤ sizeLine; decide), (by show 1 < 5; decide), S, rfl, rs.map tupK, hS.symm, fun i r => ∃ x2 : DV, r = [.sh S, .sh (.list ((chL (rs.take i)).map tupK)), x2, .no, .no], ⟨_, rfl⟩, fun i y r hd hI => ?_, fun r hI => ?_⟩
  · obtain ⟨x2, rfl⟩ := hI
    rw [List.getElem?_map] at hd
    cases hri : rs[i]? with
    | none => rw [hri] at hd; cases hd
    | some row =>
      rw [hri] at hd
      obtain rfl : tupK row = y := Option.some.inj hd
      have hi : i < rs.length := (List.getElem?_eq_some_iff.mp hri).1
      have few := ok.few
      have e1 := chL_take rs hri
      have l1 : (chL (rs.take i)).length * row.length ≤ 100000 := by
        rw [← stepR_len, ← e1, chL_len]
        unfold cntR at hc ⊢
        rw [List.map_take]
        exact Nat.le_trans (prodN_take pos _) hc
      have cl : ∀ c ∈ chL (rs.take i), c.length ≤ 100 := fun c hcm => by
        have := foldR_len2 (rs.take i) [[]] 0 (fun d hd => by rw [List.mem_singleton.mp hd]; rfl) c hcm
        rw [List.length_take] at this
        omega
      refine ⟨(by show 2 < 5; decide), _, rfl, _, rfl, fun j hj => by
        rcases (by simpa using hj : j = 3 ∨ j = 4) with rfl | rfl <;> rfl, ?_⟩
      refine compW2_flat tupK (fun c => row.map fun x => PyData.tuple (c.map PyData.int ++ [.int x])) row.length sizeLine (fun c hcm => by rw [List.length_map]; exact Nat.le_refl _) (by rw [sizeLine_eq]; show 0 + _ ≤ _; omega) (fun c hcm a k ha hk => ?_) ?_
      · have := cl c hcm
        refine ⟨(by show 3 < 5; decide), ifT rfl ⟨_, rfl, row.map PyData.int, rfl, by rw [List.length_map]; exact ha, fun j hj => by
          obtain rfl : j = 4 := by simpa using hj
          rfl, ?_⟩⟩
        refine compW_map PyData.int (fun x => some (PyData.tuple (c.map PyData.int ++ [.int x]))) (fun x hx kk hkk => ⟨(by show 4 < 5; decide), ifT rfl ⟨_, rfl, _, rfl, (by show 1 ≤ sizeLine; decide), _, _, rfl, rfl, by rw [List.length_map, sizeLine_eq]; show c.length + 1 ≤ _; omega, hkk _ rfl⟩⟩) ?_
        rw [List.filterMap_eq_map']
        exact hk _ rfl
      · refine ⟨(by show 1 < 5; decide), .sh (tupK row), ?_⟩
        have e2 : [] ++ (chL (rs.take i)).flatMap (fun c => row.map fun x => PyData.tuple (c.map PyData.int ++ [.int x])) = (chL (rs.take (i + 1))).map tupK := by
          rw [e1, List.nil_append]
          unfold stepR
          rw [List.map_flatMap]
          congr 1
          funext c
          rw [List.map_map]
          refine List.map_congr_left fun x _ => ?_
          show _ = tupK (c ++ [x])
          unfold tupK
          rw [List.map_append]
          rfl
        rw [e2]
        rfl
  · obtain ⟨x2, rfl⟩ := hI
    rw [List.length_map, List.take_length]
    exact ⟨_, rfl, _, .inl rfl, q⟩
def g_product_of : CD := fun ds P => ∃ ns : List Nat, ds = [.list (ns.map fun (n : Nat) => PyData.int (n : Int))] ∧ (∀ n ∈ ns, n ≤ 1000) ∧ ns.length ≤ 100 ∧ P (.int (prodN ns))
theorem g_product_of_mono : ∀ es P P', (∀ d, P d → P' d) → g_product_of es P → g_product_of es P' := fun es P P' h ⟨rs, e, h1, h2, q⟩ => ⟨rs, e, h1, h2, h _ q⟩
theorem ok_product_of {f : Addr} {fd : FuncData} (F : Fun K "product_of" "product_of" s_product_of f fd) (T : TP P w K mg base) : FnOk P w K mg base CX0 1 f fd ["numbers"] (spD K g_product_of) := by
  refine ok_D F sc_product_of (fun ds P ⟨d, e, _⟩ => by rw [e]; rfl) (fun cdv A outer s H E hr => ⟨_, _, (pss_cons (ps_set (i := 1) sc_product_of.nd rfl (by first | exact Or.inl rfl | exact Or.inr rfl) pe_int)
      (pss_cons (ps_for PassesOwn.never rfl (pi_list (pv 0)) (pg_name (i := 2) sc_product_of.nd rfl (by first | exact Or.inl rfl | exact Or.inr rfl)) (pss_one (ps_set (i := 1) sc_product_of.nd rfl (by first | exact Or.inl rfl | exact Or.inr rfl) (pe_op op_mulW (pv 1) (pv 2)))))
      (pss_one (ps_ret (pv 1))))), (ss_cons (ss_asg se_c (sg_name 1))
      (ss_cons (ss_for (si_list (se_var 0)) (sg_name 2) (ss_asg (se_op so_rI (se_var 1) (se_var 2)) (sg_name 1)))
      (ss_ret (se_var 1)))), fun ds Pd h => ?_⟩)
  obtain ⟨ns, rfl, hn, hl, q⟩ := h
  generalize hS : PyData.list (ns.map fun (n : Nat) => PyData.int (n : Int)) = S
  refine ⟨(by show 1 < 3; decide), S, rfl, _, hS.symm, fun i r => ∃ x2 : DV, r = [.sh S, .sh (.int (prodN (ns.take i) : Nat)), x2], ⟨_, rfl⟩, fun i y r hd hI => ?_, fun r hI => ?_⟩
  · obtain ⟨x2, rfl⟩ := hI
    rw [List.getElem?_map] at hd
    cases hni : ns[i]? with
    | none => rw [hni] at hd; cases hd
    | some n =>
      rw [hni] at hd
      obtain rfl : PyData.int (n : Int) = y := Option.some.inj hd
      have hn1 := hn n (List.mem_of_getElem? hni)
      have b1 : prodN (ns.take i) < 2 ^ 1000 := by
        have h1 := prodN_le (l := ns.take i) fun x hx => hn x (List.mem_of_mem_take hx)
        have h2 : (1000 : Nat) ^ (ns.take i).length ≤ 1000 ^ 99 := Nat.pow_le_pow_right (by decide) (by
          have := (List.getElem?_eq_some_iff.mp hni).1
          rw [List.length_take]
          omega)
        exact Nat.lt_of_le_of_lt (Nat.le_trans h1 h2) (by decide)
      refine ⟨(by show 2 < 3; decide), _, rfl, _, rfl, _, _, rfl, rfl, wide_mul (a := 1000) (b := 20) (by show ((prodN (ns.take i) : Nat) : Int).natAbs < _; rw [Int.natAbs_natCast]; exact b1) (by omega) (by decide) (by decide) (by decide), (by show 1 < 3; decide), .sh (.int (n : Int)), ?_⟩
      rw [List.take_add_one, hni]
      show [.sh S, .sh (.int (((prodN (ns.take i) : Nat) : Int) * (n : Int))), .sh (.int (n : Int))] = ([.sh S, .sh (.int ((prodN (ns.take i ++ [n]) : Nat) : Int)), .sh (.int (n : Int))] : Rho)
      rw [prodN_app, Int.natCast_mul]
      show _ = ([.sh S, .sh (.int (((prodN (ns.take i) : Nat) : Int) * ((n * 1 : Nat) : Int))), .sh (.int (n : Int))] : Rho)
      rw [Nat.mul_one]
  · obtain ⟨x2, rfl⟩ := hI
    rw [List.length_map, List.take_length]
    exact ⟨_, rfl, q⟩
def g_row_times : CD := fun ds P => ∃ a b : List Int, ds = [tupK a, tupK b] ∧ a.length ≤ 1000 ∧ (∀ x ∈ a, x.natAbs ≤ 10000) ∧ (∀ x ∈ b, x.natAbs ≤ 10000) ∧ P (.int (rowF a b))
theorem g_row_times_mono : ∀ es P P', (∀ d, P d → P' d) → g_row_times es P → g_row_times es P' := fun es P P' h ⟨a, b, e, h1, h2, h3, q⟩ => ⟨a, b, e, h1, h2, h3, h _ q⟩
theorem ok_row_times {f : Addr} {fd : FuncData} (F : Fun K "row_times" "row_times" s_row_times f fd) (T : TP P w K mg base) : FnOk P w K mg base CX0 1 f fd ["row", "column"] (spD K g_row_times) := by
  refine ok_D F sc_row_times (fun ds P ⟨a, b, e, _⟩ => by rw [e]; rfl) (fun cdv A outer s H E hr => ⟨_, _, (pss_one (ps_ret (pe_callB (cr_sum rfl) (by rfl) T.b_sum (by decide +kernel) (pa_cons (pe_lc (own := [("one", 2), ("other", 3)]) (g := (gTup K 2 (gCons (gName 2) (gCons (gName 3) gNil)))) (tt := tYes) rfl sc_row_times.nd (pi_zipT (by rfl) T.b_zip (pa_cons (pv 0) (pa_cons (pv 1) pa_nil))) (blkOk_by (N := N_row_times) (sc := defScope s_row_times) (own := [("one", 2), ("other", 3)]) (by decide +kernel)) (fun _ _ _ _ _ => (pg_tup rfl (pgs_cons (pg_name (i := 2) sc_row_times.nd rfl (by first | exact Or.inl rfl | exact Or.inr rfl)) (pgs_cons (pg_name (i := 3) sc_row_times.nd rfl (by first | exact Or.inl rfl | exact Or.inr rfl)) pgs_nil)))) (fun _ _ _ _ _ => pts_nil) (fun _ _ _ _ _ => (pe_op op_mulW (pv 2) (pv 3)))) pa_nil)))), (ss_ret (se_cb sc_sum (sa_cons (se_sh (sf_lc (js := [2, 3]) (si_zipT (sa_cons (se_var 0) (sa_cons (se_var 1) sa_nil))) (sg_tup (sgs_cons (sg_name 2) (sgs_cons (sg_name 3) sgs_nil))) st_yes (se_op so_rI (se_var 2) (se_var 3)))) sa_nil))), fun ds Pd h => ?_⟩)
  obtain ⟨a, b, rfl, hl, ha, hb, q⟩ := h
  refine ⟨_, rfl, _, rfl, a.map PyData.int, b.map PyData.int, rfl, ?_, fun j hj => by
    rcases (by simpa using hj : j = 2 ∨ j = 3) with rfl | rfl <;> rfl, ?_⟩
  · rw [zipD_map, List.length_map, List.length_zip, sizeLine_eq]
    omega
  rw [zipD_map]
  refine compW_all _ (fun q : Int × Int => PyData.int (q.1 * q.2)) (fun q hq k hk => ?_) ⟨(a.zip b).map fun q => q.1 * q.2, by rw [List.map_map]; rfl, ?_⟩
  · have h1 := ha q.1 (List.of_mem_zip (a := q.1) (b := q.2) hq).1
    have h2 := hb q.2 (List.of_mem_zip (a := q.1) (b := q.2) hq).2
    exact ⟨_, rfl, rfl, _, _, rfl, (by show 2 < 4; decide), _, _, rfl, (by show 3 < 4; decide), rfl, ifT rfl ⟨_, rfl, _, rfl, _, _, rfl, rfl, wide_mul (a := 20) (b := 20) (by omega) (by omega) (by decide) (by decide) (by decide), hk _ rfl⟩⟩
  · exact q
structure TQ (P : Program) (w : World) (K : PySem.W.Frag) (mg : Str → Option Value) (base : Heap) : Prop extends TKI K mg where
  b_len : mg "len" = none
  b_all : mg "all" = none
  b_tuple : mg "tuple" = none
  i_tuple : IsiD K "tuple" isTupB
def lenTup : D → Nat
  | .tuple es => es.length
  | _ => 0
def elB (p : Int) (d : D) : Bool := isIntD d && (decide (p = 0) || (decide (0 ≤ intOf d) && decide (intOf d < p)))
def g_is_element : CD := fun ds P => ∃ (p : Int) (d : D), ds = [.int p, d] ∧ P (.bool (elB p d))
theorem g_is_element_mono : ∀ es P P', (∀ d, P d → P' d) → g_is_element es P → g_is_element es P' := fun es P P' h ⟨p, d, e, q⟩ => ⟨p, d, e, h _ q⟩
structure TK1 (P : Program) (w : World) (K : PySem.W.Frag) (mg : Str → Option Value) (base : Heap) : Prop extends TQ P w K mg base where
  d_is_integer : C8.Cal P w K mg base 1 "is_integer" (spD K g_is_integer) []
theorem ok_is_element {f : Addr} {fd : FuncData} (F : Fun K "is_element" "is_element" s_is_element f fd) (T : TK1 P w K mg base) : FnOk P w K mg base CX0 2 f fd ["p", "value"] (spD K g_is_element) := by
  refine ok_D F sc_is_element (fun ds P ⟨p, d, e, _⟩ => by rw [e]; rfl) (fun cdv A outer s H E hr => ⟨_, _, (pss_one (ps_ret (pe_and (C8.pe_c T.d_is_integer hr (by first | decide | omega) (by rfl) (pa_cons (pv 1) pa_nil)) (pe_one (pe_or (pe_cmpR (op_eqD hr.units) (pv 0) pe_int (nomark _)) (pe_one (pe_chain op_le op_lt pe_int (pv 1) (pv 0)))))))), (ss_ret (se_andV (se_call g_is_integer_mono (sa_cons (se_var 1) sa_nil)) (se_orV (se_op so_eqD (se_var 0) se_c) (se_chain so_rI0 so_rI0 se_c (se_var 1) (se_var 0))))), fun ds Pd h => ?_⟩)
  obtain ⟨p, d, rfl, q⟩ := h
  refine ⟨d, rfl, d, rfl, isIntD d, rfl, ?_⟩
  unfold elB at q
  cases d with
  | int i =>
    refine ifT rfl ⟨_, rfl, rfl, rfl, decide (p = 0), ?_, ?_⟩
    · show PyData.bool (PyData.eqv (.int p) (.int 0)) = _
      rw [eqv_int]
    change Pd (.bool (true && (decide (p = 0) || (decide (0 ≤ i) && decide (i < p))))) at q
    rw [Bool.true_and] at q
    by_cases h0 : p = 0
    · rw [decide_eq_true h0, Bool.true_or] at q
      exact ifT (decide_eq_true h0) q
    · rw [decide_eq_false h0, Bool.false_or] at q
      refine ifF (decide_eq_false h0) ?_
      refine ⟨_, rfl, _, _, rfl, rfl, decide (0 ≤ i), rfl, ?_⟩
      by_cases h1 : 0 ≤ i
      · rw [decide_eq_true h1, Bool.true_and] at q
        exact ifT (decide_eq_true h1) ⟨_, rfl, _, _, rfl, rfl, q⟩
      · rw [decide_eq_false h1, Bool.false_and] at q
        exact ifF (decide_eq_false h1) q
  | bool b => exact ifF rfl q
  | none => exact ifF rfl q
  | str x => exact ifF rfl q
  | list x => exact ifF rfl q
  | tuple x => exact ifF rfl q
  | dict x => exact ifF rfl q
def elsB (p n : Int) (d : D) : Bool := match d with
  | .tuple es => decide ((es.length : Int) = n) && es.all (elB p)
  | _ => false
theorem elsB_not {p n : Int} {d : D} (h : ∀ es, d ≠ .tuple es) : elsB p n d = false := by
  cases d with
  | tuple es => exact absurd rfl (h es)
  | _ => rfl
theorem tup_or (d : D) : (∃ es, d = .tuple es) ∨ ∀ es, d ≠ .tuple es := by
  cases d with
  | tuple es => exact .inl ⟨es, rfl⟩
  | _ => exact .inr fun es z => by cases z
theorem isTup_not {d : D} (h : ∀ es, d ≠ .tuple es) : isTupB d = false := by
  cases d with
  | tuple es => exact absurd rfl (h es)
  | _ => rfl
def g_are_elements : CD := fun ds P => ∃ (p n : Int) (d : D), ds = [.int p, .int n, d] ∧ lenTup d ≤ 100000 ∧ P (.bool (elsB p n d))
theorem g_are_elements_mono : ∀ es P P', (∀ d, P d → P' d) → g_are_elements es P → g_are_elements es P' := fun es P P' h ⟨p, n, d, e, h1, q⟩ => ⟨p, n, d, e, h1, h _ q⟩
structure TK2 (P : Program) (w : World) (K : PySem.W.Frag) (mg : Str → Option Value) (base : Heap) : Prop extends TQ P w K mg base where
  d_is_element : C8.Cal P w K mg base 2 "is_element" (spD K g_is_element) []
theorem ok_are_elements {f : Addr} {fd : FuncData} (F : Fun K "are_elements" "are_elements" s_are_elements f fd) (T : TK2 P w K mg base) : FnOk P w K mg base CX0 3 f fd ["p", "many", "value"] (spD K g_are_elements) := by
  refine ok_D F sc_are_elements (fun ds P ⟨p, n, d, e, _⟩ => by rw [e]; rfl) (fun cdv A outer s H E hr => ⟨_, _, (pss_one (ps_ret (pe_and (pe_callB call_isi (by rfl) T.b_isinstance (by decide +kernel) (pa_cons (pv 2) (pa_cons (pe_bltn (v := .ty "tuple") (u := .type "tuple") (by rfl) T.b_tuple (by decide +kernel) rfl) pa_nil))) (pe_and (pe_cmpR (op_eqD hr.units) (pe_callB call_len_seq (by rfl) T.b_len (by decide +kernel) (pa_cons (pv 2) pa_nil)) (pv 1) (nomark _)) (pe_one (pe_callB (cr_all rfl) (by rfl) T.b_all (by decide +kernel) (pa_cons (pe_lc (own := [("one", 3)]) (g := (gName 3)) (tt := tYes) rfl sc_are_elements.nd (pi_tup (pv 2)) (blkOk_by (N := N_are_elements) (sc := defScope s_are_elements) (own := [("one", 3)]) (by decide +kernel)) (fun _ _ _ _ _ => (pg_name (i := 3) sc_are_elements.nd rfl (by first | exact Or.inl rfl | exact Or.inr rfl))) (fun _ _ _ _ _ => pts_nil) (fun _ _ _ _ _ => (C8.pe_c T.d_is_element hr (by first | decide | omega) (by rfl) (pa_cons (pv 0) (pa_cons (pv 3) pa_nil))))) pa_nil))))))), (ss_ret (se_andV (se_isi (T.i_tuple) (se_var 2)) (se_andV (se_op so_eqD (se_cb sc_len (sa_cons (se_var 2) sa_nil)) (se_var 1)) (se_cb sc_all (sa_cons (se_sh (sf_lc (js := [3]) (si_tup (se_var 2)) (sg_name 3) st_yes (se_call g_is_element_mono (sa_cons (se_var 0) (sa_cons (se_var 3) sa_nil))))) sa_nil))))), fun ds Pd h => ?_⟩)
  obtain ⟨p, n, d, rfl, hl, q⟩ := h
  rcases tup_or d with ⟨es, rfl⟩ | hd
  · refine ⟨_, rfl, true, rfl, ifT rfl ⟨_, rfl, es, .inr rfl, _, rfl, rfl, rfl, decide ((es.length : Int) = n), ?_, ?_⟩⟩
    · show PyData.bool (PyData.eqv (.int es.length) (.int n)) = _
      rw [eqv_int]
    change Pd (.bool (decide ((es.length : Int) = n) && es.all (elB p))) at q
    by_cases h0 : (es.length : Int) = n
    · rw [decide_eq_true h0, Bool.true_and] at q
      refine ifT (decide_eq_true h0) ⟨_, rfl, es, rfl, by rw [sizeLine_eq]; exact Nat.le_trans hl (by decide), fun j hj => by
        obtain rfl : j = 3 := by simpa using hj
        rfl, ?_⟩
      refine compW_allD (fun e => PyData.bool (elB p e)) (fun e he k hk => ⟨(by show 3 < 4; decide), ifT rfl ⟨_, rfl, _, rfl, p, e, rfl, hk _ rfl⟩⟩) ⟨es.map (elB p), by rw [List.map_map]; rfl, ?_⟩
      rw [List.all_map]
      exact q
    · rw [decide_eq_false h0, Bool.false_and] at q
      exact ifF (decide_eq_false h0) q
  · rw [elsB_not hd] at q
    exact ⟨_, rfl, false, by rw [isTup_not hd], ifF rfl q⟩
def g_law_choices : CD := fun ds P => ∃ (rs : List (List Int)) (f : List Int → D) (x : D), ds = [x] ∧ (∀ r, f r = .list (r.map PyData.int) ∨ f r = .tuple (r.map PyData.int)) ∧ (x = .list (rs.map f) ∨ x = .tuple (rs.map f)) ∧ (∀ r ∈ rs, r ≠ []) ∧ rs.length ≤ 100 ∧ cntR rs ≤ 1000000 ∧ P (.list ((chL rs).map tupK))
theorem g_law_choices_mono : ∀ es P P', (∀ d, P d → P' d) → g_law_choices es P → g_law_choices es P' := fun es P P' h ⟨rs, f, x, e, g1, g2, h1, h2, h3, q⟩ => ⟨rs, f, x, e, g1, g2, h1, h2, h3, h _ q⟩
theorem ok_law_choices {f : Addr} {fd : FuncData} (F : Fun K "_law_choices" "_law_choices" s_law_choices f fd) : FnOk P w K mg base CX0 1 f fd ["lists"] (spD K g_law_choices) := by
  refine ok_D F sc_law_choices (fun ds P ⟨rs, _, _, e, _⟩ => by rw [e]; rfl) (fun cdv A outer s H E hr => ⟨_, _, (pss_cons (ps_set (i := 1) sc_law_choices.nd rfl (by first | exact Or.inl rfl | exact Or.inr rfl) (pe_lst (pa_cons (pe_tup pa_nil) pa_nil)))
      (pss_cons (ps_for PassesOwn.never rfl (pi_seq (pv 0)) (pg_name (i := 2) sc_law_choices.nd rfl (by first | exact Or.inl rfl | exact Or.inr rfl)) (pss_cons (ps_set (i := 3) sc_law_choices.nd rfl (by first | exact Or.inl rfl | exact Or.inr rfl) (pe_lst pa_nil))
      (pss_cons (ps_for PassesOwn.never rfl (pi_list (pv 1)) (pg_name (i := 4) sc_law_choices.nd rfl (by first | exact Or.inl rfl | exact Or.inr rfl)) (pss_one (ps_set (i := 3) sc_law_choices.nd rfl (by first | exact Or.inl rfl | exact Or.inr rfl) (pe_op op_catL (pv 3) (pe_lc (own := [("one", 5)]) (g := (gName 5)) (tt := tYes) rfl sc_law_choices.nd (pi_seq (pv 2)) (blkOk_by (N := N_law_choices) (sc := defScope s_law_choices) (own := [("one", 5)]) (by decide +kernel)) (fun _ _ _ _ _ => (pg_name (i := 5) sc_law_choices.nd rfl (by first | exact Or.inl rfl | exact Or.inr rfl))) (fun _ _ _ _ _ => pts_nil) (fun _ _ _ _ _ => (pe_op op_catA (pv 4) (pe_tup (pa_cons (pv 5) pa_nil)))))))))
      (pss_one (ps_set (i := 1) sc_law_choices.nd rfl (by first | exact Or.inl rfl | exact Or.inr rfl) (pv 3))))))
      (pss_one (ps_ret (pv 1))))), (ss_cons (ss_asg (se_sh (sf_lst (sa_cons (se_tup sa_nil) sa_nil))) (sg_name 1))
      (ss_cons (ss_for (si_seq (se_var 0)) (sg_name 2) (ss_cons (ss_asg (se_sh (sf_lst sa_nil)) (sg_name 3))
      (ss_cons (ss_for (si_list (se_var 1)) (sg_name 4) (ss_asg (se_sh (sf_catL (se_var 3) (se_sh (sf_lc (js := [5]) (si_seq (se_var 2)) (sg_name 5) st_yes (se_op so_catT (se_var 4) (se_tup (sa_cons (se_var 5) sa_nil))))))) (sg_name 3)))
      (ss_asg (se_var 3) (sg_name 1)))))
      (ss_ret (se_var 1)))), fun ds Pd h => ?_⟩)
  obtain ⟨rs, g, S, rfl, hg, hS, ne, few, hc, q⟩ := h
  have pos : ∀ x ∈ rs.map List.length, 0 < x := fun x hx => by
    obtain ⟨r, hr, rfl⟩ := List.mem_map.mp hx
    exact List.length_pos_iff.mpr (ne r hr)
  refine ⟨Nat.zero_le _, (by show 1 ≤ sizeLine; decide), (by show 1 < 6; decide), S, rfl, rs.map g, hS, fun i r => ∃ x2 x3 x4 : DV, r = [.sh S, .sh (.list ((chL (rs.take i)).map tupK)), x2, x3, x4, .no], ⟨_, _, _, rfl⟩, fun i y r hd hI => ?_, fun r hI => ?_⟩
  · obtain ⟨x2, x3, x4, rfl⟩ := hI
    rw [List.getElem?_map] at hd
    cases hri : rs[i]? with
    | none => rw [hri] at hd; cases hd
    | some row =>
      rw [hri] at hd
      obtain rfl : g row = y := Option.some.inj hd
      have hi : i < rs.length := (List.getElem?_eq_some_iff.mp hri).1
      have e1 := chL_take rs hri
      have l1 : (chL (rs.take i)).length * row.length ≤ 1000000 := by
        rw [← stepR_len, ← e1, chL_len]
        unfold cntR at hc ⊢
        rw [List.map_take]
        exact Nat.le_trans (prodN_take pos _) hc
      have cl : ∀ c ∈ chL (rs.take i), c.length ≤ 100 := fun c hcm => by
        have := foldR_len2 (rs.take i) [[]] 0 (fun d hd => by rw [List.mem_singleton.mp hd]; rfl) c hcm
        rw [List.length_take] at this
        omega
      generalize hC : chL (rs.take i) = C at e1 l1 cl
      refine ⟨(by show 2 < 6; decide), Nat.zero_le _, (by show 3 < 6; decide), _, rfl, C.map tupK, rfl, fun j r => ∃ x4 : DV, r = [.sh S, .sh (.list (C.map tupK)), .sh (g row), .sh (.list ((stepR (C.take j) row).map tupK)), x4, .no], ⟨_, rfl⟩, fun j y r hd2 hJ => ?_, fun r hJ => ?_⟩
      · obtain ⟨x4, rfl⟩ := hJ
        rw [List.getElem?_map] at hd2
        cases hcj : C[j]? with
        | none => rw [hcj] at hd2; cases hd2
        | some c =>
          rw [hcj] at hd2
          obtain rfl : tupK c = y := Option.some.inj hd2
          have hcl := cl c (List.mem_of_getElem? hcj)
          have hj := (List.getElem?_eq_some_iff.mp hcj).1
          have l2 : (stepR (C.take j) row).length + row.length ≤ 1000000 := by
            rw [stepR_len, List.length_take, Nat.min_eq_left (by omega)]
            have : (j + 1) * row.length ≤ C.length * row.length := Nat.mul_le_mul_right _ hj
            rw [Nat.add_mul, Nat.one_mul] at this
            omega
          refine ⟨(by show 4 < 6; decide), _, rfl, _, rfl, row.map PyData.int, hg row, by rw [List.length_map, sizeLine_eq]; omega, fun j hj => by
            obtain rfl : j = 5 := by simpa using hj
            rfl, ?_⟩
          have ev : (fun x : Int => PyData.tuple (c.map PyData.int ++ [.int x])) = fun x => tupK (c ++ [x]) := by
            funext x
            unfold tupK
            rw [List.map_append]
            rfl
          refine compW_all _ (fun x : Int => PyData.tuple (c.map PyData.int ++ [.int x])) (fun x hx k hk => ⟨(by show 5 < 6; decide), ifT rfl ⟨_, rfl, _, rfl, (by show 1 ≤ sizeLine; decide), _, _, rfl, rfl, by rw [List.length_map, sizeLine_eq]; show c.length + 1 ≤ _; omega, hk _ rfl⟩⟩) ⟨_, _, rfl, rfl, ?_, (by show 3 < 6; decide), DV.sh (tupK c), ?_⟩
          · rw [List.length_map, List.length_map, sizeLine_eq]
            omega
          · rw [List.take_add_one, hcj]
            have : stepR (C.take j ++ (some c).toList) row = stepR (C.take j) row ++ row.map fun x => c ++ [x] := by
              unfold stepR
              rw [List.flatMap_append]
              show _ ++ (row.map (fun x => c ++ [x]) ++ []) = _
              rw [List.append_nil]
            rw [this, ev, List.map_append, List.map_map]
            rfl
      · obtain ⟨x4, rfl⟩ := hJ
        rw [List.length_map, List.take_length, ← e1]
        exact ⟨_, rfl, (by show 1 < 6; decide), _, _, _, rfl⟩
  · obtain ⟨x2, x3, x4, rfl⟩ := hI
    rw [List.length_map, List.take_length]
    exact ⟨_, rfl, q⟩
/-! ### the program: the points -/
def g_check_points (C : Addr) : CR := fun ds P E => ∃ (p : Int) (n : Nat), ds = [.int p, .int n] ∧ 0 ≤ p ∧ p ≤ 1000 ∧ n ≤ 100 ∧ if 1000 < p.toNat ^ n then E C (.int ((p.toNat ^ n : Nat) : Int)) else P .none
theorem g_check_points_mono {C : Addr} : ∀ es P P' E E', (∀ d, P d → P' d) → (∀ C x, E C x → E' C x) → g_check_points C es P E → g_check_points C es P' E' := fun es P P' E E' h h2 ⟨p, n, e, h1, h3, h4, q⟩ => ⟨p, n, e, h1, h3, h4, by
  split at q
  · rw [if_pos (by assumption)]; exact h2 _ _ q
  · rw [if_neg (by assumption)]; exact h _ q⟩
structure TC2 (P : Program) (w : World) (K : PySem.W.Frag) (mg : Str → Option Value) (base : Heap) (C : Addr) : Prop extends TP P w K mg base where
  d_product_of : C8.Cal P w K mg base 1 "product_of" (spD K g_product_of) []
  e_Refused : ErrK P w K mg base 1 "Refused" C
theorem prod_rep (x : Nat) : ∀ n : Nat, prodN (List.replicate n x) = x ^ n
  | 0 => rfl
  | n + 1 => by
    rw [List.replicate_succ, Nat.pow_succ, Nat.mul_comm, ← prod_rep x n]
    rfl
theorem ok_check_points {f C : Addr} {fd : FuncData} (F : Fun K "_check_points" "_check_points" s_check_points f fd) (T : TC2 P w K mg base C) : FnOk P w K mg base (L2.CX P w) 3 f fd ["p", "n"] (spR K (g_check_points C)) := by
  refine ok_R F sc_check_points (fun ds P E ⟨p, n, e, _⟩ => by rw [e]; rfl) (fun cdv A outer s H E hr => ⟨_, _, (pss_cons (ps_set (i := 2) sc_check_points.nd rfl (by first | exact Or.inl rfl | exact Or.inr rfl) (C8.pe_c T.d_product_of hr (by first | decide | omega) (by rfl) (pa_cons (pe_op op_repL (pe_lst (pa_cons (pv 0) pa_nil)) (pv 1)) pa_nil)))
      (pss_one (ps_if (pt_cmpR op_gt (pv 2) (C8.pe_gc (v := .int 1000) (by rfl) T.c_MOST_POINTS) (nomark _)) (pss_one (ps_raiseE rfl (takes_of rfl rfl rfl rfl) T.e_Refused hr (by first | decide | omega) (by rfl) (pv 2))) pss_nil))), (ss_cons (ss_asg (se_call g_product_of_mono (sa_cons (se_sh (sf_repN (se_sh (sf_lst (sa_cons (se_var 0) sa_nil))) (se_var 1))) sa_nil)) (sg_name 2))
      (ss_if (st_test (se_op so_rI0 (se_var 2) (se_c (v := .int 1000)))) (ss_raise T.e_Refused.err (se_var 2)) ss_nil)), fun ds Pd Ed h => ?_⟩)
  obtain ⟨p, n, rfl, p0, p1, n1, q⟩ := h
  change dSeq _ _ _ [.sh (.int p), .sh (.int n), .no]
  trivial
  have e1 : (List.replicate ((n : Nat) : Int).toNat [PyData.int p]).flatten = (List.replicate n p.toNat).map fun (n : Nat) => PyData.int (n : Int) := by
    rw [Int.toNat_natCast, flat_rep, List.map_replicate, Int.toNat_of_nonneg p0]
  refine ⟨_, _, rfl, rfl, by omega, by omega, by show 1 * ((n : Nat) : Int).toNat ≤ sizeLine; rw [sizeLine_eq]; omega, ?_⟩
  trivial
  refine ⟨List.replicate n p.toNat, by rw [e1], fun m hm => ?_, by rw [List.length_replicate]; omega, ?_⟩
  · rw [List.eq_of_mem_replicate hm]; omega
  rw [prod_rep]
  trivial
  refine s_ifd (fun h => ?_) (fun h => ?_)
  · rw [if_pos (by omega)] at q
    exact ⟨rfl, _, rfl, q⟩
  · rw [if_neg (by omega)] at q
    trivial
    exact q
def dirRows (p n k : Nat) : List (List Int) := List.replicate (n - 1 - k) [0] ++ [[1]] ++ List.replicate k (rngI 0 p)
def dirsF (p n : Nat) : List (List Int) := (List.range n).flatMap fun k => chL (dirRows p n k)
theorem rngI_len (a : Int) (n : Nat) : (rngI a n).length = n := by unfold rngI; rw [List.length_map, List.length_range]
theorem dir_cnt (p n k : Nat) : cntR (dirRows p n k) = p ^ k := by
  unfold cntR dirRows
  rw [List.map_append, List.map_append, prodN_app, prodN_app, List.map_replicate, List.map_replicate, prod_rep, prod_rep, rngI_len]
  show 1 ^ _ * (1 * 1) * _ = _
  rw [Nat.one_pow, Nat.one_mul]
theorem dir_take (p n i : Nat) : (List.range (i + 1)).flatMap (fun k => chL (dirRows p n k)) = (List.range i).flatMap (fun k => chL (dirRows p n k)) ++ chL (dirRows p n i) := by
  rw [List.range_succ, List.flatMap_append]
  simp only [List.flatMap_cons, List.flatMap_nil, List.append_nil]
structure DirOk (p n : Nat) : Prop where
  p2 : 2 ≤ p
  p3 : p ≤ 11
  n1 : 1 ≤ n
  n2 : n ≤ 5
  pn : p ^ n ≤ 1000
theorem dir_len {p n : Nat} (h : DirOk p n) : ∀ i, i ≤ n → ((List.range i).flatMap fun k => chL (dirRows p n k)).length ≤ i * 1000
  | 0, _ => Nat.le_refl _
  | i + 1, hi => by
    have ih := dir_len h i (by omega)
    have e : p ^ i ≤ p ^ n := Nat.pow_le_pow_right (by have := h.p2; omega) (by omega)
    have := h.pn
    rw [dir_take, List.length_append, chL_len, dir_cnt]
    omega
def g_directions : CD := fun ds P => ∃ (p : Int) (n : Nat), ds = [.int p, .int n] ∧ 0 ≤ p ∧ DirOk p.toNat n ∧ P (.list ((dirsF p.toNat n).map tupK))
theorem g_directions_mono : ∀ es P P', (∀ d, P d → P' d) → g_directions es P → g_directions es P' := fun es P P' h ⟨p, n, e, h0, h1, q⟩ => ⟨p, n, e, h0, h1, h _ q⟩
structure TD1 (P : Program) (w : World) (K : PySem.W.Frag) (mg : Str → Option Value) (base : Heap) : Prop extends TP P w K mg base where
  d_all_tuples : C8.Cal P w K mg base 1 "all_tuples" (spD K g_all_tuples) []
theorem ok_directions {f : Addr} {fd : FuncData} (F : Fun K "_directions" "_directions" s_directions f fd) (T : TD1 P w K mg base) : FnOk P w K mg base CX0 2 f fd ["p", "n"] (spD K g_directions) := by
  refine ok_D F sc_directions (fun ds P ⟨d, n, e, _⟩ => by rw [e]; rfl) (fun cdv A outer s H E hr => ⟨_, _, (pss_cons (ps_set (i := 2) sc_directions.nd rfl (by first | exact Or.inl rfl | exact Or.inr rfl) (pe_lst pa_nil))
      (pss_cons (ps_for PassesOwn.never rfl (pi_revR (by rfl) T.b_reversed (prg_1 (by rfl) T.b_range (pv 1))) (pg_name (i := 3) sc_directions.nd rfl (by first | exact Or.inl rfl | exact Or.inr rfl)) (pss_cons (ps_set (i := 4) sc_directions.nd rfl (by first | exact Or.inl rfl | exact Or.inr rfl) (pe_op op_catL (pe_op op_catL (pe_op op_repL (pe_lst (pa_cons (pe_tup (pa_cons pe_int pa_nil)) pa_nil)) (pv 3)) (pe_lst (pa_cons (pe_tup (pa_cons pe_int pa_nil)) pa_nil))) (pe_op op_repL (pe_lst (pa_cons (pe_tupRg rfl (by rfl) T.b_tuple (prg_1 (by rfl) T.b_range (pv 0))) pa_nil)) (pe_op op_sub (pe_op op_sub (pv 1) (pv 3)) pe_int))))
      (pss_one (ps_expr (pe_bm PySem.F.plainAttrs_list PySem.F.slot_list_extend PySem.F.type_list_extend mt_extT (pv 2) (pa_cons (C8.pe_c T.d_all_tuples hr (by first | decide | omega) (by rfl) (pa_cons (pv 4) pa_nil)) pa_nil))))))
      (pss_one (ps_ret (pv 2))))), (ss_cons (ss_own (i := 2) (sf_lst sa_nil))
      (ss_cons (ss_for (si_revR (se_var 1)) (sg_name 3) (ss_cons (ss_asg (se_sh (sf_catL (se_sh (sf_catL (se_sh (sf_repN (se_sh (sf_lst (sa_cons (se_tup (sa_cons se_c sa_nil)) sa_nil))) (se_var 3))) (se_sh (sf_lst (sa_cons (se_tup (sa_cons se_c sa_nil)) sa_nil))))) (se_sh (sf_repN (se_sh (sf_lst (sa_cons (se_tg1 (se_var 0)) sa_nil))) (se_op so_rI0 (se_op so_rI0 (se_var 1) (se_var 3)) se_c))))) (sg_name 4))
      (ss_extT 2 (se_call g_all_tuples_mono (sa_cons (se_var 4) sa_nil)))))
      (ss_frz 2 (ss_ret (se_var 2))))), fun ds Pd h => ?_⟩)
  obtain ⟨p, n, rfl, p0, ok, q⟩ := h
  have p2 := ok.p2; have p3 := ok.p3; have n1 := ok.n1; have n2 := ok.n2; have pn := ok.pn
  change dSeq _ _ _ [.sh (.int p), .sh (.int n), .no, .no, .no]
  trivial
  refine ⟨fun i r => ∃ x3 x4 : DV, r = [.sh (.int p), .sh (.int n), .ls (((List.range i).flatMap fun k => chL (dirRows p.toNat n k)).map tupK), x3, x4], ⟨_, _, rfl⟩, fun i y r hd hI => ?_, fun r hI => ?_⟩
  · obtain ⟨x3, x4, rfl⟩ := hI
    obtain ⟨hi, rfl⟩ : i < n ∧ PyData.int (0 + ((n : Nat) : Int) - 1 + (i : Int) * (-1)) = y := by
      unfold revD at hd
      rw [List.getElem?_map] at hd
      cases hz : (List.range ((n : Nat) : Int).toNat)[i]? with
      | none => rw [hz] at hd; cases hd
      | some k =>
        rw [hz] at hd
        obtain ⟨h1, h2⟩ := List.getElem?_eq_some_iff.mp hz
        rw [List.length_range] at h1
        rw [List.getElem_range] at h2
        subst h2
        exact ⟨by omega, Option.some.inj hd⟩
    trivial
    have ez : (0 + ((n : Nat) : Int) - 1 + (i : Int) * (-1)) = ((n - 1 - i : Nat) : Int) := by omega
    rw [ez]
    refine ⟨_, _, rfl, rfl, by omega, by omega, by show 1 * _ ≤ sizeLine; rw [sizeLine_eq]; omega, ?_⟩
    trivial
    rw [flat_rep, Int.toNat_natCast]
    refine ⟨by rw [List.length_replicate, sizeLine_eq]; show _ + 1 ≤ _; omega, ?_⟩
    trivial
    refine ⟨.of_le (by decide) (by omega) (by decide) (by omega), ?_⟩
    trivial
    have em : (((n : Nat) : Int) - ((n - 1 - i : Nat) : Int) - 1) = ((i : Nat) : Int) := by omega
    rw [em]
    refine ⟨_, _, rfl, rfl, by omega, by omega, by show 1 * _ ≤ sizeLine; rw [sizeLine_eq]; omega, ?_⟩
    trivial
    rw [flat_rep, Int.toNat_natCast]
    refine ⟨by rw [List.length_append, List.length_replicate, List.length_replicate, sizeLine_eq]; show _ + 1 + _ ≤ _; omega, ?_⟩
    have er : (List.replicate (n - 1 - i) (PyData.tuple [PyData.int 0]) ++ [PyData.tuple [PyData.int 1]] ++ List.replicate i (PyData.tuple (rngD 0 p.toNat))) = (dirRows p.toNat n i).map tupK := by
      unfold dirRows
      rw [List.map_append, List.map_append, List.map_replicate, List.map_replicate, rngD_I]
      rfl
    rw [er]
    trivial
    have dl := dir_len ok i (by omega)
    have dc : p.toNat ^ i ≤ p.toNat ^ n := Nat.pow_le_pow_right (by omega) (by omega)
    refine ⟨dirRows p.toNat n i, rfl, ⟨fun r hr => ?_, ?_⟩, by rw [dir_cnt]; omega, ?_⟩
    · unfold dirRows at hr
      rcases List.mem_append.mp hr with hr | hr
      · rcases List.mem_append.mp hr with hr | hr
        · rw [List.eq_of_mem_replicate hr]; exact List.cons_ne_nil _ _
        · rw [List.mem_singleton.mp hr]; exact List.cons_ne_nil _ _
      · intro z
        have := rngI_len 0 p.toNat
        rw [← List.eq_of_mem_replicate hr, z] at this
        simp only [List.length_nil] at this
        omega
    · unfold dirRows
      rw [List.length_append, List.length_append, List.length_replicate, List.length_replicate]
      show _ + 1 + _ ≤ _
      omega
    trivial
    refine ⟨_, _, rfl, rfl, by rw [List.length_map, List.length_map, chL_len, dir_cnt, sizeLine_eq]; omega, ?_⟩
    trivial
    rw [← List.map_append, ← dir_take]
    exact ⟨_, _, rfl⟩
  · obtain ⟨x3, x4, rfl⟩ := hI
    have er : (revD ((n : Nat) : Int).toNat).length = n := by unfold revD; rw [List.length_map, List.length_range]; omega
    rw [er]
    trivial
    exact q
def lstOf : D → List Int
  | .tuple es => es.map intOf
  | _ => []
theorem lstOf_tupK (s : List Int) : lstOf (tupK s) = s := intOf_map s
theorem lstOf_map (ps : List (List Int)) : (ps.map tupK).map lstOf = ps := by
  rw [List.map_map]
  have : lstOf ∘ tupK = id := by funext s; exact lstOf_tupK s
  rw [this, List.map_id]
def metB (p : Int) (f : List Int) (pts : List (List Int)) (k : Int) : Bool := pts.any fun s => decide (elemF p (rowF f s) = k)
def fmF (p : Int) (f : List Int) (pts : List (List Int)) : Option Int := (rngI 0 p.toNat).find? fun k => !metB p f pts k
def optD : Option Int → D
  | some k => .int k
  | none => .none
theorem rngI_succ (n : Nat) : rngI 0 (n + 1) = rngI 0 n ++ [((n : Nat) : Int)] := by
  unfold rngI
  rw [List.range_succ, List.map_append]
  simp
theorem rng_none {q : Int → Bool} : ∀ {n : Nat}, (∀ k : Nat, k < n → q k = false) → (rngI 0 n).find? q = none
  | 0, _ => rfl
  | n + 1, h => by
    rw [rngI_succ, List.find?_append, rng_none fun k hk => h k (by omega), Option.none_or, List.find?_cons, h n (by omega)]
    rfl
theorem rng_find {q : Int → Bool} {i : Nat} (h1 : ∀ k : Nat, k < i → q k = false) (h2 : q i = true) : ∀ {n : Nat}, i < n → (rngI 0 n).find? q = some (i : Int)
  | 0, h => absurd h (Nat.not_lt_zero _)
  | n + 1, h => by
    rw [rngI_succ, List.find?_append]
    by_cases e : i = n
    · subst e
      rw [rng_none h1, Option.none_or, List.find?_cons, h2]
    · rw [rng_find h1 h2 (by omega : i < n)]
      rfl
def g_first_missing : CD := fun ds P => ∃ (p : Int) (f : List Int) (pts : List (List Int)), ds = [.int p, tupK f, .tuple (pts.map tupK)] ∧ 0 ≤ p ∧ p ≤ 1000 ∧ f.length ≤ 1000 ∧ (∀ x ∈ f, x.natAbs ≤ 10000) ∧ pts.length ≤ 1000 ∧ (∀ s ∈ pts, ∀ x ∈ s, x.natAbs ≤ 10000) ∧ P (optD (fmF p f pts))
theorem g_first_missing_mono : ∀ es P P', (∀ d, P d → P' d) → g_first_missing es P → g_first_missing es P' := fun es P P' h ⟨p, f, pts, e, h0, h1, h2, h3, h4, h5, q⟩ => ⟨p, f, pts, e, h0, h1, h2, h3, h4, h5, h _ q⟩
structure TFm (P : Program) (w : World) (K : PySem.W.Frag) (mg : Str → Option Value) (base : Heap) : Prop extends TP P w K mg base where
  d_element : C8.Cal P w K mg base 1 "element" (spD K g_element) []
  d_row_times : C8.Cal P w K mg base 1 "row_times" (spD K g_row_times) []
theorem ok_first_missing {f : Addr} {fd : FuncData} (F : Fun K "_first_missing" "_first_missing" s_first_missing f fd) (T : TFm P w K mg base) : FnOk P w K mg base CX0 2 f fd ["p", "factors", "points"] (spD K g_first_missing) := by
  refine ok_D F sc_first_missing (fun ds P ⟨d, f, pts, e, _⟩ => by rw [e]; rfl) (fun cdv A outer s H E hr => ⟨_, _, (pss_cons (ps_setDcK (i := 3) (own := [("point", 5)]) (g := (gName 5)) (tt := tYes) rfl sc_first_missing.nd rfl rfl (swD_true rfl rfl rfl (by decide +kernel)) (pi_tup (pv 2)) (blkOk_by (N := N_first_missing) (sc := defScope s_first_missing) (own := [("point", 5)]) (by decide +kernel)) (fun _ _ _ _ _ => (pg_name (i := 5) sc_first_missing.nd rfl (by first | exact Or.inl rfl | exact Or.inr rfl))) (fun _ _ _ _ _ => pts_nil) (fun _ _ _ _ _ => (C8.pe_c T.d_element hr (by first | decide | omega) (by rfl) (pa_cons (pv 0) (pa_cons (C8.pe_c T.d_row_times hr (by first | decide | omega) (by rfl) (pa_cons (pv 1) (pa_cons (pv 5) pa_nil))) pa_nil)))) (fun _ _ _ _ _ => pe_bl))
      (pss_cons (ps_for PassesOwn.never rfl (pi_range1 (by rfl) T.b_range (pa_cons (pv 0) pa_nil)) (pg_name (i := 4) sc_first_missing.nd rfl (by first | exact Or.inl rfl | exact Or.inr rfl)) (pss_one (ps_if (pt_cmpR (op_notInK (hu_of hr)) (pv 4) (pv 3) (by rfl)) (pss_one (ps_ret (pv 4))) pss_nil)))
      (pss_one (ps_ret pe_non)))), (ss_cons (ss_dcJ (i := 3) (js := [5]) (si_tup (se_var 2)) (sg_name 5) (se_call g_element_mono (sa_cons (se_var 0) (sa_cons (se_call g_row_times_mono (sa_cons (se_var 1) (sa_cons (se_var 5) sa_nil))) sa_nil))) se_c)
      (ss_cons (ss_for (si_rng1 (sa_cons (se_var 0) sa_nil)) (sg_name 4) (ss_if (st_test (se_inK true 3 (se_var 4))) (ss_ret (se_var 4)) ss_nil))
      (ss_ret se_c))), fun ds Pd h => ?_⟩)
  obtain ⟨p, g, pts, rfl, p0, p1, gl, gb, pl, pb, q⟩ := h
  change dSeq _ _ _ [.sh (.int p), .sh (tupK g), .sh (.tuple (pts.map tupK)), .no, .no, .no]
  trivial
  refine ⟨by rw [List.length_map, sizeLine_eq]; omega, ?_⟩
  refine djW_det (fun d => elemF p (rowF g (lstOf d))) (fun d hd k hk => ?_) ?_
  · obtain ⟨s, hs, rfl⟩ := List.mem_map.mp hd
    have sb := pb s hs
    trivial
    refine ⟨g, s, rfl, gl, gb, sb, ?_⟩
    trivial
    refine ⟨p, _, rfl, p0, ?_⟩
    trivial
    rw [← lstOf_tupK s]
    exact hk _ rfl
  refine ⟨by show 3 < 6; decide, fun a zs hz => ?_⟩
  dsimp only [List.set_cons_succ, List.set_cons_zero]
  have look : ∀ k : Int, (lookJ (kvI zs) k).isSome = metB p g pts k := fun k => by
    rw [hz, lookJ_fold]
    unfold metB
    show (false || _) = _
    rw [Bool.false_or, List.any_map]
    refine congrArg (List.any pts) (funext fun s => ?_)
    show decide (elemF p (rowF g (lstOf (tupK s))) = k) = _
    rw [lstOf_tupK]
  have sl : (rngD 0 p.toNat).length = p.toNat := rngD_len _ _
  trivial
  refine ⟨fun i r => ∃ x4 : DV, r = [.sh (.int p), .sh (tupK g), .sh (.tuple (pts.map tupK)), .dk a zs, x4, .no] ∧ ∀ k : Nat, k < i → metB p g pts k = true, ⟨_, rfl, fun k hk => absurd hk (Nat.not_lt_zero _)⟩, fun i y r hd hI => ?_, fun r hI => ?_⟩
  · obtain ⟨x4, rfl, hm⟩ := hI
    obtain ⟨rfl, hi⟩ := rngD_at hd
    rw [Int.zero_add]
    trivial
    rw [look]
    cases hb : metB p g pts ((i : Nat) : Int) with
    | true =>
      refine ifF rfl ?_
      trivial
      refine ⟨_, rfl, fun k hk => ?_⟩
      by_cases e : k = i
      · rw [e]; exact hb
      · exact hm k (by omega)
    | false =>
      refine ifT rfl ?_
      trivial
      have e : fmF p g pts = some ((i : Nat) : Int) := rng_find (fun k hk => by rw [hm k hk]; rfl) (by rw [hb]; rfl) (by omega)
      rw [e] at q
      exact q
  · obtain ⟨x4, rfl, hm⟩ := hI
    rw [sl] at hm
    trivial
    have e : fmF p g pts = none := rng_none fun k hk => by rw [hm k hk]; rfl
    rw [e] at q
    exact q
def progM (p : Int) (n : Nat) (pts : List (List Int)) : D := match (dirsF p.toNat n).find? fun f => (fmF p f pts).isSome with
  | some f => .tuple [tupK f, optD (fmF p f pts)]
  | none => .none
theorem dir_mem {p n : Nat} {f : List Int} (hp : 1 ≤ p) (h : f ∈ dirsF p n) : f.length = n ∧ ∀ x ∈ f, 0 ≤ x ∧ x < p + 1 := by
  obtain ⟨k, hk, hf⟩ := List.mem_flatMap.mp h
  have hk := List.mem_range.mp hk
  refine ⟨?_, chL_mem (S := fun x => 0 ≤ x ∧ x < p + 1) (fun r hr x hx => ?_) hf⟩
  · rw [chL_len2 hf]
    unfold dirRows
    rw [List.length_append, List.length_append, List.length_replicate, List.length_replicate]
    show _ + 1 + _ = _
    omega
  · unfold dirRows at hr
    rcases List.mem_append.mp hr with hr | hr
    · rcases List.mem_append.mp hr with hr | hr
      · rw [List.eq_of_mem_replicate hr] at hx
        rw [List.mem_singleton.mp hx]; omega
      · rw [List.mem_singleton.mp hr] at hx
        rw [List.mem_singleton.mp hx]; omega
    · rw [List.eq_of_mem_replicate hr] at hx
      have := rngI_mem' hx
      omega
def g_missed_plane (C : Addr) : CR := fun ds P E => ∃ (p : Int) (n : Nat) (pts : List (List Int)), ds = [.int p, .int n, .tuple (pts.map tupK)] ∧ (0 ≤ p ∧ p ≤ 1000 ∧ n ≤ 100) ∧ (p.toNat ^ n ≤ 1000 → DirOk p.toNat n) ∧ pts.length ≤ 1000 ∧ (∀ s ∈ pts, ∀ x ∈ s, x.natAbs ≤ 10000) ∧ if 1000 < p.toNat ^ n then E C (.int ((p.toNat ^ n : Nat) : Int)) else P (progM p n pts)
theorem g_missed_plane_mono {C : Addr} : ∀ es P P' E E', (∀ d, P d → P' d) → (∀ C x, E C x → E' C x) → g_missed_plane C es P E → g_missed_plane C es P' E' := fun es P P' E E' h h2 ⟨p, n, pts, e, h1, h3, h4, h5, q⟩ => ⟨p, n, pts, e, h1, h3, h4, h5, by
  split at q
  · rw [if_pos (by assumption)]; exact h2 _ _ q
  · rw [if_neg (by assumption)]; exact h _ q⟩
structure TMp (P : Program) (w : World) (K : PySem.W.Frag) (mg : Str → Option Value) (base : Heap) (C : Addr) : Prop extends TP P w K mg base where
  d_check_points : CalX P w K mg base 3 "_check_points" (spR K (g_check_points C))
  d_directions : C8.Cal P w K mg base 2 "_directions" (spD K g_directions) []
  d_first_missing : C8.Cal P w K mg base 2 "_first_missing" (spD K g_first_missing) []
theorem find_take {q : List Int → Bool} {L : List (List Int)} {i : Nat} {f : List Int} (hi : L[i]? = some f) (h1 : ∀ k, k < i → ∀ g, L[k]? = some g → q g = false) (h2 : q f = true) : L.find? q = some f := by
  induction L generalizing i with
  | nil => cases hi
  | cons a L ih =>
    rw [List.find?_cons]
    cases i with
    | zero =>
      obtain rfl : a = f := Option.some.inj hi
      rw [h2]
    | succ i =>
      rw [h1 0 (Nat.succ_pos _) a rfl]
      exact ih hi fun k hk g hg => h1 (k + 1) (by omega) g hg
theorem find_no {q : List Int → Bool} {L : List (List Int)} (h : ∀ k, k < L.length → ∀ g, L[k]? = some g → q g = false) : L.find? q = none := by
  refine List.find?_eq_none.mpr fun g hg => ?_
  obtain ⟨k, hk, e⟩ := List.mem_iff_getElem.mp hg
  rw [h k hk g (by rw [List.getElem?_eq_getElem hk, e])]
  decide
theorem ok_missed_plane {f C : Addr} {fd : FuncData} (F : Fun K "missed_plane" "missed_plane" s_missed_plane f fd) (T : TMp P w K mg base C) : FnOk P w K mg base (L2.CX P w) 4 f fd ["p", "n", "points"] (spR K (g_missed_plane C)) := by
  refine ok_R F sc_missed_plane (fun ds P E ⟨p, n, d, e, _⟩ => by rw [e]; rfl) (fun cdv A outer s H E hr => ⟨_, _, (pss_cons (ps_expr (pe_cX T.d_check_points hr (by first | decide | omega) (by rfl) (takes_of rfl rfl rfl rfl) (pa_cons (pv 0) (pa_cons (pv 1) pa_nil))))
      (pss_cons (ps_for (passes_of rfl) rfl (pi_list (C8.pe_c T.d_directions hr (by first | decide | omega) (by rfl) (pa_cons (pv 0) (pa_cons (pv 1) pa_nil)))) (pg_name (i := 3) sc_missed_plane.nd rfl (by first | exact Or.inl rfl | exact Or.inr rfl)) (pss_cons (ps_set (i := 4) sc_missed_plane.nd rfl (by first | exact Or.inl rfl | exact Or.inr rfl) (C8.pe_c T.d_first_missing hr (by first | decide | omega) (by rfl) (pa_cons (pv 0) (pa_cons (pv 3) (pa_cons (pv 2) pa_nil)))))
      (pss_one (ps_if (pt_cmpR op_notN (pv 4) pe_non (nomark _)) (pss_one (ps_ret (pe_tup (pa_cons (pv 3) (pa_cons (pv 4) pa_nil))))) pss_nil))))
      (pss_one (ps_ret pe_non)))), (ss_cons (ss_exprR g_check_points_mono (sa_cons (se_var 0) (sa_cons (se_var 1) sa_nil)))
      (ss_cons (ss_for (si_list (se_call g_directions_mono (sa_cons (se_var 0) (sa_cons (se_var 1) sa_nil)))) (sg_name 3) (ss_cons (ss_asg (se_call g_first_missing_mono (sa_cons (se_var 0) (sa_cons (se_var 3) (sa_cons (se_var 2) sa_nil)))) (sg_name 4))
      (ss_if (st_test (se_op so_notN (se_var 4) se_c)) (ss_ret (se_tup (sa_cons (se_var 3) (sa_cons (se_var 4) sa_nil)))) ss_nil)))
      (ss_ret se_c))), fun ds Pd Ed h => ?_⟩)
  obtain ⟨p, n, pts, rfl, ⟨p0, p1, n1⟩, hd, pl, pb, q⟩ := h
  change dSeq _ _ _ [.sh (.int p), .sh (.int n), .sh (.tuple (pts.map tupK)), .no, .no]
  refine ⟨rfl, ?_⟩
  trivial
  refine ⟨p, n, rfl, p0, p1, n1, ?_⟩
  by_cases hc : 1000 < p.toNat ^ n
  · rw [if_pos hc] at q ⊢
    exact q
  rw [if_neg hc] at q ⊢
  have ok := hd (by omega)
  trivial
  refine ⟨p, n, rfl, p0, ok, ?_⟩
  have p3 := ok.p3
  have p2 := ok.p2
  have n2 := ok.n2
  trivial
  refine ⟨fun i r => ∃ x3 x4 : DV, r = [.sh (.int p), .sh (.int n), .sh (.tuple (pts.map tupK)), x3, x4] ∧ ∀ k, k < i → ∀ g, (dirsF p.toNat n)[k]? = some g → (fmF p g pts).isSome = false, ⟨_, _, rfl, fun k hk => absurd hk (Nat.not_lt_zero _)⟩, fun i y r hd hI => ?_, fun r hI => ?_⟩
  · obtain ⟨x3, x4, rfl, hm⟩ := hI
    rw [List.getElem?_map] at hd
    cases hi : (dirsF p.toNat n)[i]? with
    | none => rw [hi] at hd; cases hd
    | some g =>
    rw [hi] at hd
    obtain rfl : tupK g = y := Option.some.inj hd
    obtain ⟨g1, g2⟩ := dir_mem (by omega) (List.mem_of_getElem? hi)
    have gb : ∀ x ∈ g, x.natAbs ≤ 10000 := fun x hx => by have := g2 x hx; omega
    trivial
    refine ⟨p, g, pts, rfl, p0, p1, by omega, gb, pl, pb, ?_⟩
    cases hf : fmF p g pts with
    | none =>
      trivial
      refine ifF rfl ?_
      trivial
      refine ⟨_, _, rfl, fun k hk g' hg => ?_⟩
      by_cases e : k = i
      · rw [e, hi] at hg
        obtain rfl : g = g' := Option.some.inj hg
        rw [hf]; rfl
      · exact hm k (by omega) g' hg
    | some j =>
      have e : progM p n pts = .tuple [tupK g, .int j] := by
        unfold progM
        rw [find_take (q := fun f => (fmF p f pts).isSome) hi hm (by rw [hf]; rfl)]
        show PyData.tuple [tupK g, optD (fmF p g pts)] = _
        rw [hf]
        rfl
      rw [e] at q
      trivial
      refine ifT rfl ?_
      trivial
      exact q
  · obtain ⟨x3, x4, rfl, hm⟩ := hI
    rw [List.length_map] at hm
    have e : progM p n pts = .none := by
      unfold progM
      rw [find_no (q := fun f => (fmF p f pts).isSome) hm]
    rw [e] at q
    trivial
    exact q
def ascB (ps : List (List Int)) : Bool := (ps.zip (ps.drop 1)).all fun q => decide (q.1 < q.2)
def g_is_ascending : CD := fun ds P => ∃ ps : List (List Int), ds = [.tuple (ps.map tupK)] ∧ ps.length ≤ 100000 ∧ P (.bool (ascB ps))
theorem g_is_ascending_mono : ∀ es P P', (∀ d, P d → P' d) → g_is_ascending es P → g_is_ascending es P' := fun es P P' h ⟨ps, e, h1, q⟩ => ⟨ps, e, h1, h _ q⟩
theorem ok_is_ascending {f : Addr} {fd : FuncData} (F : Fun K "is_ascending" "is_ascending" s_is_ascending f fd) (T : TP P w K mg base) : FnOk P w K mg base CX0 1 f fd ["values"] (spD K g_is_ascending) := by
  refine ok_D F sc_is_ascending (fun ds P ⟨ps, e, _⟩ => by rw [e]; rfl) (fun cdv A outer s H E hr => ⟨_, _, (pss_one (ps_ret (pe_callB (cr_all rfl) (by rfl) T.b_all (by decide +kernel) (pa_cons (pe_lc (own := [("one", 1), ("other", 2)]) (g := (gTup K 2 (gCons (gName 1) (gCons (gName 2) gNil)))) (tt := tYes) rfl sc_is_ascending.nd (pi_zipT (by rfl) T.b_zip (pa_cons (pv 0) (pa_cons (pe_slice sl_tupA (pv 0) (po_some pe_int) po_none) pa_nil))) (blkOk_by (N := N_is_ascending) (sc := defScope s_is_ascending) (own := [("one", 1), ("other", 2)]) (by decide +kernel)) (fun _ _ _ _ _ => (pg_tup rfl (pgs_cons (pg_name (i := 1) sc_is_ascending.nd rfl (by first | exact Or.inl rfl | exact Or.inr rfl)) (pgs_cons (pg_name (i := 2) sc_is_ascending.nd rfl (by first | exact Or.inl rfl | exact Or.inr rfl)) pgs_nil)))) (fun _ _ _ _ _ => pts_nil) (fun _ _ _ _ _ => (pe_cmpR (op_ltD hr.units) (pv 1) (pv 2) (nomark _)))) pa_nil)))), (ss_ret (se_cb sc_all (sa_cons (se_sh (sf_lc (js := [1, 2]) (si_zipT (sa_cons (se_var 0) (sa_cons (se_slT (se_var 0) (sop_some se_c) sop_none) sa_nil))) (sg_tup (sgs_cons (sg_name 1) (sgs_cons (sg_name 2) sgs_nil))) st_yes (se_op so_ltD (se_var 1) (se_var 2)))) sa_nil))), fun ds Pd h => ?_⟩)
  obtain ⟨ps, rfl, hl, q⟩ := h
  change dRet _ _ [.sh (.tuple (ps.map tupK)), .no, .no]
  trivial
  rw [show cutD (ps.map tupK) (some 1) none = (ps.map tupK).drop 1 from cutD_from _ 1, ← List.map_drop, zipD_map]
  refine ⟨by rw [List.length_map, List.length_zip, sizeLine_eq]; omega, ?_⟩
  trivial
  refine compW_all _ (fun q : List Int × List Int => PyData.bool (decide (q.1 < q.2))) (fun q hq k hk => ?_) ?_
  · trivial
    refine ⟨alike_tupK _ _, fun z => (by cases z), by show (PyData.tuple (q.1.map PyData.int)).depth ≤ 50; rw [PyData.depth, depth_ints]; decide, ?_⟩
    rw [lt_tupK]
    trivial
    exact hk _ rfl
  · trivial
    refine ⟨(ps.zip (ps.drop 1)).map fun q => decide (q.1 < q.2), by rw [List.map_map]; rfl, ?_⟩
    trivial
    rw [List.all_map]
    exact q
def ptsB (p n : Int) : D → Bool
  | .tuple es => es.all (elsB p n)
  | _ => false
def meetB (p : Int) (n : Nat) (d : D) : Bool := ptsB p n d && match d with
  | .tuple es => ascB (es.map lstOf) && isNoneD (progM p n (es.map lstOf))
  | _ => false
theorem els_all {p : Int} : ∀ {es : List D}, es.all (elB p) = true → es = (es.map intOf).map PyData.int
  | [], _ => rfl
  | e :: es, h => by
    rw [List.all_cons, Bool.and_eq_true] at h
    cases e with
    | int i =>
      rw [List.map_cons, List.map_cons, ← els_all h.2]
      rfl
    | _ => cases h.1
theorem elsB_is {p n : Int} (p0 : 0 < p) (p1 : p ≤ 1000) {v : D} (h : elsB p n v = true) : v = tupK (lstOf v) ∧ ∀ x ∈ lstOf v, x.natAbs ≤ 10000 := by
  rcases tup_or v with ⟨es, rfl⟩ | hd
  · obtain ⟨h1, h2⟩ := and2 (show (decide ((es.length : Int) = n) && es.all (elB p)) = true from h)
    refine ⟨congrArg PyData.tuple (els_all h2), fun x hx => ?_⟩
    obtain ⟨e, he, rfl⟩ := List.mem_map.mp hx
    have h3 := List.all_eq_true.mp h2 e he
    obtain ⟨h4, h5⟩ := and2 (show (isIntD e && (decide (p = 0) || (decide (0 ≤ intOf e) && decide (intOf e < p)))) = true from h3)
    rw [decide_eq_false (by omega : ¬ p = 0), Bool.false_or] at h5
    obtain ⟨h6, h7⟩ := and2 h5
    have := of_decide_eq_true h6
    have := of_decide_eq_true h7
    omega
  · rw [elsB_not hd] at h; cases h
theorem pts_are {p n : Int} (p0 : 0 < p) (p1 : p ≤ 1000) : ∀ {es : List D}, es.all (elsB p n) = true → es = (es.map lstOf).map tupK ∧ ∀ s ∈ es.map lstOf, ∀ x ∈ s, x.natAbs ≤ 10000
  | [], _ => ⟨rfl, fun s hs => by cases hs⟩
  | e :: es, h => by
    obtain ⟨h1, h2⟩ := and2 (show (elsB p n e && es.all (elsB p n)) = true from h)
    obtain ⟨e1, e2⟩ := elsB_is p0 p1 h1
    obtain ⟨i1, i2⟩ := pts_are p0 p1 h2
    refine ⟨?_, fun s hs => ?_⟩
    · rw [List.map_cons, List.map_cons, ← e1, ← i1]
    · rcases List.mem_cons.mp hs with rfl | hs
      · exact e2
      · exact i2 s hs
def g_is_meeting (C : Addr) : CR := fun ds P E => ∃ (p : Int) (n : Nat) (d : D), ds = [.int p, .int n, d] ∧ (0 < p ∧ p ≤ 1000 ∧ n ≤ 100) ∧ (p.toNat ^ n ≤ 1000 → DirOk p.toNat n) ∧ (∀ es, d = .tuple es → es.length ≤ 1000 ∧ ∀ e ∈ es, lenTup e ≤ 100000) ∧ if 1000 < p.toNat ^ n then E C (.int ((p.toNat ^ n : Nat) : Int)) else P (.bool (meetB p n d))
theorem g_is_meeting_mono {C : Addr} : ∀ es P P' E E', (∀ d, P d → P' d) → (∀ C x, E C x → E' C x) → g_is_meeting C es P E → g_is_meeting C es P' E' := fun es P P' E E' h h2 ⟨p, n, d, e, h1, h3, h4, q⟩ => ⟨p, n, d, e, h1, h3, h4, by
  split at q
  · rw [if_pos (by assumption)]; exact h2 _ _ q
  · rw [if_neg (by assumption)]; exact h _ q⟩
structure TIm (P : Program) (w : World) (K : PySem.W.Frag) (mg : Str → Option Value) (base : Heap) (C : Addr) : Prop extends TQ P w K mg base where
  d_are_elements : C8.Cal P w K mg base 3 "are_elements" (spD K g_are_elements) []
  d_is_ascending : C8.Cal P w K mg base 1 "is_ascending" (spD K g_is_ascending) []
  d_check_points : CalX P w K mg base 3 "_check_points" (spR K (g_check_points C))
  d_missed_plane : CalX P w K mg base 4 "missed_plane" (spR K (g_missed_plane C))
theorem ok_is_meeting {f C : Addr} {fd : FuncData} (F : Fun K "is_meeting" "is_meeting" s_is_meeting f fd) (T : TIm P w K mg base C) : FnOk P w K mg base (L2.CX P w) 5 f fd ["p", "n", "value"] (spR K (g_is_meeting C)) := by
  refine ok_R F sc_is_meeting (fun ds P E ⟨p, n, d, e, _⟩ => by rw [e]; rfl) (fun cdv A outer s H E hr => ⟨_, _, (pss_cons (ps_expr (pe_cX T.d_check_points hr (by first | decide | omega) (by rfl) (takes_of rfl rfl rfl rfl) (pa_cons (pv 0) (pa_cons (pv 1) pa_nil))))
      (pss_cons (ps_if (PW.pt (pw_or (pt_not (pt_val (pe_callB call_isi (by rfl) T.b_isinstance (by decide +kernel) (pa_cons (pv 2) (pa_cons (pe_bltn (v := .ty "tuple") (u := .type "tuple") (by rfl) T.b_tuple (by decide +kernel) rfl) pa_nil))))) (pw_or1 (pt_not (pt_val (pe_callB (cr_all rfl) (by rfl) T.b_all (by decide +kernel) (pa_cons (pe_lc (own := [("point", 3)]) (g := (gName 3)) (tt := tYes) rfl sc_is_meeting.nd (pi_tup (pv 2)) (blkOk_by (N := N_is_meeting) (sc := defScope s_is_meeting) (own := [("point", 3)]) (by decide +kernel)) (fun _ _ _ _ _ => (pg_name (i := 3) sc_is_meeting.nd rfl (by first | exact Or.inl rfl | exact Or.inr rfl))) (fun _ _ _ _ _ => pts_nil) (fun _ _ _ _ _ => (C8.pe_c T.d_are_elements hr (by first | decide | omega) (by rfl) (pa_cons (pv 0) (pa_cons (pv 1) (pa_cons (pv 3) pa_nil)))))) pa_nil))))))) (pss_one (ps_ret pe_bl)) pss_nil)
      (pss_one (ps_ret (pe_and (C8.pe_c T.d_is_ascending hr (by first | decide | omega) (by rfl) (pa_cons (pv 2) pa_nil)) (pe_one (pe_cmpR op_isN (pe_cX0 T.d_missed_plane hr (by first | decide | omega) (by rfl) (pa_cons (pv 0) (pa_cons (pv 1) (pa_cons (pv 2) pa_nil)))) pe_non (nomark _)))))))), (ss_cons (ss_exprR g_check_points_mono (sa_cons (se_var 0) (sa_cons (se_var 1) sa_nil)))
      (ss_cons (ss_if (st_or (st_not (st_b (se_isi (T.i_tuple) (se_var 2)))) (st_not (st_b (se_cb sc_all (sa_cons (se_sh (sf_lc (js := [3]) (si_tup (se_var 2)) (sg_name 3) st_yes (se_call g_are_elements_mono (sa_cons (se_var 0) (sa_cons (se_var 1) (sa_cons (se_var 3) sa_nil)))))) sa_nil))))) (ss_ret se_c) ss_nil)
      (ss_ret (se_andV (se_call g_is_ascending_mono (sa_cons (se_var 2) sa_nil)) (se_op so_isN (se_callR g_missed_plane_mono (sa_cons (se_var 0) (sa_cons (se_var 1) (sa_cons (se_var 2) sa_nil)))) se_c))))), fun ds Pd Ed h => ?_⟩)
  obtain ⟨p, n, d, rfl, ⟨p0, p1, n1⟩, hd, hl, q⟩ := h
  change dSeq _ _ _ [.sh (.int p), .sh (.int n), .sh d, .no]
  trivial
  refine ⟨rfl, ?_⟩
  trivial
  refine ⟨p, n, rfl, by omega, p1, n1, ?_⟩
  by_cases hc : 1000 < p.toNat ^ n
  · rw [if_pos hc] at q ⊢
    exact q
  rw [if_neg hc] at q ⊢
  have ok := hd (by omega)
  trivial
  rcases tup_or d with ⟨es, rfl⟩ | hn
  · obtain ⟨l1, l2⟩ := hl es rfl
    refine ifF rfl ?_
    trivial
    refine ⟨by rw [sizeLine_eq]; omega, ?_⟩
    trivial
    refine compW_allD (fun e => PyData.bool (elsB p n e)) (fun e he k hk => ?_) ?_
    · trivial
      refine ⟨p, n, e, rfl, l2 e he, ?_⟩
      trivial
      exact hk _ rfl
    trivial
    refine ⟨es.map (elsB p n), by rw [List.map_map]; rfl, ?_⟩
    have ea : (es.map (elsB p n)).all id = es.all (elsB p n) := by rw [List.all_map]; rfl
    rw [ea]
    have em : meetB p n (.tuple es) = (es.all (elsB p n) && (ascB (es.map lstOf) && isNoneD (progM p n (es.map lstOf)))) := rfl
    rw [em] at q
    cases hb : es.all (elsB p n) with
    | false =>
      rw [hb, Bool.false_and] at q
      trivial
      refine ifT rfl ?_
      trivial
      exact q
    | true =>
      rw [hb, Bool.true_and] at q
      obtain ⟨g1, g2⟩ := pts_are p0 p1 hb
      generalize es.map lstOf = ps at g1 g2 q
      subst g1
      rw [List.length_map] at l1
      trivial
      refine ifF rfl ?_
      trivial
      refine ⟨ps, rfl, by omega, ?_⟩
      cases ha : ascB ps with
      | false =>
        rw [ha, Bool.false_and] at q
        trivial
        exact q
      | true =>
        rw [ha, Bool.true_and] at q
        trivial
        refine ⟨p, n, ps, rfl, ⟨by omega, p1, n1⟩, hd, l1, g2, ?_⟩
        rw [if_neg hc]
        trivial
        exact q
  · rw [isTup_not hn]
    refine ifT rfl ?_
    trivial
    have : meetB p n d = false := by
      cases d with
      | tuple es => exact absurd rfl (hn es)
      | _ => rfl
    rw [this] at q
    exact q
def axesF (p n : Nat) : List (List Int) := (List.range n).flatMap fun (i : Nat) => (rngI 1 (p - 1)).map fun x => onlyF (n : Int) (i : Int) x
def g_least_meeting (C : Addr) : CR := fun ds P E => ∃ (p : Int) (n : Nat), ds = [.int p, .int n] ∧ (0 < p ∧ p ≤ 1000 ∧ n ≤ 100) ∧ (p.toNat ^ n ≤ 1000 → DirOk p.toNat n) ∧ if 1000 < p.toNat ^ n then E C (.int ((p.toNat ^ n : Nat) : Int)) else P (.tuple (((List.replicate n (0 : Int) :: axesF p.toNat n).mergeSort leL).map tupK))
theorem g_least_meeting_mono {C : Addr} : ∀ es P P' E E', (∀ d, P d → P' d) → (∀ C x, E C x → E' C x) → g_least_meeting C es P E → g_least_meeting C es P' E' := fun es P P' E E' h h2 ⟨p, n, e, h1, h3, q⟩ => ⟨p, n, e, h1, h3, by
  split at q
  · rw [if_pos (by assumption)]; exact h2 _ _ q
  · rw [if_neg (by assumption)]; exact h _ q⟩
structure TLm (P : Program) (w : World) (K : PySem.W.Frag) (mg : Str → Option Value) (base : Heap) (C : Addr) : Prop extends TP P w K mg base where
  d_check_points : CalX P w K mg base 3 "_check_points" (spR K (g_check_points C))
  d_only_at : C8.Cal P w K mg base 1 "only_at" (spD K g_only_at) []
theorem depth_le2 {n : Nat} : ∀ {ds : List D}, (∀ d ∈ ds, d.depth ≤ n) → PyData.depthAll ds ≤ n
  | [], _ => Nat.zero_le _
  | d :: ds, h => by
    have h1 := h d List.mem_cons_self
    have h2 := depth_le2 (ds := ds) fun e he => h e (List.mem_cons_of_mem _ he)
    unfold PyData.depthAll
    omega
theorem axes_len (p n : Nat) : ∀ m : Nat, ((List.range m).flatMap fun (i : Nat) => (rngI 1 (p - 1)).map fun x => onlyF (n : Int) (i : Int) x).length = m * (p - 1)
  | 0 => by rw [Nat.zero_mul]; rfl
  | m + 1 => by
    rw [List.range_succ, List.flatMap_append, List.length_append, axes_len p n m, List.flatMap_cons, List.flatMap_nil, List.append_nil, List.length_map, rngI_len, Nat.add_mul, Nat.one_mul]
theorem axes_ne {p n : Nat} (h : 1 ≤ n) : ∀ k ∈ List.replicate n (0 : Int) :: axesF p n, k ≠ [] := fun k hk z => by
  rcases List.mem_cons.mp hk with rfl | hk
  · have := congrArg List.length z
    rw [List.length_replicate, List.length_nil] at this
    omega
  · obtain ⟨i, hi, hk⟩ := List.mem_flatMap.mp hk
    obtain ⟨x, _, rfl⟩ := List.mem_map.mp hk
    unfold onlyF at z
    simp at z
theorem ok_least_meeting {f C : Addr} {fd : FuncData} (F : Fun K "least_meeting" "least_meeting" s_least_meeting f fd) (T : TLm P w K mg base C) : FnOk P w K mg base (L2.CX P w) 4 f fd ["p", "n"] (spR K (g_least_meeting C)) := by
  refine ok_R F sc_least_meeting (fun ds P E ⟨p, n, e, _⟩ => by rw [e]; rfl) (fun cdv A outer s H E hr => ⟨_, _, (pss_cons (ps_expr (pe_cX T.d_check_points hr (by first | decide | omega) (by rfl) (takes_of rfl rfl rfl rfl) (pa_cons (pv 0) (pa_cons (pv 1) pa_nil))))
      (pss_cons (ps_setLc2 (i := 2) (own := [("at", 3), ("one", 4)]) (vs1 := [4]) (g := (gName 3)) (tt := tYes) (g1 := (gName 4)) (tt1 := tYes) rfl sc_least_meeting.nd rfl rfl (sw_true rfl rfl rfl (by decide +kernel)) (pi_range1 (by rfl) T.b_range (pa_cons (pv 1) pa_nil)) (blkOk_by (N := N_least_meeting) (sc := defScope s_least_meeting) (own := [("at", 3), ("one", 4)]) (by decide +kernel)) (by decide) (fun _ _ _ _ _ => (pg_name (i := 3) sc_least_meeting.nd rfl (by first | exact Or.inl rfl | exact Or.inr rfl))) (fun _ _ _ _ _ => pts_nil) (fun _ _ _ _ _ => (pi_range2 (by rfl) T.b_range (pa_cons pe_int (pa_cons (pv 0) pa_nil)))) (fun _ _ _ _ _ => (pg_name (i := 4) sc_least_meeting.nd rfl (by first | exact Or.inl rfl | exact Or.inr rfl))) (fun _ _ _ _ _ => pts_nil) (fun _ _ _ _ _ => (C8.pe_c T.d_only_at hr (by first | decide | omega) (by rfl) (pa_cons (pv 1) (pa_cons (pv 3) (pa_cons (pv 4) pa_nil))))))
      (pss_one (ps_ret (pe_callTy call_tuple_of (by rfl) T.b_tuple (by decide +kernel) (pa_cons (pe_callB (cr_sortD hr.units) (by rfl) T.b_sorted (by decide +kernel) (pa_cons (pe_op op_catL (pe_lst (pa_cons (pe_op op_repA (pe_tup (pa_cons pe_int pa_nil)) (pv 1)) pa_nil)) (pv 2)) pa_nil)) pa_nil)))))), (ss_cons (ss_exprR g_check_points_mono (sa_cons (se_var 0) (sa_cons (se_var 1) sa_nil)))
      (ss_cons (ss_asg (se_sh (sf_lc2 (js := [3, 4]) (js1 := [4]) (si_rng1 (sa_cons (se_var 1) sa_nil)) (sg_name 3) st_yes (si_rng2 (sa_cons se_c (sa_cons (se_var 0) sa_nil))) (sg_name 4) st_yes (se_call g_only_at_mono (sa_cons (se_var 1) (sa_cons (se_var 3) (sa_cons (se_var 4) sa_nil)))))) (sg_name 2))
      (ss_ret (se_cb sc_tuple (sa_cons (se_sh (sf_cb scf_sortD (sa_cons (se_sh (sf_catL (se_sh (sf_lst (sa_cons (se_op so_repA (se_tup (sa_cons se_c sa_nil)) (se_var 1)) sa_nil))) (se_var 2))) sa_nil))) sa_nil))))), fun ds Pd Ed h => ?_⟩)
  obtain ⟨p, n, rfl, ⟨p0, p1, n1⟩, hd, q⟩ := h
  change dSeq _ _ _ [.sh (.int p), .sh (.int n), .no, .no, .no]
  trivial
  refine ⟨rfl, ?_⟩
  trivial
  refine ⟨p, n, rfl, by omega, p1, n1, ?_⟩
  by_cases hc : 1000 < p.toNat ^ n
  · rw [if_pos hc] at q ⊢
    exact q
  rw [if_neg hc] at q ⊢
  have ok := hd (by omega)
  have o1 := ok.n1
  have o2 := ok.n2
  have o3 := ok.p3
  have o4 := ok.p2
  trivial
  rw [rngD_map]
  have e0 : (p - 1).toNat = p.toNat - 1 := by omega
  refine compW2_flat (fun (i : Nat) => PyData.int (0 + (i : Int))) (fun i => ((rngI 1 (p.toNat - 1)).map fun x => onlyF (n : Int) (i : Int) x).map tupK) 1000 sizeLine (fun i hi => ?_) (by rw [List.length_range, sizeLine_eq]; show 0 + _ ≤ _; omega) (fun i hi a k ha hk => ?_) ?_
  · rw [List.length_map, List.length_map, rngI_len]; omega
  · have hi := List.mem_range.mp hi
    rw [Int.zero_add]
    trivial
    refine ⟨1, p, rfl, ⟨by decide, by decide, by omega, by omega⟩, ?_⟩
    rw [rngD_I, e0]
    refine ⟨by rw [List.length_map, rngI_len]; omega, fun j hj => by
      obtain rfl : j = 4 := by simpa using hj
      rfl, ?_⟩
    refine compW_map PyData.int (fun x => some (tupK (onlyF (n : Int) (i : Int) x))) (fun x hx kk hkk => ?_) ?_
    · trivial
      refine ⟨_, _, _, rfl, by omega, by omega, by omega, ?_⟩
      exact hkk _ rfl
    · rw [List.filterMap_eq_map']
      rw [List.map_map] at hk
      exact hk _ rfl
  · rw [List.nil_append]
    have e1 : (List.range ((n : Nat) : Int).toNat).flatMap (fun (i : Nat) => ((rngI 1 (p.toNat - 1)).map fun x => onlyF (n : Int) (i : Int) x).map tupK) = (axesF p.toNat n).map tupK := by
      unfold axesF
      rw [List.map_flatMap, Int.toNat_natCast]
    rw [e1]
    have al : (axesF p.toNat n).length ≤ n * 1000 := by
      have := axes_len p.toNat n n
      unfold axesF
      rw [this]
      exact Nat.mul_le_mul_left n (by omega)
    trivial
    refine ⟨by rw [List.length_map, sizeLine_eq]; show 1 + _ ≤ _; omega, ?_⟩
    trivial
    have e2 : ([PyData.tuple (List.replicate ((n : Nat) : Int).toNat [PyData.int 0]).flatten] ++ (axesF p.toNat n).map tupK) = (List.replicate n (0 : Int) :: axesF p.toNat n).map tupK := by
      rw [flat_rep, Int.toNat_natCast, List.map_cons]
      unfold tupK
      rw [List.map_replicate]
      rfl
    rw [e2]
    obtain ⟨k1, k2⟩ := keys_ok (axes_ne (p := p.toNat) (by omega))
    refine ⟨_, rfl, k1, k2, depth_le2 fun d hd => ?_, ?_⟩
    · obtain ⟨k, _, rfl⟩ := List.mem_map.mp hd
      show (PyData.tuple (k.map PyData.int)).depth ≤ 50
      rw [PyData.depth, depth_ints]
      decide
    rw [sort_tupK]
    trivial
    exact q
def evF (p : Int) (n : Nat) : List (List Int) := chL (List.replicate n (rngI 0 p.toNat))
def posB (f : List Int) : Bool := f.any fun y => decide (0 < y)
def lawM (p : Int) (n : Nat) (pts : List (List Int)) : D := match (evF p n).find? fun f => posB f && (fmF p f pts).isSome with
  | some f => .tuple [tupK f, optD (fmF p f pts)]
  | none => .none
theorem ev_cnt (p : Int) (n : Nat) : cntR (List.replicate n (rngI 0 p.toNat)) = p.toNat ^ n := by
  unfold cntR
  rw [List.map_replicate, prod_rep, rngI_len]
theorem ev_mem {p : Int} {n : Nat} {f : List Int} (hp : 0 ≤ p) (h : f ∈ evF p n) : f.length = n ∧ ∀ x ∈ f, 0 ≤ x ∧ x < p := by
  refine ⟨by rw [chL_len2 h, List.length_replicate], chL_mem (S := fun x => 0 ≤ x ∧ x < p) (fun r hr x hx => ?_) h⟩
  rw [List.eq_of_mem_replicate hr] at hx
  have := rngI_mem' hx
  omega
theorem inB_ints (k : Int) (ns : List Int) : inB (.int k) (ns.map PyData.int) = ns.any fun x => decide (x = k) := by
  unfold inB
  rw [List.any_map]
  exact congrArg (List.any ns) (funext fun x => eqv_int x k)
structure TWm (P : Program) (w : World) (K : PySem.W.Frag) (mg : Str → Option Value) (base : Heap) : Prop where
  b_range : mg "range" = none
  b_list : mg "list" = none
  b_max : mg "max" = none
  b_int : mg "int" = none
  b_sum : mg "sum" = none
  b_enumerate : mg "enumerate" = none
  d_law_choices : C8.Cal P w K mg base 1 "_law_choices" (spD K g_law_choices) []
def g_law_missed : CD := fun ds P => ∃ (p : Int) (n : Nat) (pts : List (List Int)), ds = [.int p, .int n, .tuple (pts.map tupK)] ∧ DirOk p.toNat n ∧ pts.length ≤ 1000 ∧ (∀ s ∈ pts, s.length = n ∧ ∀ x ∈ s, x.natAbs ≤ 1000) ∧ P (lawM p n pts)
theorem g_law_missed_mono : ∀ es P P', (∀ d, P d → P' d) → g_law_missed es P → g_law_missed es P' := fun es P P' h ⟨p, n, pts, e, h1, h2, h3, q⟩ => ⟨p, n, pts, e, h1, h2, h3, h _ q⟩
theorem ok_law_missed {f : Addr} {fd : FuncData} (F : Fun K "_law_missed" "_law_missed" s_law_missed f fd) (T : TWm P w K mg base) : FnOk P w K mg base CX0 2 f fd ["p", "n", "points"] (spD K g_law_missed) := by
  refine ok_D F sc_law_missed (fun ds P ⟨p, n, pts, e, _⟩ => by rw [e]; rfl) (fun cdv A outer s H E hr => ⟨_, _, (pss_cons (ps_for PassesOwn.never rfl (pi_list (C8.pe_c T.d_law_choices hr (by first | decide | omega) (by rfl) (pa_cons (pe_op op_repL (pe_lst (pa_cons (pe_listRg rfl (by rfl) T.b_list (prg_1 (by rfl) T.b_range (pv 0))) pa_nil)) (pv 1)) pa_nil))) (pg_name (i := 3) sc_law_missed.nd rfl (by first | exact Or.inl rfl | exact Or.inr rfl)) (pss_cons (ps_setLc (i := 4) (own := [("point", 6)]) (g := (gName 6)) (tt := tYes) rfl sc_law_missed.nd rfl rfl (sw_true rfl rfl rfl (by decide +kernel)) (pi_tup (pv 2)) (blkOk_by (N := N_law_missed) (sc := defScope s_law_missed) (own := [("point", 6)]) (by decide +kernel)) (fun _ _ _ _ _ => (pg_name (i := 6) sc_law_missed.nd rfl (by first | exact Or.inl rfl | exact Or.inr rfl))) (fun _ _ _ _ _ => pts_nil) (fun _ _ _ _ _ => (pe_op op_mod (pe_callTy call_int1 (by rfl) T.b_int (by decide +kernel) (pa_cons (pe_callB (cr_sum rfl) (by rfl) T.b_sum (by decide +kernel) (pa_cons (pe_lc (own := [("at", 7), ("one", 8)]) (g := (gTup K 2 (gCons (gName 7) (gCons (gName 8) gNil)))) (tt := tYes) rfl sc_law_missed.nd (pi_numT (by rfl) T.b_enumerate (pa_cons (pv 6) pa_nil)) (blkOk_by (N := N_law_missed) (sc := _) (own := [("at", 7), ("one", 8)]) (by rfl)) (fun _ _ _ _ _ => (pg_tup rfl (pgs_cons (pg_name (i := 7) sc_law_missed.nd rfl (by first | exact Or.inl rfl | exact Or.inr rfl)) (pgs_cons (pg_name (i := 8) sc_law_missed.nd rfl (by first | exact Or.inl rfl | exact Or.inr rfl)) pgs_nil)))) (fun _ _ _ _ _ => pts_nil) (fun _ _ _ _ _ => (pe_op op_mulW (pe_ix ix_tup (pv 3) (pv 7) (fun _ _ => rfl)) (pv 8)))) pa_nil)) pa_nil)) (pv 0))))
      (pss_one (ps_for PassesOwn.never rfl (pi_range1 (by rfl) T.b_range (pa_cons (pv 0) pa_nil)) (pg_name (i := 5) sc_law_missed.nd rfl (by first | exact Or.inl rfl | exact Or.inr rfl)) (pss_one (ps_if (PW.pt (pw_and (pt_cmpR op_gt (pe_callB (cr_maxT rfl hr.units) (by rfl) T.b_max (by decide +kernel) (pa_cons (pv 3) pa_nil)) pe_int (nomark _)) (pw_and1 (pt_cmpR op_notIn_seq (pv 5) (pv 4) (by rfl))))) (pss_one (ps_ret (pe_tup (pa_cons (pv 3) (pa_cons (pv 5) pa_nil))))) pss_nil))))))
      (pss_one (ps_ret pe_non))), (ss_cons (ss_for (si_list (se_call g_law_choices_mono (sa_cons (se_sh (sf_repN (se_sh (sf_lst (sa_cons (se_sh (sf_rg1 (se_var 0))) sa_nil))) (se_var 1))) sa_nil))) (sg_name 3) (ss_cons (ss_asg (se_sh (sf_lc (js := [6]) (si_tup (se_var 2)) (sg_name 6) st_yes (se_op so_rI (se_cb sc_int (sa_cons (se_cb sc_sum (sa_cons (se_sh (sf_lc (js := [7, 8]) (si_numT (sa_cons (se_var 6) sa_nil)) (sg_tup (sgs_cons (sg_name 7) (sgs_cons (sg_name 8) sgs_nil))) st_yes (se_op so_rI (se_op so_ixT (se_var 3) (se_var 7)) (se_var 8)))) sa_nil)) sa_nil)) (se_var 0)))) (sg_name 4))
      (ss_for (si_rng1 (sa_cons (se_var 0) sa_nil)) (sg_name 5) (ss_if (st_and (st_test (se_op so_rI0 (se_cb sc_maxT (sa_cons (se_var 3) sa_nil)) se_c)) (st_test (se_op (so_inI true) (se_var 5) (se_var 4)))) (ss_ret (se_tup (sa_cons (se_var 3) (sa_cons (se_var 5) sa_nil)))) ss_nil))))
      (ss_ret se_c)), fun ds Pd h => ?_⟩)
  obtain ⟨p, n, pts, rfl, ok, pl, pb, q⟩ := h
  have p2 := ok.p2; have p3 := ok.p3; have n1 := ok.n1; have n2 := ok.n2; have pn := ok.pn
  change dSeq _ _ _ [.sh (.int p), .sh (.int n), .sh (.tuple (pts.map tupK)), .no, .no, .no, .no, .no, .no]
  trivial
  refine ⟨.of_le (by decide) (by omega) (by decide) (by omega), ?_⟩
  trivial
  refine ⟨_, _, rfl, rfl, by omega, by omega, by show 1 * ((n : Nat) : Int).toNat ≤ sizeLine; rw [sizeLine_eq]; omega, ?_⟩
  trivial
  have ec := ev_cnt p n
  refine ⟨List.replicate n (rngI 0 p.toNat), fun r => .list (r.map PyData.int), _, rfl, fun r => .inl rfl, .inl ?_, fun r hr z => ?_, by rw [List.length_replicate]; omega, by omega, ?_⟩
  · rw [rngD_I, Int.toNat_natCast, List.map_replicate, flat_rep]
  · have := rngI_len 0 p.toNat
    rw [← List.eq_of_mem_replicate hr, z] at this
    simp only [List.length_nil] at this
    omega
  trivial
  have er : (rngD 0 p.toNat).length = p.toNat := rngD_len _ _
  refine ⟨fun i r => ∃ x3 x4 x5 : DV, r = [.sh (.int p), .sh (.int n), .sh (.tuple (pts.map tupK)), x3, x4, x5, .no, .no, .no] ∧ ∀ k, k < i → ∀ g, (evF p n)[k]? = some g → (posB g && (fmF p g pts).isSome) = false, ⟨_, _, _, rfl, fun k hk => absurd hk (Nat.not_lt_zero _)⟩, fun i y r hd hI => ?_, fun r hI => ?_⟩
  · obtain ⟨x3, x4, x5, rfl, hm⟩ := hI
    rw [List.getElem?_map] at hd
    cases hi : (evF p n)[i]? with
    | none =>
      have hi2 : (chL (List.replicate n (rngI 0 p.toNat)))[i]? = none := hi
      rw [hi2] at hd; cases hd
    | some g =>
    have hi2 : (chL (List.replicate n (rngI 0 p.toNat)))[i]? = some g := hi
    rw [hi2] at hd
    obtain rfl : tupK g = y := Option.some.inj hd
    obtain ⟨g1, g2⟩ := ev_mem (by omega) (List.mem_of_getElem? hi)
    trivial
    refine ⟨by rw [List.length_map, sizeLine_eq]; omega, ?_⟩
    trivial
    refine compW_all tupK (fun s => PyData.int (elemF p (rowF g s))) (fun s hs k hk => ?_) ?_
    · obtain ⟨s1, s2⟩ := pb s hs
      trivial
      rw [numD_ints]
      refine ⟨by rw [List.length_map, List.length_range, sizeLine_eq]; omega, ?_⟩
      trivial
      refine compW_all _ (fun i : Nat => PyData.int (g.getD i 0 * s.getD i 0)) (fun i hi k hk => ?_) ?_
      · have hi := List.mem_range.mp hi
        have h1 := g2 _ (getD_mem (k := g) (i := i) (by omega))
        have h2 := s2 _ (getD_mem (k := s) (i := i) hi)
        refine ⟨[.int i, .int (s.getD i 0)], rfl, rfl, ?_⟩
        trivial
        refine s_ixKz (atI_int (by omega)) ?_
        trivial
        exact s_mul (wide_s (by omega) (by omega)) (hk _ rfl)
      · have e : (List.range s.length).map (fun i => PyData.int (g.getD i 0 * s.getD i 0)) = ((g.zip s).map fun q => q.1 * q.2).map PyData.int := by
          rw [← rowF_range (by rw [g1, s1]), List.map_map]
          rfl
        rw [e]
        trivial
        refine s_sumI ?_
        trivial
        have ee : elemF p (rowF g s) = ((g.zip s).map fun q => q.1 * q.2).sum % p := by
          unfold elemF
          rw [if_neg (by omega)]
          rfl
        rw [ee] at hk
        exact hk _ rfl
    · have e : (pts.map fun s => PyData.int (elemF p (rowF g s))) = (pts.map fun s => elemF p (rowF g s)).map PyData.int := by
        rw [List.map_map]
        rfl
      rw [e]
      trivial
      have gne : g ≠ [] := fun z => by rw [z] at g1; simp only [List.length_nil] at g1; omega
      have hmem : ∀ k : Int, decide (k ∈ pts.map fun s => elemF p (rowF g s)) = metB p g pts k := fun k => by
        unfold metB
        rw [Bool.eq_iff_iff, decide_eq_true_iff, List.any_eq_true]
        constructor
        · intro h
          obtain ⟨s, hs, e⟩ := List.mem_map.mp h
          exact ⟨s, hs, decide_eq_true e⟩
        · intro ⟨s, hs, e⟩
          exact List.mem_map.mpr ⟨s, hs, of_decide_eq_true e⟩
      refine ⟨fun j r => ∃ x5 : DV, r = [.sh (.int p), .sh (.int n), .sh (.tuple (pts.map tupK)), .sh (tupK g), .sh (.list ((pts.map fun s => elemF p (rowF g s)).map PyData.int)), x5, .no, .no, .no] ∧ ∀ k : Nat, k < j → (posB g && !metB p g pts (k : Int)) = false, ⟨_, rfl, fun k hk => absurd hk (Nat.not_lt_zero _)⟩, fun j y r hd hI => ?_, fun r hI => ?_⟩
      · obtain ⟨x5, rfl, hj⟩ := hI
        obtain ⟨rfl, hjp⟩ := rngD_at hd
        rw [Int.zero_add]
        trivial
        refine cMaxT_any gne fun m hm1 hm2 => ?_
        have em : posB g = decide (0 < m) := by
          unfold posB
          rw [Bool.eq_iff_iff, List.any_eq_true, decide_eq_true_iff]
          exact ⟨fun ⟨y, hy, h⟩ => by have := hm2 y hy; have := of_decide_eq_true h; omega, fun h => ⟨m, hm1, decide_eq_true h⟩⟩
        trivial
        refine s_ifd (fun h0 => ?_) (fun h0 => ?_)
        · rw [decide_eq_true h0] at em
          trivial
          refine ⟨_, _, rfl, .inl rfl, ?_⟩
          rw [if_pos rfl, hmem]
          cases hb : metB p g pts ((j : Nat) : Int) with
          | true =>
            trivial
            refine ifF rfl ?_
            trivial
            refine ⟨_, rfl, fun k hk => ?_⟩
            by_cases e : k = j
            · rw [e, hb, Bool.not_true, Bool.and_false]
            · exact hj k (by omega)
          | false =>
            trivial
            refine ifT rfl ?_
            trivial
            have e1 : fmF p g pts = some ((j : Nat) : Int) := rng_find (fun k hk => by
              have := hj k hk
              rw [em, Bool.true_and] at this
              exact this) (by rw [hb]; rfl) (by omega)
            have e : lawM p n pts = .tuple [tupK g, .int ((j : Nat) : Int)] := by
              unfold lawM
              rw [find_take (q := fun f => posB f && (fmF p f pts).isSome) hi hm (by rw [em, e1]; rfl)]
              show PyData.tuple [tupK g, optD (fmF p g pts)] = _
              rw [e1]
              rfl
            rw [e] at q
            exact q
        · rw [decide_eq_false h0] at em
          trivial
          exact ⟨_, rfl, fun k hk => by rw [em, Bool.false_and]⟩
      · obtain ⟨x5, rfl, hj⟩ := hI
        rw [er] at hj
        refine ⟨_, _, _, rfl, fun k hk g' hg => ?_⟩
        by_cases e : k = i
        · rw [e, hi] at hg
          obtain rfl : g = g' := Option.some.inj hg
          cases hp : posB g with
          | false => rfl
          | true =>
            have e1 : fmF p g pts = none := rng_none fun k hk => by
              have := hj k hk
              rw [hp, Bool.true_and] at this
              exact this
            rw [e1]
            rfl
        · exact hm k (by omega) g' hg
  · obtain ⟨x3, x4, x5, rfl, hm⟩ := hI
    rw [List.length_map] at hm
    have e : lawM p n pts = .none := by
      unfold lawM
      rw [find_no (L := evF p n) (q := fun f => posB f && (fmF p f pts).isSome) hm]
    rw [e] at q
    trivial
    exact q
/-! ### fewer planes leave another choice -/
theorem gr_nodup : ∀ {rs : List (List Int)}, (∀ r ∈ rs, r.Nodup) → (gr rs).Nodup
  | [], _ => List.pairwise_singleton _ _
  | r :: rs, h => by
    have ih := gr_nodup (rs := rs) fun z hz => h z (List.mem_cons_of_mem _ hz)
    refine List.pairwise_flatMap.mpr ⟨fun x _ => List.pairwise_map.mpr (ih.imp fun h z => h (List.cons.inj z).2), (h r List.mem_cons_self).imp fun hab u hu v hv z => ?_⟩
    obtain ⟨u', _, rfl⟩ := List.mem_map.mp hu
    obtain ⟨v', _, rfl⟩ := List.mem_map.mp hv
    exact hab (List.cons.inj z).1
theorem row_nodup {p : Int} {r : List Int} (h : RowOk p r) : r.Nodup := h.up.imp fun h => Int.ne_of_lt h
theorem prod_two : ∀ {ys : List Nat}, (∀ y ∈ ys, 1 ≤ y) → ys.length < ys.sum → 2 ≤ prodN ys
  | [], _, h => absurd h (Nat.lt_irrefl _)
  | y :: ys, h, hs => by
    have h1 := h y List.mem_cons_self
    have h2 : ∀ z ∈ ys, 1 ≤ z := fun z hz => h z (List.mem_cons_of_mem _ hz)
    have h3 := prodN_one h2
    show 2 ≤ y * prodN ys
    by_cases hy : y = 1
    · rw [hy, Nat.one_mul]
      have e : (y :: ys).sum = y + ys.sum := rfl
      rw [e, List.length_cons] at hs
      exact prod_two h2 (by omega)
    · exact Nat.le_trans (by omega : 2 ≤ y * 1) (Nat.mul_le_mul_left y h3)
/-- fewer planes than the lengths less 1 each together: one left, or two at least -/
theorem two_left {p : Int} (hp : p ∈ fieldsL) {rs : List (List Int)} {ps : List Pl} (pt : List Int) (hr : ∀ r ∈ rs, RowOk p r) (hl : ∀ q ∈ ps, q.1.length = rs.length) (few : ps.length + rs.length < (rs.map List.length).sum) (ne : lawLeft p rs ps ≠ []) : ∃ c ∈ lawLeft p rs ps, c ≠ pt := by
  obtain ⟨ys, h1, h2⟩ := left_cnt hp hr hl ne
  obtain ⟨h3, h4⟩ := pk_facts h1
  obtain ⟨h5, h6⟩ := f2_pos h3
  rw [List.length_map] at h6
  have h7 := prod_two h5 (by omega)
  have nd : (lawLeft p rs ps).Nodup := by
    unfold lawLeft
    rw [chL_gr]
    exact (gr_nodup fun r h => row_nodup (hr r h)).sublist List.filter_sublist
  generalize lawLeft p rs ps = L at ne nd h2 ⊢
  match L with
  | [] => exact absurd rfl ne
  | [c] => rw [List.length_singleton] at h2; omega
  | c :: d :: L =>
    by_cases hc : c = pt
    · refine ⟨d, List.mem_cons_of_mem _ List.mem_cons_self, fun z => ?_⟩
      rw [hc, z] at nd
      exact (List.nodup_cons.mp nd).1 List.mem_cons_self
    · exact ⟨c, List.mem_cons_self, hc⟩
/-! ### the reckoning: the first plane missed is one of the directions' -/
def pnL : List (Int × Nat) := [(2, 1), (2, 2), (2, 3), (2, 4), (2, 5), (3, 1), (3, 2), (3, 3), (5, 1), (5, 2), (7, 1), (7, 2), (11, 1)]
def normB (f : List Int) : Bool := match f.find? fun x => decide (x ≠ 0) with
  | some x => decide (x = 1)
  | none => false
def mulF (p : Int) (c : Nat) (g : List Int) : List Int := g.map fun x => ((c : Int) * x) % p
def chkF (p : Int) (n : Nat) : Bool := decide (dirsF p.toNat n = (evF p n).filter normB) && ((evF p n).all fun f => !normB f || posB f) &&
  (List.range (evF p n).length).all fun i => normB ((evF p n).getD i []) || !posB ((evF p n).getD i []) || (List.range i).any fun j => posB ((evF p n).getD j []) && (List.range p.toNat).any fun c => decide (0 < c) && decide ((evF p n).getD i [] = mulF p c ((evF p n).getD j []))
theorem pn_chk : ∀ q ∈ pnL, chkF q.1 q.2 = true := by decide +kernel
theorem pn_dir : ∀ q ∈ pnL, 2 ≤ q.1 ∧ q.1.toNat ≤ 11 ∧ 1 ≤ q.2 ∧ q.2 ≤ 5 ∧ q.1.toNat ^ q.2 ≤ 1000 ∧ q.1 ∈ fieldsL := by decide +kernel
theorem pn_unit : ∀ q ∈ pnL, ∀ c ∈ List.range q.1.toNat, 0 < c → ∀ k ∈ List.range q.1.toNat, ∃ m ∈ List.range q.1.toNat, ((c : Int) * (m : Int)) % q.1 = (k : Int) := by decide +kernel
theorem find_same {L : List (List Int)} {nb pb N : List Int → Bool} (h1 : ∀ f ∈ L, nb f = true → pb f = true) (h2 : ∀ (i : Nat) (f : List Int), L[i]? = some f → pb f = true → nb f = false → N f = true → ∃ j < i, ∃ g, L[j]? = some g ∧ pb g = true ∧ N g = true) : (L.filter nb).find? N = L.find? fun f => pb f && N f := by
  rw [List.find?_filter]
  cases hf : L.find? fun f => pb f && N f with
  | none =>
    refine List.find?_eq_none.mpr fun f hm => ?_
    have := List.find?_eq_none.mp hf f hm
    intro z
    obtain ⟨z1, z2⟩ := and2 (of_decide_eq_true (by simpa using z) : (nb f && N f) = true)
    exact this (by rw [h1 f hm z1, z2]; rfl)
  | some f =>
    obtain ⟨q1, i, hi, e1, q2⟩ := List.find?_eq_some_iff_getElem.mp hf
    obtain ⟨p1, p2⟩ := and2 q1
    have ei : L[i]? = some f := by rw [List.getElem?_eq_getElem hi, e1]
    have no : ∀ j, j < i → ∀ g, L[j]? = some g → pb g = true → N g = true → False := fun j hj g hg a b => by
      obtain ⟨hl, e⟩ := List.getElem?_eq_some_iff.mp hg
      have := q2 j hj
      rw [e, a, b] at this
      exact absurd this (by decide)
    have hn : nb f = true := by
      cases hz : nb f with
      | true => rfl
      | false =>
        obtain ⟨j, hj, g, hg, a, b⟩ := h2 i f ei p1 hz p2
        exact (no j hj g hg a b).elim
    refine find_take ei (fun k hk g hg => ?_) (by simp [hn, p2])
    cases hz : nb g && N g with
    | false => simp [hz]
    | true =>
      obtain ⟨z1, z2⟩ := and2 hz
      exact (no k hk g hg (h1 g (List.mem_of_getElem? hg) z1) z2).elim
theorem row_mul {p : Int} (c : Nat) : ∀ (g s : List Int), p ∣ rowF (mulF p c g) s - (c : Int) * rowF g s
  | [], s => ⟨0, by simp [mulF, rowF]⟩
  | x :: g, [] => ⟨0, by simp [mulF, rowF]⟩
  | x :: g, y :: s => by
    obtain ⟨a, ha⟩ := row_mul c g s
    have e : ((c : Int) * x) % p = (c : Int) * x - p * (((c : Int) * x) / p) := by
      have := Int.emod_add_mul_ediv ((c : Int) * x) p
      omega
    refine ⟨a - (((c : Int) * x) / p) * y, ?_⟩
    show ((c : Int) * x) % p * y + rowF (mulF p c g) s - (c : Int) * (x * y + rowF g s) = _
    rw [e]
    generalize ((c : Int) * x) / p = q
    rw [Int.sub_mul, Int.mul_assoc, Int.mul_assoc, Int.mul_add, Int.mul_sub, ← ha]
    omega
theorem fm_some {p : Int} {f : List Int} {pts : List (List Int)} : (fmF p f pts).isSome = true ↔ ∃ k ∈ rngI 0 p.toNat, metB p f pts k = false := by
  unfold fmF
  rw [List.find?_isSome]
  constructor
  · intro ⟨k, h1, h2⟩
    exact ⟨k, h1, by simpa using h2⟩
  · intro ⟨k, h1, h2⟩
    exact ⟨k, h1, by simpa using h2⟩
theorem missed_eq {p : Int} {n : Nat} (h : (p, n) ∈ pnL) (pts : List (List Int)) : progM p n pts = lawM p n pts := by
  have hk := pn_chk _ h
  obtain ⟨d2, _⟩ := pn_dir _ h
  simp only at d2
  obtain ⟨hk, h3⟩ := and2 hk
  obtain ⟨h1, h2⟩ := and2 hk
  have h1 := of_decide_eq_true h1
  simp only at h1 h2 h3
  have e : (dirsF p.toNat n).find? (fun f => (fmF p f pts).isSome) = (evF p n).find? fun f => posB f && (fmF p f pts).isSome := by
    rw [h1]
    refine find_same (fun f hf hn => ?_) fun i f hi hp hn hN => ?_
    · have := List.all_eq_true.mp h2 f hf
      rw [hn] at this
      exact this
    · obtain ⟨hl, ei⟩ := List.getElem?_eq_some_iff.mp hi
      have gi : (evF p n).getD i [] = f := by rw [List.getD_eq_getElem?_getD, hi]; rfl
      have := List.all_eq_true.mp h3 i (List.mem_range.mpr hl)
      rw [gi, hn, hp, Bool.false_or, Bool.not_true, Bool.false_or] at this
      obtain ⟨j, hj, hq⟩ := List.any_eq_true.mp this
      obtain ⟨hq1, hq2⟩ := and2 hq
      obtain ⟨c, hc, hq3⟩ := List.any_eq_true.mp hq2
      obtain ⟨hc0, hq4⟩ := and2 hq3
      have hc0 := of_decide_eq_true hc0
      have hq4 := of_decide_eq_true hq4
      have hj := List.mem_range.mp hj
      have hlj : j < (evF p n).length := by omega
      refine ⟨j, hj, (evF p n).getD j [], by rw [List.getD_eq_getElem?_getD, List.getElem?_eq_getElem hlj]; rfl, hq1, ?_⟩
      generalize (evF p n).getD j [] = g at hq4
      subst hq4
      obtain ⟨k0, hk0, hm⟩ := fm_some.mp hN
      have k0b := rngI_mem' hk0
      refine fm_some.mpr ?_
      obtain ⟨m, hm1, hm2⟩ := pn_unit _ h c hc hc0 k0.toNat (List.mem_range.mpr (by show k0.toNat < p.toNat; omega))
      simp only at hm1 hm2
      have hm3 := List.mem_range.mp hm1
      refine ⟨(m : Int), List.mem_map.mpr ⟨m, hm1, by omega⟩, ?_⟩
      unfold metB at hm ⊢
      rw [List.any_eq_false] at hm ⊢
      intro s hs z
      have z := of_decide_eq_true z
      refine hm s hs (decide_eq_true ?_)
      have hp0 : p ≠ 0 := by omega
      unfold elemF at z ⊢
      rw [if_neg hp0] at z ⊢
      obtain ⟨a, ha⟩ := row_mul (p := p) c g s
      have e1 : rowF (mulF p c g) s = (c : Int) * rowF g s + p * a := by omega
      rw [e1, Int.add_mul_emod_self_left, Int.mul_emod, z]
      rw [Int.mul_emod] at hm2
      have mm : ((m : Int)) % p = (m : Int) := Int.emod_eq_of_lt (by omega) (by omega)
      rw [mm] at hm2
      omega
  unfold progM lawM
  rw [e]
/-! ### fewer points are missed by some plane -/
theorem rowF_comm : ∀ a b : List Int, rowF a b = rowF b a
  | [], [] => rfl
  | [], _ :: _ => rfl
  | _ :: _, [] => rfl
  | x :: a, y :: b => by rw [rowF_cons, rowF_cons, rowF_comm a b, Int.mul_comm]
def subV (a b : List Int) : List Int := (a.zip b).map fun q => q.1 - q.2
theorem rowF_sub : ∀ (a b c : List Int), a.length = b.length → rowF (subV a b) c = rowF a c - rowF b c
  | [], [], c, _ => by simp [subV, rowF]
  | x :: a, y :: b, [], _ => by simp [subV, rowF]
  | x :: a, y :: b, z :: c, h => by
    have ih := rowF_sub a b c (by simpa using h)
    show (x - y) * z + rowF (subV a b) c = x * z + rowF a c - (y * z + rowF b c)
    rw [ih, Int.sub_mul]
    omega
theorem ev_zero {p : Int} {n : Nat} (hp : 2 ≤ p) : List.replicate n (0 : Int) ∈ chL (List.replicate n (rngI 0 p.toNat)) := by
  rw [chL_gr]
  induction n with
  | zero => exact List.mem_singleton.mpr rfl
  | succ n ih => exact List.mem_flatMap.mpr ⟨0, List.mem_map.mpr ⟨0, List.mem_range.mpr (by omega), rfl⟩, List.mem_map.mpr ⟨_, ih, rfl⟩⟩
theorem rng_row {p : Int} (hp : 2 ≤ p) : RowOk p (rngI 0 p.toNat) := by
  refine ⟨fun z => ?_, ?_, fun x hx => ?_⟩
  · have := rngI_len 0 p.toNat
    rw [z] at this
    simp only [List.length_nil] at this
    omega
  · unfold rngI
    rw [List.pairwise_map]
    exact List.pairwise_lt_range.imp fun h => by omega
  · have := rngI_mem' hx
    exact ⟨fun z => by omega, fun _ => by omega⟩
theorem rep_sum (x : Nat) : ∀ n : Nat, (List.replicate n x).sum = n * x
  | 0 => by simp
  | n + 1 => by rw [List.replicate_succ, List.sum_cons, rep_sum x n, Nat.add_mul, Nat.one_mul, Nat.add_comm]
theorem few_missed {p : Int} {n : Nat} (h : (p, n) ∈ pnL) {pts : List (List Int)} (hl : ∀ s ∈ pts, s.length = n) (few : pts.length + n < n * p.toNat + 1) : lawM p n pts ≠ .none := by
  obtain ⟨d2, _, d3, _, _, hf⟩ := pn_dir _ h
  simp only at d2 d3 hf
  obtain ⟨s0, rest, hs0, hr, hall⟩ : ∃ (s0 : List Int) (rest : List (List Int)), s0.length = n ∧ (∀ s ∈ rest, s.length = n) ∧ (∀ s ∈ pts, s = s0 ∨ s ∈ rest) ∧ rest.length + n < n * p.toNat := by
    cases pts with
    | nil =>
      refine ⟨List.replicate n 0, [], List.length_replicate, fun s hs => (by cases hs), fun s hs => (by cases hs), ?_⟩
      have : n * 2 ≤ n * p.toNat := Nat.mul_le_mul_left n (by omega)
      show 0 + n < _
      omega
    | cons s0 rest =>
      refine ⟨s0, rest, hl s0 List.mem_cons_self, fun s hs => hl s (List.mem_cons_of_mem _ hs), fun s hs => List.mem_cons.mp hs, ?_⟩
      rw [List.length_cons] at few
      omega
  obtain ⟨hall, hn⟩ := hall
  have p0 : 0 ≤ p := by omega
  have e1 : ¬ p ∣ 1 := fun ⟨a, ha⟩ => by
    have h1 : p ∣ 1 := ⟨a, ha⟩
    have := Int.le_of_dvd (by decide) h1
    omega
  have hrow : ∀ r ∈ List.replicate n (rngI 0 p.toNat), RowOk p r := fun r hr => by rw [List.eq_of_mem_replicate hr]; exact rng_row d2
  have hsum : ((List.replicate n (rngI 0 p.toNat)).map List.length).sum = n * p.toNat := by
    rw [List.map_replicate, rngI_len, rep_sum]
  have hzero : ∀ a : List Int, rowF a (List.replicate n 0) = 0 := fun a => by
    rw [rowF_comm]
    exact rowF_zero _ _ fun x hx => List.eq_of_mem_replicate hx
  obtain ⟨c, hc, hc0⟩ := two_left hf (rs := List.replicate n (rngI 0 p.toNat)) (ps := rest.map fun s => (subV s s0, 1)) (List.replicate n 0) hrow (fun q hq => by
    obtain ⟨s, hs, rfl⟩ := List.mem_map.mp hq
    unfold subV
    rw [List.length_map, List.length_zip, List.length_replicate, hr s hs, hs0, Nat.min_self]) (by rw [List.length_map, List.length_replicate, hsum]; exact hn) (List.ne_nil_of_mem (a := List.replicate n 0) (List.mem_filter.mpr ⟨ev_zero d2, by
      rw [Bool.not_eq_true', List.any_eq_false]
      intro q hq z
      obtain ⟨s, hs, rfl⟩ := List.mem_map.mp hq
      have z := of_decide_eq_true z
      rw [elemF_zero, hzero] at z
      obtain ⟨a, ha⟩ := z
      exact e1 ⟨-a, by rw [Int.mul_neg]; omega⟩⟩))
  obtain ⟨hc1, hc2⟩ := List.mem_filter.mp hc
  rw [Bool.not_eq_true', List.any_eq_false] at hc2
  obtain ⟨cl, cb⟩ := ev_mem (n := n) p0 hc1
  have hpos : posB c = true := by
    unfold posB
    refine Decidable.byContradiction fun z => hc0 ?_
    rw [Bool.not_eq_true, List.any_eq_false] at z
    refine List.eq_replicate_iff.mpr ⟨cl, fun x hx => ?_⟩
    have := cb x hx
    have := z x hx
    simp only [decide_eq_true_eq] at this
    omega
  have hN : (fmF p c pts).isSome = true := by
    refine fm_some.mpr ⟨(rowF c s0 + 1) % p, ?_, ?_⟩
    · have b1 := Int.emod_nonneg (rowF c s0 + 1) (by omega : p ≠ 0)
      have b2 := Int.emod_lt_of_pos (rowF c s0 + 1) (by omega : 0 < p)
      exact List.mem_map.mpr ⟨((rowF c s0 + 1) % p).toNat, List.mem_range.mpr (by omega), by omega⟩
    · unfold metB
      rw [List.any_eq_false]
      intro s hs z
      have z := of_decide_eq_true z
      have ee : elemF p (rowF c s0 + 1) = (rowF c s0 + 1) % p := by unfold elemF; rw [if_neg (by omega)]
      rw [← ee, elemF_dvd] at z
      rcases hall s hs with rfl | hs2
      · obtain ⟨a, ha⟩ := z
        exact e1 ⟨-a, by rw [Int.mul_neg]; omega⟩
      · refine hc2 (subV s s0, 1) (List.mem_map.mpr ⟨s, hs2, rfl⟩) (decide_eq_true ?_)
        rw [elemF_zero, rowF_sub s s0 c (by rw [hr s hs2, hs0]), rowF_comm s c, rowF_comm s0 c]
        obtain ⟨a, ha⟩ := z
        exact ⟨a, by omega⟩
  intro z
  unfold lawM at z
  split at z
  · cases z
  · have := List.find?_eq_none.mp (by assumption) c hc1
    rw [hpos, hN] at this
    exact this rfl
/-! ### the least points -/
def dueF (p : Int) (n : Nat) : List (List Int) := (evF p n).filter fun s => decide ((s.filter fun x => decide (0 < x)).length < 2)
theorem pn_due : ∀ q ∈ pnL, (List.replicate q.2 (0 : Int) :: axesF q.1.toNat q.2).Perm (dueF q.1 q.2) ∧ (dueF q.1 q.2).length + q.2 = q.2 * q.1.toNat + 1 := by decide +kernel
theorem gr_up : ∀ {rs : List (List Int)}, (∀ r ∈ rs, r.Pairwise (· < ·)) → (gr rs).Pairwise (· < ·)
  | [], _ => List.pairwise_singleton _ _
  | r :: rs, h => by
    have ih := gr_up (rs := rs) fun z hz => h z (List.mem_cons_of_mem _ hz)
    refine List.pairwise_flatMap.mpr ⟨fun x _ => List.pairwise_map.mpr (ih.imp fun h => List.cons_lt_cons_iff.mpr (.inr ⟨rfl, h⟩)), (h r List.mem_cons_self).imp fun hab u hu v hv => ?_⟩
    obtain ⟨u', _, rfl⟩ := List.mem_map.mp hu
    obtain ⟨v', _, rfl⟩ := List.mem_map.mp hv
    exact List.cons_lt_cons_iff.mpr (.inl hab)
theorem ev_up {p : Int} (hp : 2 ≤ p) (n : Nat) : (evF p n).Pairwise (· < ·) := by
  unfold evF
  rw [chL_gr]
  exact gr_up fun r hr => by rw [List.eq_of_mem_replicate hr]; exact (rng_row hp).up
theorem due_up {p : Int} (hp : 2 ≤ p) (n : Nat) : (dueF p n).Pairwise (· < ·) := (ev_up hp n).sublist List.filter_sublist
theorem leL_iff {a b : List Int} : leL a b = true ↔ ¬ b < a := by
  unfold leL
  rw [Bool.not_eq_true', decide_eq_false_iff_not]
theorem sortL_up (xs : List (List Int)) : (xs.mergeSort leL).Pairwise fun a b => leL a b = true := by
  refine List.pairwise_mergeSort (le := leL) (fun a b c h1 h2 => ?_) (fun a b => ?_) xs
  · rw [leL_iff] at h1 h2 ⊢
    exact List.not_lt.mpr (List.le_trans (List.not_lt.mp h1) (List.not_lt.mp h2))
  · rw [Bool.or_eq_true, leL_iff, leL_iff]
    by_cases h : b < a
    · exact .inr fun z => List.lt_irrefl _ (List.lt_trans h z)
    · exact .inl h
theorem sortL_eq {xs ys : List (List Int)} (h : xs.Perm ys) (hy : ys.Pairwise (· < ·)) : xs.mergeSort leL = ys := by
  refine List.Perm.eq_of_pairwise (le := fun a b => leL a b = true) (fun a b _ _ h1 h2 => ?_) (sortL_up xs) (hy.imp fun h => leL_iff.mpr fun z => List.lt_irrefl _ (List.lt_trans h z)) ((List.mergeSort_perm _ _).trans h)
  rw [leL_iff] at h1 h2
  exact List.le_antisymm (List.not_lt.mp h1) (List.not_lt.mp h2)
theorem asc_up : ∀ {ps : List (List Int)}, ps.Pairwise (· < ·) → ascB ps = true
  | [], _ => rfl
  | [a], _ => rfl
  | a :: b :: ps, h => by
    obtain ⟨h1, h2⟩ := List.pairwise_cons.mp h
    have ih := asc_up h2
    show (decide (a < b) && ascB (b :: ps)) = true
    rw [ih, decide_eq_true (h1 b List.mem_cons_self)]
    rfl
/-- some two that stand side by side aren't ascending -/
theorem asc_no : ∀ {ps : List (List Int)} {a b : List Int} (qs : List (List Int)), ¬ a < b → ascB (qs ++ a :: b :: ps) = false
  | ps, a, b, [], h => by
    show (decide (a < b) && _) = false
    rw [decide_eq_false h]; rfl
  | ps, a, b, [q], h => by
    show (decide (q < a) && ascB (a :: b :: ps)) = false
    have := asc_no (ps := ps) [] h
    rw [List.nil_append] at this
    rw [this, Bool.and_false]
  | ps, a, b, q :: r :: qs, h => by
    show (decide (q < r) && ascB ((r :: qs) ++ a :: b :: ps)) = false
    rw [asc_no (r :: qs) h, Bool.and_false]
theorem pn_len : ∀ q ∈ pnL, (dueF q.1 q.2).length ≤ 16 ∧ 2 ≤ (dueF q.1 q.2).length ∧ ((dueF q.1 q.2).length : Int) = (q.2 : Int) * (q.1 - 1) + 1 := by decide +kernel
theorem sortL_strict {xs : List (List Int)} (nd : xs.Nodup) : (xs.mergeSort leL).Pairwise (· < ·) := by
  have h1 := sortL_up xs
  have h2 : (xs.mergeSort leL).Nodup := (List.mergeSort_perm xs leL).nodup_iff.mpr nd
  refine (h1.and h2).imp fun {a b} ⟨g1, g2⟩ => ?_
  rw [leL_iff] at g1
  rcases List.le_iff_lt_or_eq.mp (List.not_lt.mp g1) with h | h
  · exact h
  · exact absurd h g2
theorem lt_nodup {xs : List (List Int)} (h : xs.Pairwise (· < ·)) : xs.Nodup := h.imp fun h z => by rw [z] at h; exact List.lt_irrefl _ h
structure PtsOk (p : Int) (n : Nat) (pts : List (List Int)) : Prop where
  up : pts.Pairwise (· < ·)
  sub : ∀ s ∈ pts, s ∈ evF p n
  few : pts.length ≤ 1000
theorem sub_len : ∀ {xs ys : List (List Int)}, xs.Nodup → (∀ s ∈ xs, s ∈ ys) → xs.length ≤ ys.length
  | [], ys, _, _ => Nat.zero_le _
  | x :: xs, ys, nd, h => by
    obtain ⟨n1, n2⟩ := List.nodup_cons.mp nd
    have hx := h x List.mem_cons_self
    have := sub_len (ys := ys.erase x) n2 fun s hs => (List.mem_erase_of_ne (fun z => n1 (by rw [← z]; exact hs))).mpr (h s (List.mem_cons_of_mem _ hs))
    rw [List.length_erase_of_mem hx] at this
    have := List.length_pos_of_mem hx
    rw [List.length_cons]
    omega
theorem elB_ok {p x : Int} (p0 : 0 ≤ p) (h : IsEl p x) : elB p (.int x) = true := by
  unfold elB
  by_cases z : p = 0
  · simp [isIntD, z]
  · have := h (by omega)
    simp [isIntD, intOf, this]
theorem rep_lawM {p : Int} {n : Nat} (p0 : 0 ≤ p) (p1 : p.toNat ≤ 11) (n1 : n ≤ 5) (pts : List (List Int)) : RepOk (lawM p n pts) := by
  unfold lawM
  split
  · rename_i f hf
    obtain ⟨h1, h2⟩ := and2 (List.find?_some (p := fun f => posB f && (fmF p f pts).isSome) hf)
    have hm := ev_mem p0 (List.mem_of_find?_eq_some hf)
    cases hk : fmF p f pts with
    | none => rw [hk] at h2; cases h2
    | some k =>
      have := rngI_mem' (List.mem_of_find?_eq_some hk)
      exact (nt_term (M := 1000) (m := 5) (t := (f, k)) ⟨by show f.length ≤ 5; rw [hm.1]; exact n1, fun x hx => by have := hm.2 x hx; omega, by show k.natAbs ≤ 1000; omega⟩).rep (by decide) (by decide) (by decide)
  · exact ⟨by decide, by decide, by decide, by decide⟩
theorem els_ok {p : Int} {n : Nat} (p0 : 0 ≤ p) {s : List Int} (h : s.length = n ∧ ∀ x ∈ s, 0 ≤ x ∧ x < p) : elsB p n (tupK s) = true := by
  show (decide (((s.map PyData.int).length : Int) = n) && (s.map PyData.int).all (elB p)) = true
  rw [List.length_map, h.1, decide_eq_true rfl, Bool.true_and, List.all_eq_true]
  intro d hd
  obtain ⟨x, hx, rfl⟩ := List.mem_map.mp hd
  exact elB_ok p0 fun _ => h.2 x hx
theorem meet_eq {p : Int} {n : Nat} (h : (p, n) ∈ pnL) {pts : List (List Int)} (ok : PtsOk p n pts) : meetB p n (.tuple (pts.map tupK)) = isNoneD (lawM p n pts) := by
  have p0 : 0 ≤ p := by have := (pn_dir _ h).1; simp only at this; omega
  show (((pts.map tupK).all (elsB p n)) && (ascB ((pts.map tupK).map lstOf) && isNoneD (progM p n ((pts.map tupK).map lstOf)))) = _
  have e1 : (pts.map tupK).all (elsB p n) = true := by
    rw [List.all_eq_true]
    intro d hd
    obtain ⟨s, hs, rfl⟩ := List.mem_map.mp hd
    exact els_ok p0 (ev_mem p0 (ok.sub s hs))
  rw [e1, lstOf_map, asc_up ok.up, missed_eq h, Bool.true_and, Bool.true_and]
/-! ### what is no lot of points -/
structure OddM (p : Int) (n : Nat) (d : D) : Prop where
  l : ∀ es, d = .tuple es → es.length ≤ 1000 ∧ ∀ e ∈ es, lenTup e ≤ 100000
  c : meetB p n d = false
theorem meet_no {p : Int} {n : Nat} {es : List D} {d : D} (hd : d ∈ es) (h : elsB p n d = false) : meetB p n (.tuple es) = false := by
  show (es.all (elsB p n) && _) = false
  have e : es.all (elsB p n) = false := by
    rw [List.all_eq_false]
    exact ⟨d, hd, by rw [h]; decide⟩
  rw [e, Bool.false_and]
theorem meet_asc {p : Int} {n : Nat} {ps : List (List Int)} (h : ascB ps = false) : meetB p n (.tuple (ps.map tupK)) = false := by
  show (((ps.map tupK).all (elsB p n)) && (ascB ((ps.map tupK).map lstOf) && _)) = false
  rw [lstOf_map, h, Bool.false_and, Bool.and_false]
theorem odd_m {p : Int} {n : Nat} (h : (p, n) ∈ pnL) {due : List (List Int)} (hup : due.Pairwise (· < ·)) (hsub : ∀ s ∈ due, s ∈ evF p n) (l1 : due.length ≤ 16) (l2 : 2 ≤ due.length) :
    ∀ d ∈ ([.list (due.map tupK), .none, .tuple (due.reverse.map tupK), .tuple ((due ++ due.drop (due.length - 1)).map tupK), .tuple ((List.replicate n p :: due).map tupK), .tuple ((due ++ [List.replicate n p]).map tupK), .tuple (due.map tupK ++ [.none]), .tuple (due.map fun s => .list (s.map PyData.int)), .tuple [.tuple (due.map tupK)]] : List D), OddM p n d := by
  obtain ⟨d1, d2, d3, d4, d5, d6⟩ := pn_dir _ h
  simp only at d1 d2 d3 d4 d5 d6
  have p0 : 0 ≤ p := by omega
  have kl : ∀ {ps : List (List Int)}, ps.length ≤ 1000 → (∀ s ∈ ps, s.length ≤ 1000) → ∀ es, PyData.tuple (ps.map tupK) = .tuple es → es.length ≤ 1000 ∧ ∀ e ∈ es, lenTup e ≤ 100000 := fun {ps} h1 h2 es z => by
    obtain rfl := PyData.tuple.inj z
    refine ⟨by rw [List.length_map]; exact h1, fun e he => ?_⟩
    obtain ⟨s, hs, rfl⟩ := List.mem_map.mp he
    show (s.map PyData.int).length ≤ 100000
    rw [List.length_map]
    have := h2 s hs
    omega
  have sl : ∀ s ∈ due, s.length = n := fun s hs => (ev_mem p0 (hsub s hs)).1
  have sl2 : ∀ s ∈ due, s.length ≤ 1000 := fun s hs => by rw [sl s hs]; omega
  have bad : elsB p n (tupK (List.replicate n p)) = false := by
    show (decide _ && ((List.replicate n p).map PyData.int).all (elB p)) = false
    have e : ((List.replicate n p).map PyData.int).all (elB p) = false := by
      rw [List.all_eq_false]
      refine ⟨.int p, List.mem_map.mpr ⟨p, List.mem_replicate.mpr ⟨by omega, rfl⟩, rfl⟩, ?_⟩
      show ¬ (true && (decide (p = 0) || (decide (0 ≤ p) && decide (p < p)))) = true
      simp
      omega
    rw [e, Bool.and_false]
  obtain ⟨x, y, mid, e0⟩ : ∃ x y mid, due = x :: y :: mid := by
    match due, l2 with
    | x :: y :: mid, _ => exact ⟨x, y, mid, rfl⟩
  have hxy : x < y := by
    rw [e0] at hup
    exact (List.pairwise_cons.mp hup).1 y List.mem_cons_self
  intro d hm
  rcases List.mem_cons.mp hm with rfl | hm
  · exact ⟨fun es z => (by cases z), rfl⟩
  rcases List.mem_cons.mp hm with rfl | hm
  · exact ⟨fun es z => (by cases z), rfl⟩
  rcases List.mem_cons.mp hm with rfl | hm
  · refine ⟨kl (by rw [List.length_reverse]; omega) fun s hs => sl2 s (List.mem_reverse.mp hs), meet_asc ?_⟩
    rw [e0, List.reverse_cons, List.reverse_cons, List.append_assoc]
    exact asc_no _ fun z => List.lt_irrefl _ (List.lt_trans hxy z)
  rcases List.mem_cons.mp hm with rfl | hm
  · refine ⟨kl (by rw [List.length_append, List.length_drop]; omega) fun s hs => ?_, meet_asc ?_⟩
    · rcases List.mem_append.mp hs with h | h
      · exact sl2 s h
      · exact sl2 s (List.mem_of_mem_drop h)
    · obtain ⟨z, hz⟩ : ∃ z, due = due.dropLast ++ [z] := ⟨due.getLast (by rw [e0]; exact List.cons_ne_nil _ _), (List.dropLast_concat_getLast _).symm⟩
      have ed : due.drop (due.length - 1) = [z] := by
        have hl : due.dropLast.length = due.length - 1 := List.length_dropLast
        rw [← hl]
        conv => lhs; arg 2; rw [hz]
        exact List.drop_left
      rw [ed]
      conv => lhs; arg 1; arg 1; rw [hz]
      rw [List.append_assoc]
      exact asc_no _ (List.lt_irrefl _)
  rcases List.mem_cons.mp hm with rfl | hm
  · refine ⟨kl (by rw [List.length_cons]; omega) fun s hs => ?_, meet_no (List.mem_map.mpr ⟨_, List.mem_cons_self, rfl⟩) bad⟩
    rcases List.mem_cons.mp hs with rfl | h
    · rw [List.length_replicate]; omega
    · exact sl2 s h
  rcases List.mem_cons.mp hm with rfl | hm
  · refine ⟨kl (by rw [List.length_append]; show _ + 1 ≤ _; omega) fun s hs => ?_, meet_no (List.mem_map.mpr ⟨_, List.mem_append_right _ (List.mem_singleton.mpr rfl), rfl⟩) bad⟩
    rcases List.mem_append.mp hs with h | h
    · exact sl2 s h
    · rw [List.mem_singleton.mp h, List.length_replicate]; omega
  rcases List.mem_cons.mp hm with rfl | hm
  · refine ⟨fun es z => ?_, meet_no (List.mem_append_right _ (List.mem_singleton.mpr rfl)) rfl⟩
    obtain rfl := PyData.tuple.inj z
    refine ⟨by rw [List.length_append, List.length_map]; show _ + 1 ≤ _; omega, fun e he => ?_⟩
    rcases List.mem_append.mp he with he | he
    · exact (kl (by omega : due.length ≤ 1000) sl2 _ rfl).2 e he
    · rw [List.mem_singleton.mp he]; exact Nat.zero_le _
  rcases List.mem_cons.mp hm with rfl | hm
  · refine ⟨fun es z => ?_, meet_no (d := .list (x.map PyData.int)) (List.mem_map.mpr ⟨x, by rw [e0]; exact List.mem_cons_self, rfl⟩) rfl⟩
    obtain rfl := PyData.tuple.inj z
    refine ⟨by rw [List.length_map]; omega, fun e he => ?_⟩
    obtain ⟨s, hs, rfl⟩ := List.mem_map.mp he
    exact Nat.zero_le _
  rw [List.mem_singleton.mp hm]
  refine ⟨fun es z => ?_, meet_no (List.mem_singleton.mpr rfl) ?_⟩
  · obtain rfl := PyData.tuple.inj z
    refine ⟨Nat.le_of_ble_eq_true rfl, fun e he => ?_⟩
    rw [List.mem_singleton.mp he]
    show (due.map tupK).length ≤ 100000
    rw [List.length_map]; omega
  · show (decide _ && (due.map tupK).all (elB p)) = false
    rw [e0]
    show (decide _ && (elB p (tupK x) && _)) = false
    have : elB p (tupK x) = false := rfl
    rw [this, Bool.false_and, Bool.and_false]

-- CUT
theorem cutD_last {es : List D} (h : 1 ≤ es.length) : cutD es (some (-1)) none = es.drop (es.length - 1) := by
  unfold cutD
  have h1 : HT.sIx es.length es.length none = es.length := rfl
  have h2 : HT.sIx es.length 0 (some (-1)) = es.length - 1 := by
    show (if (-1 : Int) < 0 then ((-1 : Int) + (es.length : Int)).toNat else min (-1 : Int).toNat es.length) = es.length - 1
    rw [if_pos (by decide)]
    omega
  rw [h1, h2, List.take_of_length_le (by rw [List.length_drop]; exact Nat.le_refl _)]
theorem rep_tupK (p : Int) (n : Nat) : (List.replicate ((n : Nat) : Int).toNat [PyData.int p]).flatten = (List.replicate n p).map PyData.int := by rw [flat_rep, Int.toNat_natCast, List.map_replicate]
abbrev qLam : Str := "law" ++ ".<locals>." ++ "<lambda>"
structure TLw (P : Program) (w : World) (K : PySem.W.Frag) (mg : Str → Option Value) (base : Heap) (cc tt C : Addr) : Prop where
  tab : LamX.TabB base mg cc tt
  r_ref : RefK K mg "_law_refused" "Refused" s_law_refused C
  b_repr : mg "repr" = none
  b_range : mg "range" = none
  b_tuple : mg "tuple" = none
  b_list : mg "list" = none
  b_len : mg "len" = none
  b_sorted : mg "sorted" = none
  b_set : mg "set" = none
  d_law_draw : C8.Cal P w K mg base 1 "_law_draw" (spM K g_draw) []
  d_law_any : C8.Cal P w K mg base 1 "_law_any" (spW K g_any) []
  d_law_of : C8.Cal P w K mg base 2 "_law_of" (spW K g_of) []
  d_law_mixed : C8.Cal P w K mg base 2 "_law_mixed" (spW K g_mixD) []
  d_law_choices : C8.Cal P w K mg base 1 "_law_choices" (spD K g_law_choices) []
  d_law_missed : C8.Cal P w K mg base 2 "_law_missed" (spD K g_law_missed) []
  d_least_meeting : CalX P w K mg base 4 "least_meeting" (spR K (g_least_meeting C))
  k_least_meeting : CalXK P w K mg base 4 "least_meeting" ["n", "p"] 0 2 [1, 0] (spR K (g_least_meeting C))
  d_missed_plane : CalX P w K mg base 4 "missed_plane" (spR K (g_missed_plane C))
  k_missed_plane : CalXK P w K mg base 4 "missed_plane" ["points", "n", "p"] 0 3 [2, 1, 0] (spR K (g_missed_plane C))
  d_is_meeting : CalX P w K mg base 5 "is_meeting" (spR K (g_is_meeting C))
  k_is_meeting : CalXK P w K mg base 5 "is_meeting" ["value", "n", "p"] 0 3 [2, 1, 0] (spR K (g_is_meeting C))
set_option maxHeartbeats 4000000 in
theorem ok_law {f cc tt C : Addr} {oc : Value} {od an : Option Addr} {osl : Array (Option Value)} {kV doc pm ct : Value} (lk : K.lookup f = some ⟨oc, od, .func (PySem.W.fnOf "law" "law" (defArgs s_law) (defBody s_law) (defScope s_law) .none kV doc pm an (.ref cc) ct), osl⟩) (hcd : PySem.W.codeIn K (.ref cc) "law" = true) (T : TLw P w K mg base cc tt C) :
    FnQ P w K mg base CX0 8 f (PySem.W.fnOf "law" "law" (defArgs s_law) (defBody s_law) (defScope s_law) .none kV doc pm an (.ref cc) ct) ["script"] (spL K tt 63) := by
  refine ok_L (q := qLam) (N := N0_law) (g := "?") lk hcd sc_law (by unfold Vis; decide +kernel) (by decide) (fun A outer s H E hgd hr => ⟨_, _, (pss_cons (ps_set (i := 1) sc_law.nd rfl (by first | exact Or.inl rfl | exact Or.inr rfl) (C8.pe_c T.d_law_draw hr (by first | decide | omega) (by rfl) (pa_cons (pv 0) (pa_cons pe_int pa_nil))))
      (pss_cons (ps_asg (C8.pe_c T.d_law_of hr (by first | decide | omega) (by rfl) (pa_cons (pv 1) (pa_cons (pe_lst (pa_cons (pe_tup (pa_cons pe_int (pa_cons pe_int pa_nil))) (pa_cons (pe_tup (pa_cons pe_int (pa_cons pe_int pa_nil))) (pa_cons (pe_tup (pa_cons pe_int (pa_cons pe_int pa_nil))) (pa_cons (pe_tup (pa_cons pe_int (pa_cons pe_int pa_nil))) (pa_cons (pe_tup (pa_cons pe_int (pa_cons pe_int pa_nil))) (pa_cons (pe_tup (pa_cons pe_int (pa_cons pe_int pa_nil))) (pa_cons (pe_tup (pa_cons pe_int (pa_cons pe_int pa_nil))) (pa_cons (pe_tup (pa_cons pe_int (pa_cons pe_int pa_nil))) (pa_cons (pe_tup (pa_cons pe_int (pa_cons pe_int pa_nil))) (pa_cons (pe_tup (pa_cons pe_int (pa_cons pe_int pa_nil))) (pa_cons (pe_tup (pa_cons pe_int (pa_cons pe_int pa_nil))) (pa_cons (pe_tup (pa_cons pe_int (pa_cons pe_int pa_nil))) (pa_cons (pe_tup (pa_cons pe_int (pa_cons pe_int pa_nil))) pa_nil)))))))))))))) pa_nil))) (pg_tup rfl (pgs_cons (pg_name (i := 10) sc_law.nd rfl (by first | exact Or.inl rfl | exact Or.inr rfl)) (pgs_cons (pg_name (i := 11) sc_law.nd rfl (by first | exact Or.inl rfl | exact Or.inr rfl)) pgs_nil))))
      (pss_cons (ps_set (i := 2) sc_law.nd rfl (by first | exact Or.inl rfl | exact Or.inr rfl) (C8.pe_c T.d_law_choices hr (by first | decide | omega) (by rfl) (pa_cons (pe_op op_repL (pe_lst (pa_cons (pe_listRg rfl (by rfl) T.b_list (prg_1 (by rfl) T.b_range (pv 10))) pa_nil)) (pv 11)) pa_nil)))
      (pss_cons (ps_set (i := 3) sc_law.nd rfl (by first | exact Or.inl rfl | exact Or.inr rfl) (pe_callTy call_tuple_of (by rfl) T.b_tuple (by decide +kernel) (pa_cons (pe_lc (own := [("point", 13)]) (g := (gName 13)) (tt := _) rfl sc_law.nd (pi_list (pv 2)) (blkOk_by (N := N_law) (sc := defScope s_law) (own := [("point", 13)]) (by decide +kernel)) (fun _ _ _ _ _ => (pg_name (i := 13) sc_law.nd rfl (by first | exact Or.inl rfl | exact Or.inr rfl))) (fun _ _ _ _ _ => (pts_one (pt_cmpR op_lt (pe_callB call_len_seq (by rfl) T.b_len (by decide +kernel) (pa_cons (pe_lc (own := [("one", 14)]) (g := (gName 14)) (tt := _) rfl sc_law.nd (pi_tup (pv 13)) (blkOk_by (N := N_law) (sc := _) (own := [("one", 14)]) (by rfl)) (fun _ _ _ _ _ => (pg_name (i := 14) sc_law.nd rfl (by first | exact Or.inl rfl | exact Or.inr rfl))) (fun _ _ _ _ _ => (pts_one (pt_cmpR op_gt (pv 14) pe_int (nomark _)))) (fun _ _ _ _ _ => (pv 14))) pa_nil)) pe_int (nomark _)))) (fun _ _ _ _ _ => (pv 13))) pa_nil)))
      (pss_cons (ps_if (PW.pt (pw_or (pt_cmpR op_ne (pe_callB (call_reprD hgd hr.units) (by rfl) T.b_repr (by decide +kernel) (pa_cons (pe_cX0 T.d_least_meeting hr (by first | decide | omega) (by rfl) (pa_cons (pv 10) (pa_cons (pv 11) pa_nil))) pa_nil)) (pe_callB (call_reprD hgd hr.units) (by rfl) T.b_repr (by decide +kernel) (pa_cons (pv 3) pa_nil)) (nomark _)) (pw_or (pt_cmpR op_ne (pe_callB (call_reprD hgd hr.units) (by rfl) T.b_repr (by decide +kernel) (pa_cons (pe_cX0K T.k_least_meeting hr (by first | decide | omega) (by rfl) (pk_cons (pv 11) (pk_cons (pv 10) pk_nil))) pa_nil)) (pe_callB (call_reprD hgd hr.units) (by rfl) T.b_repr (by decide +kernel) (pa_cons (pv 3) pa_nil)) (nomark _)) (pw_or1 (pt_cmpR (op_neD hr.units) (pe_callB call_len_seq (by rfl) T.b_len (by decide +kernel) (pa_cons (pv 3) pa_nil)) (pe_op op_add (pe_op op_mulW (pv 11) (pe_op op_sub (pv 10) pe_int)) pe_int) (nomark _)))))) (pss_one (ps_ret pe_bl)) pss_nil)
      (pss_cons (ps_set (i := 4) sc_law.nd rfl (by first | exact Or.inl rfl | exact Or.inr rfl) (C8.pe_c T.d_law_any hr (by first | decide | omega) (by rfl) (pa_cons (pv 1) (pa_cons (pe_callB call_len_seq (by rfl) T.b_len (by decide +kernel) (pa_cons (pv 3) pa_nil)) pa_nil))))
      (pss_cons (ps_set (i := 5) sc_law.nd rfl (by first | exact Or.inl rfl | exact Or.inr rfl) (pe_op op_catA (pe_slice sl_tupA (pv 3) po_none (po_some (pv 4))) (pe_slice sl_tupA (pv 3) (po_some (pe_op op_add (pv 4) pe_int)) po_none)))
      (pss_cons (ps_set (i := 6) sc_law.nd rfl (by first | exact Or.inl rfl | exact Or.inr rfl) (pe_lst (pa_cons (pv 3) (pa_cons (pv 5) (pa_cons (pe_callTy call_tuple_of (by rfl) T.b_tuple (by decide +kernel) (pa_cons (pe_callB (cr_sortedT rfl) (by rfl) T.b_sorted (by decide +kernel) (pa_cons (pe_callTy (cr_setTT rfl hr.units) (by rfl) T.b_set (by decide +kernel) (pa_cons (pe_op op_catA (pv 5) (pe_tup (pa_cons (C8.pe_c T.d_law_of hr (by first | decide | omega) (by rfl) (pa_cons (pv 1) (pa_cons (pv 2) pa_nil))) pa_nil))) pa_nil)) pa_nil)) pa_nil)) (pa_cons (pe_callTy call_tuple_of (by rfl) T.b_tuple (by decide +kernel) (pa_cons (pe_callB (cr_sortD hr.units) (by rfl) T.b_sorted (by decide +kernel) (pa_cons (pe_slice sl_list (C8.pe_c T.d_law_mixed hr (by first | decide | omega) (by rfl) (pa_cons (pv 1) (pa_cons (pv 2) pa_nil))) po_none (po_some (pe_op op_sub (pe_callB call_len_seq (by rfl) T.b_len (by decide +kernel) (pa_cons (pv 3) pa_nil)) pe_int))) pa_nil)) pa_nil)) pa_nil))))))
      (pss_cons (ps_set (i := 6) sc_law.nd rfl (by first | exact Or.inl rfl | exact Or.inr rfl) (pe_op op_catL (pv 6) (pe_lst (pa_cons (pe_callTy call_tuple_of (by rfl) T.b_tuple (by decide +kernel) (pa_cons (pe_callB (cr_sortD hr.units) (by rfl) T.b_sorted (by decide +kernel) (pa_cons (pe_slice sl_list (C8.pe_c T.d_law_mixed hr (by first | decide | omega) (by rfl) (pa_cons (pv 1) (pa_cons (pv 2) pa_nil))) po_none (po_some (C8.pe_c T.d_law_any hr (by first | decide | omega) (by rfl) (pa_cons (pv 1) (pa_cons (pe_op op_add (pe_callB call_len_seq (by rfl) T.b_len (by decide +kernel) (pa_cons (pv 2) pa_nil)) pe_int) pa_nil))))) pa_nil)) pa_nil)) (pa_cons (pe_tup pa_nil) pa_nil)))))
      (pss_cons (ps_for PassesOwn.never rfl (pi_list (pv 6)) (pg_name (i := 7) sc_law.nd rfl (by first | exact Or.inl rfl | exact Or.inr rfl)) (pss_cons (ps_set (i := 12) sc_law.nd rfl (by first | exact Or.inl rfl | exact Or.inr rfl) (C8.pe_c T.d_law_missed hr (by first | decide | omega) (by rfl) (pa_cons (pv 10) (pa_cons (pv 11) (pa_cons (pv 7) pa_nil)))))
      (pss_cons (ps_if (PW.pt (pw_or (pt_cmpR op_ne (pe_callB (call_reprD hgd hr.units) (by rfl) T.b_repr (by decide +kernel) (pa_cons (pe_cX0 T.d_missed_plane hr (by first | decide | omega) (by rfl) (pa_cons (pv 10) (pa_cons (pv 11) (pa_cons (pv 7) pa_nil)))) pa_nil)) (pe_callB (call_reprD hgd hr.units) (by rfl) T.b_repr (by decide +kernel) (pa_cons (pv 12) pa_nil)) (nomark _)) (pw_or1 (pt_cmpR op_ne (pe_callB (call_reprD hgd hr.units) (by rfl) T.b_repr (by decide +kernel) (pa_cons (pe_cX0K T.k_missed_plane hr (by first | decide | omega) (by rfl) (pk_cons (pv 7) (pk_cons (pv 11) (pk_cons (pv 10) pk_nil)))) pa_nil)) (pe_callB (call_reprD hgd hr.units) (by rfl) T.b_repr (by decide +kernel) (pa_cons (pv 12) pa_nil)) (nomark _))))) (pss_one (ps_ret pe_bl)) pss_nil)
      (pss_cons (ps_if (PW.pt (pw_or (pt_cmpR op_ne (pe_callB (call_reprD hgd hr.units) (by rfl) T.b_repr (by decide +kernel) (pa_cons (pe_cX0 T.d_is_meeting hr (by first | decide | omega) (by rfl) (pa_cons (pv 10) (pa_cons (pv 11) (pa_cons (pv 7) pa_nil)))) pa_nil)) (pe_callB (call_reprD hgd hr.units) (by rfl) T.b_repr (by decide +kernel) (pa_cons (pe_cmpR op_isN (pv 12) pe_non (nomark _)) pa_nil)) (nomark _)) (pw_or1 (pt_cmpR op_ne (pe_callB (call_reprD hgd hr.units) (by rfl) T.b_repr (by decide +kernel) (pa_cons (pe_cX0K T.k_is_meeting hr (by first | decide | omega) (by rfl) (pk_cons (pv 7) (pk_cons (pv 11) (pk_cons (pv 10) pk_nil)))) pa_nil)) (pe_callB (call_reprD hgd hr.units) (by rfl) T.b_repr (by decide +kernel) (pa_cons (pe_cmpR op_isN (pv 12) pe_non (nomark _)) pa_nil)) (nomark _))))) (pss_one (ps_ret pe_bl)) pss_nil)
      (pss_one (ps_if (PW.pt (pw_and (pt_cmpR op_isN (pv 12) pe_non (nomark _)) (pw_and1 (pt_cmpR op_lt (pe_callB call_len_seq (by rfl) T.b_len (by decide +kernel) (pa_cons (pv 7) pa_nil)) (pe_callB call_len_seq (by rfl) T.b_len (by decide +kernel) (pa_cons (pv 3) pa_nil)) (nomark _))))) (pss_one (ps_ret pe_bl)) pss_nil))))))
      (pss_cons (ps_set (i := 8) sc_law.nd rfl (by first | exact Or.inl rfl | exact Or.inr rfl) (pe_lst (pa_cons (pe_callTy call_list_of (by rfl) T.b_list (by decide +kernel) (pa_cons (pv 3) pa_nil)) (pa_cons pe_non (pa_cons (pe_revT (pv 3)) (pa_cons (pe_op op_catA (pv 3) (pe_slice sl_tupA (pv 3) (po_some (pe_un un_neg pe_int)) po_none)) (pa_cons (pe_op op_catA (pe_tup (pa_cons (pe_op op_repA (pe_tup (pa_cons (pv 10) pa_nil)) (pv 11)) pa_nil)) (pv 3)) (pa_cons (pe_op op_catA (pv 3) (pe_tup (pa_cons (pe_op op_repA (pe_tup (pa_cons (pv 10) pa_nil)) (pv 11)) pa_nil))) (pa_cons (pe_op op_catA (pv 3) (pe_tup (pa_cons pe_non pa_nil))) (pa_cons (pe_callTy call_tuple_of (by rfl) T.b_tuple (by decide +kernel) (pa_cons (pe_lc (own := [("point", 13)]) (g := (gName 13)) (tt := tYes) rfl sc_law.nd (pi_tup (pv 3)) (blkOk_by (N := N_law) (sc := defScope s_law) (own := [("point", 13)]) (by decide +kernel)) (fun _ _ _ _ _ => (pg_name (i := 13) sc_law.nd rfl (by first | exact Or.inl rfl | exact Or.inr rfl))) (fun _ _ _ _ _ => pts_nil) (fun _ _ _ _ _ => (pe_callTy call_list_of (by rfl) T.b_list (by decide +kernel) (pa_cons (pv 13) pa_nil)))) pa_nil)) (pa_cons (pe_tup (pa_cons (pv 3) pa_nil)) pa_nil)))))))))))
      (pss_cons (ps_if (pt_cmpR op_notBl (pe_cX0 T.d_is_meeting hr (by first | decide | omega) (by rfl) (pa_cons (pv 10) (pa_cons (pv 11) (pa_cons (C8.pe_c T.d_law_of hr (by first | decide | omega) (by rfl) (pa_cons (pv 1) (pa_cons (pv 8) pa_nil))) pa_nil)))) pe_bl (nomark _)) (pss_one (ps_ret pe_bl)) pss_nil)
      (pss_cons (ps_set (i := 9) sc_law.nd rfl (by first | exact Or.inl rfl | exact Or.inr rfl) (pe_lst (pa_cons (pe_ref (k := 5) (q := qLam) T.r_ref sc_law_refused rfl rfl (by rfl) (by rfl) T.tab (by rfl) (by rfl) hr (by decide) (by rfl) (LamX.lamS_by (sc := defScope s_law) (by decide +kernel)) (by rfl) (fun _ _ _ _ _ => by rfl) (fun A outer s H E f d hr => pe_cX T.d_least_meeting hr (by first | decide | omega) (by rfl) (takes_of rfl rfl rfl rfl) (pa_cons pe_int (pa_cons pe_int pa_nil)))) pa_nil)))
      (pss_cons (ps_expr (pe_bm PySem.F.plainAttrs_list PySem.F.slot_list_append PySem.F.type_list_append mt_append (pv 9) (pa_cons (pe_ref (k := 5) (q := qLam) T.r_ref sc_law_refused rfl rfl (by rfl) (by rfl) T.tab (by rfl) (by rfl) hr (by decide) (by rfl) (LamX.lamS_by (sc := defScope s_law) (by decide +kernel)) (by rfl) (fun _ _ _ _ _ => by rfl) (fun A outer s H E f d hr => pe_cX T.d_missed_plane hr (by first | decide | omega) (by rfl) (takes_of rfl rfl rfl rfl) (pa_cons pe_int (pa_cons pe_int (pa_cons (pe_tup pa_nil) pa_nil))))) pa_nil)))
      (pss_one (ps_ret (pe_cmpR (op_eqD hr.units) (pe_op op_catL (pv 9) (pe_lst (pa_cons (pe_ref (k := 5) (q := qLam) T.r_ref sc_law_refused rfl rfl (by rfl) (by rfl) T.tab (by rfl) (by rfl) hr (by decide) (by rfl) (LamX.lamS_by (sc := defScope s_law) (by decide +kernel)) (by rfl) (fun _ _ _ _ _ => by rfl) (fun A outer s H E f d hr => pe_cX T.d_is_meeting hr (by first | decide | omega) (by rfl) (takes_of rfl rfl rfl rfl) (pa_cons pe_int (pa_cons pe_int (pa_cons pe_non pa_nil))))) pa_nil))) (pe_op op_rep (pe_lst (pa_cons (pe_lst (pa_cons pe_int pa_nil)) pa_nil)) pe_int) (nomark _)))))))))))))))))), (ss_cons (ss_mk (i := 1) (sa_cons (se_var 0) (sa_cons se_c sa_nil)))
      (ss_cons (ss_asg (se_callW (i := 1) g_of_mono (sa_cons (se_sh (sf_lst (sa_cons (se_tup (sa_cons se_c (sa_cons se_c sa_nil))) (sa_cons (se_tup (sa_cons se_c (sa_cons se_c sa_nil))) (sa_cons (se_tup (sa_cons se_c (sa_cons se_c sa_nil))) (sa_cons (se_tup (sa_cons se_c (sa_cons se_c sa_nil))) (sa_cons (se_tup (sa_cons se_c (sa_cons se_c sa_nil))) (sa_cons (se_tup (sa_cons se_c (sa_cons se_c sa_nil))) (sa_cons (se_tup (sa_cons se_c (sa_cons se_c sa_nil))) (sa_cons (se_tup (sa_cons se_c (sa_cons se_c sa_nil))) (sa_cons (se_tup (sa_cons se_c (sa_cons se_c sa_nil))) (sa_cons (se_tup (sa_cons se_c (sa_cons se_c sa_nil))) (sa_cons (se_tup (sa_cons se_c (sa_cons se_c sa_nil))) (sa_cons (se_tup (sa_cons se_c (sa_cons se_c sa_nil))) (sa_cons (se_tup (sa_cons se_c (sa_cons se_c sa_nil))) sa_nil))))))))))))))) sa_nil)) (sg_tup (sgs_cons (sg_name 10) (sgs_cons (sg_name 11) sgs_nil))))
      (ss_cons (ss_asg (se_call g_law_choices_mono (sa_cons (se_sh (sf_repN (se_sh (sf_lst (sa_cons (se_sh (sf_rg1 (se_var 10))) sa_nil))) (se_var 11))) sa_nil)) (sg_name 2))
      (ss_cons (ss_asg (se_cb sc_tuple (sa_cons (se_sh (sf_lc (js := [13]) (si_list (se_var 2)) (sg_name 13) (st_test (se_op so_rI0 (se_cb sc_len (sa_cons (se_sh (sf_lc (js := [14]) (si_tup (se_var 13)) (sg_name 14) (st_test (se_op so_rI0 (se_var 14) se_c)) (se_var 14))) sa_nil)) se_c)) (se_var 13))) sa_nil)) (sg_name 3))
      (ss_cons (ss_if (st_or (st_test (se_op so_neS (se_cb sc_reprD (sa_cons (se_callR g_least_meeting_mono (sa_cons (se_var 10) (sa_cons (se_var 11) sa_nil))) sa_nil)) (se_cb sc_reprD (sa_cons (se_var 3) sa_nil)))) (st_or (st_test (se_op so_neS (se_cb sc_reprD (sa_cons (se_callRK g_least_meeting_mono sa_nil (sa_cons (se_var 11) (sa_cons (se_var 10) sa_nil))) sa_nil)) (se_cb sc_reprD (sa_cons (se_var 3) sa_nil)))) (st_test (se_op so_neD (se_cb sc_len (sa_cons (se_var 3) sa_nil)) (se_op so_rI0 (se_op so_rI (se_var 11) (se_op so_rI0 (se_var 10) se_c)) se_c))))) (ss_ret se_c) ss_nil)
      (ss_cons (ss_asg (se_callW (i := 1) g_any_mono (sa_cons (se_cb sc_len (sa_cons (se_var 3) sa_nil)) sa_nil)) (sg_name 4))
      (ss_cons (ss_asg (se_op so_catT (se_slT (se_var 3) sop_none (sop_some (se_var 4))) (se_slT (se_var 3) (sop_some (se_op so_rI0 (se_var 4) se_c)) sop_none)) (sg_name 5))
      (ss_cons (ss_asg (se_sh (sf_lst (sa_cons (se_var 3) (sa_cons (se_var 5) (sa_cons (se_cb sc_tuple (sa_cons (se_sh (sf_sortSetT (se_op so_catT (se_var 5) (se_tup (sa_cons (se_callW (i := 1) g_of_mono (sa_cons (se_var 2) sa_nil)) sa_nil))))) sa_nil)) (sa_cons (se_cb sc_tuple (sa_cons (se_sh (sf_cb scf_sortD (sa_cons (se_sh (sf_slL (se_callW (i := 1) g_mixD_mono (sa_cons (se_var 2) sa_nil)) sop_none (sop_some (se_op so_rI0 (se_cb sc_len (sa_cons (se_var 3) sa_nil)) se_c)))) sa_nil))) sa_nil)) sa_nil)))))) (sg_name 6))
      (ss_cons (ss_asg (se_sh (sf_catL (se_var 6) (se_sh (sf_lst (sa_cons (se_cb sc_tuple (sa_cons (se_sh (sf_cb scf_sortD (sa_cons (se_sh (sf_slL (se_callW (i := 1) g_mixD_mono (sa_cons (se_var 2) sa_nil)) sop_none (sop_some (se_callW (i := 1) g_any_mono (sa_cons (se_op so_rI0 (se_cb sc_len (sa_cons (se_var 2) sa_nil)) se_c) sa_nil))))) sa_nil))) sa_nil)) (sa_cons (se_tup sa_nil) sa_nil)))))) (sg_name 6))
      (ss_cons (ss_for (si_list (se_var 6)) (sg_name 7) (ss_cons (ss_asg (se_call g_law_missed_mono (sa_cons (se_var 10) (sa_cons (se_var 11) (sa_cons (se_var 7) sa_nil)))) (sg_name 12))
      (ss_cons (ss_if (st_or (st_test (se_op so_neS (se_cb sc_reprD (sa_cons (se_callR g_missed_plane_mono (sa_cons (se_var 10) (sa_cons (se_var 11) (sa_cons (se_var 7) sa_nil)))) sa_nil)) (se_cb sc_reprD (sa_cons (se_var 12) sa_nil)))) (st_test (se_op so_neS (se_cb sc_reprD (sa_cons (se_callRK g_missed_plane_mono sa_nil (sa_cons (se_var 7) (sa_cons (se_var 11) (sa_cons (se_var 10) sa_nil)))) sa_nil)) (se_cb sc_reprD (sa_cons (se_var 12) sa_nil))))) (ss_ret se_c) ss_nil)
      (ss_cons (ss_if (st_or (st_test (se_op so_neS (se_cb sc_reprD (sa_cons (se_callR g_is_meeting_mono (sa_cons (se_var 10) (sa_cons (se_var 11) (sa_cons (se_var 7) sa_nil)))) sa_nil)) (se_cb sc_reprD (sa_cons (se_op so_isN (se_var 12) se_c) sa_nil)))) (st_test (se_op so_neS (se_cb sc_reprD (sa_cons (se_callRK g_is_meeting_mono sa_nil (sa_cons (se_var 7) (sa_cons (se_var 11) (sa_cons (se_var 10) sa_nil)))) sa_nil)) (se_cb sc_reprD (sa_cons (se_op so_isN (se_var 12) se_c) sa_nil))))) (ss_ret se_c) ss_nil)
      (ss_if (st_and (st_test (se_op so_isN (se_var 12) se_c)) (st_test (se_op so_rI0 (se_cb sc_len (sa_cons (se_var 7) sa_nil)) (se_cb sc_len (sa_cons (se_var 3) sa_nil))))) (ss_ret se_c) ss_nil)))))
      (ss_cons (ss_asg (se_sh (sf_lst (sa_cons (se_sh (sf_cb scf_list (sa_cons (se_var 3) sa_nil))) (sa_cons se_c (sa_cons (se_revT (se_var 3)) (sa_cons (se_op so_catT (se_var 3) (se_slT (se_var 3) (sop_some (se_un su_rU se_c)) sop_none)) (sa_cons (se_op so_catT (se_tup (sa_cons (se_op so_repA (se_tup (sa_cons (se_var 10) sa_nil)) (se_var 11)) sa_nil)) (se_var 3)) (sa_cons (se_op so_catT (se_var 3) (se_tup (sa_cons (se_op so_repA (se_tup (sa_cons (se_var 10) sa_nil)) (se_var 11)) sa_nil))) (sa_cons (se_op so_catT (se_var 3) (se_tup (sa_cons se_c sa_nil))) (sa_cons (se_cb sc_tuple (sa_cons (se_sh (sf_lc (js := [13]) (si_tup (se_var 3)) (sg_name 13) st_yes (se_sh (sf_cb scf_list (sa_cons (se_var 13) sa_nil))))) sa_nil)) (sa_cons (se_tup (sa_cons (se_var 3) sa_nil)) sa_nil))))))))))) (sg_name 8))
      (ss_cons (ss_if (st_test (se_op so_notB (se_callR g_is_meeting_mono (sa_cons (se_var 10) (sa_cons (se_var 11) (sa_cons (se_callW (i := 1) g_of_mono (sa_cons (se_var 8) sa_nil)) sa_nil)))) se_c)) (ss_ret se_c) ss_nil)
      (ss_cons (ss_own (i := 9) (sf_lst (sa_cons (se_lam 15 (sy_call g_least_meeting_mono (sa_cons se_c (sa_cons se_c sa_nil)))) sa_nil)))
      (ss_cons (ss_app 9 (se_lam 15 (sy_call g_missed_plane_mono (sa_cons se_c (sa_cons se_c (sa_cons (se_tup sa_nil) sa_nil))))))
      (ss_frz 9 (ss_ret (se_op so_eqD (se_sh (sf_catL (se_var 9) (se_sh (sf_lst (sa_cons (se_lam 15 (sy_call g_is_meeting_mono (sa_cons se_c (sa_cons se_c (sa_cons se_c sa_nil))))) sa_nil))))) (se_sh (sf_repL (k := 3) (by decide) (by decide) (sf_lst (sa_cons (se_sh (sf_lst (sa_cons se_c sa_nil))) sa_nil))))))))))))))))))))), fun ns hl => ?_⟩)
  generalize hS : PyData.list (ns.map PyData.int) = S
  change dSeq _ _ _ [.sh S, .no, .no, .no, .no, .no, .no, .no, .no, .no, .no, .no, .no, .no, .no, .tab tt qLam]
  trivial
  refine ⟨⟨ns, 28, by rw [← hS], hl, by decide, by decide⟩, fun a l => ?_⟩
  trivial
  refine ⟨_, rfl, List.cons_ne_nil _ _, by simp, fun d hd => ?_⟩
  obtain ⟨p, n, hpn, rfl⟩ : ∃ (p : Int) (n : Nat), (p, n) ∈ pnL ∧ d = .tuple [.int p, .int (n : Int)] := by
    rcases List.mem_map.mp (show d ∈ pnL.map fun q : Int × Nat => PyData.tuple [.int q.1, .int (q.2 : Int)] from hd) with ⟨q, hq, rfl⟩
    exact ⟨q.1, q.2, hq, rfl⟩
  obtain ⟨d1, d2, d3, d4, d5, d6⟩ := pn_dir _ hpn
  simp only at d1 d2 d3 d4 d5 d6
  have dok : DirOk p.toNat n := ⟨by omega, d2, d3, d4, d5⟩
  trivial
  have el : ∀ s ∈ evF p n, s.length = n ∧ ∀ x ∈ s, 0 ≤ x ∧ x < p := fun s hs => ev_mem (by omega) hs
  have ec : (evF p n).length = p.toNat ^ n := by rw [← ev_cnt p n, ← chL_len]; rfl
  refine ⟨.of_le (by decide) (by omega) (by decide) (by omega), ?_⟩
  trivial
  refine ⟨_, _, rfl, rfl, by omega, by omega, by show 1 * ((n : Nat) : Int).toNat ≤ sizeLine; rw [sizeLine_eq]; omega, ?_⟩
  trivial
  have ecn := ev_cnt p n
  refine ⟨List.replicate n (rngI 0 p.toNat), fun r => .list (r.map PyData.int), _, rfl, fun r => .inl rfl, .inl ?_, fun r hr z => ?_, by rw [List.length_replicate]; omega, by omega, ?_⟩
  · rw [rngD_I, Int.toNat_natCast, List.map_replicate, flat_rep]
  · have := rngI_len 0 p.toNat
    rw [← List.eq_of_mem_replicate hr, z] at this
    simp only [List.length_nil] at this
    omega
  change dgName 2 (PyData.list ((evF p n).map tupK)) _ _
  trivial
  refine ⟨by rw [List.length_map, ec, sizeLine_eq]; omega, ?_⟩
  trivial
  refine compW_fil tupK tupK (fun s => decide ((s.filter fun x => decide (0 < x)).length < 2)) (fun s hs k hk => ?_) ?_
  · have sl := (el s hs).1
    trivial
    refine ⟨by rw [List.length_map, sizeLine_eq]; omega, ?_⟩
    trivial
    refine compW_fil PyData.int PyData.int (fun x => decide (0 < x)) (fun x hx k2 hk2 => ?_) ?_
    · trivial
      refine s_ifd (fun h => ?_) (fun h => ?_)
      · rw [decide_eq_true h] at hk2
        trivial
        exact hk2 _ rfl
      · rw [decide_eq_false h] at hk2
        trivial
        exact hk2 _ rfl
    · trivial
      rw [List.length_map]
      refine s_ifd (fun h => ?_) (fun h => ?_)
      · rw [decide_eq_true (by omega)] at hk
        trivial
        exact hk _ rfl
      · rw [decide_eq_false (by omega)] at hk
        trivial
        exact hk _ rfl
  trivial
  have hdf : (evF p n).filter (fun s => decide ((s.filter fun x => decide (0 < x)).length < 2)) = dueF p n := rfl
  rw [hdf]
  obtain ⟨hperm, hlen⟩ := pn_due _ hpn
  obtain ⟨dl1, dl2, dl3⟩ := pn_len _ hpn
  simp only at hperm hlen dl1 dl2 dl3
  have hup := due_up d1 n
  have hsub : ∀ s ∈ dueF p n, s ∈ evF p n := fun s hs => (List.mem_filter.mp hs).1
  have lm : ∀ (Q : D → Prop) (E : Addr → D → Prop), Q (.tuple ((dueF p n).map tupK)) → g_least_meeting C [.int p, .int (n : Int)] Q E := fun Q E hq => ⟨p, n, rfl, ⟨by omega, by omega, by omega⟩, fun _ => dok, by rw [if_neg (by omega), sortL_eq hperm hup]; exact hq⟩
  refine lm _ _ ?_
  generalize dueF p n = due at hperm hlen dl1 dl2 dl3 hup hsub lm ⊢
  have rd : RepOk (.tuple (due.map tupK)) := rep_rows (M := 1000) (m := 5) (by decide) (fun s hs => ⟨by rw [(el s (hsub s hs)).1]; omega, fun x hx => by have := (el s (hsub s hs)).2 x hx; omega⟩) (by omega)
  trivial
  refine s_repr rd ?_
  trivial
  refine s_repr rd ?_
  trivial
  refine lm _ _ ?_
  trivial
  refine s_repr rd ?_
  trivial
  refine s_repr rd ?_
  trivial
  refine s_mul (wide_s (by omega) (by omega)) ?_
  trivial
  rw [List.length_map, dl3]
  refine ifF (by simp) ?_
  trivial
  refine ⟨_, rfl, by rw [List.length_map]; omega, Nat.lt_trans (PySem.Flt.log2_lt_of (k := 20) (by decide) (by rw [List.length_map]; omega)) (by decide), fun at_ at0 at1 => ?_⟩
  obtain ⟨k, rfl⟩ : ∃ k : Nat, at_ = (k : Int) := ⟨at_.toNat, by omega⟩
  rw [List.length_map] at at1
  have a1 : (due.take k).length ≤ 16 := by rw [List.length_take]; omega
  have a2 : (due.drop (k + 1)).length ≤ 16 := by rw [List.length_drop]; omega
  trivial
  rw [show ((k : Int) + 1) = ((k + 1 : Nat) : Int) from rfl, cutD_to, cutD_from, ← List.map_take, ← List.map_drop]
  refine s_catT (by rw [List.length_map, List.length_map, sizeLine_eq]; omega) ?_
  rw [← List.map_append]
  have aup : (due.take k ++ due.drop (k + 1)).Pairwise (· < ·) := by
    refine hup.sublist ?_
    have := (List.drop_sublist_drop_left due (Nat.le_succ k))
    exact (List.Sublist.append (List.Sublist.refl _) this).trans (by rw [List.take_append_drop]; exact List.Sublist.refl _)
  have asub : ∀ s ∈ due.take k ++ due.drop (k + 1), s ∈ evF p n := fun s hs => by
    rcases List.mem_append.mp hs with h | h
    · exact hsub s (List.mem_of_mem_take h)
    · exact hsub s (List.mem_of_mem_drop h)
  have alen : (due.take k ++ due.drop (k + 1)).length ≤ 32 := by rw [List.length_append]; omega
  generalize due.take k ++ due.drop (k + 1) = away at aup asub alen ⊢
  trivial
  have ene : (evF p n).map tupK ≠ [] := fun z => by
    have := congrArg List.length z
    rw [List.length_map, List.length_nil] at this
    have h2 := hsub
    cases due with
    | nil => simp only [List.length_nil] at dl2; omega
    | cons s due =>
      have := List.length_pos_of_mem (hsub s List.mem_cons_self)
      omega
  refine ⟨_, rfl, ene, by rw [List.length_map]; omega, fun d hd => ?_⟩
  obtain ⟨e0, he0, rfl⟩ := List.mem_map.mp hd
  trivial
  have ksub : ∀ s ∈ away ++ [e0], s ∈ evF p n := fun s hs => by
    rcases List.mem_append.mp hs with h | h
    · exact asub s h
    · rw [List.mem_singleton.mp h]; exact he0
  refine ⟨away ++ [e0], n, p, by rw [List.map_append]; rfl, by rw [List.length_append]; show _ + 1 < 64; omega, d3, fun s hs => ⟨(el s (ksub s hs)).1, fun x hx => (el s (ksub s hs)).2 x hx⟩, fun ms hms hmem => ?_⟩
  have msub : ∀ s ∈ ms, s ∈ evF p n := fun s hs => ksub s ((hmem s).mp hs)
  have eup := ev_up d1 n
  have le_ev : ∀ {ps : List (List Int)}, ps.Pairwise (· < ·) → (∀ s ∈ ps, s ∈ evF p n) → ps.length ≤ 1000 := fun {ps} h1 h2 => by
    have := sub_len (lt_nodup h1) h2
    omega
  have mlen := le_ev hms msub
  trivial
  have mix : ∀ Q : D → Prop, (∀ ys : List (List Int), ys.Perm (evF p n) → Q (.list (ys.map tupK))) → g_mixD [.list ((evF p n).map tupK)] Q := fun Q hQ => by
    refine ⟨_, 1000, _, 1, rfl, ntL_rows (m := 5) fun s hs => ⟨by rw [(el s hs).1]; exact d4, fun x hx => by have := (el s hs).2 x hx; omega⟩, by decide, by decide, by rw [List.length_map]; omega, fun fs hfs => ?_⟩
    obtain ⟨ys, rfl, hys⟩ := perm_map lstOf lstOf_tupK hfs
    exact hQ ys hys
  refine mix _ fun ys hys => ?_
  trivial
  have enil : ∀ s ∈ evF p n, s ≠ [] := fun s hs z => by
    have := (el s hs).1
    rw [z] at this
    simp only [List.length_nil] at this
    omega
  have srt : ∀ (ys : List (List Int)) (m : Nat) (Q : List D → Prop), ys.Perm (evF p n) → (∀ ps, PtsOk p n ps → Q (ps.map tupK)) → cSortD [.list ((ys.map tupK).take m)] Q := fun ys m Q hys hQ => by
    have ysub : ∀ s ∈ ys.take m, s ∈ evF p n := fun s hs => hys.mem_iff.mp (List.mem_of_mem_take hs)
    have nd : (ys.take m).Nodup := (hys.nodup_iff.mpr (lt_nodup eup)).sublist (List.take_sublist _ _)
    rw [← List.map_take]
    obtain ⟨k1, k2⟩ := keys_ok fun s hs => enil s (ysub s hs)
    refine ⟨_, rfl, k1, k2, depth_le2 fun d hd => ?_, ?_⟩
    · obtain ⟨s, _, rfl⟩ := List.mem_map.mp hd
      show (PyData.tuple (s.map PyData.int)).depth ≤ 50
      rw [PyData.depth, depth_ints]
      decide
    rw [sort_tupK]
    have s1 : ∀ s ∈ (ys.take m).mergeSort leL, s ∈ evF p n := fun s hs => ysub s ((List.mergeSort_perm _ _).mem_iff.mp hs)
    have s2 := sortL_strict nd
    exact hQ _ ⟨s2, s1, le_ev s2 s1⟩
  rw [show ((due.map tupK).length : Int) - 1 = ((due.length - 1 : Nat) : Int) from by rw [List.length_map]; omega, cutD_to]
  refine srt ys _ _ hys fun p1 hp1 => ?_
  trivial
  refine mix _ fun ys2 hys2 => ?_
  trivial
  refine ⟨_, rfl, by omega, Nat.lt_trans (PySem.Flt.log2_lt_of (k := 20) (by decide) (by rw [List.length_map]; omega)) (by decide), fun cu cu0 cu1 => ?_⟩
  obtain ⟨cn, rfl⟩ : ∃ cn : Nat, cu = (cn : Int) := ⟨cu.toNat, by omega⟩
  trivial
  rw [cutD_to]
  refine srt ys2 _ _ hys2 fun p2 hp2 => ?_
  trivial
  generalize hL : ([PyData.tuple (due.map tupK), .tuple (away.map tupK), .tuple (ms.map tupK), .tuple (p1.map tupK)] ++ [PyData.tuple (p2.map tupK), .tuple []] : List D) = L
  have hsome : ∀ d ∈ L, ∃ ps : List (List Int), d = .tuple (ps.map tupK) ∧ PtsOk p n ps := by
    rw [← hL]
    intro d hd
    rcases List.mem_cons.mp hd with rfl | hd
    · exact ⟨_, rfl, hup, hsub, le_ev hup hsub⟩
    rcases List.mem_cons.mp hd with rfl | hd
    · exact ⟨_, rfl, aup, asub, le_ev aup asub⟩
    rcases List.mem_cons.mp hd with rfl | hd
    · exact ⟨_, rfl, hms, msub, mlen⟩
    rcases List.mem_cons.mp hd with rfl | hd
    · exact ⟨_, rfl, hp1⟩
    rcases List.mem_cons.mp hd with rfl | hd
    · exact ⟨_, rfl, hp2⟩
    rw [List.mem_singleton.mp hd]
    exact ⟨[], rfl, .nil, fun s hs => (by cases hs), Nat.zero_le _⟩
  refine ⟨fun j r => ∃ x7 x12 : DV, r = [.sh S, .dl a l, .sh (.list ((evF p n).map tupK)), .sh (.tuple (due.map tupK)), .sh (.int (k : Int)), .sh (.tuple (away.map tupK)), .sh (.list L), x7, .no, .no, .sh (.int p), .sh (.int (n : Int)), x12, .no, .no, .tab tt qLam], ⟨_, _, rfl⟩, fun j d r hd hI => ?_, fun r hI => ?_⟩
  · obtain ⟨x7, x12, rfl⟩ := hI
    obtain ⟨ps, rfl, ok⟩ := hsome d (List.mem_of_getElem? hd)
    have pb : ∀ s ∈ ps, s.length = n ∧ ∀ x ∈ s, x.natAbs ≤ 1000 := fun s hs => ⟨(el s (ok.sub s hs)).1, fun x hx => by have := (el s (ok.sub s hs)).2 x hx; omega⟩
    have pl := ok.few
    have rl := rep_lawM (p := p) (n := n) (by omega) d2 d4 ps
    have mp : ∀ (Q : D → Prop) (E : Addr → D → Prop), Q (lawM p n ps) → g_missed_plane C [.int p, .int (n : Int), .tuple (ps.map tupK)] Q E := fun Q E hq => ⟨p, n, ps, rfl, ⟨by omega, by omega, by omega⟩, fun _ => dok, pl, fun s hs x hx => by have := (pb s hs).2 x hx; omega, by rw [if_neg (by omega), missed_eq hpn]; exact hq⟩
    have im : ∀ (Q : D → Prop) (E : Addr → D → Prop), Q (.bool (isNoneD (lawM p n ps))) → g_is_meeting C [.int p, .int (n : Int), .tuple (ps.map tupK)] Q E := fun Q E hq => by
      refine ⟨p, n, _, rfl, ⟨by omega, by omega, by omega⟩, fun _ => dok, fun es z => ?_, ?_⟩
      · obtain rfl := PyData.tuple.inj z
        refine ⟨by rw [List.length_map]; exact pl, fun e he => ?_⟩
        obtain ⟨s, hs, rfl⟩ := List.mem_map.mp he
        show (s.map PyData.int).length ≤ 100000
        rw [List.length_map, (pb s hs).1]
        omega
      · rw [if_neg (by omega), meet_eq hpn ok]
        exact hq
    have fm := few_missed hpn (pts := ps) (fun s hs => (pb s hs).1)
    trivial
    refine ⟨p, n, ps, rfl, dok, pl, pb, ?_⟩
    trivial
    refine mp _ _ ?_
    generalize lawM p n ps = first at rl mp im fm ⊢
    trivial
    refine s_repr rl ?_
    trivial
    refine s_repr rl ?_
    trivial
    refine mp _ _ ?_
    trivial
    refine s_repr rl ?_
    trivial
    refine s_repr rl ?_
    trivial
    refine im _ _ ?_
    trivial
    refine s_repr rep_bool ?_
    trivial
    refine s_repr rep_bool ?_
    trivial
    refine im _ _ ?_
    trivial
    refine s_repr rep_bool ?_
    trivial
    refine s_repr rep_bool ?_
    trivial
    cases hb : isNoneD first with
    | false =>
      trivial
      exact ⟨_, _, rfl⟩
    | true =>
      trivial
      refine s_ifd (fun h => ?_) (fun h => ?_)
      · exfalso
        rw [List.length_map, List.length_map] at h
        refine fm (by omega) ?_
        cases first with
        | none => rfl
        | _ => cases hb
      · trivial
        exact ⟨_, _, rfl⟩
  obtain ⟨x7, x12, rfl⟩ := hI
  trivial
  rw [cutD_last (by rw [List.length_map]; omega), List.length_map, ← List.map_drop, ← List.map_reverse]
  refine s_catT (by rw [List.length_map, List.length_map, List.length_drop, sizeLine_eq]; omega) ?_
  rw [← List.map_append]
  trivial
  rw [rep_tupK]
  refine ⟨by rw [List.length_map, sizeLine_eq]; omega, ?_⟩
  trivial
  refine compW_all tupK (fun s => PyData.list (s.map PyData.int)) (fun s hs k2 hk2 => ?_) ?_
  · trivial
    exact hk2 _ rfl
  trivial
  have odd := odd_m hpn hup hsub dl1 dl2
  rw [show (due ++ [List.replicate n p]).map tupK = due.map tupK ++ [tupK (List.replicate n p)] from List.map_append] at odd
  refine ⟨_, rfl, List.cons_ne_nil _ _, by simp, fun d hd => ?_⟩
  have od := odd d hd
  trivial
  refine ⟨p, n, d, rfl, ⟨by omega, by omega, by omega⟩, fun _ => dok, od.l, ?_⟩
  rw [if_neg (by omega), od.c]
  trivial
  refine s_lam rfl (s_callY ?_)
  trivial
  have big : 1000 < (101 : Int).toNat ^ 2 := by decide
  have bv : (((101 : Int).toNat ^ 2 : Nat) : Int) = 10201 := by decide
  refine ⟨101, 2, rfl, by decide, fun z => absurd z (by decide), ?_⟩
  rw [if_pos big, bv]
  refine ⟨rfl, ?_⟩
  trivial
  dsimp only [List.set_cons_succ, List.set_cons_zero]
  refine s_lam rfl (s_callY ?_)
  trivial
  refine ⟨101, 2, [], rfl, by decide, fun z => absurd z (by decide), Nat.zero_le _, fun s hs => (by cases hs), ?_⟩
  rw [if_pos big, bv]
  refine ⟨rfl, ?_⟩
  trivial
  dsimp only [List.set_cons_succ, List.set_cons_zero]
  refine s_lam rfl (s_callY ?_)
  trivial
  refine ⟨101, 2, .none, rfl, by decide, fun z => absurd z (by decide), fun es z => (by cases z), ?_⟩
  rw [if_pos big, bv]
  refine ⟨rfl, ?_⟩
  trivial
  refine s_eqSame (M := 10201) (k := 2) (d := .list [.list [.int 10201], .list [.int 10201], .list [.int 10201]]) (sm_lst fun d hd => ?_) (by decide) (by decide) ?_
  · have : d = .list [.int 10201] := List.eq_of_mem_replicate (n := 3) hd
    rw [this]
    refine sm_lst fun d hd => ?_
    rw [List.mem_singleton.mp hd]
    exact sm_int (by decide)
  rfl

end
/-! ### what the top has written; the end -/
theorem exm_same {K : PySem.W.Frag} {C : Addr} (h1 : PySem.W.subIn K (.ref C) (.type "BaseException") = some true) (h2 : PySem.W.isClsIn K C = true) (h3 : PySem.W.typeIn K (.ref C) = some (.type "type")) (h4 : PySem.W.subIn K (.ref C) (.ref C) = some true) : PySem.W.exmOne K (.ref C) (.ref C) = some true := by
  unfold PySem.W.exmOne PySem.W.kitCls
  rw [h1]
  show (if ((PySem.W.clsIn K C).isSome && PySem.W.typeIn K (.ref C) == some (.type "type")) = true then PySem.W.subIn K (.ref C) (.ref C) else none) = some true
  rw [h3, h4, show (PySem.W.clsIn K C).isSome = true from h2]
  rfl
set_option maxHeartbeats 8000000 in
theorem all_mk {l : PySem.W.OpenLaw} {w : World} {K : PySem.W.Frag} {h : Heap} {mg : Str → Option Value} {fa f0 f1 f2 f3 f4 f5 f6 f7 f8 f9 f10 f11 f12 f13 f14 f15 f16 f17 f18 f19 f20 f21 f22 : Addr} (X : K.In h) (G : h.Ns mainGlobals mg) (hfa : mg "law" = some (.ref fa))
    {od0 an0 od1 an1 od2 an2 od3 an3 od4 an4 od5 an5 od6 an6 od7 an7 od8 an8 od9 an9 od10 an10 od11 an11 od12 an12 od13 an13 od14 an14 od15 an15 od16 an16 od17 an17 od18 an18 od19 an19 od20 an20 od21 an21 od22 an22 : Option Addr} {sl0 sl1 sl2 sl3 sl4 sl5 sl6 sl7 sl8 sl9 sl10 sl11 sl12 sl13 sl14 sl15 sl16 sl17 sl18 sl19 sl20 sl21 sl22 : Array (Option Value)} {oc0 kV0 dc0 pm0 cd0 ct0 oc1 kV1 dc1 pm1 cd1 ct1 oc2 kV2 dc2 pm2 cd2 ct2 oc3 kV3 dc3 pm3 cd3 ct3 oc4 kV4 dc4 pm4 cd4 ct4 oc5 kV5 dc5 pm5 cd5 ct5 oc6 kV6 dc6 pm6 cd6 ct6 oc7 kV7 dc7 pm7 cd7 ct7 oc8 kV8 dc8 pm8 cd8 ct8 oc9 kV9 dc9 pm9 cd9 ct9 oc10 kV10 dc10 pm10 cd10 ct10 oc11 kV11 dc11 pm11 cd11 ct11 oc12 kV12 dc12 pm12 cd12 ct12 oc13 kV13 dc13 pm13 cd13 ct13 oc14 kV14 dc14 pm14 cd14 ct14 oc15 kV15 dc15 pm15 cd15 ct15 oc16 kV16 dc16 pm16 cd16 ct16 oc17 kV17 dc17 pm17 cd17 ct17 oc18 kV18 dc18 pm18 cd18 ct18 oc19 kV19 dc19 pm19 cd19 ct19 oc20 kV20 dc20 pm20 cd20 ct20 oc21 kV21 dc21 pm21 cd21 ct21 oc22 kV22 dc22 pm22 ct22 : Value} {t_MOST_POINTS : Tok}
    {cc tt : Addr}
    {Cb : Addr} {C_Refused fI_Refused N_Refused : Addr} {nm_Refused qq_Refused : Str} {bs_Refused sub_Refused : List Value} {sn_Refused : List Str} {ab_Refused : Bool} {col_Refused : Option Bool} {dd_Refused : Option Addr} {u0_Refused u1_Refused u2_Refused u3_Refused u5_Refused : Option Value} {oc_Refused kV_Refused dc_Refused pm_Refused cd_Refused ct_Refused : Value} {od_Refused an_Refused : Option Addr} {sl_Refused : Array (Option Value)}
    (a0 : PySem.W.nsIn K mainGlobals "is_integer" = some (some (.ref f0))) (l0 : K.lookup f0 = some ⟨oc0, od0, .func (PySem.W.fnOf "is_integer" "is_integer" (defArgs s_is_integer) (defBody s_is_integer) (defScope s_is_integer) .none kV0 dc0 pm0 an0 cd0 ct0), sl0⟩) (c0 : PySem.W.codeIn K cd0 "is_integer" = true) (k0 : PySem.W.keepIn K (.ref f0) = true)
    (a1 : PySem.W.nsIn K mainGlobals "is_element" = some (some (.ref f1))) (l1 : K.lookup f1 = some ⟨oc1, od1, .func (PySem.W.fnOf "is_element" "is_element" (defArgs s_is_element) (defBody s_is_element) (defScope s_is_element) .none kV1 dc1 pm1 an1 cd1 ct1), sl1⟩) (c1 : PySem.W.codeIn K cd1 "is_element" = true) (k1 : PySem.W.keepIn K (.ref f1) = true)
    (a2 : PySem.W.nsIn K mainGlobals "are_elements" = some (some (.ref f2))) (l2 : K.lookup f2 = some ⟨oc2, od2, .func (PySem.W.fnOf "are_elements" "are_elements" (defArgs s_are_elements) (defBody s_are_elements) (defScope s_are_elements) .none kV2 dc2 pm2 an2 cd2 ct2), sl2⟩) (c2 : PySem.W.codeIn K cd2 "are_elements" = true) (k2 : PySem.W.keepIn K (.ref f2) = true)
    (a3 : PySem.W.nsIn K mainGlobals "is_ascending" = some (some (.ref f3))) (l3 : K.lookup f3 = some ⟨oc3, od3, .func (PySem.W.fnOf "is_ascending" "is_ascending" (defArgs s_is_ascending) (defBody s_is_ascending) (defScope s_is_ascending) .none kV3 dc3 pm3 an3 cd3 ct3), sl3⟩) (c3 : PySem.W.codeIn K cd3 "is_ascending" = true) (k3 : PySem.W.keepIn K (.ref f3) = true)
    (a4 : PySem.W.nsIn K mainGlobals "element" = some (some (.ref f4))) (l4 : K.lookup f4 = some ⟨oc4, od4, .func (PySem.W.fnOf "element" "element" (defArgs s_element) (defBody s_element) (defScope s_element) .none kV4 dc4 pm4 an4 cd4 ct4), sl4⟩) (c4 : PySem.W.codeIn K cd4 "element" = true) (k4 : PySem.W.keepIn K (.ref f4) = true)
    (a5 : PySem.W.nsIn K mainGlobals "product_of" = some (some (.ref f5))) (l5 : K.lookup f5 = some ⟨oc5, od5, .func (PySem.W.fnOf "product_of" "product_of" (defArgs s_product_of) (defBody s_product_of) (defScope s_product_of) .none kV5 dc5 pm5 an5 cd5 ct5), sl5⟩) (c5 : PySem.W.codeIn K cd5 "product_of" = true) (k5 : PySem.W.keepIn K (.ref f5) = true)
    (a6 : PySem.W.nsIn K mainGlobals "row_times" = some (some (.ref f6))) (l6 : K.lookup f6 = some ⟨oc6, od6, .func (PySem.W.fnOf "row_times" "row_times" (defArgs s_row_times) (defBody s_row_times) (defScope s_row_times) .none kV6 dc6 pm6 an6 cd6 ct6), sl6⟩) (c6 : PySem.W.codeIn K cd6 "row_times" = true) (k6 : PySem.W.keepIn K (.ref f6) = true)
    (a7 : PySem.W.nsIn K mainGlobals "only_at" = some (some (.ref f7))) (l7 : K.lookup f7 = some ⟨oc7, od7, .func (PySem.W.fnOf "only_at" "only_at" (defArgs s_only_at) (defBody s_only_at) (defScope s_only_at) .none kV7 dc7 pm7 an7 cd7 ct7), sl7⟩) (c7 : PySem.W.codeIn K cd7 "only_at" = true) (k7 : PySem.W.keepIn K (.ref f7) = true)
    (a8 : PySem.W.nsIn K mainGlobals "all_tuples" = some (some (.ref f8))) (l8 : K.lookup f8 = some ⟨oc8, od8, .func (PySem.W.fnOf "all_tuples" "all_tuples" (defArgs s_all_tuples) (defBody s_all_tuples) (defScope s_all_tuples) .none kV8 dc8 pm8 an8 cd8 ct8), sl8⟩) (c8 : PySem.W.codeIn K cd8 "all_tuples" = true) (k8 : PySem.W.keepIn K (.ref f8) = true)
    (a9 : PySem.W.nsIn K mainGlobals "_check_points" = some (some (.ref f9))) (l9 : K.lookup f9 = some ⟨oc9, od9, .func (PySem.W.fnOf "_check_points" "_check_points" (defArgs s_check_points) (defBody s_check_points) (defScope s_check_points) .none kV9 dc9 pm9 an9 cd9 ct9), sl9⟩) (c9 : PySem.W.codeIn K cd9 "_check_points" = true) (k9 : PySem.W.keepIn K (.ref f9) = true)
    (a10 : PySem.W.nsIn K mainGlobals "_directions" = some (some (.ref f10))) (l10 : K.lookup f10 = some ⟨oc10, od10, .func (PySem.W.fnOf "_directions" "_directions" (defArgs s_directions) (defBody s_directions) (defScope s_directions) .none kV10 dc10 pm10 an10 cd10 ct10), sl10⟩) (c10 : PySem.W.codeIn K cd10 "_directions" = true) (k10 : PySem.W.keepIn K (.ref f10) = true)
    (a11 : PySem.W.nsIn K mainGlobals "_first_missing" = some (some (.ref f11))) (l11 : K.lookup f11 = some ⟨oc11, od11, .func (PySem.W.fnOf "_first_missing" "_first_missing" (defArgs s_first_missing) (defBody s_first_missing) (defScope s_first_missing) .none kV11 dc11 pm11 an11 cd11 ct11), sl11⟩) (c11 : PySem.W.codeIn K cd11 "_first_missing" = true) (k11 : PySem.W.keepIn K (.ref f11) = true)
    (a12 : PySem.W.nsIn K mainGlobals "missed_plane" = some (some (.ref f12))) (l12 : K.lookup f12 = some ⟨oc12, od12, .func (PySem.W.fnOf "missed_plane" "missed_plane" (defArgs s_missed_plane) (defBody s_missed_plane) (defScope s_missed_plane) .none kV12 dc12 pm12 an12 cd12 ct12), sl12⟩) (c12 : PySem.W.codeIn K cd12 "missed_plane" = true) (k12 : PySem.W.keepIn K (.ref f12) = true)
    (a13 : PySem.W.nsIn K mainGlobals "is_meeting" = some (some (.ref f13))) (l13 : K.lookup f13 = some ⟨oc13, od13, .func (PySem.W.fnOf "is_meeting" "is_meeting" (defArgs s_is_meeting) (defBody s_is_meeting) (defScope s_is_meeting) .none kV13 dc13 pm13 an13 cd13 ct13), sl13⟩) (c13 : PySem.W.codeIn K cd13 "is_meeting" = true) (k13 : PySem.W.keepIn K (.ref f13) = true)
    (a14 : PySem.W.nsIn K mainGlobals "least_meeting" = some (some (.ref f14))) (l14 : K.lookup f14 = some ⟨oc14, od14, .func (PySem.W.fnOf "least_meeting" "least_meeting" (defArgs s_least_meeting) (defBody s_least_meeting) (defScope s_least_meeting) .none kV14 dc14 pm14 an14 cd14 ct14), sl14⟩) (c14 : PySem.W.codeIn K cd14 "least_meeting" = true) (k14 : PySem.W.keepIn K (.ref f14) = true)
    (a15 : PySem.W.nsIn K mainGlobals "_law_draw" = some (some (.ref f15))) (l15 : K.lookup f15 = some ⟨oc15, od15, .func (PySem.W.fnOf "_law_draw" "_law_draw" (defArgs s_law_draw) (defBody s_law_draw) (defScope s_law_draw) .none kV15 dc15 pm15 an15 cd15 ct15), sl15⟩) (c15 : PySem.W.codeIn K cd15 "_law_draw" = true) (k15 : PySem.W.keepIn K (.ref f15) = true)
    (a16 : PySem.W.nsIn K mainGlobals "_law_any" = some (some (.ref f16))) (l16 : K.lookup f16 = some ⟨oc16, od16, .func (PySem.W.fnOf "_law_any" "_law_any" (defArgs s_law_any) (defBody s_law_any) (defScope s_law_any) .none kV16 dc16 pm16 an16 cd16 ct16), sl16⟩) (c16 : PySem.W.codeIn K cd16 "_law_any" = true) (k16 : PySem.W.keepIn K (.ref f16) = true)
    (a17 : PySem.W.nsIn K mainGlobals "_law_of" = some (some (.ref f17))) (l17 : K.lookup f17 = some ⟨oc17, od17, .func (PySem.W.fnOf "_law_of" "_law_of" (defArgs s_law_of) (defBody s_law_of) (defScope s_law_of) .none kV17 dc17 pm17 an17 cd17 ct17), sl17⟩) (c17 : PySem.W.codeIn K cd17 "_law_of" = true) (k17 : PySem.W.keepIn K (.ref f17) = true)
    (a18 : PySem.W.nsIn K mainGlobals "_law_mixed" = some (some (.ref f18))) (l18 : K.lookup f18 = some ⟨oc18, od18, .func (PySem.W.fnOf "_law_mixed" "_law_mixed" (defArgs s_law_mixed) (defBody s_law_mixed) (defScope s_law_mixed) .none kV18 dc18 pm18 an18 cd18 ct18), sl18⟩) (c18 : PySem.W.codeIn K cd18 "_law_mixed" = true) (k18 : PySem.W.keepIn K (.ref f18) = true)
    (a19 : PySem.W.nsIn K mainGlobals "_law_choices" = some (some (.ref f19))) (l19 : K.lookup f19 = some ⟨oc19, od19, .func (PySem.W.fnOf "_law_choices" "_law_choices" (defArgs s_law_choices) (defBody s_law_choices) (defScope s_law_choices) .none kV19 dc19 pm19 an19 cd19 ct19), sl19⟩) (c19 : PySem.W.codeIn K cd19 "_law_choices" = true) (k19 : PySem.W.keepIn K (.ref f19) = true)
    (a20 : PySem.W.nsIn K mainGlobals "_law_refused" = some (some (.ref f20))) (l20 : K.lookup f20 = some ⟨oc20, od20, .func (PySem.W.fnOf "_law_refused" "_law_refused" (defArgs s_law_refused) (defBody s_law_refused) (defScope s_law_refused) .none kV20 dc20 pm20 an20 cd20 ct20), sl20⟩) (c20 : PySem.W.codeIn K cd20 "_law_refused" = true) (k20 : PySem.W.keepIn K (.ref f20) = true)
    (a21 : PySem.W.nsIn K mainGlobals "_law_missed" = some (some (.ref f21))) (l21 : K.lookup f21 = some ⟨oc21, od21, .func (PySem.W.fnOf "_law_missed" "_law_missed" (defArgs s_law_missed) (defBody s_law_missed) (defScope s_law_missed) .none kV21 dc21 pm21 an21 cd21 ct21), sl21⟩) (c21 : PySem.W.codeIn K cd21 "_law_missed" = true) (k21 : PySem.W.keepIn K (.ref f21) = true)
    (a22 : PySem.W.nsIn K mainGlobals "law" = some (some (.ref f22))) (l22 : K.lookup f22 = some ⟨oc22, od22, .func (PySem.W.fnOf "law" "law" (defArgs s_law) (defBody s_law) (defScope s_law) .none kV22 dc22 pm22 an22 (.ref cc) ct22), sl22⟩) (c22 : PySem.W.codeIn K (.ref cc) "law" = true) (k22 : PySem.W.keepIn K (.ref f22) = true)
    (z_len : PySem.W.nsIn K mainGlobals "len" = some none)
    (z_tuple : PySem.W.nsIn K mainGlobals "tuple" = some none)
    (z_zip : PySem.W.nsIn K mainGlobals "zip" = some none)
    (z_sum : PySem.W.nsIn K mainGlobals "sum" = some none)
    (z_sorted : PySem.W.nsIn K mainGlobals "sorted" = some none)
    (z_enumerate : PySem.W.nsIn K mainGlobals "enumerate" = some none)
    (z_isinstance : PySem.W.nsIn K mainGlobals "isinstance" = some none)
    (z_int : PySem.W.nsIn K mainGlobals "int" = some none)
    (z_bool : PySem.W.nsIn K mainGlobals "bool" = some none)
    (z_all : PySem.W.nsIn K mainGlobals "all" = some none)
    (z_any : PySem.W.nsIn K mainGlobals "any" = some none)
    (z_range : PySem.W.nsIn K mainGlobals "range" = some none)
    (z_list : PySem.W.nsIn K mainGlobals "list" = some none)
    (z_min : PySem.W.nsIn K mainGlobals "min" = some none)
    (z_max : PySem.W.nsIn K mainGlobals "max" = some none)
    (z_abs : PySem.W.nsIn K mainGlobals "abs" = some none)
    (z_repr : PySem.W.nsIn K mainGlobals "repr" = some none)
    (z_set : PySem.W.nsIn K mainGlobals "set" = some none)
    (z_reversed : PySem.W.nsIn K mainGlobals "reversed" = some none)
    (g_MOST_POINTS : PySem.W.nsIn K mainGlobals "MOST_POINTS" = some (some (.int 1000 t_MOST_POINTS)))
    {te : Value} {td : Option Addr} {tv : Array Value} {ts : Array (Option Value)} (tc : K.lookup cc = some ⟨te, td, .fields tv, ts⟩) (t11 : tv[11]? = some (.ref tt)) (tn : K.lookup tt = none)
    (eb : PySem.W.nsIn K mainGlobals "PickError" = some (some (.ref Cb))) (eb1 : PySem.W.readsIn K Cb (.type "type") = true) (eb2 : PySem.W.specialIn K (.ref Cb) "__getattribute__" = some (some (.builtin "type.__getattribute__"))) (eb3 : PySem.W.findCls K (.ref Cb) (.type "type") "__init__" = some (.val (.builtin "ValueError.__init__")))
    (ex0_Refused : PySem.W.nsIn K mainGlobals "Refused" = some (some (.ref C_Refused)))
    (ex2_Refused : PySem.W.findIn K (.ref C_Refused) "__setattr__" = some (some (.builtin "object.__setattr__"))) (ex3_Refused : PySem.W.subIn K (.ref C_Refused) (.type "BaseException") = some true) (ex4_Refused : PySem.W.typeIn K (.ref C_Refused) = some (.type "type"))
    (ex5_Refused : PySem.W.keepIn K (.ref C_Refused) = true) (ex6_Refused : PySem.W.findIn K (.ref C_Refused) "at" = some none) (ex7_Refused : PySem.W.findIn K (.ref C_Refused) "__init__" = some (some (.ref fI_Refused))) (ex8_Refused : PySem.W.typeIn K (.ref fI_Refused) = some (.type "function"))
    (el_Refused : K.lookup fI_Refused = some ⟨oc_Refused, od_Refused, .func (PySem.W.fnOf "__init__" "Refused.__init__" (defArgs s_init_Refused) (defBody s_init_Refused) (defScope s_init_Refused) .none kV_Refused dc_Refused pm_Refused an_Refused cd_Refused ct_Refused), sl_Refused⟩) (ec_Refused : PySem.W.codeIn K cd_Refused "Refused.__init__" = true) (ek_Refused : PySem.W.keepIn K (.ref fI_Refused) = true)
    (ed_Refused : PySem.W.hasDictIn K C_Refused = true) (es_Refused : PySem.W.subIn K (.ref C_Refused) (.ref C_Refused) = some true) (ei_Refused : PySem.W.isClsIn K C_Refused = true) (eg_Refused : PySem.W.findIn K (.ref C_Refused) "__getattribute__" = some (some (.builtin "BaseException.__getattribute__"))) (eh_Refused : PySem.W.findIn K (.ref C_Refused) "__getattr__" = some none)
    (eo_Refused : K.lookup C_Refused = some (excClassObj nm_Refused qq_Refused C_Refused N_Refused bs_Refused [.ref Cb, .type "ValueError", .type "Exception", .type "BaseException", .type "object"] true sn_Refused sub_Refused ab_Refused col_Refused dd_Refused u0_Refused u1_Refused u2_Refused u3_Refused u5_Refused "ValueError.__new__"))
    : ∃ (fd : FuncData) (c T : Addr), PySem.W.tabIn K "law" = some (c, T) ∧ K.lookup T = none ∧ (∀ (s : Shared) (v : Value), BindsTo s fd ⟨[v], []⟩ [("script", v)]) ∧ ∀ base : Heap, K.In base → base.Ns mainGlobals mg → LamX.TabB base mg c T → FnQ l.prog w K mg base CX0 8 fa fd ["script"] (spL K T 63) := by
  have e := hfa.symm.trans (PySem.W.mg_of X G a22)
  cases e
  have F0 := fun_mk (st := s_is_integer) l0 c0 k0
  have b0 := F0.binds (ps := ["value"]) fun _ _ _ _ _ _ us hl => match us, hl with | [_], _ => rfl
  have m0 := PySem.W.mg_of X G a0
  have F1 := fun_mk (st := s_is_element) l1 c1 k1
  have b1 := F1.binds (ps := ["p", "value"]) fun _ _ _ _ _ _ us hl => match us, hl with | [_, _], _ => rfl
  have m1 := PySem.W.mg_of X G a1
  have F2 := fun_mk (st := s_are_elements) l2 c2 k2
  have b2 := F2.binds (ps := ["p", "many", "value"]) fun _ _ _ _ _ _ us hl => match us, hl with | [_, _, _], _ => rfl
  have m2 := PySem.W.mg_of X G a2
  have F3 := fun_mk (st := s_is_ascending) l3 c3 k3
  have b3 := F3.binds (ps := ["values"]) fun _ _ _ _ _ _ us hl => match us, hl with | [_], _ => rfl
  have m3 := PySem.W.mg_of X G a3
  have F4 := fun_mk (st := s_element) l4 c4 k4
  have b4 := F4.binds (ps := ["p", "number"]) fun _ _ _ _ _ _ us hl => match us, hl with | [_, _], _ => rfl
  have m4 := PySem.W.mg_of X G a4
  have F5 := fun_mk (st := s_product_of) l5 c5 k5
  have b5 := F5.binds (ps := ["numbers"]) fun _ _ _ _ _ _ us hl => match us, hl with | [_], _ => rfl
  have m5 := PySem.W.mg_of X G a5
  have F6 := fun_mk (st := s_row_times) l6 c6 k6
  have b6 := F6.binds (ps := ["row", "column"]) fun _ _ _ _ _ _ us hl => match us, hl with | [_, _], _ => rfl
  have m6 := PySem.W.mg_of X G a6
  have F7 := fun_mk (st := s_only_at) l7 c7 k7
  have b7 := F7.binds (ps := ["n", "at", "number"]) fun _ _ _ _ _ _ us hl => match us, hl with | [_, _, _], _ => rfl
  have m7 := PySem.W.mg_of X G a7
  have F8 := fun_mk (st := s_all_tuples) l8 c8 k8
  have b8 := F8.binds (ps := ["rows"]) fun _ _ _ _ _ _ us hl => match us, hl with | [_], _ => rfl
  have m8 := PySem.W.mg_of X G a8
  have F9 := fun_mk (st := s_check_points) l9 c9 k9
  have b9 := F9.binds (ps := ["p", "n"]) fun _ _ _ _ _ _ us hl => match us, hl with | [_, _], _ => rfl
  have m9 := PySem.W.mg_of X G a9
  have F10 := fun_mk (st := s_directions) l10 c10 k10
  have b10 := F10.binds (ps := ["p", "n"]) fun _ _ _ _ _ _ us hl => match us, hl with | [_, _], _ => rfl
  have m10 := PySem.W.mg_of X G a10
  have F11 := fun_mk (st := s_first_missing) l11 c11 k11
  have b11 := F11.binds (ps := ["p", "factors", "points"]) fun _ _ _ _ _ _ us hl => match us, hl with | [_, _, _], _ => rfl
  have m11 := PySem.W.mg_of X G a11
  have F12 := fun_mk (st := s_missed_plane) l12 c12 k12
  have b12 := F12.binds (ps := ["p", "n", "points"]) fun _ _ _ _ _ _ us hl => match us, hl with | [_, _, _], _ => rfl
  have m12 := PySem.W.mg_of X G a12
  have F13 := fun_mk (st := s_is_meeting) l13 c13 k13
  have b13 := F13.binds (ps := ["p", "n", "value"]) fun _ _ _ _ _ _ us hl => match us, hl with | [_, _, _], _ => rfl
  have m13 := PySem.W.mg_of X G a13
  have F14 := fun_mk (st := s_least_meeting) l14 c14 k14
  have b14 := F14.binds (ps := ["p", "n"]) fun _ _ _ _ _ _ us hl => match us, hl with | [_, _], _ => rfl
  have m14 := PySem.W.mg_of X G a14
  have F15 := fun_mk (st := s_law_draw) l15 c15 k15
  have b15 := F15.binds (ps := ["script", "salt"]) fun _ _ _ _ _ _ us hl => match us, hl with | [_, _], _ => rfl
  have m15 := PySem.W.mg_of X G a15
  have F16 := fun_mk (st := s_law_any) l16 c16 k16
  have b16 := F16.binds (ps := ["deal", "bound"]) fun _ _ _ _ _ _ us hl => match us, hl with | [_, _], _ => rfl
  have m16 := PySem.W.mg_of X G a16
  have F17 := fun_mk (st := s_law_of) l17 c17 k17
  have b17 := F17.binds (ps := ["deal", "some"]) fun _ _ _ _ _ _ us hl => match us, hl with | [_, _], _ => rfl
  have m17 := PySem.W.mg_of X G a17
  have F18 := fun_mk (st := s_law_mixed) l18 c18 k18
  have b18 := F18.binds (ps := ["deal", "some"]) fun _ _ _ _ _ _ us hl => match us, hl with | [_, _], _ => rfl
  have m18 := PySem.W.mg_of X G a18
  have F19 := fun_mk (st := s_law_choices) l19 c19 k19
  have b19 := F19.binds (ps := ["lists"]) fun _ _ _ _ _ _ us hl => match us, hl with | [_], _ => rfl
  have m19 := PySem.W.mg_of X G a19
  have F20 := fun_mk (st := s_law_refused) l20 c20 k20
  have b20 := F20.binds (ps := ["work"]) fun _ _ _ _ _ _ us hl => match us, hl with | [_], _ => rfl
  have m20 := PySem.W.mg_of X G a20
  have F21 := fun_mk (st := s_law_missed) l21 c21 k21
  have b21 := F21.binds (ps := ["p", "n", "points"]) fun _ _ _ _ _ _ us hl => match us, hl with | [_, _, _], _ => rfl
  have m21 := PySem.W.mg_of X G a21
  have kb14_0 := kb_mk (n := 0) (m := 2) (o := [1, 0]) (ps := ["p", "n"]) (ks := ["n", "p"]) F14 (by decide) fun _ _ _ _ _ _ us ws hu hw => match us, ws, hu, hw with | [], [_, _], _, _ => rfl
  have kb12_1 := kb_mk (n := 0) (m := 3) (o := [2, 1, 0]) (ps := ["p", "n", "points"]) (ks := ["points", "n", "p"]) F12 (by decide) fun _ _ _ _ _ _ us ws hu hw => match us, ws, hu, hw with | [], [_, _, _], _, _ => rfl
  have kb13_2 := kb_mk (n := 0) (m := 3) (o := [2, 1, 0]) (ps := ["p", "n", "value"]) (ks := ["value", "n", "p"]) F13 (by decide) fun _ _ _ _ _ _ us ws hu hw => match us, ws, hu, hw with | [], [_, _, _], _, _ => rfl
  refine ⟨PySem.W.fnOf "law" "law" (defArgs s_law) (defBody s_law) (defScope s_law) .none kV22 dc22 pm22 an22 (.ref cc) ct22, cc, tt, tabIn_of a22 l22 rfl tc t11, tn, fun s v => .of_eq rfl, fun base _ _ tab => ?_⟩
  have b_len := PySem.W.mg_none_of X G z_len
  have b_tuple := PySem.W.mg_none_of X G z_tuple
  have b_zip := PySem.W.mg_none_of X G z_zip
  have b_sum := PySem.W.mg_none_of X G z_sum
  have b_sorted := PySem.W.mg_none_of X G z_sorted
  have b_enumerate := PySem.W.mg_none_of X G z_enumerate
  have b_isinstance := PySem.W.mg_none_of X G z_isinstance
  have b_int := PySem.W.mg_none_of X G z_int
  have b_bool := PySem.W.mg_none_of X G z_bool
  have b_all := PySem.W.mg_none_of X G z_all
  have b_any := PySem.W.mg_none_of X G z_any
  have b_range := PySem.W.mg_none_of X G z_range
  have b_list := PySem.W.mg_none_of X G z_list
  have b_min := PySem.W.mg_none_of X G z_min
  have b_max := PySem.W.mg_none_of X G z_max
  have b_abs := PySem.W.mg_none_of X G z_abs
  have b_repr := PySem.W.mg_none_of X G z_repr
  have b_set := PySem.W.mg_none_of X G z_set
  have b_reversed := PySem.W.mg_none_of X G z_reversed
  have c_MOST_POINTS : ∃ u, mg "MOST_POINTS" = some u ∧ RelV (.int 1000) u := ⟨_, PySem.W.mg_of X G g_MOST_POINTS, ⟨_, rfl⟩⟩
  have i_int_ := i_int (K := K)
  have i_bool_ := i_bool (K := K)
  have i_tuple_ := i_tuple (K := K)
  have bk : BaseK K mg Cb := ⟨PySem.W.mg_of X G eb, ⟨eb1, eb2⟩, eb3⟩
  have oxRefused : OexC K C_Refused := ⟨⟨_, _, _, _, _, _, _, _, _, _, _, _, _, _, _, eo_Refused, rfl⟩, ex2_Refused, ex3_Refused, ex4_Refused, ex5_Refused⟩
  have erRefused : ErrC K C_Refused := ⟨oxRefused, ex6_Refused⟩
  have xfRefused : XfC K C_Refused := ⟨eg_Refused, eh_Refused, ex3_Refused, ed_Refused⟩
  have mgRefused := PySem.W.mg_of X G ex0_Refused
  have FIRefused := fun_mk (st := s_init_Refused) el_Refused ec_Refused ek_Refused
  have e_Refused : ErrK l.prog w K mg base 1 "Refused" C_Refused := ⟨erRefused, mgRefused, ⟨_, _, _, ex7_Refused, ex8_Refused, ok_init_Refused FIRefused bk, FIRefused.binds (ps := ["self", "at"]) fun _ _ _ _ _ _ us hl => match us, hl with | [_, _], _ => rfl⟩⟩
  have r_ref : RefK K mg "_law_refused" "Refused" s_law_refused C_Refused := ⟨⟨_, _, F20, m20, b20⟩, mgRefused, xfRefused, ex6_Refused, exm_same ex3_Refused ei_Refused ex4_Refused es_Refused⟩
  have o0 := ok_is_integer (P := l.prog) (w := w) (mg := mg) (base := base) F0 { b_isinstance := b_isinstance, b_int := b_int, b_bool := b_bool, i_int := i_int_, i_bool := i_bool_ }
  have d0 := cal_of o0 m0 F0.kp b0
  have o1 := ok_is_element (P := l.prog) (w := w) (mg := mg) (base := base) F1 { b_isinstance := b_isinstance, b_int := b_int, b_bool := b_bool, i_int := i_int_, i_bool := i_bool_, b_len := b_len, b_all := b_all, b_tuple := b_tuple, i_tuple := i_tuple_, d_is_integer := d0 }
  have d1 := cal_of o1 m1 F1.kp b1
  have o2 := ok_are_elements (P := l.prog) (w := w) (mg := mg) (base := base) F2 { b_isinstance := b_isinstance, b_int := b_int, b_bool := b_bool, i_int := i_int_, i_bool := i_bool_, b_len := b_len, b_all := b_all, b_tuple := b_tuple, i_tuple := i_tuple_, d_is_element := d1 }
  have d2 := cal_of o2 m2 F2.kp b2
  have o3 := ok_is_ascending (P := l.prog) (w := w) (mg := mg) (base := base) F3 { b_len := b_len, b_tuple := b_tuple, b_zip := b_zip, b_sum := b_sum, b_sorted := b_sorted, b_enumerate := b_enumerate, b_range := b_range, b_reversed := b_reversed, b_all := b_all, b_int := b_int, b_max := b_max, b_list := b_list, c_MOST_POINTS := c_MOST_POINTS }
  have d3 := cal_of o3 m3 F3.kp b3
  have o4 := ok_element (P := l.prog) (w := w) (mg := mg) (base := base) F4 { b_len := b_len, b_tuple := b_tuple, b_zip := b_zip, b_sum := b_sum, b_sorted := b_sorted, b_enumerate := b_enumerate, b_range := b_range, b_reversed := b_reversed, b_all := b_all, b_int := b_int, b_max := b_max, b_list := b_list, c_MOST_POINTS := c_MOST_POINTS }
  have d4 := cal_of o4 m4 F4.kp b4
  have o5 := ok_product_of (P := l.prog) (w := w) (mg := mg) (base := base) F5 { b_len := b_len, b_tuple := b_tuple, b_zip := b_zip, b_sum := b_sum, b_sorted := b_sorted, b_enumerate := b_enumerate, b_range := b_range, b_reversed := b_reversed, b_all := b_all, b_int := b_int, b_max := b_max, b_list := b_list, c_MOST_POINTS := c_MOST_POINTS }
  have d5 := cal_of o5 m5 F5.kp b5
  have o6 := ok_row_times (P := l.prog) (w := w) (mg := mg) (base := base) F6 { b_len := b_len, b_tuple := b_tuple, b_zip := b_zip, b_sum := b_sum, b_sorted := b_sorted, b_enumerate := b_enumerate, b_range := b_range, b_reversed := b_reversed, b_all := b_all, b_int := b_int, b_max := b_max, b_list := b_list, c_MOST_POINTS := c_MOST_POINTS }
  have d6 := cal_of o6 m6 F6.kp b6
  have o7 := ok_only_at (P := l.prog) (w := w) (mg := mg) (base := base) F7 { b_len := b_len, b_tuple := b_tuple, b_zip := b_zip, b_sum := b_sum, b_sorted := b_sorted, b_enumerate := b_enumerate, b_range := b_range, b_reversed := b_reversed, b_all := b_all, b_int := b_int, b_max := b_max, b_list := b_list, c_MOST_POINTS := c_MOST_POINTS }
  have d7 := cal_of o7 m7 F7.kp b7
  have o8 := ok_all_tuples (P := l.prog) (w := w) (mg := mg) (base := base) F8 { b_len := b_len, b_tuple := b_tuple, b_zip := b_zip, b_sum := b_sum, b_sorted := b_sorted, b_enumerate := b_enumerate, b_range := b_range, b_reversed := b_reversed, b_all := b_all, b_int := b_int, b_max := b_max, b_list := b_list, c_MOST_POINTS := c_MOST_POINTS }
  have d8 := cal_of o8 m8 F8.kp b8
  have o9 := ok_check_points (P := l.prog) (w := w) (mg := mg) (base := base) F9 { b_len := b_len, b_tuple := b_tuple, b_zip := b_zip, b_sum := b_sum, b_sorted := b_sorted, b_enumerate := b_enumerate, b_range := b_range, b_reversed := b_reversed, b_all := b_all, b_int := b_int, b_max := b_max, b_list := b_list, c_MOST_POINTS := c_MOST_POINTS, d_product_of := d5, e_Refused := e_Refused }
  have d9 : CalX l.prog w K mg base _ "_check_points" _ := ⟨⟨_, _, _, o9, m9, F9.kp, b9⟩⟩
  have o10 := ok_directions (P := l.prog) (w := w) (mg := mg) (base := base) F10 { b_len := b_len, b_tuple := b_tuple, b_zip := b_zip, b_sum := b_sum, b_sorted := b_sorted, b_enumerate := b_enumerate, b_range := b_range, b_reversed := b_reversed, b_all := b_all, b_int := b_int, b_max := b_max, b_list := b_list, c_MOST_POINTS := c_MOST_POINTS, d_all_tuples := d8 }
  have d10 := cal_of o10 m10 F10.kp b10
  have o11 := ok_first_missing (P := l.prog) (w := w) (mg := mg) (base := base) F11 { b_len := b_len, b_tuple := b_tuple, b_zip := b_zip, b_sum := b_sum, b_sorted := b_sorted, b_enumerate := b_enumerate, b_range := b_range, b_reversed := b_reversed, b_all := b_all, b_int := b_int, b_max := b_max, b_list := b_list, c_MOST_POINTS := c_MOST_POINTS, d_element := d4, d_row_times := d6 }
  have d11 := cal_of o11 m11 F11.kp b11
  have o12 := ok_missed_plane (P := l.prog) (w := w) (mg := mg) (base := base) F12 { b_len := b_len, b_tuple := b_tuple, b_zip := b_zip, b_sum := b_sum, b_sorted := b_sorted, b_enumerate := b_enumerate, b_range := b_range, b_reversed := b_reversed, b_all := b_all, b_int := b_int, b_max := b_max, b_list := b_list, c_MOST_POINTS := c_MOST_POINTS, d_check_points := d9, d_directions := d10, d_first_missing := d11 }
  have d12 : CalX l.prog w K mg base _ "missed_plane" _ := ⟨⟨_, _, _, o12, m12, F12.kp, b12⟩⟩
  have h12_1 : CalXK l.prog w K mg base _ "missed_plane" _ _ _ _ _ := ⟨⟨_, _, _, o12, m12, F12.kp, kb12_1⟩⟩
  have o13 := ok_is_meeting (P := l.prog) (w := w) (mg := mg) (base := base) F13 { b_isinstance := b_isinstance, b_int := b_int, b_bool := b_bool, i_int := i_int_, i_bool := i_bool_, b_len := b_len, b_all := b_all, b_tuple := b_tuple, i_tuple := i_tuple_, d_are_elements := d2, d_is_ascending := d3, d_check_points := d9, d_missed_plane := d12 }
  have d13 : CalX l.prog w K mg base _ "is_meeting" _ := ⟨⟨_, _, _, o13, m13, F13.kp, b13⟩⟩
  have h13_2 : CalXK l.prog w K mg base _ "is_meeting" _ _ _ _ _ := ⟨⟨_, _, _, o13, m13, F13.kp, kb13_2⟩⟩
  have o14 := ok_least_meeting (P := l.prog) (w := w) (mg := mg) (base := base) F14 { b_len := b_len, b_tuple := b_tuple, b_zip := b_zip, b_sum := b_sum, b_sorted := b_sorted, b_enumerate := b_enumerate, b_range := b_range, b_reversed := b_reversed, b_all := b_all, b_int := b_int, b_max := b_max, b_list := b_list, c_MOST_POINTS := c_MOST_POINTS, d_check_points := d9, d_only_at := d7 }
  have d14 : CalX l.prog w K mg base _ "least_meeting" _ := ⟨⟨_, _, _, o14, m14, F14.kp, b14⟩⟩
  have h14_0 : CalXK l.prog w K mg base _ "least_meeting" _ _ _ _ _ := ⟨⟨_, _, _, o14, m14, F14.kp, kb14_0⟩⟩
  have o15 := ok_law_draw (P := l.prog) (w := w) (mg := mg) (base := base) F15 { b_int := b_int, b_abs := b_abs, b_len := b_len }
  have d15 := cal_of o15 m15 F15.kp b15
  have o16 := ok_law_any (P := l.prog) (w := w) (mg := mg) (base := base) F16 { b_int := b_int, b_abs := b_abs, b_len := b_len }
  have d16 := cal_of o16 m16 F16.kp b16
  have o17 := ok_law_of (P := l.prog) (w := w) (mg := mg) (base := base) F17 { b_int := b_int, b_abs := b_abs, b_len := b_len, d_law_any := d16 }
  have d17 := cal_of o17 m17 F17.kp b17
  have o18 := ok_law_mixed (P := l.prog) (w := w) (mg := mg) (base := base) F18 { b_int := b_int, b_abs := b_abs, b_len := b_len, d_law_any := d16, b_list := b_list }
  have d18 := cal_of o18 m18 F18.kp b18
  have o19 := ok_law_choices (P := l.prog) (w := w) (mg := mg) (base := base) F19
  have d19 := cal_of o19 m19 F19.kp b19
  have o21 := ok_law_missed (P := l.prog) (w := w) (mg := mg) (base := base) F21 { b_range := b_range, b_list := b_list, b_max := b_max, b_int := b_int, b_sum := b_sum, b_enumerate := b_enumerate, d_law_choices := d19 }
  have d21 := cal_of o21 m21 F21.kp b21
  exact ok_law (P := l.prog) (w := w) (mg := mg) (base := base) l22 c22 { tab := tab, r_ref := r_ref, b_repr := b_repr, b_range := b_range, b_tuple := b_tuple, b_list := b_list, b_len := b_len, b_sorted := b_sorted, b_set := b_set, d_law_draw := d15, d_law_any := d16, d_law_of := d17, d_law_mixed := d18, d_law_choices := d19, d_law_missed := d21, d_least_meeting := d14, k_least_meeting := h14_0, d_missed_plane := d12, k_missed_plane := h12_1, d_is_meeting := d13, k_is_meeting := h13_2 }
end K28
open PySem PySem.W PyProof.Rows
set_option maxRecDepth 100000 in
set_option maxHeartbeats 0 in
theorem PySem.Challenge.cw_listpicks_k28_whole_points_that_meet_all_holds : PySem.Challenge.rw_listpicks_k28_whole_points_that_meet_all.Holds := by
  w_on; o_law; k_head; (case hw => w_witness2)
  k_fill
  refine LD.walkQT (l := PySem.Challenge.rw_listpicks_k28_whole_points_that_meet_all) (n := 63) (k := 8) (x := "script") rfl (by decide) rfl ⟨rfl, by decide, by decide⟩ rfl (fun w h Y => PySem.W.km_in_of Y) ?F
  case F =>
    intro w mg fa h KX G hmg
    refine' K28.all_mk KX G hmg ?a0 ?l0 ?c0 ?k0 ?a1 ?l1 ?c1 ?k1 ?a2 ?l2 ?c2 ?k2 ?a3 ?l3 ?c3 ?k3 ?a4 ?l4 ?c4 ?k4 ?a5 ?l5 ?c5 ?k5 ?a6 ?l6 ?c6 ?k6 ?a7 ?l7 ?c7 ?k7 ?a8 ?l8 ?c8 ?k8 ?a9 ?l9 ?c9 ?k9 ?a10 ?l10 ?c10 ?k10 ?a11 ?l11 ?c11 ?k11 ?a12 ?l12 ?c12 ?k12 ?a13 ?l13 ?c13 ?k13 ?a14 ?l14 ?c14 ?k14 ?a15 ?l15 ?c15 ?k15 ?a16 ?l16 ?c16 ?k16 ?a17 ?l17 ?c17 ?k17 ?a18 ?l18 ?c18 ?k18 ?a19 ?l19 ?c19 ?k19 ?a20 ?l20 ?c20 ?k20 ?a21 ?l21 ?c21 ?k21 ?a22 ?l22 ?c22 ?k22 ?z_len ?z_tuple ?z_zip ?z_sum ?z_sorted ?z_enumerate ?z_isinstance ?z_int ?z_bool ?z_all ?z_any ?z_range ?z_list ?z_min ?z_max ?z_abs ?z_repr ?z_set ?z_reversed ?g_MOST_POINTS ?tc ?t11 ?tn ?eb ?eb1 ?eb2 ?eb3 ?ex0_Refused ?ex2_Refused ?ex3_Refused ?ex4_Refused ?ex5_Refused ?ex6_Refused ?ex7_Refused ?ex8_Refused ?el_Refused ?ec_Refused ?ek_Refused ?ed_Refused ?es_Refused ?ei_Refused ?eg_Refused ?eh_Refused ?eo_Refused
    (case a0 => k_is)
    (case l0 => k_is)
    (case c0 => k_is)
    (case k0 => k_is)
    (case a1 => k_is)
    (case l1 => k_is)
    (case c1 => k_is)
    (case k1 => k_is)
    (case a2 => k_is)
    (case l2 => k_is)
    (case c2 => k_is)
    (case k2 => k_is)
    (case a3 => k_is)
    (case l3 => k_is)
    (case c3 => k_is)
    (case k3 => k_is)
    (case a4 => k_is)
    (case l4 => k_is)
    (case c4 => k_is)
    (case k4 => k_is)
    (case a5 => k_is)
    (case l5 => k_is)
    (case c5 => k_is)
    (case k5 => k_is)
    (case a6 => k_is)
    (case l6 => k_is)
    (case c6 => k_is)
    (case k6 => k_is)
    (case a7 => k_is)
    (case l7 => k_is)
    (case c7 => k_is)
    (case k7 => k_is)
    (case a8 => k_is)
    (case l8 => k_is)
    (case c8 => k_is)
    (case k8 => k_is)
    (case a9 => k_is)
    (case l9 => k_is)
    (case c9 => k_is)
    (case k9 => k_is)
    (case a10 => k_is)
    (case l10 => k_is)
    (case c10 => k_is)
    (case k10 => k_is)
    (case a11 => k_is)
    (case l11 => k_is)
    (case c11 => k_is)
    (case k11 => k_is)
    (case a12 => k_is)
    (case l12 => k_is)
    (case c12 => k_is)
    (case k12 => k_is)
    (case a13 => k_is)
    (case l13 => k_is)
    (case c13 => k_is)
    (case k13 => k_is)
    (case a14 => k_is)
    (case l14 => k_is)
    (case c14 => k_is)
    (case k14 => k_is)
    (case a15 => k_is)
    (case l15 => k_is)
    (case c15 => k_is)
    (case k15 => k_is)
    (case a16 => k_is)
    (case l16 => k_is)
    (case c16 => k_is)
    (case k16 => k_is)
    (case a17 => k_is)
    (case l17 => k_is)
    (case c17 => k_is)
    (case k17 => k_is)
    (case a18 => k_is)
    (case l18 => k_is)
    (case c18 => k_is)
    (case k18 => k_is)
    (case a19 => k_is)
    (case l19 => k_is)
    (case c19 => k_is)
    (case k19 => k_is)
    (case a20 => k_is)
    (case l20 => k_is)
    (case c20 => k_is)
    (case k20 => k_is)
    (case a21 => k_is)
    (case l21 => k_is)
    (case c21 => k_is)
    (case k21 => k_is)
    (case a22 => k_is)
    (case l22 => k_is)
    (case c22 => k_is)
    (case k22 => k_is)
    (case z_len => k_is)
    (case z_tuple => k_is)
    (case z_zip => k_is)
    (case z_sum => k_is)
    (case z_sorted => k_is)
    (case z_enumerate => k_is)
    (case z_isinstance => k_is)
    (case z_int => k_is)
    (case z_bool => k_is)
    (case z_all => k_is)
    (case z_any => k_is)
    (case z_range => k_is)
    (case z_list => k_is)
    (case z_min => k_is)
    (case z_max => k_is)
    (case z_abs => k_is)
    (case z_repr => k_is)
    (case z_set => k_is)
    (case z_reversed => k_is)
    (case g_MOST_POINTS => k_is)
    (case tc => k_is)
    (case t11 => first | rfl | k_is | decide +kernel)
    (case tn => first | rfl | k_is | decide +kernel)
    (case eb => k_is)
    (case eb1 => k_is)
    (case eb2 => k_is)
    (case eb3 => k_is)
    (case ex0_Refused => k_is)
    (case ex2_Refused => k_is)
    (case ex3_Refused => k_is)
    (case ex4_Refused => k_is)
    (case ex5_Refused => k_is)
    (case ex6_Refused => k_is)
    (case ex7_Refused => k_is)
    (case ex8_Refused => k_is)
    (case el_Refused => k_is)
    (case ec_Refused => k_is)
    (case ek_Refused => k_is)
    (case ed_Refused => k_is)
    (case es_Refused => k_is)
    (case ei_Refused => k_is)
    (case eg_Refused => k_is)
    (case eh_Refused => k_is)
    (case eo_Refused => k_is)
