import PyProof.Rows.All
import Wide.All
import OpenK.AllK
import Wide.FinOn
import HandS.ForExc
import HandS.ForMost
import HandS.Wide
import HandS.IsInst
import HandS.Flow
import HandS.Style
import HandS.RaiseMore
import HandS.TupAny
import HandS.TupMul
import HandS.Conv
import HandS.SortRule
import HandS.SortInts
import PyProof.ReprRoads
import PyProof.Rows.SeqMore
import HandS.Codes
import KE.GoesEnum
import KE.DataMinMax
import KE.SortData
import HandS.WideBits
import PyProof.ReprBulk
import PyProof.Rows.ReprShort
import PySem.Challenge.RW_listpicks_k19_least_products
set_option Elab.async false
set_option linter.all false
set_option maxRecDepth 100000
/-! LD1: slots that hold data (trees of None, bools, ints, texts, lists, tuples), told from the heap once and for all. -/
namespace LD
open PySem PySem.Spec L2
abbrev D := PyData

theorem sqT_mono {K : PySem.W.Frag} {H H' : Hp} {a : Addr} {xs : List V} (e : Same H H') (h : SqT K H a xs) : SqT K H' a xs := by
  cases h with
  | inl h =>
    cases h with
    | inl h => exact .inl (.inl (e _ _ h))
    | inr h =>
      obtain ⟨o, h⟩ := h
      exact .inl (.inr ⟨o, e _ _ h⟩)
  | inr h => exact .inr h
mutual
theorem dp_mono {K : PySem.W.Frag} {H H' : Hp} (e : Same H H') : ∀ (d : D) (v : V), Dp K H v d → Dp K H' v d
  | .none, _, h => by cases h; exact .non
  | .bool b, _, h => by cases h; exact .bl b
  | .int i, _, h => by cases h; exact .int i
  | .str x, _, h => by cases h; exact .str x
  | .list es, _, h => by
    cases h with
    | lst s q => exact .lst (e.seq s) (dpAll_mono e es _ q)
  | .tuple es, _, h => by
    cases h with
    | tup s q => exact .tup (sqT_mono e s) (dpAll_mono e es _ q)
  | .dict _, _, h => by cases h
theorem dpAll_mono {K : PySem.W.Frag} {H H' : Hp} (e : Same H H') : ∀ (ds : List D) (vs : List V), DpAll K H vs ds → DpAll K H' vs ds
  | [], _, h => by cases h; exact .nil
  | d :: ds, _, h => by
    cases h with
    | cons a b => exact .cons (dp_mono e d _ a) (dpAll_mono e ds _ b)
end
theorem dpAll_len {K : PySem.W.Frag} {H : Hp} : ∀ {ds : List D} {vs : List V}, DpAll K H vs ds → vs.length = ds.length
  | [], _, h => by cases h; rfl
  | d :: ds, _, h => by
    cases h with
    | cons a b => exact congrArg Nat.succ (dpAll_len b)
theorem dpAll_at {K : PySem.W.Frag} {H : Hp} : ∀ {ds : List D} {vs : List V} {i : Nat} {d : D}, DpAll K H vs ds → ds[i]? = some d → ∃ v, vs[i]? = some v ∧ Dp K H v d
  | [], _, _, _, h, e => by cases e
  | d :: ds, _, 0, _, h, e => by
    cases h with
    | cons a b =>
      cases e
      exact ⟨_, rfl, a⟩
  | d :: ds, _, i + 1, _, h, e => by
    cases h with
    | cons a b =>
      obtain ⟨v, e', q⟩ := dpAll_at (i := i) b e
      exact ⟨v, e', q⟩
theorem dpAll_app {K : PySem.W.Frag} {H : Hp} : ∀ {ds es : List D} {vs ws : List V}, DpAll K H vs ds → DpAll K H ws es → DpAll K H (vs ++ ws) (ds ++ es)
  | [], _, _, _, h, k => by cases h; exact k
  | d :: ds, _, _, _, h, k => by
    cases h with
    | cons a b => exact .cons a (dpAll_app b k)
theorem dpAll_split {K : PySem.W.Frag} {H : Hp} : ∀ {vs ws : List V} {ds es : List D}, vs.length = ds.length → DpAll K H (vs ++ ws) (ds ++ es) → DpAll K H vs ds ∧ DpAll K H ws es
  | [], _, [], _, _, h => ⟨.nil, h⟩
  | [], _, _ :: _, _, e, _ => by cases e
  | _ :: _, _, [], _, e, _ => by cases e
  | v :: vs, _, d :: ds, _, e, h => by
    cases h with
    | cons a b =>
      obtain ⟨h1, h2⟩ := dpAll_split (Nat.succ.inj e) b
      exact ⟨.cons a h1, h2⟩
theorem dpAll_ints {K : PySem.W.Frag} {H : Hp} : ∀ (ns : List Int), DpAll K H (ns.map V.int) (ns.map PyData.int)
  | [] => .nil
  | n :: ns => .cons (.int n) (dpAll_ints ns)
theorem ints_of {K : PySem.W.Frag} {H : Hp} : ∀ (ns : List Int) (vs : List V), DpAll K H vs (ns.map PyData.int) → vs = ns.map V.int
  | [], _, h => by cases h; rfl
  | n :: ns, _, h => by
    cases h with
    | cons a b =>
      cases a
      rw [ints_of ns _ b]
      rfl

/-! ### what a slot holds: nothing told; data that never changes; a list that only this slot knows; the source of draws -/
inductive DV where
  | no
  | sh (d : D)
  | ls (ds : List D)
  | dl (a l : Addr)
abbrev Rho := List DV

/-- Hb: what never changes at the entry; H0: all that is tracked there; P: what the def may change of it; Z: what is being made -/
structure Fx where
  Hb : Hp
  H0 : Hp
  P : List Addr
  Z : List (Addr × HO)

/-- the source of draws: great numbers, none below 0, and a number that is mixed -/
structure DealOk (ns : List Int) (b : Int) : Prop where
  pos : ∀ n ∈ ns, 0 ≤ n
  few : ns.length ≤ 48
  lo : 0 ≤ b
  hi : b < 2147483647
def DealAt (H : Hp) (a l : Addr) : Prop := ∃ ns b, DealOk ns b ∧ H a = some (.lst [.ref l, .int b]) ∧ H l = some (.lst (ns.map V.int))
def SlotOk (K : PySem.W.Frag) (Hi H : Hp) (s : Option V) (os : List Addr) : DV → Prop
  | .no => True
  | .sh d => ∃ v, s = some v ∧ Dp K Hi v d
  | .ls ds => ∃ a xs, s = some (.ref a) ∧ os = [a] ∧ H a = some (.lst xs) ∧ DpAll K Hi xs ds
  | .dl a l => s = some (.ref a) ∧ os = [a, l] ∧ a ≠ l ∧ DealAt H a l

structure RelI (K : PySem.W.Frag) (F : Fx) (σ : St) (H : Hp) (ρ : Rho) (vs : List V) (ds : List D) (Hi : Hp) (own : Nat → List Addr) : Prop where
  base : Same F.Hb Hi
  sub : Same Hi H
  new : ∀ b, Hi b ≠ none → F.Hb b ≠ none ∨ F.H0 b = none
  keep : ∀ b o, F.H0 b = some o → b ∉ F.P → H b = some o
  dom : ∀ b, F.H0 b ≠ none → H b ≠ none
  len : σ.length = ρ.length
  slot : ∀ i x, ρ[i]? = some x → SlotOk K Hi H (σ[i]?.join) (own i) x
  free : ∀ i, ∀ a ∈ own i, Hi a = none
  held : ∀ i, ∀ a ∈ own i, H a ≠ none
  nown : ∀ i, ∀ a ∈ own i, F.H0 a = none ∨ a ∈ F.P
  sep : ∀ i j, i ≠ j → ∀ a ∈ own i, a ∉ own j
  nls : ∀ i es, ρ[i]? = some (.ls es) → ∀ a ∈ own i, F.H0 a = none
  pin : ∀ z ∈ F.Z, H z.1 = some z.2 ∧ Hi z.1 = none ∧ ∀ i, z.1 ∉ own i
  tmp : DpAll K Hi vs ds
def Rel (K : PySem.W.Frag) (F : Fx) (σ : St) (H : Hp) (ρ : Rho) (vs : List V) (ds : List D) : Prop := ∃ Hi own, RelI K F σ H ρ vs ds Hi own

section
variable {K : PySem.W.Frag} {F : Fx} {σ : St} {H : Hp} {ρ : Rho} {vs ws xs : List V} {ds es : List D} {Hi : Hp} {own : Nat → List Addr}

theorem RelI.tmpTo (R : RelI K F σ H ρ vs ds Hi own) (h : DpAll K Hi ws es) : RelI K F σ H ρ ws es Hi own :=
  ⟨R.base, R.sub, R.new, R.keep, R.dom, R.len, R.slot, R.free, R.held, R.nown, R.sep, R.nls, R.pin, h⟩
theorem Rel.swap (R : Rel K F σ H ρ vs ds) (h : ∀ Hi, DpAll K Hi vs ds → DpAll K Hi ws es) : Rel K F σ H ρ ws es := by
  obtain ⟨Hi, own, R⟩ := R
  exact ⟨Hi, own, R.tmpTo (h Hi R.tmp)⟩
theorem Rel.drop {v : V} {d : D} (R : Rel K F σ H ρ (v :: vs) (d :: ds)) : Rel K F σ H ρ vs ds := R.swap fun _ h => by cases h with | cons _ b => exact b
theorem Rel.drop2 {v w : V} {d e : D} (R : Rel K F σ H ρ (v :: w :: vs) (d :: e :: ds)) : Rel K F σ H ρ (v :: vs) (d :: ds) := R.swap fun _ h => by
  cases h with | cons a b => cases b with | cons _ c => exact .cons a c
theorem Rel.dropN (R : Rel K F σ H ρ (ws ++ vs) (es ++ ds)) (e : ws.length = es.length) : Rel K F σ H ρ vs ds := R.swap fun _ h => (dpAll_split e h).2
/-- a scalar's value -/
def vD : V → D
  | .non => .none
  | .bl b => .bool b
  | .int i => .int i
  | .str x => .str x
  | _ => .none
def isSc : V → Bool
  | .non => true | .bl _ => true | .int _ => true | .str _ => true | _ => false
theorem dp_sc {H : Hp} {v : V} (h : isSc v = true) : Dp K H v (vD v) := by
  cases v <;> first | (cases h; done) | constructor
theorem Rel.push {v : V} (R : Rel K F σ H ρ vs ds) (h : isSc v = true) : Rel K F σ H ρ (v :: vs) (vD v :: ds) := R.swap fun _ q => .cons (dp_sc h) q
theorem RelI.noSub (R : RelI K F σ H ρ vs ds Hi own) {p : Addr} (h : H p = none) : Hi p = none := by
  cases q : Hi p with
  | none => rfl
  | some o => rw [R.sub _ _ q] at h; cases h
theorem RelI.no0 (R : RelI K F σ H ρ vs ds Hi own) {p : Addr} (h : H p = none) : F.H0 p = none := by
  cases q : F.H0 p with
  | none => rfl
  | some o => exact absurd h (R.dom p (by rw [q]; simp))
theorem same_upd {p : Addr} {o : HO} (h : H p = none) : Same H (upd H p o) := fun b x e => by
  rw [upd_ne (ne_of_none e h)]
  exact e
theorem same_upd2 {p : Addr} {o : HO} (e : Same Hi H) : Hi p = none → Same (upd Hi p o) (upd H p o) := fun hn b x q => by
  by_cases hb : b = p
  · rw [hb, upd_same] at q ⊢
    exact q
  · rw [upd_ne hb] at q ⊢
    exact e _ _ q
/-- the slots' part when more never changes and the owned objects stay -/
theorem SlotOk.grow {Hi' H' : Hp} {s : Option V} {os : List Addr} {x : DV} (h : SlotOk K Hi H s os x) (e : Same Hi Hi') (k : ∀ a ∈ os, ∀ o, H a = some o → H' a = some o) : SlotOk K Hi' H' s os x := by
  cases x with
  | no => trivial
  | sh d =>
    obtain ⟨v, e1, q⟩ := h
    exact ⟨v, e1, dp_mono e _ _ q⟩
  | ls ds =>
    obtain ⟨a, xs, e1, e2, h1, q⟩ := h
    exact ⟨a, xs, e1, e2, k a (by rw [e2]; simp) _ h1, dpAll_mono e _ _ q⟩
  | dl a l =>
    obtain ⟨e1, e2, n, ns, b, ok, h1, h2⟩ := h
    exact ⟨e1, e2, n, ns, b, ok, k a (by rw [e2]; simp) _ h1, k l (by rw [e2]; simp) _ h2⟩
/-- something new that never changes is laid at p -/
theorem RelI.lay {p : Addr} {o : HO} (R : RelI K F σ H ρ vs ds Hi own) (hp : H p = none) (h : DpAll K (upd Hi p o) ws es) : RelI K F σ (upd H p o) ρ ws es (upd Hi p o) own := by
  have np := R.noSub hp
  have s1 : Same Hi (upd Hi p o) := same_upd np
  have ne : ∀ i, ∀ a ∈ own i, a ≠ p := fun i a ha z => R.held i a ha (by rw [z]; exact hp)
  refine ⟨R.base.trans s1, same_upd2 R.sub np, fun b hb => ?_, fun b q h hn => ?_, fun b h => ?_, R.len, fun i x h => ?_, fun i a ha => ?_, fun i a ha => ?_, R.nown, R.sep, R.nls, fun z hz => ?_, h⟩
  · by_cases hbp : b = p
    · rw [hbp]; exact .inr (R.no0 hp)
    · rw [upd_ne hbp] at hb; exact R.new b hb
  · rw [upd_ne (ne_of_none (R.keep b q h hn) hp)]; exact R.keep b q h hn
  · by_cases hbp : b = p
    · rw [hbp, upd_same]; simp
    · rw [upd_ne hbp]; exact R.dom b h
  · exact (R.slot i x h).grow s1 fun a ha o q => by rw [upd_ne (ne i a ha)]; exact q
  · rw [upd_ne (ne i a ha)]; exact R.free i a ha
  · rw [upd_ne (ne i a ha)]; exact R.held i a ha
  · obtain ⟨z1, z2, z3⟩ := R.pin z hz
    have nz : z.1 ≠ p := ne_of_none z1 hp
    exact ⟨by rw [upd_ne nz]; exact z1, by rw [upd_ne nz]; exact z2, z3⟩
/-- a tuple of what was reckoned -/
theorem Rel.tup {p : Addr} (R : Rel K F σ H ρ (xs ++ vs) (es ++ ds)) (e : xs.length = es.length) (hp : H p = none) : Rel K F σ (upd H p (.tup xs)) ρ (.ref p :: vs) (.tuple es :: ds) := by
  obtain ⟨Hi, own, R⟩ := R
  obtain ⟨h1, h2⟩ := dpAll_split e R.tmp
  have s1 : Same Hi (upd Hi p (.tup xs)) := same_upd (R.noSub hp)
  exact ⟨_, own, R.lay hp (.cons (.tup (.inl (.inl upd_same)) (dpAll_mono s1 _ _ h1)) (dpAll_mono s1 _ _ h2))⟩
/-- a list of what was reckoned, shared from the first -/
theorem Rel.lst {p : Addr} (R : Rel K F σ H ρ (xs ++ vs) (es ++ ds)) (e : xs.length = es.length) (hp : H p = none) : Rel K F σ (upd H p (.lst xs)) ρ (.ref p :: vs) (.list es :: ds) := by
  obtain ⟨Hi, own, R⟩ := R
  obtain ⟨h1, h2⟩ := dpAll_split e R.tmp
  have s1 : Same Hi (upd Hi p (.lst xs)) := same_upd (R.noSub hp)
  exact ⟨_, own, R.lay hp (.cons (.lst (.inl (.inl upd_same)) (dpAll_mono s1 _ _ h1)) (dpAll_mono s1 _ _ h2))⟩
/-- a list of what was reckoned, kept in slot i alone -/
theorem Rel.keepOwn {p : Addr} {i : Nat} (R : Rel K F σ H ρ (xs ++ vs) (es ++ ds)) (e : xs.length = es.length) (hp : H p = none) (hi : i < ρ.length) : Rel K F (σ.set i (some (.ref p))) (upd H p (.lst xs)) (ρ.set i (.ls es)) vs ds := by
  obtain ⟨Hi, own, R⟩ := R
  obtain ⟨h1, h2⟩ := dpAll_split e R.tmp
  have ne : ∀ i, ∀ a ∈ own i, a ≠ p := fun i a ha z => R.held i a ha (by rw [z]; exact hp)
  have s1 : Same Hi (upd H p (.lst xs)) := R.sub.trans (same_upd hp)
  refine ⟨Hi, fun j => if j = i then [p] else own j, ⟨R.base, s1, R.new, fun b q h hn => ?_, fun b h => ?_, ?_, fun j x h => ?_, fun j a ha => ?_, fun j a ha => ?_, fun j a ha => ?_, fun j k hjk a ha hk => ?_, fun j es' h a ha => ?_, fun z hz => ?_, h2⟩⟩
  · rw [upd_ne (ne_of_none (R.keep b q h hn) hp)]; exact R.keep b q h hn
  · by_cases hbp : b = p
    · rw [hbp, upd_same]; simp
    · rw [upd_ne hbp]; exact R.dom b h
  · rw [List.length_set, List.length_set]; exact R.len
  · by_cases hj : j = i
    · subst hj
      rw [List.getElem?_set_self hi] at h
      cases h
      have e1 : (σ.set j (some (V.ref p)))[j]? = some (some (.ref p)) := List.getElem?_set_self (by rw [R.len]; exact hi)
      rw [e1]
      exact ⟨p, xs, rfl, by rw [if_pos rfl], upd_same, h1⟩
    · rw [List.getElem?_set_ne (Ne.symm hj)] at h ⊢
      rw [if_neg hj]
      exact (R.slot j x h).grow (Same.refl _) fun a ha o q => by rw [upd_ne (ne j a ha)]; exact q
  · by_cases hj : j = i
    · rw [if_pos hj] at ha
      obtain rfl : a = p := by simpa using ha
      exact R.noSub hp
    · rw [if_neg hj] at ha; exact R.free j a ha
  · by_cases hj : j = i
    · rw [if_pos hj] at ha
      obtain rfl : a = p := by simpa using ha
      rw [upd_same]; simp
    · rw [if_neg hj] at ha; rw [upd_ne (ne j a ha)]; exact R.held j a ha
  · by_cases hj : j = i
    · rw [if_pos hj] at ha
      obtain rfl : a = p := by simpa using ha
      exact .inl (R.no0 hp)
    · rw [if_neg hj] at ha; exact R.nown j a ha
  · by_cases hj : j = i
    · rw [if_pos hj] at ha
      obtain rfl : a = p := by simpa using ha
      rw [if_neg (fun z => hjk (hj.trans z.symm))] at hk
      exact ne k a hk rfl
    · rw [if_neg hj] at ha
      by_cases hki : k = i
      · rw [if_pos hki] at hk
        obtain rfl : a = p := by simpa using hk
        exact ne j a ha rfl
      · rw [if_neg hki] at hk; exact R.sep j k hjk a ha hk
  · by_cases hj : j = i
    · rw [if_pos hj] at ha
      obtain rfl : a = p := by simpa using ha
      exact R.no0 hp
    · rw [if_neg hj] at ha
      rw [List.getElem?_set_ne (Ne.symm hj)] at h
      exact R.nls j es' h a ha
  · obtain ⟨z1, z2, z3⟩ := R.pin z hz
    have nz : z.1 ≠ p := ne_of_none z1 hp
    refine ⟨by rw [upd_ne nz]; exact z1, z2, fun j hj => ?_⟩
    by_cases hji : j = i
    · rw [if_pos hji] at hj
      exact nz (by simpa using hj)
    · rw [if_neg hji] at hj; exact z3 j hj
/-- slot i is given another word (nothing, or data); what it owned before is forgotten -/
theorem RelI.put {i : Nat} {v : Option V} {x : DV} (R : RelI K F σ H ρ vs ds Hi own) (hi : i < ρ.length) (hx : SlotOk K Hi H v [] x) (h : DpAll K Hi ws es) : RelI K F (σ.set i v) H (ρ.set i x) ws es Hi (fun j => if j = i then [] else own j) := by
  refine ⟨R.base, R.sub, R.new, R.keep, R.dom, ?_, fun j y h => ?_, fun j a ha => ?_, fun j a ha => ?_, fun j a ha => ?_, fun j k hjk a ha hk => ?_, fun j es' h a ha => ?_, fun z hz => ?_, h⟩
  · rw [List.length_set, List.length_set]; exact R.len
  · by_cases hj : j = i
    · subst hj
      rw [List.getElem?_set_self hi] at h
      cases h
      have e1 : (σ.set j v)[j]? = some v := List.getElem?_set_self (by rw [R.len]; exact hi)
      rw [e1, if_pos rfl]
      exact hx
    · rw [List.getElem?_set_ne (Ne.symm hj)] at h ⊢
      rw [if_neg hj]
      exact R.slot j y h
  · by_cases hj : j = i
    · rw [if_pos hj] at ha; cases ha
    · rw [if_neg hj] at ha; exact R.free j a ha
  · by_cases hj : j = i
    · rw [if_pos hj] at ha; cases ha
    · rw [if_neg hj] at ha; exact R.held j a ha
  · by_cases hj : j = i
    · rw [if_pos hj] at ha; cases ha
    · rw [if_neg hj] at ha; exact R.nown j a ha
  · by_cases hj : j = i
    · rw [if_pos hj] at ha; cases ha
    · rw [if_neg hj] at ha
      by_cases hki : k = i
      · rw [if_pos hki] at hk; cases hk
      · rw [if_neg hki] at hk; exact R.sep j k hjk a ha hk
  · by_cases hj : j = i
    · rw [if_pos hj] at ha; cases ha
    · rw [if_neg hj] at ha
      rw [List.getElem?_set_ne (Ne.symm hj)] at h
      exact R.nls j es' h a ha
  · obtain ⟨z1, z2, z3⟩ := R.pin z hz
    refine ⟨z1, z2, fun j hj => ?_⟩
    by_cases hji : j = i
    · rw [if_pos hji] at hj; cases hj
    · rw [if_neg hji] at hj; exact z3 j hj
theorem Rel.store {i : Nat} {v : V} {d : D} (R : Rel K F σ H ρ (v :: vs) (d :: ds)) (hi : i < ρ.length) : Rel K F (σ.set i (some v)) H (ρ.set i (.sh d)) vs ds := by
  obtain ⟨Hi, own, R⟩ := R
  have q := R.tmp
  cases q with
  | cons a b => exact ⟨Hi, _, R.put hi ⟨v, rfl, a⟩ b⟩
theorem Rel.wipe1 {i : Nat} (R : Rel K F σ H ρ vs ds) (hi : i < ρ.length) : Rel K F (σ.set i none) H (ρ.set i .no) vs ds := by
  obtain ⟨Hi, own, R⟩ := R
  exact ⟨Hi, _, R.put hi trivial R.tmp⟩
/-- a slot's data -/
theorem Rel.get {i : Nat} {d : D} (R : Rel K F σ H ρ vs ds) (h : ρ[i]? = some (.sh d)) : ∃ v, σ[i]? = some (some v) ∧ Rel K F σ H ρ (v :: vs) (d :: ds) := by
  obtain ⟨Hi, own, R⟩ := R
  obtain ⟨v, e, q⟩ := R.slot i _ h
  have e' : σ[i]? = some (some v) := by
    cases z : σ[i]? with
    | none => rw [z] at e; cases e
    | some y => rw [z] at e; exact congrArg some e
  exact ⟨v, e', Hi, own, R.tmpTo (.cons q R.tmp)⟩
/-- a list that only slot i knows will never change again -/
theorem Rel.freeze {i : Nat} {es : List D} (R : Rel K F σ H ρ vs ds) (h : ρ[i]? = some (.ls es)) : Rel K F σ H (ρ.set i (.sh (.list es))) vs ds := by
  obtain ⟨Hi, own, R⟩ := R
  obtain ⟨p, xs, e, eo, hp, q⟩ := R.slot i _ h
  have hi : i < ρ.length := (List.getElem?_eq_some_iff.mp h).1
  have np : Hi p = none := R.free i p (by rw [eo]; simp)
  have s1 : Same Hi (upd Hi p (.lst xs)) := same_upd np
  have no : ∀ j, j ≠ i → ∀ a ∈ own j, a ≠ p := fun j hj a ha z => R.sep j i hj a ha (by rw [eo, z]; simp)
  refine ⟨upd Hi p (.lst xs), fun j => if j = i then [] else own j, ⟨R.base.trans s1, fun b o z => ?_, fun b hb => ?_, R.keep, R.dom, ?_, fun j y h => ?_, fun j a ha => ?_, fun j a ha => ?_, fun j a ha => ?_, fun j k hjk a ha hk => ?_, fun j es' h a ha => ?_, fun z hz => ?_, dpAll_mono s1 _ _ R.tmp⟩⟩
  · by_cases hb : b = p
    · rw [hb, upd_same] at z; rw [hb, hp]; exact z
    · rw [upd_ne hb] at z; exact R.sub b o z
  · by_cases hbp : b = p
    · rw [hbp]; exact .inr (R.nls i _ h p (by rw [eo]; simp))
    · rw [upd_ne hbp] at hb; exact R.new b hb
  · rw [List.length_set]; exact R.len
  · by_cases hj : j = i
    · subst hj
      rw [List.getElem?_set_self hi] at h
      cases h
      exact ⟨.ref p, e, .lst (.inl (.inl upd_same)) (dpAll_mono s1 _ _ q)⟩
    · rw [List.getElem?_set_ne (Ne.symm hj)] at h
      rw [if_neg hj]
      exact (R.slot j y h).grow s1 fun _ _ _ z => z
  · by_cases hj : j = i
    · rw [if_pos hj] at ha; cases ha
    · rw [if_neg hj] at ha; rw [upd_ne (no j hj a ha)]; exact R.free j a ha
  · by_cases hj : j = i
    · rw [if_pos hj] at ha; cases ha
    · rw [if_neg hj] at ha; exact R.held j a ha
  · by_cases hj : j = i
    · rw [if_pos hj] at ha; cases ha
    · rw [if_neg hj] at ha; exact R.nown j a ha
  · by_cases hj : j = i
    · rw [if_pos hj] at ha; cases ha
    · rw [if_neg hj] at ha
      by_cases hki : k = i
      · rw [if_pos hki] at hk; cases hk
      · rw [if_neg hki] at hk; exact R.sep j k hjk a ha hk
  · by_cases hj : j = i
    · rw [if_pos hj] at ha; cases ha
    · rw [if_neg hj] at ha
      rw [List.getElem?_set_ne (Ne.symm hj)] at h
      exact R.nls j es' h a ha
  · obtain ⟨z1, z2, z3⟩ := R.pin z hz
    have nz : z.1 ≠ p := fun e => z3 i (by rw [eo, e]; simp)
    refine ⟨z1, by rw [upd_ne nz]; exact z2, fun j hj => ?_⟩
    by_cases hji : j = i
    · rw [if_pos hji] at hj; cases hj
    · rw [if_neg hji] at hj; exact z3 j hj
end
end LD

/-! LD2: readings over data: expressions. -/
namespace LD
open PySem PySem.Spec L2

abbrev KD := Rho → D → Prop
abbrev KL := Rho → List D → Prop
abbrev TD := Rho → KD → Prop
abbrev TDA := Rho → KL → Prop
abbrev TDT := Rho → (Rho → Bool → Prop) → Prop
abbrev TDO := Rho → (Rho → Option Int → Prop) → Prop
abbrev OD := D → D → (D → Prop) → Prop
abbrev UD := D → (D → Prop) → Prop
abbrev CD := List D → (D → Prop) → Prop
abbrev CF := List D → (List D → Prop) → Prop

/-- the reading te, told over data by t -/
structure SE (K : PySem.W.Frag) (te : TE) (t : TD) : Prop where
  mono : ∀ ρ P P', (∀ r d, P r d → P' r d) → t ρ P → t ρ P'
  run : ∀ F σ H ρ vs ds Q, Rel K F σ H ρ vs ds → t ρ (fun r d => ∀ v H', Rel K F σ H' r (v :: vs) (d :: ds) → Q v H') → te σ H Q
/-- .. of a list that is made new -/
structure SF (K : PySem.W.Frag) (te : TE) (t : TDA) : Prop where
  mono : ∀ ρ P P', (∀ r d, P r d → P' r d) → t ρ P → t ρ P'
  run : ∀ F σ H ρ vs ds Q, Rel K F σ H ρ vs ds → t ρ (fun r es => ∀ xs H' p, xs.length = es.length → Rel K F σ H' r (xs ++ vs) (es ++ ds) → H' p = none → Q (.ref p) (upd H' p (.lst xs))) → te σ H Q
structure SA (K : PySem.W.Frag) (te : TA) (t : TDA) : Prop where
  mono : ∀ ρ P P', (∀ r d, P r d → P' r d) → t ρ P → t ρ P'
  run : ∀ F σ H ρ vs ds Q, Rel K F σ H ρ vs ds → t ρ (fun r es => ∀ xs H', xs.length = es.length → Rel K F σ H' r (xs ++ vs) (es ++ ds) → Q xs H') → te σ H Q
structure ST (K : PySem.W.Frag) (te : TT) (t : TDT) : Prop where
  mono : ∀ ρ P P', (∀ r d, P r d → P' r d) → t ρ P → t ρ P'
  run : ∀ F σ H ρ vs ds Q, Rel K F σ H ρ vs ds → t ρ (fun r b => ∀ H', Rel K F σ H' r vs ds → Q b H') → te σ H Q
structure SOp (K : PySem.W.Frag) (te : TO) (t : TDO) : Prop where
  mono : ∀ ρ P P', (∀ r d, P r d → P' r d) → t ρ P → t ρ P'
  run : ∀ F σ H ρ vs ds Q, Rel K F σ H ρ vs ds → t ρ (fun r o => ∀ H', Rel K F σ H' r vs ds → Q o H') → te σ H Q
structure SO (K : PySem.W.Frag) (r : R2) (o : OD) : Prop where
  mono : ∀ a b P P', (∀ d, P d → P' d) → o a b P → o a b P'
  run : ∀ F σ H ρ vs ds x y a b Q, Rel K F σ H ρ (y :: x :: vs) (b :: a :: ds) → o a b (fun d => ∀ v H', Rel K F σ H' ρ (v :: vs) (d :: ds) → Q v H') → r x y H Q
structure SU (K : PySem.W.Frag) (r : V → Hp → VK → Prop) (o : UD) : Prop where
  mono : ∀ a P P', (∀ d, P d → P' d) → o a P → o a P'
  run : ∀ F σ H ρ vs ds x a Q, Rel K F σ H ρ (x :: vs) (a :: ds) → o a (fun d => ∀ v H', Rel K F σ H' ρ (v :: vs) (d :: ds) → Q v H') → r x H Q
structure SC (K : PySem.W.Frag) (r : List V → Hp → VK → Prop) (o : CD) : Prop where
  mono : ∀ a P P', (∀ d, P d → P' d) → o a P → o a P'
  run : ∀ F σ H ρ vs ds xs es Q, xs.length = es.length → Rel K F σ H ρ (xs ++ vs) (es ++ ds) → o es (fun d => ∀ v H', Rel K F σ H' ρ (v :: vs) (d :: ds) → Q v H') → r xs H Q
/-- a built-in call that hands back a new list -/
structure SCF (K : PySem.W.Frag) (r : List V → Hp → VK → Prop) (o : CF) : Prop where
  mono : ∀ a P P', (∀ d, P d → P' d) → o a P → o a P'
  run : ∀ F σ H ρ vs ds xs es Q, xs.length = es.length → Rel K F σ H ρ (xs ++ vs) (es ++ ds) → o es (fun fs => ∀ ys H' p, ys.length = fs.length → Rel K F σ H' ρ (ys ++ vs) (fs ++ ds) → H' p = none → Q (.ref p) (upd H' p (.lst ys))) → r xs H Q

/-! ### inversions -/
section
variable {K : PySem.W.Frag} {F : Fx} {σ : L2.St} {H : Hp} {ρ : Rho} {vs xs : List V} {ds es : List D} {v : V}
theorem Rel.int {i : Int} (R : Rel K F σ H ρ (v :: vs) (.int i :: ds)) : v = .int i := by
  obtain ⟨_, _, R⟩ := R
  have q := R.tmp
  cases q with | cons a _ => cases a; rfl
theorem Rel.bl {i : Bool} (R : Rel K F σ H ρ (v :: vs) (.bool i :: ds)) : v = .bl i := by
  obtain ⟨_, _, R⟩ := R
  have q := R.tmp
  cases q with | cons a _ => cases a; rfl
theorem Rel.str {i : Str} (R : Rel K F σ H ρ (v :: vs) (.str i :: ds)) : v = .str i := by
  obtain ⟨_, _, R⟩ := R
  have q := R.tmp
  cases q with | cons a _ => cases a; rfl
theorem Rel.non (R : Rel K F σ H ρ (v :: vs) (PyData.none :: ds)) : v = .non := by
  obtain ⟨_, _, R⟩ := R
  have q := R.tmp
  cases q with | cons a _ => cases a; rfl
/-- a shared list: its items -/
theorem Rel.asList (R : Rel K F σ H ρ (v :: vs) (.list es :: ds)) : ∃ p xs, v = .ref p ∧ xs.length = es.length ∧ SqL K H p xs ∧ Rel K F σ H ρ (xs ++ v :: vs) (es ++ .list es :: ds) := by
  obtain ⟨Hi, own, R⟩ := R
  have q := R.tmp
  cases q with
  | cons a b =>
    cases a with
    | lst s q => exact ⟨_, _, rfl, dpAll_len q, R.sub.seq s, Hi, own, R.tmpTo (dpAll_app q (.cons (.lst s q) b))⟩
theorem Rel.asTup (R : Rel K F σ H ρ (v :: vs) (.tuple es :: ds)) : ∃ p xs, v = .ref p ∧ xs.length = es.length ∧ SqT K H p xs ∧ Rel K F σ H ρ (xs ++ v :: vs) (es ++ .tuple es :: ds) := by
  obtain ⟨Hi, own, R⟩ := R
  have q := R.tmp
  cases q with
  | cons a b =>
    cases a with
    | tup s q => exact ⟨_, _, rfl, dpAll_len q, sqT_mono R.sub s, Hi, own, R.tmpTo (dpAll_app q (.cons (.tup s q) b))⟩
theorem Rel.dp {d : D} (R : Rel K F σ H ρ (v :: vs) (d :: ds)) : Dp K H v d := by
  obtain ⟨Hi, own, R⟩ := R
  have q := R.tmp
  cases q with | cons a _ => exact dp_mono R.sub _ _ a
theorem Rel.dpAll (R : Rel K F σ H ρ vs ds) : DpAll K H vs ds := by
  obtain ⟨Hi, own, R⟩ := R
  exact dpAll_mono R.sub _ _ R.tmp
/-- one of the temporaries in front -/
theorem Rel.pick {i : Nat} {d : D} (R : Rel K F σ H ρ (xs ++ vs) (es ++ ds)) (e : xs.length = es.length) (h : es[i]? = some d) : ∃ v, xs[i]? = some v ∧ Rel K F σ H ρ (v :: vs) (d :: ds) := by
  obtain ⟨Hi, own, R⟩ := R
  obtain ⟨h1, h2⟩ := dpAll_split e R.tmp
  obtain ⟨v, e1, q⟩ := dpAll_at h1 h
  exact ⟨v, e1, Hi, own, R.tmpTo (.cons q h2)⟩
theorem len_nil {xs : List V} (e : xs.length = ([] : List D).length) : xs = [] := List.length_eq_zero_iff.mp e
theorem len_cons {xs : List V} {d : D} {ds : List D} (e : xs.length = (d :: ds).length) : ∃ x r, xs = x :: r ∧ r.length = ds.length := by
  cases xs with
  | nil => cases e
  | cons x r => exact ⟨x, r, rfl, Nat.succ.inj e⟩
end

/-! ### expressions -/
section
variable {K : PySem.W.Frag} {ta tb tc te : TE} {a b c t : TD}
def dVar (i : Nat) : TD := fun ρ P => ∃ d, ρ[i]? = some (.sh d) ∧ P ρ d
theorem se_var (i : Nat) : SE K (tVar i) (dVar i) := ⟨fun ρ P P' h ⟨d, e, q⟩ => ⟨d, e, h _ d q⟩, fun F σ H ρ vs ds Q R ⟨d, e, q⟩ => by
  obtain ⟨v, e1, R1⟩ := R.get e
  exact ⟨v, e1, q v H R1⟩⟩
def dC (d : D) : TD := fun ρ P => P ρ d
theorem se_c {v : V} (h : isSc v = true := by rfl) : SE K (tC v) (dC (vD v)) := ⟨fun ρ P P' h q => h _ _ q, fun F σ H ρ vs ds Q R q => q v H (R.push h)⟩
def dOp (o : OD) (a b : TD) : TD := fun ρ P => a ρ fun ρ1 x => b ρ1 fun ρ2 y => o x y (P ρ2)
theorem se_op {r : R2} {o : OD} (so : SO K r o) (sa : SE K ta a) (sb : SE K tb b) : SE K (tOp r ta tb) (dOp o a b) := by
  refine ⟨fun ρ P P' h q => sa.mono _ _ _ (fun _ x q => sb.mono _ _ _ (fun _ y q => so.mono _ _ _ _ (h _) q) q) q, fun F σ H ρ vs ds Q R q => ?_⟩
  refine sa.run F σ H ρ vs ds _ R (sa.mono _ _ _ (fun ρ1 x q v1 H1 R1 => ?_) q)
  refine sb.run F σ H1 ρ1 (v1 :: vs) (x :: ds) _ R1 (sb.mono _ _ _ (fun ρ2 y q v2 H2 R2 => ?_) q)
  exact so.run F σ H2 ρ2 vs ds v1 v2 x y Q R2 q
def dUn (o : UD) (a : TD) : TD := fun ρ P => a ρ fun ρ1 x => o x (P ρ1)
theorem se_un {r : V → Hp → VK → Prop} {o : UD} (so : SU K r o) (sa : SE K ta a) : SE K (tUn r ta) (dUn o a) := by
  refine ⟨fun ρ P P' h q => sa.mono _ _ _ (fun _ x q => so.mono _ _ _ (h _) q) q, fun F σ H ρ vs ds Q R q => ?_⟩
  exact sa.run F σ H ρ vs ds _ R (sa.mono _ _ _ (fun ρ1 x q v1 H1 R1 => so.run F σ H1 ρ1 vs ds v1 x Q R1 q) q)
/-- a list that is made and shared -/
def dSh (t : TDA) : TD := fun ρ P => t ρ fun r es => P r (.list es)
theorem se_sh {t : TDA} (s : SF K te t) : SE K te (dSh t) := ⟨fun ρ P P' h q => s.mono _ _ _ (fun _ es q => h _ _ q) q, fun F σ H ρ vs ds Q R q =>
  s.run F σ H ρ vs ds Q R (s.mono _ _ _ (fun _ es q xs H' p e R1 hp => q _ _ (R1.lst e hp)) q)⟩
/-! arguments, displays -/
def dNil : TDA := fun ρ P => P ρ []
def dCons (a : TD) (r : TDA) : TDA := fun ρ P => a ρ fun ρ1 x => r ρ1 fun ρ2 xs => P ρ2 (x :: xs)
theorem sa_nil : SA K tNil dNil := ⟨fun ρ P P' h q => h _ _ q, fun F σ H ρ vs ds Q R q => q [] H rfl R⟩
theorem sa_cons {tr : TA} {r : TDA} (sa : SE K ta a) (sr : SA K tr r) : SA K (tCons ta tr) (dCons a r) := by
  refine ⟨fun ρ P P' h q => sa.mono _ _ _ (fun _ x q => sr.mono _ _ _ (fun _ xs q => h _ _ q) q) q, fun F σ H ρ vs ds Q R q => ?_⟩
  refine sa.run F σ H ρ vs ds _ R (sa.mono _ _ _ (fun ρ1 x q v1 H1 R1 => ?_) q)
  refine sr.run F σ H1 ρ1 (v1 :: vs) (x :: ds) _ R1 (sr.mono _ _ _ (fun ρ2 es q xs H2 e R2 => ?_) q)
  refine q (v1 :: xs) H2 (congrArg Nat.succ e) (R2.swap fun Hi h => ?_)
  obtain ⟨h1, h2⟩ := dpAll_split e h
  cases h2 with
  | cons p q => exact .cons p (dpAll_app h1 q)
def dTup (t : TDA) : TD := fun ρ P => t ρ fun r es => es.length ≤ sizeLine ∧ P r (.tuple es)
theorem se_tup {ta : TA} {t : TDA} (s : SA K ta t) : SE K (tTup ta) (dTup t) := ⟨fun ρ P P' h q => s.mono _ _ _ (fun _ es q => ⟨q.1, h _ _ q.2⟩) q, fun F σ H ρ vs ds Q R q =>
  s.run F σ H ρ vs ds _ R (s.mono _ _ _ (fun _ es q xs H1 e R1 => ⟨by rw [e]; exact q.1, fun p hp => q.2 _ _ (R1.tup e hp)⟩) q)⟩
def dLst (t : TDA) : TDA := fun ρ P => t ρ fun r es => es.length ≤ sizeLine ∧ P r es
theorem sf_lst {ta : TA} {t : TDA} (s : SA K ta t) : SF K (tLst ta) (dLst t) := ⟨fun ρ P P' h q => s.mono _ _ _ (fun _ es q => ⟨q.1, h _ _ q.2⟩) q, fun F σ H ρ vs ds Q R q =>
  s.run F σ H ρ vs ds _ R (s.mono _ _ _ (fun _ es q xs H1 e R1 => ⟨by rw [e]; exact q.1, fun p hp => q.2 _ _ _ e R1 hp⟩) q)⟩
/-! built-in calls -/
def dCall (o : CD) (t : TDA) : TD := fun ρ P => t ρ fun r es => o es (P r)
theorem se_cb {r : List V → Hp → VK → Prop} {o : CD} {ta : TA} {t : TDA} (so : SC K r o) (s : SA K ta t) : SE K (tCB r ta) (dCall o t) := ⟨fun ρ P P' h q => s.mono _ _ _ (fun _ es q => so.mono _ _ _ (h _) q) q, fun F σ H ρ vs ds Q R q =>
  s.run F σ H ρ vs ds _ R (s.mono _ _ _ (fun ρ1 es q xs H1 e R1 => so.run F σ H1 ρ1 vs ds xs es Q e R1 q) q)⟩
def dCallF (o : CF) (t : TDA) : TDA := fun ρ P => t ρ fun r es => o es (P r)
theorem sf_cb {r : List V → Hp → VK → Prop} {o : CF} {ta : TA} {t : TDA} (so : SCF K r o) (s : SA K ta t) : SF K (tCB r ta) (dCallF o t) := ⟨fun ρ P P' h q => s.mono _ _ _ (fun _ es q => so.mono _ _ _ (h _) q) q, fun F σ H ρ vs ds Q R q =>
  s.run F σ H ρ vs ds _ R (s.mono _ _ _ (fun ρ1 es q xs H1 e R1 => so.run F σ H1 ρ1 vs ds xs es Q e R1 q) q)⟩
/-! conditional expressions, and, or, not -/
def dIf (t : TDT) (a b : TD) : TD := fun ρ P => t ρ fun r k => if k = true then a r P else b r P
theorem se_if {tt : TT} {t : TDT} (st : ST K tt t) (sa : SE K ta a) (sb : SE K tb b) : SE K (tIf tt ta tb) (dIf t a b) := by
  refine ⟨fun ρ P P' h q => st.mono _ _ _ (fun _ k q => ?_) q, fun F σ H ρ vs ds Q R q => ?_⟩
  · cases k with
    | true => exact sa.mono _ _ _ h q
    | false => exact sb.mono _ _ _ h q
  · refine st.run F σ H ρ vs ds _ R (st.mono _ _ _ (fun ρ1 k q H1 R1 => ?_) q)
    cases k with
    | true => exact sa.run F σ H1 ρ1 vs ds Q R1 q
    | false => exact sb.run F σ H1 ρ1 vs ds Q R1 q
def dAndV (a b : TD) : TD := fun ρ P => a ρ fun r x => ∃ k, x = .bool k ∧ if k = true then b r P else P r (.bool false)
theorem se_andV (sa : SE K ta a) (sb : SE K tb b) : SE K (tAndV ta tb) (dAndV a b) := by
  refine ⟨fun ρ P P' h q => sa.mono _ _ _ (fun _ x q => ?_) q, fun F σ H ρ vs ds Q R q => ?_⟩
  · obtain ⟨k, e, q⟩ := q
    refine ⟨k, e, ?_⟩
    cases k with
    | true => exact sb.mono _ _ _ h q
    | false => exact h _ _ q
  · refine sa.run F σ H ρ vs ds _ R (sa.mono _ _ _ (fun ρ1 x q v H1 R1 => ?_) q)
    obtain ⟨k, rfl, q⟩ := q
    refine ⟨k, R1.bl, ?_⟩
    cases k with
    | true => exact sb.run F σ H1 ρ1 vs ds Q R1.drop q
    | false => exact q _ _ (R1.drop.push (v := .bl false) rfl)
def dOrV (a b : TD) : TD := fun ρ P => a ρ fun r x => ∃ k, x = .bool k ∧ if k = true then P r (.bool true) else b r P
theorem se_orV (sa : SE K ta a) (sb : SE K tb b) : SE K (tOrV ta tb) (dOrV a b) := by
  refine ⟨fun ρ P P' h q => sa.mono _ _ _ (fun _ x q => ?_) q, fun F σ H ρ vs ds Q R q => ?_⟩
  · obtain ⟨k, e, q⟩ := q
    refine ⟨k, e, ?_⟩
    cases k with
    | false => exact sb.mono _ _ _ h q
    | true => exact h _ _ q
  · refine sa.run F σ H ρ vs ds _ R (sa.mono _ _ _ (fun ρ1 x q v H1 R1 => ?_) q)
    obtain ⟨k, rfl, q⟩ := q
    refine ⟨k, R1.bl, ?_⟩
    cases k with
    | false => exact sb.run F σ H1 ρ1 vs ds Q R1.drop q
    | true => exact q _ _ (R1.drop.push (v := .bl true) rfl)
def dNotV (a : TD) : TD := fun ρ P => a ρ fun r x => ∃ k, x = .bool k ∧ P r (.bool (!k))
theorem se_notV (sa : SE K ta a) : SE K (tNotV ta) (dNotV a) := by
  refine ⟨fun ρ P P' h q => sa.mono _ _ _ (fun _ x ⟨k, e, q⟩ => ⟨k, e, h _ _ q⟩) q, fun F σ H ρ vs ds Q R q => ?_⟩
  refine sa.run F σ H ρ vs ds _ R (sa.mono _ _ _ (fun ρ1 x q v H1 R1 => ?_) q)
  obtain ⟨k, rfl, q⟩ := q
  exact ⟨k, R1.bl, q _ _ (R1.drop.push (v := .bl (!k)) rfl)⟩
/-! tests -/
def dTB (a : TD) : TDT := fun ρ P => a ρ fun r d => ∃ b, d = .bool b ∧ P r b
theorem st_b (sa : SE K ta a) : ST K (tB ta) (dTB a) := ⟨fun ρ P P' h q => sa.mono _ _ _ (fun _ d ⟨b, e, q⟩ => ⟨b, e, h _ b q⟩) q, fun F σ H ρ vs ds Q R q =>
  sa.run F σ H ρ vs ds _ R (sa.mono _ _ _ (fun _ d q v H1 R1 => by
    obtain ⟨b, rfl, q⟩ := q
    exact ⟨b, R1.bl, q H1 R1.drop⟩) q)⟩
theorem st_test (sa : SE K ta a) : ST K (tTest ta) (dTB a) := ⟨(st_b sa).mono, (st_b sa).run⟩
def dTNot (t : TDT) : TDT := fun ρ P => t ρ fun r b => P r (!b)
def dTAnd (t u : TDT) : TDT := fun ρ P => t ρ fun r b => if b = true then u r P else P r false
def dTOr (t u : TDT) : TDT := fun ρ P => t ρ fun r b => if b = true then P r true else u r P
theorem st_not {tt : TT} {t : TDT} (st : ST K tt t) : ST K (tNot tt) (dTNot t) := ⟨fun ρ P P' h q => st.mono _ _ _ (fun _ b q => h _ _ q) q, fun F σ H ρ vs ds Q R q =>
  st.run F σ H ρ vs ds _ R (st.mono _ _ _ (fun _ b q H1 R1 => q H1 R1) q)⟩
theorem st_and {tt uu : TT} {t u : TDT} (st : ST K tt t) (su : ST K uu u) : ST K (tAnd tt uu) (dTAnd t u) := by
  refine ⟨fun ρ P P' h q => st.mono _ _ _ (fun _ b q => ?_) q, fun F σ H ρ vs ds Q R q => st.run F σ H ρ vs ds _ R (st.mono _ _ _ (fun r b q H1 R1 => ?_) q)⟩
  · cases b with
    | true => exact su.mono _ _ _ h q
    | false => exact h _ _ q
  · cases b with
    | true => exact su.run F σ H1 r vs ds Q R1 q
    | false => exact q H1 R1
theorem st_or {tt uu : TT} {t u : TDT} (st : ST K tt t) (su : ST K uu u) : ST K (tOr tt uu) (dTOr t u) := by
  refine ⟨fun ρ P P' h q => st.mono _ _ _ (fun _ b q => ?_) q, fun F σ H ρ vs ds Q R q => st.run F σ H ρ vs ds _ R (st.mono _ _ _ (fun r b q H1 R1 => ?_) q)⟩
  · cases b with
    | false => exact su.mono _ _ _ h q
    | true => exact h _ _ q
  · cases b with
    | false => exact su.run F σ H1 r vs ds Q R1 q
    | true => exact q H1 R1
end
end LD

/-! LD3: readings over data: operators, subscripts, slices, built-in functions. -/
namespace LD
open PySem PySem.Spec L2
section
variable {K : PySem.W.Frag}
def oI (C : Int → Int → Prop) (g : Int → Int → V) : OD := fun a b P => ∃ i j, a = .int i ∧ b = .int j ∧ C i j ∧ P (vD (g i j))
theorem so_rI {C : Int → Int → Prop} {g : Int → Int → V} (hs : ∀ i j, isSc (g i j) = true := by intros; rfl) : SO K (rI C g) (oI C g) :=
  ⟨fun a b P P' h ⟨i, j, e1, e2, c, q⟩ => ⟨i, j, e1, e2, c, h _ q⟩, fun F σ H ρ vs ds x y a b Q R ⟨i, j, e1, e2, c, q⟩ => by
    subst e1 e2
    exact ⟨i, j, R.drop.int, R.int, c, q _ _ (R.drop.drop.push (hs i j))⟩⟩
def oI0 (g : Int → Int → V) : OD := fun a b P => ∃ i j, a = .int i ∧ b = .int j ∧ P (vD (g i j))
theorem so_rI0 {g : Int → Int → V} (hs : ∀ i j, isSc (g i j) = true := by intros; rfl) : SO K (rI0 g) (oI0 g) :=
  ⟨fun a b P P' h ⟨i, j, e1, e2, q⟩ => ⟨i, j, e1, e2, h _ q⟩, fun F σ H ρ vs ds x y a b Q R ⟨i, j, e1, e2, q⟩ => by
    subst e1 e2
    exact ⟨i, j, R.drop.int, R.int, q _ _ (R.drop.drop.push (hs i j))⟩⟩
def uI (g : Int → Int) : UD := fun a P => ∃ i, a = .int i ∧ P (.int (g i))
theorem su_rU {g : Int → Int} : SU K (rU fun i => .int (g i)) (uI g) :=
  ⟨fun a P P' h ⟨i, e1, q⟩ => ⟨i, e1, h _ q⟩, fun F σ H ρ vs ds x a Q R ⟨i, e1, q⟩ => by
    subst e1
    exact ⟨i, R.int, q _ _ (R.drop.push (v := .int (g i)) rfl)⟩⟩
/-- ==, != of data -/
def oEq : OD := fun a b P => SeqAt.shaped a = true ∧ SeqAt.shaped b = true ∧ P (.bool (PyData.eqv a b))
def oNe : OD := fun a b P => SeqAt.shaped a = true ∧ SeqAt.shaped b = true ∧ P (.bool (!PyData.eqv a b))
theorem so_eqD : SO K (rEqD K) oEq := ⟨fun a b P P' h ⟨e1, e2, q⟩ => ⟨e1, e2, h _ q⟩, fun F σ H ρ vs ds x y a b Q R ⟨e1, e2, q⟩ =>
  ⟨a, b, R.drop.dp, R.dp, e1, e2, q _ _ (R.drop.drop.push (v := .bl (PyData.eqv a b)) rfl)⟩⟩
theorem so_neD : SO K (rNeD K) oNe := ⟨fun a b P P' h ⟨e1, e2, q⟩ => ⟨e1, e2, h _ q⟩, fun F σ H ρ vs ds x y a b Q R ⟨e1, e2, q⟩ =>
  ⟨a, b, R.drop.dp, R.dp, e1, e2, q _ _ (R.drop.drop.push (v := .bl (!PyData.eqv a b)) rfl)⟩⟩
/-- texts that are compared -/
def oNeS : OD := fun a b P => ∃ x y, a = .str x ∧ b = .str y ∧ P (.bool (!decide (x = y)))
theorem so_neS : SO K rNe oNeS := ⟨fun a b P P' h ⟨x, y, e1, e2, q⟩ => ⟨x, y, e1, e2, h _ q⟩, fun F σ H ρ vs ds x y a b Q R ⟨s, t, e1, e2, q⟩ => by
  subst e1 e2
  obtain rfl := R.str
  obtain rfl := R.drop.str
  refine ⟨rfl, ?_⟩
  have e : (!decide (V.str s = V.str t)) = !decide (s = t) := by
    by_cases h : s = t
    · rw [h]; simp
    · simp [h]
  rw [e]
  exact q _ _ (R.drop.drop.push (v := .bl (!decide (s = t))) rfl)⟩
def oEqS : OD := fun a b P => ∃ x y, a = .str x ∧ b = .str y ∧ P (.bool (decide (x = y)))
theorem so_eqS : SO K rEq oEqS := ⟨fun a b P P' h ⟨x, y, e1, e2, q⟩ => ⟨x, y, e1, e2, h _ q⟩, fun F σ H ρ vs ds x y a b Q R ⟨s, t, e1, e2, q⟩ => by
  subst e1 e2
  obtain rfl := R.str
  obtain rfl := R.drop.str
  refine ⟨rfl, ?_⟩
  have e : (decide (V.str s = V.str t)) = decide (s = t) := by
    by_cases h : s = t
    · rw [h]; simp
    · simp [h]
  rw [e]
  exact q _ _ (R.drop.drop.push (v := .bl (decide (s = t))) rfl)⟩
/-- is None -/
def isNoneD : D → Bool
  | .none => true
  | _ => false
theorem dp_none {H : Hp} {v : V} {d : D} (h : Dp K H v d) : decide (v = .non) = isNoneD d := by
  cases h <;> first | rfl | simp [isNoneD]
def oIsN : OD := fun a b P => b = .none ∧ P (.bool (isNoneD a))
def oNotN : OD := fun a b P => b = .none ∧ P (.bool (!isNoneD a))
theorem so_isN : SO K (fun x y H Q => y = .non ∧ Q (.bl (decide (x = .non))) H) oIsN := ⟨fun a b P P' h ⟨e2, q⟩ => ⟨e2, h _ q⟩, fun F σ H ρ vs ds x y a b Q R ⟨e2, q⟩ => by
  subst e2
  refine ⟨R.non, ?_⟩
  rw [dp_none R.drop.dp]
  exact q _ _ (R.drop.drop.push (v := .bl (isNoneD a)) rfl)⟩
theorem so_notN : SO K (fun x y H Q => y = .non ∧ Q (.bl (!decide (x = .non))) H) oNotN := ⟨fun a b P P' h ⟨e2, q⟩ => ⟨e2, h _ q⟩, fun F σ H ρ vs ds x y a b Q R ⟨e2, q⟩ => by
  subst e2
  refine ⟨R.non, ?_⟩
  rw [dp_none R.drop.dp]
  exact q _ _ (R.drop.drop.push (v := .bl (!isNoneD a)) rfl)⟩
/-- is, is not of bools -/
def oIsB (n : Bool) : OD := fun a b P => ∃ x y, a = .bool x ∧ b = .bool y ∧ P (.bool (if n = true then !decide (x = y) else decide (x = y)))
theorem so_isB : SO K rIsB (oIsB false) := ⟨fun a b P P' h ⟨x, y, e1, e2, q⟩ => ⟨x, y, e1, e2, h _ q⟩, fun F σ H ρ vs ds x y a b Q R ⟨s, t, e1, e2, q⟩ => by
  subst e1 e2
  exact ⟨s, t, R.drop.bl, R.bl, q _ _ (R.drop.drop.push (v := .bl (decide (s = t))) rfl)⟩⟩
theorem so_notB : SO K rNotB (oIsB true) := ⟨fun a b P P' h ⟨x, y, e1, e2, q⟩ => ⟨x, y, e1, e2, h _ q⟩, fun F σ H ρ vs ds x y a b Q R ⟨s, t, e1, e2, q⟩ => by
  subst e1 e2
  exact ⟨s, t, R.drop.bl, R.bl, q _ _ (R.drop.drop.push (v := .bl (!decide (s = t))) rfl)⟩⟩
/-! subscripts -/
theorem atI_pick {F : Fx} {σ : L2.St} {H : Hp} {ρ : Rho} {vs xs : List V} {ds es : List D} {i : Int} {d : D} (e : xs.length = es.length) (R : Rel K F σ H ρ (xs ++ vs) (es ++ ds)) (h : atI es i = some d) : ∃ v, atI xs i = some v ∧ Rel K F σ H ρ (v :: vs) (d :: ds) := by
  unfold atI at h ⊢
  rw [e]
  cases hn : ixN es.length i with
  | none => rw [hn] at h; cases h
  | some j =>
    rw [hn] at h
    obtain ⟨v, e1, R1⟩ := R.pick e (i := j) h
    exact ⟨v, e1, R1⟩
def oIxL : OD := fun a b P => ∃ es i d, a = .list es ∧ b = .int i ∧ atI es i = some d ∧ P d
def oIxT : OD := fun a b P => ∃ es i d, a = .tuple es ∧ b = .int i ∧ atI es i = some d ∧ P d
theorem so_ixL : SO K (rIxL K) oIxL := ⟨fun a b P P' h ⟨es, i, d, e1, e2, e3, q⟩ => ⟨es, i, d, e1, e2, e3, h _ q⟩, fun F σ H ρ vs ds x y a b Q R ⟨es, i, d, e1, e2, e3, q⟩ => by
  subst e1 e2
  obtain rfl := R.int
  obtain ⟨p, xs, rfl, e, s, R1⟩ := R.drop.asList
  obtain ⟨v, e4, R2⟩ := atI_pick e R1 e3
  exact ⟨p, xs, i, v, rfl, rfl, s, e4, q _ _ R2.drop2⟩⟩
theorem so_ixT : SO K (rIxT K) oIxT := ⟨fun a b P P' h ⟨es, i, d, e1, e2, e3, q⟩ => ⟨es, i, d, e1, e2, e3, h _ q⟩, fun F σ H ρ vs ds x y a b Q R ⟨es, i, d, e1, e2, e3, q⟩ => by
  subst e1 e2
  obtain rfl := R.int
  obtain ⟨p, xs, rfl, e, s, R1⟩ := R.drop.asTup
  obtain ⟨v, e4, R2⟩ := atI_pick e R1 e3
  exact ⟨p, xs, i, v, rfl, rfl, s, e4, q _ _ R2.drop2⟩⟩
/-! slices -/
def oNo : TDO := fun ρ P => P ρ none
def oPart (a : TD) : TDO := fun ρ P => a ρ fun r d => ∃ i, d = .int i ∧ P r (some i)
theorem sop_none : SOp K tNoPart oNo := ⟨fun ρ P P' h q => h _ _ q, fun F σ H ρ vs ds Q R q => q H R⟩
theorem sop_some {ta : TE} {a : TD} (sa : SE K ta a) : SOp K (tPart ta) (oPart a) := ⟨fun ρ P P' h q => sa.mono _ _ _ (fun _ d ⟨i, e, q⟩ => ⟨i, e, h _ _ q⟩) q, fun F σ H ρ vs ds Q R q =>
  sa.run F σ H ρ vs ds _ R (sa.mono _ _ _ (fun r d q v H1 R1 => by
    obtain ⟨i, rfl, q⟩ := q
    exact ⟨i, R1.int, q H1 R1.drop⟩) q)⟩
def cutD (es : List D) (lo hi : Option Int) : List D := (es.drop (HT.sIx es.length 0 lo)).take (HT.sIx es.length es.length hi - HT.sIx es.length 0 lo)
theorem dpAll_drop {H : Hp} : ∀ (n : Nat) {es : List D} {xs : List V}, DpAll K H xs es → DpAll K H (xs.drop n) (es.drop n)
  | 0, _, _, h => h
  | n + 1, [], _, h => by cases h; exact .nil
  | n + 1, e :: es, _, h => by
    cases h with
    | cons a b => exact dpAll_drop n b
theorem dpAll_take {H : Hp} : ∀ (n : Nat) {es : List D} {xs : List V}, DpAll K H xs es → DpAll K H (xs.take n) (es.take n)
  | 0, _, _, h => .nil
  | n + 1, [], _, h => by cases h; exact .nil
  | n + 1, e :: es, _, h => by
    cases h with
    | cons a b => exact .cons a (dpAll_take n b)
theorem dpAll_rev {H : Hp} {es : List D} {xs : List V} (h : DpAll K H xs es) : DpAll K H xs.reverse es.reverse := by
  have : ∀ (es : List D) (xs : List V) (fs : List D) (ys : List V), DpAll K H xs es → DpAll K H ys fs → DpAll K H (xs.reverseAux ys) (es.reverseAux fs) := by
    intro es
    induction es with
    | nil => intro xs fs ys h k; cases h; exact k
    | cons e es ih =>
      intro xs fs ys h k
      cases h with
      | cons a b =>
        rename_i v ws
        exact ih ws (e :: fs) (v :: ys) b (.cons a k)
  exact this es xs [] [] h .nil
theorem dpAll_cut {H : Hp} {es : List D} {xs : List V} (lo hi : Option Int) (h : DpAll K H xs es) : DpAll K H (cutV xs lo hi) (cutD es lo hi) := by
  unfold cutV cutD
  rw [dpAll_len h]
  exact dpAll_take _ (dpAll_drop _ h)
theorem Rel.cut {F : Fx} {σ : L2.St} {H : Hp} {ρ : Rho} {vs xs : List V} {ds es : List D} (lo hi : Option Int) (e : xs.length = es.length) (R : Rel K F σ H ρ (xs ++ vs) (es ++ ds)) : (cutV xs lo hi).length = (cutD es lo hi).length ∧ Rel K F σ H ρ (cutV xs lo hi ++ vs) (cutD es lo hi ++ ds) := by
  have q := (dpAll_split e R.dpAll).1
  exact ⟨dpAll_len (dpAll_cut lo hi q), R.swap fun _ h => dpAll_app (dpAll_cut lo hi (dpAll_split e h).1) (dpAll_split e h).2⟩
def dSlL (a : TD) (l u : TDO) : TDA := fun ρ P => a ρ fun r1 x => l r1 fun r2 lo => u r2 fun r3 hi => ∃ es, x = .list es ∧ P r3 (cutD es lo hi)
theorem sf_slL {ta : TE} {a : TD} {tl th : TO} {l u : TDO} (sa : SE K ta a) (sl : SOp K tl l) (su : SOp K th u) : SF K (tSl (rSlL K) ta tl th) (dSlL a l u) := by
  refine ⟨fun ρ P P' h q => sa.mono _ _ _ (fun _ x q => sl.mono _ _ _ (fun _ lo q => su.mono _ _ _ (fun _ hi ⟨es, e, q⟩ => ⟨es, e, h _ _ q⟩) q) q) q, fun F σ H ρ vs ds Q R q => ?_⟩
  refine sa.run F σ H ρ vs ds _ R (sa.mono _ _ _ (fun r1 x q1 v H1 R1 => ?_) q)
  refine sl.run F σ H1 r1 _ _ _ R1 (sl.mono _ _ _ (fun r2 lo q2 H2 R2 => ?_) q1)
  refine su.run F σ H2 r2 _ _ _ R2 (su.mono _ _ _ (fun r3 hi q3 H3 R3 => ?_) q2)
  obtain ⟨es, ex, q4⟩ := q3
  subst ex
  obtain ⟨p, xs, rfl, e, s, R4⟩ := R3.asList
  obtain ⟨e5, R5⟩ := R4.cut lo hi e
  exact ⟨p, xs, rfl, s, fun p' hp => q4 _ _ _ e5 (R5.swap fun _ h => by
    obtain ⟨h1, h2⟩ := dpAll_split e5 h
    cases h2 with | cons _ h2 => exact dpAll_app h1 h2) hp⟩
def dSlT (a : TD) (l u : TDO) : TD := fun ρ P => a ρ fun r1 x => l r1 fun r2 lo => u r2 fun r3 hi => ∃ es, x = .tuple es ∧ P r3 (.tuple (cutD es lo hi))
theorem cutD_all {es : List D} {lo hi : Option Int} (h1 : HT.sIx es.length 0 lo = 0) (h2 : HT.sIx es.length es.length hi = es.length) : cutD es lo hi = es := by
  unfold cutD
  rw [h1, h2, Nat.sub_zero]
  exact List.take_length
theorem se_slT {ta : TE} {a : TD} {tl th : TO} {l u : TDO} (sa : SE K ta a) (sl : SOp K tl l) (su : SOp K th u) : SE K (tSl (rSlA K) ta tl th) (dSlT a l u) := by
  refine ⟨fun ρ P P' h q => sa.mono _ _ _ (fun _ x q => sl.mono _ _ _ (fun _ lo q => su.mono _ _ _ (fun _ hi ⟨es, e, q⟩ => ⟨es, e, h _ _ q⟩) q) q) q, fun F σ H ρ vs ds Q R q => ?_⟩
  refine sa.run F σ H ρ vs ds _ R (sa.mono _ _ _ (fun r1 x q1 v H1 R1 => ?_) q)
  refine sl.run F σ H1 r1 _ _ _ R1 (sl.mono _ _ _ (fun r2 lo q2 H2 R2 => ?_) q1)
  refine su.run F σ H2 r2 _ _ _ R2 (su.mono _ _ _ (fun r3 hi q3 H3 R3 => ?_) q2)
  obtain ⟨es, ex, q4⟩ := q3
  subst ex
  obtain ⟨p, xs, rfl, e, s, R4⟩ := R3.asTup
  obtain ⟨e5, R5⟩ := R4.cut lo hi e
  refine ⟨p, xs, rfl, s, fun h => ?_, fun h p' hp => ?_⟩
  · rw [e] at h
    rw [cutD_all h.1 h.2] at q4
    exact q4 _ _ R3
  · exact q4 _ _ ((R5.swap fun _ h => by
      obtain ⟨h1, h2⟩ := dpAll_split e5 h
      cases h2 with | cons _ h2 => exact dpAll_app h1 h2).tup e5 hp)
def dRevL (a : TD) : TDA := fun ρ P => a ρ fun r x => ∃ es, x = .list es ∧ P r es.reverse
theorem sf_revL {ta : TE} {a : TD} (sa : SE K ta a) : SF K (tRevL K ta) (dRevL a) := by
  refine ⟨fun ρ P P' h q => sa.mono _ _ _ (fun _ x ⟨es, e, q⟩ => ⟨es, e, h _ _ q⟩) q, fun F σ H ρ vs ds Q R q => ?_⟩
  refine sa.run F σ H ρ vs ds _ R (sa.mono _ _ _ (fun r1 x q v H1 R1 => ?_) q)
  obtain ⟨es, rfl, q⟩ := q
  obtain ⟨p, xs, rfl, e, s, R4⟩ := R1.asList
  exact ⟨p, xs, rfl, s, fun p' hp => q _ _ _ (by rw [List.length_reverse, List.length_reverse]; exact e) (R4.swap fun _ h => by
    obtain ⟨h1, h2⟩ := dpAll_split e h
    cases h2 with | cons _ h2 => exact dpAll_app (dpAll_rev h1) h2) hp⟩
/-! built-in functions -/
def cLen : CD := fun es P => ∃ fs, (es = [.list fs] ∨ es = [.tuple fs]) ∧ P (.int fs.length)
theorem sc_len : SC K (fun xs H Q => ∃ p ys, xs = [.ref p] ∧ (SqL K H p ys ∨ SqT K H p ys) ∧ Q (.int ys.length) H) cLen := ⟨fun a P P' h ⟨fs, e, q⟩ => ⟨fs, e, h _ q⟩, fun F σ H ρ vs ds xs es Q e R ⟨fs, h, q⟩ => by
  rcases h with rfl | rfl
  · obtain ⟨x, r, rfl, e1⟩ := len_cons e
    obtain rfl := len_nil e1
    obtain ⟨p, ys, rfl, e2, s, R1⟩ := R.asList
    refine ⟨p, ys, rfl, .inl s, ?_⟩
    rw [e2]
    exact q _ _ (Rel.push (v := .int fs.length) R.drop rfl)
  · obtain ⟨x, r, rfl, e1⟩ := len_cons e
    obtain rfl := len_nil e1
    obtain ⟨p, ys, rfl, e2, s, R1⟩ := R.asTup
    refine ⟨p, ys, rfl, .inr s, ?_⟩
    rw [e2]
    exact q _ _ (Rel.push (v := .int fs.length) R.drop rfl)⟩
def cInt : CD := fun es P => ∃ i, es = [.int i] ∧ P (.int i)
theorem sc_int : SC K (fun xs H Q => (∃ i, xs = [.int i] ∧ Q (.int i) H) ∨ ∃ k, xs = [.bl k] ∧ Q (.int (if k then 1 else 0)) H) cInt := ⟨fun a P P' h ⟨fs, e, q⟩ => ⟨fs, e, h _ q⟩, fun F σ H ρ vs ds xs es Q e R ⟨i, h, q⟩ => by
  subst h
  obtain ⟨x, r, rfl, e1⟩ := len_cons e
  obtain rfl := len_nil e1
  obtain rfl := Rel.int R
  exact .inl ⟨i, rfl, q _ _ R⟩⟩
def cAbs : CD := fun es P => ∃ i : Int, es = [.int i] ∧ P (.int (if i < 0 then -i else i))
theorem sc_abs : SC K (fun xs H Q => ∃ i, xs = [.int i] ∧ Q (.int (if i < 0 then -i else i)) H) cAbs := ⟨fun a P P' h ⟨fs, e, q⟩ => ⟨fs, e, h _ q⟩, fun F σ H ρ vs ds xs es Q e R ⟨i, h, q⟩ => by
  subst h
  obtain ⟨x, r, rfl, e1⟩ := len_cons e
  obtain rfl := len_nil e1
  obtain rfl := Rel.int R
  exact ⟨i, rfl, q _ _ (Rel.push (v := .int (if i < 0 then -i else i)) R.drop rfl)⟩⟩
def cMin2 : CD := fun es P => ∃ i j : Int, es = [.int i, .int j] ∧ P (.int (if j < i then j else i))
theorem sc_min2 : SC K (fun xs H Q => ∃ i j, xs = [.int i, .int j] ∧ Q (.int (if j < i then j else i)) H) cMin2 := ⟨fun a P P' h ⟨i, j, e, q⟩ => ⟨i, j, e, h _ q⟩, fun F σ H ρ vs ds xs es Q e R ⟨i, j, h, q⟩ => by
  subst h
  obtain ⟨x, r, rfl, e1⟩ := len_cons e
  obtain ⟨y, r, rfl, e2⟩ := len_cons e1
  obtain rfl := len_nil e2
  have ex := Rel.int R
  have ey := Rel.int R.drop
  subst ex ey
  exact ⟨i, j, rfl, q _ _ (Rel.push (v := .int (if j < i then j else i)) R.drop.drop rfl)⟩⟩
/-- list(x) -/
def cList : CF := fun es P => ∃ fs, (es = [.list fs] ∨ es = [.tuple fs]) ∧ P fs
theorem scf_list : SCF K (fun xs H Q => ∃ p ys, xs = [.ref p] ∧ (SqL K H p ys ∨ SqT K H p ys) ∧ ∀ l, H l = none → Q (.ref l) (upd H l (.lst ys))) cList := ⟨fun a P P' h ⟨fs, e, q⟩ => ⟨fs, e, h _ q⟩, fun F σ H ρ vs ds xs es Q e R ⟨fs, h, q⟩ => by
  rcases h with rfl | rfl
  · obtain ⟨x, r, rfl, e1⟩ := len_cons e
    obtain rfl := len_nil e1
    obtain ⟨p, ys, rfl, e2, s, R1⟩ := R.asList
    exact ⟨p, ys, rfl, .inl s, fun l hl => q _ _ _ e2 (R1.swap fun _ h => by
      obtain ⟨h1, h2⟩ := dpAll_split e2 h
      cases h2 with | cons _ h2 => exact dpAll_app h1 h2) hl⟩
  · obtain ⟨x, r, rfl, e1⟩ := len_cons e
    obtain rfl := len_nil e1
    obtain ⟨p, ys, rfl, e2, s, R1⟩ := R.asTup
    exact ⟨p, ys, rfl, .inr s, fun l hl => q _ _ _ e2 (R1.swap fun _ h => by
      obtain ⟨h1, h2⟩ := dpAll_split e2 h
      cases h2 with | cons _ h2 => exact dpAll_app h1 h2) hl⟩⟩
/-- tuple(x) -/
def cTuple : CD := fun es P => ∃ fs, (es = [.list fs] ∨ es = [.tuple fs]) ∧ P (.tuple fs)
theorem sc_tuple : SC K (fun xs H Q => ∃ p ys, xs = [.ref p] ∧ ((SqL K H p ys ∧ ∀ l, H l = none → Q (.ref l) (upd H l (.tup ys))) ∨ (SqT K H p ys ∧ Q (.ref p) H))) cTuple := ⟨fun a P P' h ⟨fs, e, q⟩ => ⟨fs, e, h _ q⟩, fun F σ H ρ vs ds xs es Q e R ⟨fs, h, q⟩ => by
  rcases h with rfl | rfl
  · obtain ⟨x, r, rfl, e1⟩ := len_cons e
    obtain rfl := len_nil e1
    obtain ⟨p, ys, rfl, e2, s, R1⟩ := R.asList
    exact ⟨p, ys, rfl, .inl ⟨s, fun l hl => q _ _ ((R1.swap fun _ h => by
      obtain ⟨h1, h2⟩ := dpAll_split e2 h
      cases h2 with | cons _ h2 => exact dpAll_app h1 h2).tup e2 hl)⟩⟩
  · obtain ⟨x, r, rfl, e1⟩ := len_cons e
    obtain rfl := len_nil e1
    obtain ⟨p, ys, rfl, e2, s, R1⟩ := R.asTup
    exact ⟨p, ys, rfl, .inr ⟨s, q _ _ R⟩⟩⟩
end
end LD

/-! LD4: slots forgotten; things being made; targets; walks; list comprehensions. -/
namespace LD
open PySem PySem.Spec L2
def wipeR (ρ : Rho) : List Nat → Rho
  | [] => ρ
  | j :: js => (wipeR ρ js).set j .no
theorem wipeR_len (ρ : Rho) : ∀ js, (wipeR ρ js).length = ρ.length
  | [] => rfl
  | j :: js => by unfold wipeR; rw [List.length_set, wipeR_len ρ js]
theorem wipeR_out {ρ : Rho} {j : Nat} : ∀ {js : List Nat}, j ∉ js → (wipeR ρ js)[j]? = ρ[j]?
  | [], _ => rfl
  | k :: js, h => by
    unfold wipeR
    rw [List.getElem?_set_ne (fun e => h (by rw [e]; exact List.mem_cons_self)), wipeR_out fun z => h (List.mem_cons_of_mem _ z)]
theorem wipeR_in {ρ : Rho} {j : Nat} {x : DV} : ∀ {js : List Nat}, j ∈ js → (wipeR ρ js)[j]? = some x → x = .no
  | k :: js, h, e => by
    unfold wipeR at e
    by_cases hk : k = j
    · subst hk
      have hl : k < (wipeR ρ js).length := by
        have := (List.getElem?_eq_some_iff.mp e).1
        rwa [List.length_set] at this
      rw [List.getElem?_set_self hl] at e
      cases e
      rfl
    · rw [List.getElem?_set_ne hk] at e
      rcases List.mem_cons.mp h with z | z
      · exact absurd z.symm hk
      · exact wipeR_in z e
theorem wipe_out {σ : L2.St} {j : Nat} : ∀ {js : List Nat}, j ∉ js → (wipe σ js)[j]? = σ[j]?
  | [], _ => rfl
  | k :: js, h => by
    unfold wipe
    rw [List.getElem?_set_ne (fun e => h (by rw [e]; exact List.mem_cons_self)), wipe_out fun z => h (List.mem_cons_of_mem _ z)]
theorem wipe_in {σ : L2.St} {j : Nat} (hl : j < σ.length) : ∀ {js : List Nat}, j ∈ js → (wipe σ js)[j]? = some none
  | k :: js, h => by
    unfold wipe
    by_cases hk : k = j
    · subst hk
      rw [List.getElem?_set_self (by rw [wipe_length]; exact hl)]
    · rw [List.getElem?_set_ne hk]
      rcases List.mem_cons.mp h with z | z
      · exact absurd z.symm hk
      · exact wipe_in hl z
theorem wipe_eq {σ σ' : L2.St} {js : List Nat} (hl : σ'.length = σ.length) (h : ∀ j, j ∉ js → σ'[j]? = σ[j]?) : wipe σ' js = wipe σ js := by
  refine List.ext_getElem? fun j => ?_
  by_cases hj : j ∈ js
  · by_cases hlt : j < σ.length
    · rw [wipe_in (by rw [hl]; exact hlt) hj, wipe_in hlt hj]
    · rw [List.getElem?_eq_none_iff.mpr (by rw [wipe_length, hl]; omega), List.getElem?_eq_none_iff.mpr (by rw [wipe_length]; omega)]
  · rw [wipe_out hj, wipe_out hj, h j hj]
section
variable {K : PySem.W.Frag} {F : Fx} {σ σ' : L2.St} {H : Hp} {ρ : Rho} {vs ws xs : List V} {ds es : List D}
theorem Rel.len (R : Rel K F σ H ρ vs ds) : σ.length = ρ.length := by
  obtain ⟨_, _, R⟩ := R
  exact R.len
theorem Rel.resig (R : Rel K F σ H ρ vs ds) (hl : σ'.length = σ.length) (h : ∀ (j : Nat) (x : DV), ρ[j]? = some x → x = DV.no ∨ σ'[j]? = σ[j]?) : Rel K F σ' H ρ vs ds := by
  obtain ⟨Hi, own, R⟩ := R
  refine ⟨Hi, own, ⟨R.base, R.sub, R.new, R.keep, R.dom, hl.trans R.len, fun i x e => ?_, R.free, R.held, R.nown, R.sep, R.nls, R.pin, R.tmp⟩⟩
  rcases h i x e with z | z
  · rw [z]; trivial
  · rw [z]; exact R.slot i x e
theorem Rel.wipe {js : List Nat} (R : Rel K F σ H ρ vs ds) : Rel K F (wipe σ js) H (wipeR ρ js) vs ds := by
  obtain ⟨Hi, own, R⟩ := R
  refine ⟨Hi, own, ⟨R.base, R.sub, R.new, R.keep, R.dom, by rw [wipe_length, wipeR_len]; exact R.len, fun i x e => ?_, R.free, R.held, R.nown, R.sep, fun i es e => ?_, R.pin, R.tmp⟩⟩
  · by_cases hi : i ∈ js
    · rw [wipeR_in hi e]; trivial
    · rw [wipe_out hi]
      rw [wipeR_out hi] at e
      exact R.slot i x e
  · by_cases hi : i ∈ js
    · cases wipeR_in hi e
    · rw [wipeR_out hi] at e
      exact R.nls i es e

/-! ### what is being made -/
def Fx.mk1 (F : Fx) (p : Addr) (o : HO) : Fx := { F with Z := (p, o) :: F.Z }
theorem Rel.pinNew {p : Addr} {o : HO} (R : Rel K F σ H ρ vs ds) (hp : H p = none) : Rel K (F.mk1 p o) σ (upd H p o) ρ vs ds := by
  obtain ⟨Hi, own, R⟩ := R
  have ne : ∀ i, ∀ a ∈ own i, a ≠ p := fun i a ha z => R.held i a ha (by rw [z]; exact hp)
  refine ⟨Hi, own, ⟨R.base, R.sub.trans (same_upd hp), R.new, fun b q h hn => ?_, fun b h => ?_, R.len, fun i x h => ?_, R.free, fun i a ha => ?_, R.nown, R.sep, R.nls, fun z hz => ?_, R.tmp⟩⟩
  · rw [upd_ne (ne_of_none (R.keep b q h hn) hp)]; exact R.keep b q h hn
  · by_cases hbp : b = p
    · rw [hbp, upd_same]; simp
    · rw [upd_ne hbp]; exact R.dom b h
  · exact (R.slot i x h).grow (Same.refl _) fun a ha o q => by rw [upd_ne (ne i a ha)]; exact q
  · rw [upd_ne (ne i a ha)]; exact R.held i a ha
  · rcases List.mem_cons.mp hz with e | hz
    · rw [e]
      exact ⟨upd_same, R.noSub hp, fun i hi => ne i p hi rfl⟩
    · obtain ⟨z1, z2, z3⟩ := R.pin z hz
      exact ⟨by rw [upd_ne (ne_of_none z1 hp)]; exact z1, z2, z3⟩
theorem Rel.repin {p : Addr} {o o' : HO} (R : Rel K (F.mk1 p o) σ H ρ vs ds) (h0 : F.H0 p = none) (hz : ∀ z ∈ F.Z, z.1 ≠ p) : Rel K (F.mk1 p o') σ (upd H p o') ρ vs ds := by
  obtain ⟨Hi, own, R⟩ := R
  obtain ⟨p1, p2, p3⟩ := R.pin (p, o) List.mem_cons_self
  have ne : ∀ i, ∀ a ∈ own i, a ≠ p := fun i a ha z => p3 i (by rw [z] at ha; exact ha)
  refine ⟨Hi, own, ⟨R.base, fun b x e => ?_, R.new, fun b q h hn => ?_, fun b h => ?_, R.len, fun i x h => ?_, R.free, fun i a ha => ?_, R.nown, R.sep, R.nls, fun z hz' => ?_, R.tmp⟩⟩
  · have nb : b ≠ p := fun z => by rw [z, p2] at e; cases e
    rw [upd_ne nb]; exact R.sub b x e
  · have nb : b ≠ p := fun z => by rw [z] at h; exact absurd (h.symm.trans h0) (by simp)
    rw [upd_ne nb]; exact R.keep b q h hn
  · by_cases hbp : b = p
    · rw [hbp, upd_same]; simp
    · rw [upd_ne hbp]; exact R.dom b h
  · exact (R.slot i x h).grow (Same.refl _) fun a ha o q => by rw [upd_ne (ne i a ha)]; exact q
  · rw [upd_ne (ne i a ha)]; exact R.held i a ha
  · rcases List.mem_cons.mp hz' with e | hz'
    · rw [e]
      exact ⟨upd_same, p2, p3⟩
    · obtain ⟨z1, z2, z3⟩ := R.pin z (List.mem_cons_of_mem _ hz')
      exact ⟨by rw [upd_ne (hz z hz')]; exact z1, z2, z3⟩
def hide (H : Hp) (p : Addr) : Hp := fun b => if b = p then none else H b
theorem Rel.unpin {p : Addr} {o : HO} (R : Rel K (F.mk1 p o) σ H ρ vs ds) (h0 : F.H0 p = none) (hz : ∀ z ∈ F.Z, z.1 ≠ p) : (hide H p) p = none ∧ H = upd (hide H p) p o ∧ Rel K F σ (hide H p) ρ vs ds := by
  obtain ⟨Hi, own, R⟩ := R
  obtain ⟨p1, p2, p3⟩ := R.pin (p, o) List.mem_cons_self
  have ne : ∀ i, ∀ a ∈ own i, a ≠ p := fun i a ha z => p3 i (by rw [z] at ha; exact ha)
  have out : ∀ b, b ≠ p → hide H p b = H b := fun b h => by unfold hide; rw [if_neg h]
  refine ⟨by unfold hide; rw [if_pos rfl], ?_, Hi, own, ⟨R.base, fun b x e => ?_, R.new, fun b q h hn => ?_, fun b h => ?_, R.len, fun i x h => ?_, R.free, fun i a ha => ?_, R.nown, R.sep, R.nls, fun z hz' => ?_, R.tmp⟩⟩
  · funext b
    by_cases hb : b = p
    · rw [hb, upd_same]; exact p1
    · rw [upd_ne hb, out b hb]
  · have nb : b ≠ p := fun z => by rw [z, p2] at e; cases e
    rw [out b nb]; exact R.sub b x e
  · have nb : b ≠ p := fun z => by rw [z] at h; exact absurd (h.symm.trans h0) (by simp)
    rw [out b nb]; exact R.keep b q h hn
  · have nb : b ≠ p := fun z => by rw [z] at h; exact h h0
    rw [out b nb]; exact R.dom b h
  · exact (R.slot i x h).grow (Same.refl _) fun a ha o q => by rw [out a (ne i a ha)]; exact q
  · rw [out a (ne i a ha)]; exact R.held i a ha
  · obtain ⟨z1, z2, z3⟩ := R.pin z (List.mem_cons_of_mem _ hz')
    exact ⟨by rw [out _ (hz z hz')]; exact z1, z2, z3⟩
theorem Rel.pinFree {p : Addr} (R : Rel K F σ H ρ vs ds) (hp : H p = none) : F.H0 p = none ∧ ∀ z ∈ F.Z, z.1 ≠ p := by
  obtain ⟨Hi, own, R⟩ := R
  exact ⟨R.no0 hp, fun z hz => ne_of_none (R.pin z hz).1 hp⟩
theorem Rel.pinAt {p : Addr} {o : HO} (R : Rel K (F.mk1 p o) σ H ρ vs ds) : H p = some o := by
  obtain ⟨Hi, own, R⟩ := R
  exact (R.pin (p, o) List.mem_cons_self).1
end

/-! ### targets -/
abbrev DG := D → Rho → (Rho → Prop) → Prop
abbrev DGs := List D → Rho → (Rho → Prop) → Prop
def Apart (js : List Nat) (σ σ' : L2.St) (ρ ρ' : Rho) : Prop := σ'.length = σ.length ∧ (∀ j, j ∉ js → σ'[j]? = σ[j]?) ∧ ρ'.length = ρ.length ∧ ∀ j, j ∉ js → ρ'[j]? = ρ[j]?
theorem Apart.refl {js : List Nat} {σ : L2.St} {ρ : Rho} : Apart js σ σ ρ ρ := ⟨rfl, fun _ _ => rfl, rfl, fun _ _ => rfl⟩
theorem Apart.trans {js ks : List Nat} {σ σ1 σ2 : L2.St} {ρ ρ1 ρ2 : Rho} (a : Apart js σ σ1 ρ ρ1) (b : Apart ks σ1 σ2 ρ1 ρ2) : Apart (js ++ ks) σ σ2 ρ ρ2 :=
  ⟨b.1.trans a.1, fun j h => (b.2.1 j fun z => h (List.mem_append_right _ z)).trans (a.2.1 j fun z => h (List.mem_append_left _ z)), b.2.2.1.trans a.2.2.1, fun j h => (b.2.2.2 j fun z => h (List.mem_append_right _ z)).trans (a.2.2.2 j fun z => h (List.mem_append_left _ z))⟩
structure SG (K : PySem.W.Frag) (js : List Nat) (g : TG) (dg : DG) : Prop where
  mono : ∀ d ρ P P', (∀ r, P r → P' r) → dg d ρ P → dg d ρ P'
  run : ∀ F σ H ρ vs ds x d Q, Rel K F σ H ρ (x :: vs) (d :: ds) → dg d ρ (fun r => ∀ σ' H', Rel K F σ' H' r vs ds → Apart js σ σ' ρ r → Q σ' H') → g x σ H Q
structure SGs (K : PySem.W.Frag) (js : List Nat) (g : TGs) (dg : DGs) : Prop where
  mono : ∀ d ρ P P', (∀ r, P r → P' r) → dg d ρ P → dg d ρ P'
  run : ∀ F σ H ρ vs ds xs es Q, xs.length = es.length → Rel K F σ H ρ (xs ++ vs) (es ++ ds) → dg es ρ (fun r => ∀ σ' H', Rel K F σ' H' r vs ds → Apart js σ σ' ρ r → Q σ' H') → g xs σ H Q
section
variable {K : PySem.W.Frag}
def dgName (i : Nat) : DG := fun d ρ P => i < ρ.length ∧ P (ρ.set i (.sh d))
theorem sg_name (i : Nat) : SG K [i] (gName i) (dgName i) := ⟨fun d ρ P P' h q => ⟨q.1, h _ q.2⟩, fun F σ H ρ vs ds x d Q R q =>
  q.2 _ _ (R.store q.1) ⟨List.length_set .., fun j h => List.getElem?_set_ne (fun e => h (by rw [e]; simp)), List.length_set .., fun j h => List.getElem?_set_ne (fun e => h (by rw [e]; simp))⟩⟩
def dgNil : DGs := fun es ρ P => es = [] ∧ P ρ
def dgCons (g : DG) (gs : DGs) : DGs := fun es ρ P => ∃ d r, es = d :: r ∧ g d ρ fun ρ1 => gs r ρ1 P
theorem sgs_nil : SGs K [] gNil dgNil := ⟨fun d ρ P P' h q => ⟨q.1, h _ q.2⟩, fun F σ H ρ vs ds xs es Q e R q => by
  obtain ⟨e1, q⟩ := q
  subst e1
  obtain rfl := len_nil e
  exact ⟨rfl, q _ _ R .refl⟩⟩
theorem sgs_cons {js ks : List Nat} {g : TG} {dg : DG} {gs : TGs} {dgs : DGs} (s : SG K js g dg) (ss : SGs K ks gs dgs) : SGs K (js ++ ks) (gCons g gs) (dgCons dg dgs) := by
  refine ⟨fun es ρ P P' h ⟨d, r, e, q⟩ => ⟨d, r, e, s.mono _ _ _ _ (fun _ q => ss.mono _ _ _ _ h q) q⟩, fun F σ H ρ vs ds xs es Q e R q => ?_⟩
  obtain ⟨d, r, e1, q⟩ := q
  subst e1
  obtain ⟨x, xr, rfl, e2⟩ := len_cons e
  refine ⟨x, xr, rfl, ?_⟩
  refine s.run F σ H ρ (xr ++ vs) (r ++ ds) x d _ R (s.mono _ _ _ _ (fun ρ1 q σ1 H1 R1 A1 => ?_) q)
  exact ss.run F σ1 H1 ρ1 vs ds xr r Q e2 R1 (ss.mono _ _ _ _ (fun ρ2 q σ2 H2 R2 A2 => q σ2 H2 R2 (A1.trans A2)) q)
def dgTup (n : Nat) (gs : DGs) : DG := fun d ρ P => ∃ es, d = .tuple es ∧ es.length = n ∧ gs es ρ P
theorem sg_tup {js : List Nat} {n : Nat} {gs : TGs} {dgs : DGs} (ss : SGs K js gs dgs) : SG K js (gTup K n gs) (dgTup n dgs) := by
  refine ⟨fun d ρ P P' h ⟨es, e, el, q⟩ => ⟨es, e, el, ss.mono _ _ _ _ h q⟩, fun F σ H ρ vs ds x d Q R q => ?_⟩
  obtain ⟨es, e, el, q⟩ := q
  subst e
  obtain ⟨p, xs, rfl, e2, s, R1⟩ := R.asTup
  refine ⟨p, xs, rfl, s, e2.trans el, ?_⟩
  refine ss.run F σ H ρ vs ds xs es Q e2 (R1.swap fun _ h => ?_) q
  obtain ⟨h1, h2⟩ := dpAll_split e2 h
  cases h2 with
  | cons _ h2 => exact dpAll_app h1 h2
end

/-! ### what is walked -/
abbrev TDI := Rho → KL → Prop
/-- while ws stand for es, J walks the items -/
def Walks (K : PySem.W.Frag) (J : It) (items : List D) (ws : List V) (es : List D) : Prop :=
  ∀ F σ H ρ vs ds i, Rel K F σ H ρ (ws ++ vs) (es ++ ds) → (∀ d, items[i]? = some d → J.go i H ∧ ∀ x H', J.yld i H x H' → Rel K F σ H' ρ (x :: (ws ++ vs)) (d :: (es ++ ds))) ∧ (items.length ≤ i → J.stop i H)
structure SI (K : PySem.W.Frag) (wi : TI) (di : TDI) : Prop where
  mono : ∀ ρ P P', (∀ r d, P r d → P' r d) → di ρ P → di ρ P'
  run : ∀ F σ H ρ vs ds Q, Rel K F σ H ρ vs ds → di ρ (fun r items => ∀ J H1 ws es, ws.length = es.length → Walks K J items ws es → Rel K F σ H1 r (ws ++ vs) (es ++ ds) → Q J H1) → wi σ H Q
section
variable {K : PySem.W.Frag}
def iL (a : TD) : TDI := fun ρ P => a ρ fun r d => ∃ es, d = .list es ∧ P r es
def iT (a : TD) : TDI := fun ρ P => a ρ fun r d => ∃ es, d = .tuple es ∧ P r es
theorem walks_list {p : Addr} {es : List D} : Walks K (Itl K p) es [.ref p] [.list es] := by
  intro F σ H ρ vs ds i R
  obtain ⟨p', xs, e, e2, s, R1⟩ := Rel.asList (vs := vs) (ds := ds) R
  cases e
  refine ⟨fun d hd => ?_, fun h => ⟨xs, s, by rw [e2]; exact h⟩⟩
  obtain ⟨v, e3, R2⟩ := R1.pick e2 hd
  refine ⟨⟨xs, v, s, e3⟩, fun x H' hy => ?_⟩
  obtain ⟨rfl, hy⟩ := hy
  have := (hy xs s).symm.trans e3
  cases this
  exact R2
theorem walks_tup {p : Addr} {es : List D} : Walks K (Itt K p) es [.ref p] [.tuple es] := by
  intro F σ H ρ vs ds i R
  obtain ⟨p', xs, e, e2, s, R1⟩ := Rel.asTup (vs := vs) (ds := ds) R
  cases e
  refine ⟨fun d hd => ?_, fun h => ⟨xs, s, by rw [e2]; exact h⟩⟩
  obtain ⟨v, e3, R2⟩ := R1.pick e2 hd
  refine ⟨⟨xs, v, s, e3⟩, fun x H' hy => ?_⟩
  obtain ⟨rfl, hy⟩ := hy
  have := (hy xs s).symm.trans e3
  cases this
  exact R2
theorem si_list {ta : TE} {a : TD} (sa : SE K ta a) : SI K (iList K ta) (iL a) := by
  refine ⟨fun ρ P P' h q => sa.mono _ _ _ (fun _ d ⟨es, e, q⟩ => ⟨es, e, h _ _ q⟩) q, fun F σ H ρ vs ds Q R q => ?_⟩
  refine sa.run F σ H ρ vs ds _ R (sa.mono _ _ _ (fun r d q v H1 R1 => ?_) q)
  obtain ⟨es, e, q⟩ := q
  subst e
  obtain ⟨p, xs, rfl, e2, s, R2⟩ := R1.asList
  exact ⟨p, rfl, ⟨xs, s⟩, q _ _ [.ref p] [.list es] rfl walks_list R1⟩
theorem si_tup {ta : TE} {a : TD} (sa : SE K ta a) : SI K (iTup K ta) (iT a) := by
  refine ⟨fun ρ P P' h q => sa.mono _ _ _ (fun _ d ⟨es, e, q⟩ => ⟨es, e, h _ _ q⟩) q, fun F σ H ρ vs ds Q R q => ?_⟩
  refine sa.run F σ H ρ vs ds _ R (sa.mono _ _ _ (fun r d q v H1 R1 => ?_) q)
  obtain ⟨es, e, q⟩ := q
  subst e
  obtain ⟨p, xs, rfl, e2, s, R2⟩ := R1.asTup
  exact ⟨p, rfl, ⟨xs, s⟩, q _ _ [.ref p] [.tuple es] rfl walks_tup R1⟩
def rngD (lo : Int) (n : Nat) : List D := (List.range n).map fun (k : Nat) => PyData.int (lo + (k : Int))
theorem walks_rng {lo : Int} {n : Nat} : Walks K (Itr lo n) (rngD lo n) [] [] := by
  intro F σ H ρ vs ds i R
  refine ⟨fun d hd => ?_, fun h => ?_⟩
  · unfold rngD at hd
    rw [List.getElem?_map] at hd
    have hi : i < n := by
      cases e : (List.range n)[i]? with
      | none => rw [e] at hd; cases hd
      | some k => have := (List.getElem?_eq_some_iff.mp e).1; rwa [List.length_range] at this
    rw [List.getElem?_range hi] at hd
    cases hd
    refine ⟨hi, fun x H' hy => ?_⟩
    obtain ⟨rfl, rfl⟩ := hy
    exact R.push (v := .int (lo + i)) rfl
  · unfold rngD at h
    rw [List.length_map, List.length_range] at h
    exact h
def iR1 (t : TDA) : TDI := fun ρ P => t ρ fun r es => ∃ j : Int, es = [.int j] ∧ -(2 ^ 62) ≤ j ∧ j < 2 ^ 62 ∧ P r (rngD 0 j.toNat)
def iR2 (t : TDA) : TDI := fun ρ P => t ρ fun r es => ∃ i j : Int, es = [.int i, .int j] ∧ (-(2 ^ 62) ≤ i ∧ i < 2 ^ 62 ∧ -(2 ^ 62) ≤ j ∧ j < 2 ^ 62) ∧ P r (rngD i (j - i).toNat)
theorem si_rng1 {ta : TA} {t : TDA} (sa : SA K ta t) : SI K (iRng1 ta) (iR1 t) := by
  refine ⟨fun ρ P P' h q => sa.mono _ _ _ (fun _ d ⟨j, e, h1, h2, q⟩ => ⟨j, e, h1, h2, h _ _ q⟩) q, fun F σ H ρ vs ds Q R q => ?_⟩
  refine sa.run F σ H ρ vs ds _ R (sa.mono _ _ _ (fun r es q xs H1 e R1 => ?_) q)
  obtain ⟨j, e1, h1, h2, q⟩ := q
  subst e1
  obtain ⟨x, xr, rfl, e2⟩ := len_cons e
  obtain rfl := len_nil e2
  obtain rfl := Rel.int R1
  exact ⟨j, rfl, h1, h2, q _ _ [] [] rfl walks_rng R1.drop⟩
theorem si_rng2 {ta : TA} {t : TDA} (sa : SA K ta t) : SI K (iRng2 ta) (iR2 t) := by
  refine ⟨fun ρ P P' h q => sa.mono _ _ _ (fun _ d ⟨i, j, e, h1, q⟩ => ⟨i, j, e, h1, h _ _ q⟩) q, fun F σ H ρ vs ds Q R q => ?_⟩
  refine sa.run F σ H ρ vs ds _ R (sa.mono _ _ _ (fun r es q xs H1 e R1 => ?_) q)
  obtain ⟨i, j, e1, h1, q⟩ := q
  subst e1
  obtain ⟨x, xr, rfl, e2⟩ := len_cons e
  obtain ⟨y, yr, rfl, e3⟩ := len_cons e2
  obtain rfl := len_nil e3
  have ex := Rel.int R1
  have ey := Rel.int (Rel.drop R1)
  subst ex ey
  exact ⟨i, j, rfl, h1, q _ _ [] [] rfl walks_rng (Rel.drop (Rel.drop R1))⟩

/-! ### list comprehensions -/
def compW (f : D → Rho → (Rho → Option D → Prop) → Prop) (js : List Nat) : List D → Rho → List D → KL → Prop
  | [], ρ, acc, P => P ρ acc
  | d :: r, ρ, acc, P => f d ρ fun ρ1 o => match o with
    | none => compW f js r (wipeR ρ1 js) acc P
    | some y => compW f js r (wipeR ρ1 js) (acc ++ [y]) P
def compF (dg : DG) (dt : TDT) (de : TD) : D → Rho → (Rho → Option D → Prop) → Prop := fun d r k => dg d r fun r1 => dt r1 fun r2 b => if b = true then de r2 (fun r3 y => k r3 (some y)) else k r2 none
def dLc (di : TDI) (dg : DG) (dt : TDT) (de : TD) (js : List Nat) : TDA := fun ρ P => di ρ fun ρ0 items => items.length ≤ sizeLine ∧ (∀ j ∈ js, ρ0[j]? = some .no) ∧ compW (compF dg dt de) js items ρ0 [] P
theorem compW_mono {f : D → Rho → (Rho → Option D → Prop) → Prop} (hf : ∀ d ρ k k', (∀ r o, k r o → k' r o) → f d ρ k → f d ρ k') {js : List Nat} : ∀ {items : List D} {ρ : Rho} {acc : List D} {P P' : KL}, (∀ r d, P r d → P' r d) → compW f js items ρ acc P → compW f js items ρ acc P'
  | [], _, _, _, _, h, q => h _ _ q
  | d :: r, ρ, acc, P, P', h, q => by
    unfold compW at q ⊢
    refine hf _ _ _ _ (fun r1 o q => ?_) q
    cases o with
    | none => exact compW_mono hf h q
    | some y => exact compW_mono hf h q
theorem compF_mono {js : List Nat} {g : TG} {dg : DG} {tt : TT} {dt : TDT} {te : TE} {de : TD} (sg : SG K js g dg) (st : ST K tt dt) (se : SE K te de) : ∀ d ρ k k', (∀ r o, k r o → k' r o) → compF dg dt de d ρ k → compF dg dt de d ρ k' := by
  intro d ρ k k' h q
  refine sg.mono _ _ _ _ (fun r1 q => st.mono _ _ _ (fun r2 b q => ?_) q) q
  cases b with
  | true => exact se.mono _ _ _ (fun r3 y q => h _ _ q) q
  | false => exact h _ _ q
theorem swapFront {H : Hp} {y : V} {d : D} {ws acc vs : List V} {es ys ds : List D} (e1 : ws.length = es.length) (e2 : acc.length = ys.length) (h : DpAll K H (y :: (ws ++ (acc ++ vs))) (d :: (es ++ (ys ++ ds)))) :
    DpAll K H (ws ++ ((acc ++ [y]) ++ vs)) (es ++ ((ys ++ [d]) ++ ds)) := by
  cases h with
  | cons a b =>
    obtain ⟨b1, b2⟩ := dpAll_split e1 b
    obtain ⟨b3, b4⟩ := dpAll_split e2 b2
    exact dpAll_app b1 (dpAll_app (dpAll_app b3 (.cons a .nil)) b4)
theorem sf_lc {js : List Nat} {wi : TI} {di : TDI} {g : TG} {dg : DG} {tt : TT} {dt : TDT} {te : TE} {de : TD} {jg : List Nat} (si : SI K wi di) (sg : SG K jg g dg) (st : ST K tt dt) (se : SE K te de) (hj : ∀ j ∈ jg, j ∈ js := by decide) : SF K (tLc wi g tt te js) (dLc di dg dt de js) := by
  refine ⟨fun ρ P P' h q => si.mono _ _ _ (fun r items ⟨q1, q2, q3⟩ => ⟨q1, q2, compW_mono (compF_mono sg st se) h q3⟩) q, fun F σ H ρ vs ds Q R q => ?_⟩
  refine si.run F σ H ρ vs ds _ R (si.mono _ _ _ (fun ρ0 items q J H1 ws es ew hw R1 => ?_) q)
  obtain ⟨q1, q2, q3⟩ := q
  intro Dp hD
  obtain ⟨f0, fz⟩ := R1.pinFree hD
  have hno : ∀ {ρ : Rho}, (∀ j ∈ js, ρ[j]? = some .no) → wipeR ρ js = ρ := fun {ρ} h => by
    refine List.ext_getElem? fun j => ?_
    by_cases hj : j ∈ js
    · rw [h j hj]
      cases e : (wipeR ρ js)[j]? with
      | none =>
        have h1 := List.getElem?_eq_none_iff.mp e
        rw [wipeR_len] at h1
        have h2 := (List.getElem?_eq_some_iff.mp (h j hj)).1
        omega
      | some x => rw [wipeR_in hj e]
    · exact wipeR_out hj
  refine ⟨fun i m H => ∃ ρ1 acc ys, i + m = items.length ∧ acc.length = ys.length ∧ ys.length ≤ i ∧ (∀ j x, j ∈ js → ρ1[j]? = some x → x = .no) ∧ Rel K (F.mk1 Dp (.lst acc)) (L2.wipe σ js) H ρ1 (ws ++ (acc ++ vs)) (es ++ (ys ++ ds)) ∧
      compW (compF dg dt de) js (items.drop i) ρ1 ys (fun r es => ∀ xs H' p, xs.length = es.length → Rel K F σ H' r (xs ++ vs) (es ++ ds) → H' p = none → Q (.ref p) (upd H' p (.lst xs))), ⟨items.length, ρ0, [], [], Nat.zero_add _, rfl, Nat.le_refl _, fun j x hj e => ?_, ?_, q3⟩, fun i m H2 hW => ?_⟩
  · rw [q2 j hj] at e; cases e; rfl
  · have R2 := (R1.pinNew (o := .lst []) hD).wipe (js := js)
    rw [hno q2] at R2
    exact R2
  · obtain ⟨ρ1, acc, ys, em, el, eli, hn, R2, q4⟩ := hW
    by_cases hi : i < items.length
    · -- one more
      right
      have hd : items[i]? = some items[i] := List.getElem?_eq_getElem hi
      rw [List.drop_eq_getElem_cons hi] at q4
      unfold compW at q4
      obtain ⟨hgo, hy⟩ := (hw (F.mk1 Dp (.lst acc)) (L2.wipe σ js) H2 ρ1 (acc ++ vs) (ys ++ ds) i R2).1 _ hd
      refine ⟨hgo, fun H => ∃ ρ1 acc ys, (i + 1) + (m - 1) = items.length ∧ acc.length = ys.length ∧ ys.length ≤ i + 1 ∧ (∀ j x, j ∈ js → ρ1[j]? = some x → x = .no) ∧ Rel K (F.mk1 Dp (.lst acc)) (L2.wipe σ js) H ρ1 (ws ++ (acc ++ vs)) (es ++ (ys ++ ds)) ∧
        compW (compF dg dt de) js (items.drop (i + 1)) ρ1 ys (fun r es => ∀ xs H' p, xs.length = es.length → Rel K F σ H' r (xs ++ vs) (es ++ ds) → H' p = none → Q (.ref p) (upd H' p (.lst xs))), fun H' h' => ⟨m - 1, by omega, h'⟩, fun x H' hx => ?_⟩
      have R3 := hy x H' hx
      refine sg.run (F.mk1 Dp (.lst acc)) _ H' ρ1 _ _ x _ _ R3 (sg.mono _ _ _ _ (fun r1 q σ2 H3 R4 A => ?_) q4)
      have ew2 : L2.wipe σ2 js = L2.wipe σ js := by
        have e1 : L2.wipe σ2 js = L2.wipe (L2.wipe σ js) js := wipe_eq A.1 fun j hjn => A.2.1 j fun z => hjn (hj j z)
        rw [e1]
        exact wipe_eq (wipe_length ..) fun j hjn => wipe_out hjn
      refine ⟨ew2, st.run (F.mk1 Dp (.lst acc)) σ2 H3 r1 _ _ _ R4 (st.mono _ _ _ (fun r2 b q H4 R5 => ?_) q)⟩
      cases b with
      | false =>
        refine ⟨wipeR r2 js, acc, ys, by omega, el, by omega, fun j x hj e => wipeR_in hj e, ?_, q⟩
        have R6 := R5.wipe (js := js)
        rw [ew2] at R6
        exact R6
      | true =>
        refine se.run (F.mk1 Dp (.lst acc)) σ2 H4 r2 _ _ _ R5 (se.mono _ _ _ (fun r3 y q yv H5 R6 => ?_) q)
        refine ⟨acc, R6.pinAt, by rw [el]; omega, wipeR r3 js, acc ++ [yv], ys ++ [y], by omega, by rw [List.length_append, List.length_append, el]; rfl, by rw [List.length_append]; show ys.length + 1 ≤ i + 1; omega, fun j x hj e => wipeR_in hj e, ?_, q⟩
        have R7 := (R6.repin (o' := .lst (acc ++ [yv])) f0 fz).wipe (js := js)
        rw [ew2] at R7
        exact R7.swap fun _ h => swapFront ew el h
    · -- the end
      left
      have ei : items.drop i = [] := List.drop_eq_nil_iff.mpr (by omega)
      rw [ei] at q4
      obtain ⟨_, hs⟩ := hw (F.mk1 Dp (.lst acc)) (L2.wipe σ js) H2 ρ1 (acc ++ vs) (ys ++ ds) i R2
      refine ⟨hs (by omega), ?_⟩
      obtain ⟨u1, u2, u3⟩ := R2.unpin f0 fz
      rw [u2]
      refine q4 acc _ Dp el ?_ u1
      refine (u3.dropN ew).resig (wipe_length ..).symm fun j x e => ?_
      by_cases hjs : j ∈ js
      · exact .inl (hn j x hjs e)
      · exact .inr (wipe_out hjs).symm
end
end LD

/-! LD5: statements, loops, lists that a slot owns. -/
namespace LD
open PySem PySem.Spec L2
structure DE where
  nx : Rho → Prop
  rt : Rho → D → Prop
  bk : Rho → Prop := fun _ => False
  ct : Rho → Prop := fun _ => False
  rm : Rho → Prop := fun _ => False
abbrev TDS := DE → Rho → Prop
structure DE.Le (a b : DE) : Prop where
  nx : ∀ ρ, a.nx ρ → b.nx ρ
  rt : ∀ ρ d, a.rt ρ d → b.rt ρ d
  bk : ∀ ρ, a.bk ρ → b.bk ρ
  ct : ∀ ρ, a.ct ρ → b.ct ρ
  rm : ∀ ρ, a.rm ρ → b.rm ρ
structure Glue (K : PySem.W.Frag) (F : Fx) (vs : List V) (ds : List D) (E : Ends) (dn : DE) : Prop where
  nx : ∀ σ H ρ, Rel K F σ H ρ vs ds → dn.nx ρ → E.nx σ H
  rt : ∀ σ H ρ v d, Rel K F σ H ρ (v :: vs) (d :: ds) → dn.rt ρ d → E.rt v H
  bk : ∀ σ H ρ, Rel K F σ H ρ vs ds → dn.bk ρ → E.bk σ H
  ct : ∀ σ H ρ, Rel K F σ H ρ vs ds → dn.ct ρ → E.ct σ H
  rm : ∀ σ H ρ a l ns b, Rel K F σ H ρ vs ds → a ≠ l → H a = none → H l = none → DealOk ns b → dn.rm ρ → E.rt (.ref a) (upd (upd H l (.lst (ns.map V.int))) a (.lst [.ref l, .int b]))
structure SS (K : PySem.W.Frag) (ts : TS) (t : TDS) : Prop where
  mono : ∀ a b ρ, DE.Le a b → t a ρ → t b ρ
  run : ∀ F σ H ρ vs ds E dn, Glue K F vs ds E dn → Rel K F σ H ρ vs ds → t dn ρ → ts E σ H
section
variable {K : PySem.W.Frag} {ts us : TS} {t u : TDS} {te : TE} {e : TD}
def dNext : TDS := fun dn ρ => dn.nx ρ
theorem ss_nil : SS K tNext dNext := ⟨fun a b ρ h q => h.nx _ q, fun F σ H ρ vs ds E dn G R q => G.nx _ _ _ R q⟩
def dSeq (t u : TDS) : TDS := fun dn ρ => t { dn with nx := u dn } ρ
theorem ss_cons (s : SS K ts t) (s' : SS K us u) : SS K (tSeq ts us) (dSeq t u) := ⟨fun a b ρ h q => s.mono { a with nx := u a } { b with nx := u b } _ ⟨fun ρ q => s'.mono _ _ _ h q, h.rt, h.bk, h.ct, h.rm⟩ q, fun F σ H ρ vs ds E dn G R q =>
  s.run F σ H ρ vs ds { E with nx := us E } { dn with nx := u dn } ⟨fun σ H ρ R q => s'.run F σ H ρ vs ds E dn G R q, G.rt, G.bk, G.ct, G.rm⟩ R q⟩
def dBreak : TDS := fun dn ρ => dn.bk ρ
def dCont : TDS := fun dn ρ => dn.ct ρ
theorem ss_break : SS K tBreak dBreak := ⟨fun a b ρ h q => h.bk _ q, fun F σ H ρ vs ds E dn G R q => G.bk _ _ _ R q⟩
theorem ss_cont : SS K tCont dCont := ⟨fun a b ρ h q => h.ct _ q, fun F σ H ρ vs ds E dn G R q => G.ct _ _ _ R q⟩
def dRet (e : TD) : TDS := fun dn ρ => e ρ fun r d => dn.rt r d
theorem ss_ret (s : SE K te e) : SS K (tRet te) (dRet e) := ⟨fun a b ρ h q => s.mono _ _ _ (fun _ _ q => h.rt _ _ q) q, fun F σ H ρ vs ds E dn G R q =>
  s.run F σ H ρ vs ds _ R (s.mono _ _ _ (fun r d q v H' R' => G.rt _ _ _ _ _ R' q) q)⟩
def dDrop (e : TD) : TDS := fun dn ρ => e ρ fun r _ => dn.nx r
theorem ss_drop (s : SE K te e) : SS K (tDrop te) (dDrop e) := ⟨fun a b ρ h q => s.mono _ _ _ (fun _ _ q => h.nx _ q) q, fun F σ H ρ vs ds E dn G R q =>
  s.run F σ H ρ vs ds _ R (s.mono _ _ _ (fun r d q v H' R' => G.nx _ _ _ R'.drop q) q)⟩
def dIfS (c : TDT) (t u : TDS) : TDS := fun dn ρ => c ρ fun r b => if b = true then t dn r else u dn r
theorem ss_if {tc : TT} {c : TDT} (sc : ST K tc c) (s : SS K ts t) (s' : SS K us u) : SS K (tIfS tc ts us) (dIfS c t u) := by
  refine ⟨fun a b ρ h q => sc.mono _ _ _ (fun r k q => ?_) q, fun F σ H ρ vs ds E dn G R q => sc.run F σ H ρ vs ds _ R (sc.mono _ _ _ (fun r k q H1 R1 => ?_) q)⟩
  · cases k with
    | true => exact s.mono _ _ _ h q
    | false => exact s'.mono _ _ _ h q
  · cases k with
    | true => exact s.run F σ H1 r vs ds E dn G R1 q
    | false => exact s'.run F σ H1 r vs ds E dn G R1 q
/-- target = value, the value shared -/
def dAsg (e : TD) (g : DG) : TDS := fun dn ρ => e ρ fun r d => g d r dn.nx
theorem ss_asg {js : List Nat} {g : TG} {dg : DG} (s : SE K te e) (sg : SG K js g dg) : SS K (tAsg te g) (dAsg e dg) := ⟨fun a b ρ h q => s.mono _ _ _ (fun r d q => sg.mono _ _ _ _ h.nx q) q, fun F σ H ρ vs ds E dn G R q =>
  s.run F σ H ρ vs ds _ R (s.mono _ _ _ (fun r d q v H' R' => sg.run F σ H' r vs ds v d _ R' (sg.mono _ _ _ _ (fun r q σ2 H2 R2 _ => G.nx _ _ _ R2 q) q)) q)⟩
/-- name = a list made new, kept in this slot alone -/
def dOwn (e : TDA) (i : Nat) : TDS := fun dn ρ => e ρ fun r es => i < r.length ∧ dn.nx (r.set i (.ls es))
theorem ss_own {i : Nat} {e : TDA} (s : SF K te e) : SS K (tAsg te (gName i)) (dOwn e i) := ⟨fun a b ρ h q => s.mono _ _ _ (fun r d q => ⟨q.1, h.nx _ q.2⟩) q, fun F σ H ρ vs ds E dn G R q =>
  s.run F σ H ρ vs ds _ R (s.mono _ _ _ (fun r es q xs H' p el R' hp => G.nx _ _ _ (R'.keepOwn el hp q.1) q.2) q)⟩
/-- a, b = x, y -/
def dPar (i j : Nat) (t : TDA) : TDS := fun dn ρ => t ρ fun r es => ∃ d e, es = [d, e] ∧ i < r.length ∧ j < r.length ∧ dn.nx ((r.set i (.sh d)).set j (.sh e))
theorem ss_par {i j : Nat} {ta : TA} {a : TDA} (s : SA K ta a) : SS K (tPar i j ta) (dPar i j a) := ⟨fun a b ρ h q => s.mono _ _ _ (fun r es ⟨d, e, e1, h1, h2, q⟩ => ⟨d, e, e1, h1, h2, h.nx _ q⟩) q, fun F σ H ρ vs ds E dn G R q =>
  s.run F σ H ρ vs ds _ R (s.mono _ _ _ (fun r es q xs H' el R' => by
    obtain ⟨d, e, e1, h1, h2, q⟩ := q
    subst e1
    obtain ⟨x, xr, rfl, e2⟩ := len_cons el
    obtain ⟨y, yr, rfl, e3⟩ := len_cons e2
    obtain rfl := len_nil e3
    refine ⟨x, y, rfl, G.nx _ _ _ ?_ q⟩
    have R2 : Rel K F σ H' r (x :: y :: vs) (d :: e :: ds) := R'
    exact (R2.store h1).store (by rw [List.length_set]; exact h2)) q)⟩
/-- the list of slot i will not change any more; slot i is forgotten -/
def dFrz (i : Nat) (t : TDS) : TDS := fun dn ρ => ∃ es, ρ[i]? = some (.ls es) ∧ t dn (ρ.set i (.sh (.list es)))
theorem ss_frz (i : Nat) (s : SS K ts t) : SS K ts (dFrz i t) := ⟨fun a b ρ h ⟨es, e, q⟩ => ⟨es, e, s.mono _ _ _ h q⟩, fun F σ H ρ vs ds E dn G R ⟨es, e, q⟩ => s.run F σ H _ vs ds E dn G (R.freeze e) q⟩
def dFgt (js : List Nat) (t : TDS) : TDS := fun dn ρ => t dn (wipeR ρ js)
theorem ss_fgt (js : List Nat) (s : SS K ts t) : SS K ts (dFgt js t) := ⟨fun a b ρ h q => s.mono _ _ _ h q, fun F σ H ρ vs ds E dn G R q => by
  refine s.run F σ H _ vs ds E dn G ((R.wipe (js := js)).resig (wipe_length ..).symm fun j x e => ?_) q
  by_cases hj : j ∈ js
  · exact .inl (wipeR_in hj e)
  · exact .inr (wipe_out hj).symm⟩
/-! loops -/
theorem Rel.dropMid {F : Fx} {σ : L2.St} {H : Hp} {ρ : Rho} {vs ws : List V} {ds es : List D} {v : V} {d : D} (R : Rel K F σ H ρ (v :: (ws ++ vs)) (d :: (es ++ ds))) (e : ws.length = es.length) : Rel K F σ H ρ (v :: vs) (d :: ds) := R.swap fun _ h => by
  cases h with
  | cons a b => exact .cons a (dpAll_split e b).2
def dFor (di : TDI) (dg : DG) (tb : TDS) : TDS := fun dn ρ => di ρ fun ρ0 items => ∃ I : Nat → Rho → Prop, I 0 ρ0 ∧ (∀ i d r, items[i]? = some d → I i r → dg d r fun r1 => tb { nx := I (i + 1), rt := dn.rt, bk := dn.nx, ct := I (i + 1), rm := dn.rm } r1) ∧ ∀ r, I items.length r → dn.nx r
theorem ss_for {js : List Nat} {wi : TI} {di : TDI} {g : TG} {dg : DG} (si : SI K wi di) (sg : SG K js g dg) (s : SS K ts t) : SS K (tFor wi g ts) (dFor di dg t) := by
  refine ⟨fun a b ρ h q => si.mono _ _ _ (fun r items ⟨I, q1, q2, q3⟩ => ⟨I, q1, fun i d r e hI => sg.mono _ _ _ _ (fun r q => s.mono { nx := I (i + 1), rt := a.rt, bk := a.nx, ct := I (i + 1), rm := a.rm } { nx := I (i + 1), rt := b.rt, bk := b.nx, ct := I (i + 1), rm := b.rm } _ ⟨fun _ z => z, h.rt, h.nx, fun _ z => z, h.rm⟩ q) (q2 i d r e hI), fun r z => h.nx _ (q3 r z)⟩) q, fun F σ H ρ vs ds E dn G R q => ?_⟩
  refine si.run F σ H ρ vs ds _ R (si.mono _ _ _ (fun ρ0 items q J H1 ws es ew hw R1 => ?_) q)
  obtain ⟨I, q1, q2, q3⟩ := q
  refine ⟨fun i m σ H => ∃ r, i + m = items.length ∧ Rel K F σ H r (ws ++ vs) (es ++ ds) ∧ I i r, ⟨items.length, ρ0, Nat.zero_add _, R1, q1⟩, fun i m σ H hW => ?_⟩
  obtain ⟨r, em, R2, hI⟩ := hW
  by_cases hi : i < items.length
  · right
    have hd : items[i]? = some items[i] := List.getElem?_eq_getElem hi
    obtain ⟨hgo, hy⟩ := (hw F σ H r vs ds i R2).1 _ hd
    refine ⟨hgo, fun σ H => ∃ r, Rel K F σ H r (ws ++ vs) (es ++ ds) ∧ I (i + 1) r, fun σ' H' ⟨r, R3, h3⟩ => ⟨m - 1, by omega, r, by omega, R3, h3⟩, fun x H' hx => ?_⟩
    have R3 := hy x H' hx
    refine sg.run F σ H' r (ws ++ vs) (es ++ ds) x _ _ R3 (sg.mono _ _ _ _ (fun r1 q σ2 H2 R4 _ => ?_) (q2 i _ r hd hI))
    refine s.run F σ2 H2 r1 (ws ++ vs) (es ++ ds) _ { nx := I (i + 1), rt := dn.rt, bk := dn.nx, ct := I (i + 1), rm := dn.rm } ⟨fun σ H ρ R q => ⟨ρ, R, q⟩, fun σ H ρ v d R q => G.rt _ _ _ _ _ (R.dropMid ew) q, fun σ H ρ R q => G.nx _ _ _ (R.dropN ew) q, fun σ H ρ R q => ⟨ρ, R, q⟩, fun σ H ρ a l ns b R n h1 h2 ok q => G.rm _ _ _ _ _ _ _ (R.dropN ew) n h1 h2 ok q⟩ R4 q
  · left
    have ei : i = items.length := by omega
    refine ⟨(hw F σ H r vs ds i R2).2 (by omega), G.nx _ _ _ (R2.dropN ew) (q3 r (ei ▸ hI))⟩
def dWhile (c : TDT) (tb : TDS) : TDS := fun dn ρ => ∃ (I : Rho → Prop) (μ : Rho → Nat), I ρ ∧ ∀ r, I r → c r fun r1 b => if b = true then tb { nx := fun r2 => I r2 ∧ μ r2 < μ r, rt := dn.rt, bk := dn.nx, ct := fun r2 => I r2 ∧ μ r2 < μ r, rm := dn.rm } r1 else dn.nx r1
theorem ss_while {tc : TT} {c : TDT} (sc : ST K tc c) (s : SS K ts t) : SS K (tWhile tc ts) (dWhile c t) := by
  refine ⟨fun a b ρ h ⟨I, μ, q1, q2⟩ => ⟨I, μ, q1, fun r hI => sc.mono _ _ _ (fun r1 k q => ?_) (q2 r hI)⟩, fun F σ H ρ vs ds E dn G R q => ?_⟩
  · cases k with
    | true => exact s.mono { nx := fun r2 => I r2 ∧ μ r2 < μ r, rt := a.rt, bk := a.nx, ct := fun r2 => I r2 ∧ μ r2 < μ r, rm := a.rm } { nx := fun r2 => I r2 ∧ μ r2 < μ r, rt := b.rt, bk := b.nx, ct := fun r2 => I r2 ∧ μ r2 < μ r, rm := b.rm } _ ⟨fun _ z => z, h.rt, h.nx, fun _ z => z, h.rm⟩ q
    | false => exact h.nx _ q
  · obtain ⟨I, μ, q1, q2⟩ := q
    refine ⟨fun m σ H => ∃ r, m = μ r ∧ Rel K F σ H r vs ds ∧ I r, ⟨μ ρ, ρ, rfl, R, q1⟩, fun m σ H hW => ?_⟩
    obtain ⟨r, em, R1, hI⟩ := hW
    refine sc.run F σ H r vs ds _ R1 (sc.mono _ _ _ (fun r1 b q H1 R2 => ?_) (q2 r hI))
    cases b with
    | false => exact G.nx _ _ _ R2 q
    | true =>
      refine ⟨fun σ' H' => ∃ r2, Rel K F σ' H' r2 vs ds ∧ I r2 ∧ μ r2 < μ r, fun σ' H' ⟨r2, R3, h1, h2⟩ => ⟨μ r2, by rw [em]; exact h2, r2, rfl, R3, h1⟩, ?_⟩
      exact s.run F σ H1 r1 vs ds _ { nx := fun r2 => I r2 ∧ μ r2 < μ r, rt := dn.rt, bk := dn.nx, ct := fun r2 => I r2 ∧ μ r2 < μ r, rm := dn.rm } ⟨fun σ H ρ R q => ⟨ρ, R, q.1, q.2⟩, G.rt, G.nx, fun σ H ρ R q => ⟨ρ, R, q.1, q.2⟩, G.rm⟩ R2 q
/-! lists that a slot owns -/
theorem Rel.ownAt {F : Fx} {σ : L2.St} {H : Hp} {ρ : Rho} {vs : List V} {ds es : List D} {i : Nat} (R : Rel K F σ H ρ vs ds) (h : ρ[i]? = some (.ls es)) : ∃ p xs, σ[i]? = some (some (.ref p)) ∧ H p = some (.lst xs) ∧ xs.length = es.length ∧ Dp K H (.ref p) (.list es) := by
  obtain ⟨Hi, own, R⟩ := R
  obtain ⟨p, xs, e, eo, hp, q⟩ := R.slot i _ h
  have e' : σ[i]? = some (some (.ref p)) := by
    cases z : σ[i]? with
    | none => rw [z] at e; cases e
    | some y => rw [z] at e; exact congrArg some e
  exact ⟨p, xs, e', hp, dpAll_len q, .lst (.inl (.inl hp)) (dpAll_mono R.sub _ _ q)⟩
/-- what stands in slot i's own list is turned: ys for fs, of what was there or is at hand -/
theorem Rel.turn {F : Fx} {σ : L2.St} {H : Hp} {ρ : Rho} {vs ws : List V} {ds es fs gs : List D} {i : Nat} {p : Addr} {xs ys : List V} (R : Rel K F σ H ρ vs ds) (h : ρ[i]? = some (.ls es)) (hs : σ[i]? = some (some (.ref p))) (hp : H p = some (.lst xs))
    (hy : ∀ Hi, DpAll K Hi xs es → DpAll K Hi vs ds → DpAll K Hi ys fs ∧ DpAll K Hi ws gs) : Rel K F σ (upd H p (.lst ys)) (ρ.set i (.ls fs)) ws gs := by
  obtain ⟨Hi, own, R⟩ := R
  obtain ⟨p', xs', e, eo, hp', q⟩ := R.slot i _ h
  have e2 : p' = p := by rw [hs] at e; cases e; rfl
  subst e2
  rw [hp] at hp'
  cases hp'
  have hi : i < ρ.length := (List.getElem?_eq_some_iff.mp h).1
  obtain ⟨y1, y2⟩ := hy Hi q R.tmp
  have np : Hi p' = none := R.free i p' (by rw [eo]; simp)
  have no : ∀ j, j ≠ i → ∀ a ∈ own j, a ≠ p' := fun j hj a ha z => R.sep j i hj a ha (by rw [eo, z]; simp)
  refine ⟨Hi, own, ⟨R.base, fun b x z => ?_, R.new, fun b o z hn => ?_, fun b z => ?_, by rw [List.length_set]; exact R.len, fun j x z => ?_, R.free, fun j a ha => ?_, R.nown, R.sep, fun j es' z => ?_, fun z hz => ?_, y2⟩⟩
  · rw [upd_ne (fun w => by rw [w, np] at z; cases z)]; exact R.sub b x z
  · have nb : b ≠ p' := fun w => by
      have := R.nls i es h p' (by rw [eo]; simp)
      rw [w, this] at z; cases z
    rw [upd_ne nb]; exact R.keep b o z hn
  · by_cases hb : b = p'
    · rw [hb, upd_same]; simp
    · rw [upd_ne hb]; exact R.dom b z
  · by_cases hj : j = i
    · subst hj
      rw [List.getElem?_set_self hi] at z
      cases z
      exact ⟨p', ys, e, eo, upd_same, y1⟩
    · rw [List.getElem?_set_ne (Ne.symm hj)] at z
      exact (R.slot j x z).grow (Same.refl _) fun a ha o w => by rw [upd_ne (no j hj a ha)]; exact w
  · by_cases hap : a = p'
    · rw [hap, upd_same]; simp
    · rw [upd_ne hap]; exact R.held j a ha
  · by_cases hj : j = i
    · subst hj
      exact R.nls j es h
    · rw [List.getElem?_set_ne (Ne.symm hj)] at z
      exact R.nls j es' z
  · obtain ⟨z1, z2, z3⟩ := R.pin z hz
    have nz : z.1 ≠ p' := fun w => z3 i (by rw [eo, w]; simp)
    exact ⟨by rw [upd_ne nz]; exact z1, z2, z3⟩
/-- len of it -/
def dLenO (i : Nat) : TD := fun ρ P => ∃ es, ρ[i]? = some (.ls es) ∧ P ρ (.int es.length)
theorem se_lenO (i : Nat) : SE K (tCB (fun xs H Q => ∃ p ys, xs = [.ref p] ∧ (SqL K H p ys ∨ SqT K H p ys) ∧ Q (.int ys.length) H) (tCons (tVar i) tNil)) (dLenO i) := ⟨fun ρ P P' h ⟨es, e, q⟩ => ⟨es, e, h _ _ q⟩, fun F σ H ρ vs ds Q R ⟨es, e, q⟩ => by
  obtain ⟨p, xs, e1, hp, el, _⟩ := R.ownAt e
  refine ⟨.ref p, e1, p, xs, rfl, .inl (.inl (.inl hp)), ?_⟩
  rw [el]
  exact q _ _ (R.push (v := .int es.length) rfl)⟩
/-- it stands at the left of an operator that looks at it alone -/
structure SOv (K : PySem.W.Frag) (r : R2) (o : OD) : Prop where
  mono : ∀ a b P P', (∀ d, P d → P' d) → o a b P → o a b P'
  run : ∀ F σ H ρ vs ds x y a b Q, Dp K H x a → Rel K F σ H ρ (y :: vs) (b :: ds) → o a b (fun d => ∀ v H', Rel K F σ H' ρ (v :: vs) (d :: ds) → Q v H') → r x y H Q
theorem sov_eqD : SOv K (rEqD K) oEq := ⟨fun a b P P' h ⟨e1, e2, q⟩ => ⟨e1, e2, h _ q⟩, fun F σ H ρ vs ds x y a b Q hx R ⟨e1, e2, q⟩ =>
  ⟨a, b, hx, R.dp, e1, e2, q _ _ (R.drop.push (v := .bl (PyData.eqv a b)) rfl)⟩⟩
theorem sov_neD : SOv K (rNeD K) oNe := ⟨fun a b P P' h ⟨e1, e2, q⟩ => ⟨e1, e2, h _ q⟩, fun F σ H ρ vs ds x y a b Q hx R ⟨e1, e2, q⟩ =>
  ⟨a, b, hx, R.dp, e1, e2, q _ _ (R.drop.push (v := .bl (!PyData.eqv a b)) rfl)⟩⟩
def dOpO (o : OD) (i : Nat) (b : TD) : TD := fun ρ P => (∃ es, ρ[i]? = some (.ls es)) ∧ b ρ fun r y => ∃ es, r[i]? = some (.ls es) ∧ o (.list es) y (P r)
theorem se_opO {r : R2} {o : OD} {tb : TE} {b : TD} (i : Nat) (so : SOv K r o) (sb : SE K tb b) : SE K (tOp r (tVar i) tb) (dOpO o i b) := by
  refine ⟨fun ρ P P' h ⟨q0, q⟩ => ⟨q0, sb.mono _ _ _ (fun r y ⟨es, e, q⟩ => ⟨es, e, so.mono _ _ _ _ (h _) q⟩) q⟩, fun F σ H ρ vs ds Q R q => ?_⟩
  obtain ⟨⟨es0, e0⟩, q⟩ := q
  obtain ⟨p, xs, e1, hp, el, _⟩ := R.ownAt e0
  refine ⟨.ref p, e1, sb.run F σ H ρ vs ds _ R (sb.mono _ _ _ (fun r y q v H1 R1 => ?_) q)⟩
  obtain ⟨es, e, q⟩ := q
  obtain ⟨p2, xs2, e2, hp2, el2, hd⟩ := R1.ownAt e
  rw [e1] at e2
  cases e2
  exact so.run F σ H1 r vs ds _ v _ y Q hd R1 q
/-- an item of it -/
def dIxO (i : Nat) (b : TD) : TD := fun ρ P => (∃ es, ρ[i]? = some (.ls es)) ∧ b ρ fun r y => ∃ es k d, r[i]? = some (.ls es) ∧ y = .int k ∧ atI es k = some d ∧ P r d
theorem se_ixO {tb : TE} {b : TD} (i : Nat) (sb : SE K tb b) : SE K (tOp (rIxL K) (tVar i) tb) (dIxO i b) := by
  refine ⟨fun ρ P P' h ⟨q0, q⟩ => ⟨q0, sb.mono _ _ _ (fun r y ⟨es, k, d, e, e1, e2, q⟩ => ⟨es, k, d, e, e1, e2, h _ _ q⟩) q⟩, fun F σ H ρ vs ds Q R q => ?_⟩
  obtain ⟨⟨es0, e0⟩, q⟩ := q
  obtain ⟨p, xs, e1, hp, el, _⟩ := R.ownAt e0
  refine ⟨.ref p, e1, sb.run F σ H ρ vs ds _ R (sb.mono _ _ _ (fun r y q v H1 R1 => ?_) q)⟩
  obtain ⟨es, k, d, e, ey, ea, q⟩ := q
  subst ey
  obtain rfl := R1.int
  obtain ⟨Hi, own, R2⟩ := R1.drop
  obtain ⟨p2, xs2, e2, eo, hp2, q2⟩ := R2.slot i _ e
  have e3 : p2 = p := by rw [e1] at e2; cases e2; rfl
  subst e3
  have R3 : Rel K F σ H1 r (xs2 ++ vs) (es ++ ds) := ⟨Hi, own, R2.tmpTo (dpAll_app q2 R2.tmp)⟩
  obtain ⟨v, e4, R4⟩ := atI_pick (dpAll_len q2) R3 ea
  exact ⟨p2, xs2, k, v, rfl, rfl, .inl (.inl hp2), e4, q _ _ R4⟩
/-- name.append(e) -/
def dApp (i : Nat) (b : TD) : TDS := fun dn ρ => (∃ es, ρ[i]? = some (.ls es)) ∧ b ρ fun r d => ∃ es, r[i]? = some (.ls es) ∧ es.length < sizeLine ∧ dn.nx (r.set i (.ls (es ++ [d])))
theorem ss_app {tb : TE} {b : TD} (i : Nat) (sb : SE K tb b) : SS K (tDrop (tBM K "list" rAppend (tVar i) (tCons tb tNil))) (dApp i b) := by
  refine ⟨fun a b ρ h ⟨q0, q⟩ => ⟨q0, sb.mono _ _ _ (fun r y ⟨es, e, e1, q⟩ => ⟨es, e, e1, h.nx _ q⟩) q⟩, fun F σ H ρ vs ds E dn G R q => ?_⟩
  obtain ⟨⟨es0, e0⟩, q⟩ := q
  obtain ⟨p, xs, e1, hp, el, _⟩ := R.ownAt e0
  refine ⟨.ref p, e1, .inl ⟨rfl, xs, .inl (.inl hp)⟩, sb.run F σ H ρ vs ds _ R (sb.mono _ _ _ (fun r y q v H1 R1 => ?_) q)⟩
  obtain ⟨es, e, ez, q⟩ := q
  obtain ⟨p2, xs2, e2, hp2, el2, hd⟩ := R1.ownAt e
  rw [e1] at e2
  cases e2
  refine ⟨p, xs2, v, rfl, rfl, hp2, by rw [el2]; exact ez, G.nx _ _ _ (R1.turn e e1 hp2 fun Hi h1 h2 => ?_) q⟩
  cases h2 with
  | cons a b => exact ⟨dpAll_app h1 (.cons a .nil), b⟩
/-- name[k] = e -/
theorem dpAll_set {H : Hp} {d : D} {v : V} (hv : Dp K H v d) : ∀ {es : List D} {xs : List V} (j : Nat), DpAll K H xs es → DpAll K H (xs.set j v) (es.set j d)
  | [], _, j, h => by cases h; exact .nil
  | e :: es, _, 0, h => by cases h with | cons a b => exact .cons hv b
  | e :: es, _, j + 1, h => by cases h with | cons a b => exact .cons a (dpAll_set hv j b)
def dSetI (i : Nat) (b k : TD) : TDS := fun dn ρ => b ρ fun r d => (∃ es, r[i]? = some (.ls es)) ∧ k r fun r2 z => ∃ es n j, r2[i]? = some (.ls es) ∧ z = .int n ∧ ixN es.length n = some j ∧ dn.nx (r2.set i (.ls (es.set j d)))
theorem ss_setI {tb tk : TE} {b k : TD} (i : Nat) (sb : SE K tb b) (sk : SE K tk k) : SS K (tAsg tb (gSub (tVar i) tk rSetL)) (dSetI i b k) := by
  refine ⟨fun a b ρ h q => sb.mono _ _ _ (fun r y ⟨q0, q⟩ => ⟨q0, sk.mono _ _ _ (fun r2 z ⟨es, n, j, e, e1, e2, q⟩ => ⟨es, n, j, e, e1, e2, h.nx _ q⟩) q⟩) q, fun F σ H ρ vs ds E dn G R q => ?_⟩
  refine sb.run F σ H ρ vs ds _ R (sb.mono _ _ _ (fun r d q v H1 R1 => ?_) q)
  obtain ⟨⟨es0, e0⟩, q⟩ := q
  obtain ⟨p, xs, e1, hp, el, _⟩ := R1.ownAt e0
  refine ⟨.ref p, e1, sk.run F σ H1 r _ _ _ R1 (sk.mono _ _ _ (fun r2 z q w H2 R2 => ?_) q)⟩
  obtain ⟨es, n, j, e, ez, ej, q⟩ := q
  subst ez
  obtain rfl := R2.int
  obtain ⟨p2, xs2, e2, hp2, el2, hd⟩ := R2.ownAt e
  rw [e1] at e2
  cases e2
  refine ⟨p, xs2, n, j, rfl, rfl, hp2, by rw [el2]; exact ej, G.nx _ _ _ (R2.drop.turn e e1 hp2 fun Hi h1 h2 => ?_) q⟩
  cases h2 with
  | cons a b => exact ⟨dpAll_set a j h1, b⟩
/-- name.pop(k) -/
theorem dpAll_erase {H : Hp} : ∀ {es : List D} {xs : List V} (j : Nat), DpAll K H xs es → DpAll K H (xs.eraseIdx j) (es.eraseIdx j)
  | [], _, j, h => by cases h; exact .nil
  | e :: es, _, 0, h => by cases h with | cons a b => exact b
  | e :: es, _, j + 1, h => by cases h with | cons a b => exact .cons a (dpAll_erase j b)
def dPopI (i : Nat) (k : TD) : TD := fun ρ P => (∃ es, ρ[i]? = some (.ls es)) ∧ k ρ fun r z => ∃ es n j d, r[i]? = some (.ls es) ∧ z = .int n ∧ (-(2 ^ 63) ≤ n ∧ n < 2 ^ 63) ∧ seqIndex? n es.length = some j ∧ es[j]? = some d ∧ P (r.set i (.ls (es.eraseIdx j))) d
theorem se_popI {tk : TE} {k : TD} (i : Nat) (sk : SE K tk k) : SE K (tBM K "list" rPopAt (tVar i) (tCons tk tNil)) (dPopI i k) := by
  refine ⟨fun ρ P P' h ⟨q0, q⟩ => ⟨q0, sk.mono _ _ _ (fun r z ⟨es, n, j, d, e, e1, e2, e3, e4, q⟩ => ⟨es, n, j, d, e, e1, e2, e3, e4, h _ _ q⟩) q⟩, fun F σ H ρ vs ds Q R q => ?_⟩
  obtain ⟨⟨es0, e0⟩, q⟩ := q
  obtain ⟨p, xs, e1, hp, el, _⟩ := R.ownAt e0
  refine ⟨.ref p, e1, .inl ⟨rfl, xs, .inl (.inl hp)⟩, sk.run F σ H ρ vs ds _ R (sk.mono _ _ _ (fun r z q w H1 R1 => ?_) q)⟩
  obtain ⟨es, n, j, d, e, ez, en, ej, ed, q⟩ := q
  subst ez
  obtain rfl := R1.int
  obtain ⟨Hi, own, R2⟩ := R1.drop
  obtain ⟨p2, xs2, e2, eo, hp2, q2⟩ := R2.slot i _ e
  have e3 : p2 = p := by rw [e1] at e2; cases e2; rfl
  subst e3
  obtain ⟨v, hv, hd⟩ := dpAll_at q2 ed
  have R3 : Rel K F σ H1 r (v :: vs) (d :: ds) := ⟨Hi, own, R2.tmpTo (.cons hd R2.tmp)⟩
  refine ⟨p2, xs2, n, j, v, rfl, rfl, hp2, en.1, en.2, by rw [dpAll_len q2]; exact ej, hv, q _ _ (R3.turn e e1 hp2 fun Hi h1 h2 => ⟨dpAll_erase j h1, h2⟩)⟩
end
end LD

/-! LD6: what a def promises over data; its calls; its entry. -/
namespace LD
open PySem PySem.Spec L2
/-- what has come between: nothing tracked is lost, what was laid is new -/
def Fresh (Hi Hi' H : Hp) : Prop := ∀ b, Hi' b ≠ none → Hi b ≠ none ∨ H b = none
/-- a def of data alone -/
def spD (K : PySem.W.Frag) (g : CD) : Sp := fun vs H Q _ => ∃ Hi ds, Same Hi H ∧ DpAll K Hi vs ds ∧ g ds fun d => ∀ v H' Hi', Same Hi Hi' → Same Hi' H' → Same H H' → Fresh Hi Hi' H → Dp K Hi' v d → Q v H'
/-- a def that draws: the source first -/
def spW (K : PySem.W.Frag) (g : CD) : Sp := fun vs H Q _ => ∃ Hi a l vs' ds, vs = .ref a :: vs' ∧ a ≠ l ∧ Same Hi H ∧ Hi a = none ∧ Hi l = none ∧ DealAt H a l ∧ DpAll K Hi vs' ds ∧
  g ds fun d => ∀ v H' Hi', Same Hi Hi' → Same Hi' H' → (∀ c o, H c = some o → c ≠ a → c ≠ l → H' c = some o) → (∀ c, H c ≠ none → H' c ≠ none) → Fresh Hi Hi' H → DealAt H' a l → Dp K Hi' v d → Q v H'
/-- a def that makes a source -/
def spM (K : PySem.W.Frag) (g : List D → Prop) : Sp := fun vs H Q _ => ∃ Hi ds, Same Hi H ∧ DpAll K Hi vs ds ∧ g ds ∧
  ∀ a l ns b H', a ≠ l → H' a = none → H' l = none → Same H H' → DealOk ns b → Q (.ref a) (upd (upd H' l (.lst (ns.map V.int))) a (.lst [.ref l, .int b]))
section
variable {K : PySem.W.Frag} {F : Fx} {σ : L2.St} {H H' : Hp} {ρ : Rho} {vs ws xs : List V} {ds es : List D}
/-- behind a call that only adds -/
theorem RelI.after {Hi Hi' : Hp} {own : Nat → List Addr} (R : RelI K F σ H ρ vs ds Hi own) (h1 : Same Hi Hi') (h2 : Same Hi' H') (h3 : Same H H') (h4 : Fresh Hi Hi' H) (h : DpAll K Hi' ws es) : RelI K F σ H' ρ ws es Hi' own := by
  have dom : ∀ b, H b ≠ none → H' b ≠ none := fun b hb => by
    cases q : H b with
    | none => exact absurd q hb
    | some o => rw [h3 b o q]; simp
  refine ⟨R.base.trans h1, h2, fun b hb => ?_, fun b o e hn => h3 b o (R.keep b o e hn), fun b e => dom b (R.dom b e), R.len, fun i x e => (R.slot i x e).grow h1 fun a ha o q => h3 a o q, fun i a ha => ?_, fun i a ha => dom a (R.held i a ha), R.nown, R.sep, R.nls, fun z hz => ?_, h⟩
  · rcases h4 b hb with z | z
    · exact R.new b z
    · exact .inr (R.no0 z)
  · cases q : Hi' a with
    | none => rfl
    | some o =>
      rcases h4 a (by rw [q]; simp) with z | z
      · exact absurd (R.free i a ha) z
      · exact absurd z (R.held i a ha)
  · obtain ⟨z1, z2, z3⟩ := R.pin z hz
    refine ⟨h3 _ _ z1, ?_, z3⟩
    cases q : Hi' z.1 with
    | none => rfl
    | some o =>
      rcases h4 z.1 (by rw [q]; simp) with w | w
      · exact absurd z2 w
      · rw [z1] at w; cases w
theorem se_call {g : CD} {ta : TA} {t : TDA} {E : XK} (hg : ∀ es P P', (∀ d, P d → P' d) → g es P → g es P') (s : SA K ta t) : SE K (tCall (spD K g) [] E ta) (dCall g t) := by
  refine ⟨fun ρ P P' h q => s.mono _ _ _ (fun _ es q => hg _ _ _ (h _) q) q, fun F σ H ρ vs ds Q R q => s.run F σ H ρ vs ds _ R (s.mono _ _ _ (fun r es q xs H1 e R1 => ?_) q)⟩
  show spD K g (xs ++ []) H1 Q E
  rw [List.append_nil]
  obtain ⟨Hi, own, R2⟩ := R1
  obtain ⟨t1, t2⟩ := dpAll_split e R2.tmp
  exact ⟨Hi, es, R2.sub, t1, hg _ _ _ (fun d q v H' Hi' h1 h2 h3 h4 h5 => q v H' ⟨Hi', own, R2.after h1 h2 h3 h4 (.cons h5 (dpAll_mono h1 _ _ t2))⟩) q⟩
/-- .. with the source in slot i first -/
def dCallW (i : Nat) (g : CD) (t : TDA) : TD := fun ρ P => (∃ a l, ρ[i]? = some (.dl a l)) ∧ t ρ fun r es => (∃ a l, r[i]? = some (.dl a l)) ∧ g es (P r)
theorem Rel.dealAt {i : Nat} {a l : Addr} (R : Rel K F σ H ρ vs ds) (h : ρ[i]? = some (.dl a l)) : σ[i]? = some (some (.ref a)) := by
  obtain ⟨Hi, own, R⟩ := R
  obtain ⟨e, _⟩ := R.slot i _ h
  cases z : σ[i]? with
  | none => rw [z] at e; cases e
  | some y => rw [z] at e; exact congrArg some e
theorem se_callW {i : Nat} {g : CD} {ta : TA} {t : TDA} {E : XK} (hg : ∀ es P P', (∀ d, P d → P' d) → g es P → g es P') (s : SA K ta t) : SE K (tCall (spW K g) [] E (tCons (tVar i) ta)) (dCallW i g t) := by
  refine ⟨fun ρ P P' h q => ⟨q.1, s.mono _ _ _ (fun _ es q => ⟨q.1, hg _ _ _ (h _) q.2⟩) q.2⟩, fun F σ H ρ vs ds Q R q => ?_⟩
  obtain ⟨⟨a, l, e0⟩, q⟩ := q
  have s0 := R.dealAt e0
  refine ⟨.ref a, s0, s.run F σ H ρ vs ds _ R (s.mono _ _ _ (fun r es q xs H1 e R1 => ?_) q)⟩
  show spW K g (V.ref a :: xs ++ []) H1 Q E
  rw [List.append_nil]
  obtain ⟨⟨a', l', e1⟩, q⟩ := q
  have s1 := R1.dealAt e1
  rw [s0] at s1
  cases s1
  obtain ⟨Hi, own, R2⟩ := R1
  obtain ⟨t1, t2⟩ := dpAll_split e R2.tmp
  obtain ⟨_, eo, nal, da⟩ := R2.slot i _ e1
  have ia : a ∈ own i := by rw [eo]; simp
  have il : l' ∈ own i := by rw [eo]; simp
  refine ⟨Hi, a, l', xs, es, rfl, nal, R2.sub, R2.free i a ia, R2.free i l' il, da, t1, hg _ _ _ (fun d q v H' Hi' h1 h2 h3 h3' h4 hda h5 => q v H' ⟨Hi', own, ?_⟩) q⟩
  have notA : ∀ {c : Addr}, F.H0 c ≠ none → c ∉ F.P → c ≠ a ∧ c ≠ l' := fun {c} hc hp => ⟨fun z => by
    rcases R2.nown i a ia with w | w
    · exact hc (by rw [z]; exact w)
    · exact hp (by rw [z]; exact w), fun z => by
    rcases R2.nown i l' il with w | w
    · exact hc (by rw [z]; exact w)
    · exact hp (by rw [z]; exact w)⟩
  refine ⟨R2.base.trans h1, h2, fun b hb => ?_, fun b o z hn => ?_, fun b z => h3' b (R2.dom b z), R2.len, fun j x z => ?_, fun j c hc => ?_, fun j c hc => h3' c (R2.held j c hc), R2.nown, R2.sep, R2.nls, fun z hz => ?_, .cons h5 (dpAll_mono h1 _ _ t2)⟩
  · rcases h4 b hb with z | z
    · exact R2.new b z
    · exact .inr (R2.no0 z)
  · obtain ⟨n1, n2⟩ := notA (c := b) (by rw [z]; simp) hn
    exact h3 b o (R2.keep b o z hn) n1 n2
  · by_cases hj : j = i
    · subst hj
      rw [e1] at z
      cases z
      obtain ⟨g1, g2, g3, _⟩ := R2.slot j _ e1
      exact ⟨g1, g2, g3, hda⟩
    · exact (R2.slot j x z).grow h1 fun c hc o w => h3 c o w (fun y => R2.sep j i hj c hc (by rw [y]; exact ia)) (fun y => R2.sep j i hj c hc (by rw [y]; exact il))
  · cases w : Hi' c with
    | none => rfl
    | some o =>
      rcases h4 c (by rw [w]; simp) with z | z
      · exact absurd (R2.free j c hc) z
      · exact absurd z (R2.held j c hc)
  · obtain ⟨z1, z2, z3⟩ := R2.pin z hz
    refine ⟨h3 _ _ z1 (fun y => z3 i (by rw [y]; exact ia)) (fun y => z3 i (by rw [y]; exact il)), ?_, z3⟩
    cases w : Hi' z.1 with
    | none => rfl
    | some o =>
      rcases h4 z.1 (by rw [w]; simp) with y | y
      · exact absurd z2 y
      · rw [z1] at y; cases y
/-- name = a new source -/
def dMk (g : List D → Prop) (t : TDA) (i : Nat) : TDS := fun dn ρ => t ρ fun r es => i < r.length ∧ g es ∧ ∀ a l, dn.nx (r.set i (.dl a l))
theorem ss_mk {i : Nat} {g : List D → Prop} {ta : TA} {t : TDA} {E : XK} (s : SA K ta t) : SS K (tAsg (tCall (spM K g) [] E ta) (gName i)) (dMk g t i) := by
  refine ⟨fun a b ρ h q => s.mono _ _ _ (fun r es q => ⟨q.1, q.2.1, fun a l => h.nx _ (q.2.2 a l)⟩) q, fun F σ H ρ vs ds En dn G R q => s.run F σ H ρ vs ds _ R (s.mono _ _ _ (fun r es q xs H1 e R1 => ?_) q)⟩
  show spM K g (xs ++ []) H1 _ E
  rw [List.append_nil]
  obtain ⟨hi, q0, q⟩ := q
  obtain ⟨Hi, own, R2⟩ := R1
  obtain ⟨t1, t2⟩ := dpAll_split e R2.tmp
  refine ⟨Hi, es, R2.sub, t1, q0, fun a l ns b H' nal ha hl hs ok => G.nx _ _ _ ?_ (q a l)⟩
  have fr : ∀ {c : Addr}, H' c = none → H1 c = none := fun {c} hc => hs.free hc
  have ne : ∀ {c p : Addr} {o : HO}, H1 c = some o → H' p = none → c ≠ p := fun {c p o} h1 h2 => ne_of_none h1 (fr h2)
  have hH : ∀ c o, H1 c = some o → (upd (upd H' l (.lst (ns.map V.int))) a (.lst [.ref l, .int b])) c = some o := fun c o h => by
    rw [upd_ne (ne h ha), upd_ne (ne h hl)]; exact hs _ _ h
  have dom : ∀ c, H1 c ≠ none → (upd (upd H' l (.lst (ns.map V.int))) a (.lst [.ref l, .int b])) c ≠ none := fun c hc => by
    cases w : H1 c with
    | none => exact absurd w hc
    | some o => rw [hH c o w]; simp
  have no : ∀ {j : Nat} {c : Addr}, c ∈ own j → c ≠ a ∧ c ≠ l := fun {j c} hc => ⟨fun z => R2.held j c hc (by rw [z]; exact fr ha), fun z => R2.held j c hc (by rw [z]; exact fr hl)⟩
  refine ⟨Hi, fun j => if j = i then [a, l] else own j, ⟨R2.base, fun c o h => hH c o (R2.sub c o h), R2.new, fun c o h hn => hH c o (R2.keep c o h hn), fun c h => dom c (R2.dom c h), by rw [List.length_set, List.length_set]; exact R2.len, fun j x z => ?_, fun j c hc => ?_, fun j c hc => ?_, fun j c hc => ?_, fun j k hjk c hc hk => ?_, fun j es' z c hc => ?_, fun z hz => ?_, t2⟩⟩
  · by_cases hj : j = i
    · subst hj
      rw [List.getElem?_set_self hi] at z
      cases z
      rw [List.getElem?_set_self (by rw [R2.len]; exact hi), if_pos rfl]
      exact ⟨rfl, rfl, nal, ns, b, ok, upd_same, by rw [upd_ne (Ne.symm nal), upd_same]⟩
    · rw [List.getElem?_set_ne (Ne.symm hj)] at z ⊢
      rw [if_neg hj]
      exact (R2.slot j x z).grow (Same.refl _) fun c hc o w => hH c o w
  · by_cases hj : j = i
    · rw [if_pos hj] at hc
      rcases List.mem_cons.mp hc with rfl | hc
      · exact R2.noSub (fr ha)
      · obtain rfl : c = l := by simpa using hc
        exact R2.noSub (fr hl)
    · rw [if_neg hj] at hc; exact R2.free j c hc
  · by_cases hj : j = i
    · rw [if_pos hj] at hc
      rcases List.mem_cons.mp hc with rfl | hc
      · rw [upd_same]; simp
      · obtain rfl : c = l := by simpa using hc
        rw [upd_ne (Ne.symm nal), upd_same]; simp
    · rw [if_neg hj] at hc; exact dom c (R2.held j c hc)
  · by_cases hj : j = i
    · rw [if_pos hj] at hc
      rcases List.mem_cons.mp hc with rfl | hc
      · exact .inl (R2.no0 (fr ha))
      · obtain rfl : c = l := by simpa using hc
        exact .inl (R2.no0 (fr hl))
    · rw [if_neg hj] at hc; exact R2.nown j c hc
  · by_cases hj : j = i
    · rw [if_pos hj] at hc
      rw [if_neg (fun z => hjk (hj.trans z.symm))] at hk
      rcases List.mem_cons.mp hc with z | hc
      · exact (no hk).1 z
      · exact (no hk).2 (by simpa using hc)
    · rw [if_neg hj] at hc
      by_cases hki : k = i
      · rw [if_pos hki] at hk
        rcases List.mem_cons.mp hk with z | hk
        · exact (no hc).1 z
        · exact (no hc).2 (by simpa using hk)
      · rw [if_neg hki] at hk; exact R2.sep j k hjk c hc hk
  · by_cases hj : j = i
    · subst hj
      rw [List.getElem?_set_self hi] at z
      cases z
    · rw [if_neg hj] at hc
      rw [List.getElem?_set_ne (Ne.symm hj)] at z
      exact R2.nls j es' z c hc
  · obtain ⟨z1, z2, z3⟩ := R2.pin z hz
    refine ⟨hH _ _ z1, z2, fun j hj => ?_⟩
    by_cases hji : j = i
    · rw [if_pos hji] at hj
      rcases List.mem_cons.mp hj with w | w
      · exact ne z1 ha w
      · exact ne z1 hl (by simpa using w)
    · rw [if_neg hji] at hj; exact z3 j hj
/-! ### the entry of a def -/
theorem start_sh {N : List Str} {Hi : Hp} : ∀ {ds : List D} {vs : List V} {n : Nat} {i : Nat} {x : DV}, DpAll K Hi vs ds → (ds.map DV.sh ++ List.replicate n DV.no)[i]? = some x → x = .no ∨ ∃ d v, x = .sh d ∧ (vs.map some ++ List.replicate n none)[i]? = some (some v) ∧ Dp K Hi v d
  | [], _, n, i, x, h, e => by
    cases h
    left
    have := List.mem_of_getElem? e
    exact (List.mem_replicate.mp (by simpa using this)).2
  | d :: ds, _, n, 0, x, h, e => by
    cases h with
    | cons a b =>
      cases e
      exact .inr ⟨d, _, rfl, rfl, a⟩
  | d :: ds, _, n, i + 1, x, h, e => by
    cases h with
    | cons a b => exact start_sh (N := N) (i := i) b e
def rho0 (ds : List D) (n : Nat) : Rho := ds.map DV.sh ++ List.replicate n DV.no
theorem run_D {N : List Str} {ts : TS} {t : TDS} {Hi : Hp} {Q : VK} {P : D → Prop} (s : SS K ts t) (h1 : Same Hi H) (h2 : DpAll K Hi vs ds) (hq : ∀ d, P d → ∀ v H' Hi', Same Hi Hi' → Same Hi' H' → Same H H' → Fresh Hi Hi' H → Dp K Hi' v d → Q v H')
    (ht : t { nx := fun _ => P .none, rt := fun _ d => P d } (rho0 ds (N.length - ds.length))) : ts { nx := fun _ H' => Q .non H', rt := Q } (start N vs) H := by
  have el := dpAll_len h2
  have back : ∀ σ' H' ρ' v d, Rel K ⟨Hi, H, [], []⟩ σ' H' ρ' [v] [d] → P d → Q v H' := fun σ' H' ρ' v d R p => by
    obtain ⟨Hi', own, R⟩ := R
    have q := R.tmp
    cases q with
    | cons a _ => exact hq d p v H' Hi' R.base R.sub (fun b o e => R.keep b o e (by simp)) (fun b hb => R.new b hb) a
  refine s.run ⟨Hi, H, [], []⟩ (start N vs) H (rho0 ds (N.length - ds.length)) [] [] { nx := fun _ H' => Q .non H', rt := Q } { nx := fun _ => P .none, rt := fun _ d => P d } ⟨fun σ' H' ρ' R p => back σ' H' ρ' .non .none (R.push (v := .non) rfl) p, fun σ' H' ρ' v d R p => back σ' H' ρ' v d R p, fun _ _ _ _ z => z.elim, fun _ _ _ _ z => z.elim, fun _ _ _ _ _ _ _ _ _ _ _ _ z => z.elim⟩ ⟨Hi, fun _ => [], ?_⟩ ht
  refine ⟨Same.refl _, h1, fun b hb => .inl hb, fun b o e _ => e, fun b e => e, ?_, fun i x e => ?_, fun i a ha => (by cases ha), fun i a ha => (by cases ha), fun i a ha => (by cases ha), fun i j _ a ha => (by cases ha), fun i es e a ha => (by cases ha), fun z hz => (by cases hz), DpAll.nil⟩
  · unfold L2.start rho0
    rw [List.length_append, List.length_append, List.length_map, List.length_map, List.length_replicate, List.length_replicate, el]
  · unfold rho0 at e
    rcases start_sh (N := N) h2 e with z | ⟨d, v, z, e2, q⟩
    · rw [z]; trivial
    · rw [z]
      refine ⟨v, ?_, q⟩
      unfold L2.start
      rw [el, e2]
      rfl
theorem run_W {N : List Str} {ts : TS} {t : TDS} {Hi : Hp} {a l : Addr} {Q : VK} {P : D → Prop} (s : SS K ts t) (nal : a ≠ l) (h1 : Same Hi H) (ha : Hi a = none) (hl : Hi l = none) (hd : DealAt H a l) (h2 : DpAll K Hi vs ds)
    (hq : ∀ d, P d → ∀ v H' Hi', Same Hi Hi' → Same Hi' H' → (∀ c o, H c = some o → c ≠ a → c ≠ l → H' c = some o) → (∀ c, H c ≠ none → H' c ≠ none) → Fresh Hi Hi' H → DealAt H' a l → Dp K Hi' v d → Q v H')
    (hN : 1 + ds.length ≤ N.length) (ht : t { nx := fun r => r[0]? = some (.dl a l) ∧ P .none, rt := fun r d => r[0]? = some (.dl a l) ∧ P d } (.dl a l :: rho0 ds (N.length - 1 - ds.length))) : ts { nx := fun _ H' => Q .non H', rt := Q } (start N (.ref a :: vs)) H := by
  have el := dpAll_len h2
  have back : ∀ σ' H' ρ' v d, Rel K ⟨Hi, H, [a, l], []⟩ σ' H' ρ' [v] [d] → ρ'[0]? = some (.dl a l) ∧ P d → Q v H' := fun σ' H' ρ' v d R ⟨e, p⟩ => by
    obtain ⟨Hi', own, R⟩ := R
    obtain ⟨_, _, _, da⟩ := R.slot 0 _ e
    have q := R.tmp
    cases q with
    | cons x _ => exact hq d p v H' Hi' R.base R.sub (fun c o e n1 n2 => R.keep c o e (by simp [n1, n2])) R.dom (fun b hb => R.new b hb) da x
  refine s.run ⟨Hi, H, [a, l], []⟩ (start N (.ref a :: vs)) H (.dl a l :: rho0 ds (N.length - 1 - ds.length)) [] [] { nx := fun _ H' => Q .non H', rt := Q } { nx := fun r => r[0]? = some (.dl a l) ∧ P .none, rt := fun r d => r[0]? = some (.dl a l) ∧ P d } ⟨fun σ' H' ρ' R p => back σ' H' ρ' .non .none (R.push (v := .non) rfl) p, fun σ' H' ρ' v d R p => back σ' H' ρ' v d R p, fun _ _ _ _ z => z.elim, fun _ _ _ _ z => z.elim, fun _ _ _ _ _ _ _ _ _ _ _ _ z => z.elim⟩ ⟨Hi, fun j => if j = 0 then [a, l] else [], ?_⟩ ht
  have hda := hd
  obtain ⟨ns, b, _, g1, g2⟩ := hda
  refine ⟨Same.refl _, h1, fun b hb => .inl hb, fun b o e _ => e, fun b e => e, ?_, fun i x e => ?_, fun i c hc => ?_, fun i c hc => ?_, fun i c hc => ?_, fun i j hij c hc hk => ?_, fun i es e c hc => ?_, fun z hz => (by cases hz), DpAll.nil⟩
  · unfold L2.start rho0
    simp only [List.length_append, List.length_map, List.length_cons, List.length_replicate]
    omega
  · cases i with
    | zero =>
      cases e
      exact ⟨rfl, rfl, nal, hd⟩
    | succ i =>
      unfold rho0 at e
      rcases start_sh (N := N) h2 e with z | ⟨d, v, z, e2, q⟩
      · rw [z]; trivial
      · rw [z]
        refine ⟨v, ?_, q⟩
        unfold L2.start
        have en : N.length - (V.ref a :: vs).length = N.length - 1 - ds.length := by rw [List.length_cons, el]; omega
        rw [en]
        show ((vs.map some ++ _)[i]?).join = _
        rw [e2]
        rfl
  · by_cases hi : i = 0
    · rw [if_pos hi] at hc
      rcases List.mem_cons.mp hc with rfl | hc
      · exact ha
      · obtain rfl : c = l := by simpa using hc
        exact hl
    · rw [if_neg hi] at hc; cases hc
  · by_cases hi : i = 0
    · rw [if_pos hi] at hc
      rcases List.mem_cons.mp hc with rfl | hc
      · rw [g1]; simp
      · obtain rfl : c = l := by simpa using hc
        rw [g2]; simp
    · rw [if_neg hi] at hc; cases hc
  · by_cases hi : i = 0
    · rw [if_pos hi] at hc; exact .inr hc
    · rw [if_neg hi] at hc; cases hc
  · by_cases hi : i = 0
    · rw [if_neg (fun z => hij (hi.trans z.symm))] at hk; cases hk
    · rw [if_neg hi] at hc; cases hc
  · by_cases hi : i = 0
    · rw [hi] at e; cases e
    · rw [if_neg hi] at hc; cases hc
end
end LD

/-! LD7: more operators and built-in functions: repr, isinstance, + of lists and tuples, chains of comparisons, keywords alone. -/
namespace LD
open PySem PySem.Spec L2
/-! ### rules of the layer below -/
def rCatL (K : PySem.W.Frag) : R2 := fun x y H Q => ∃ a b xs ys, x = .ref a ∧ y = .ref b ∧ SqL K H a xs ∧ SqL K H b ys ∧ xs.length + ys.length ≤ sizeLine ∧ ∀ p, H p = none → Q (.ref p) (upd H p (.lst (xs ++ ys)))
def rReprS : List V → Hp → VK → Prop := fun xs H Q => (∃ i, xs = [.int i] ∧ i.natAbs.log2 < 1920 ∧ Q (.str (PyData.shown (.int i))) H) ∨ ∃ b, xs = [.bl b] ∧ Q (.str (PyData.shown (.bool b))) H
def rReprD (K : PySem.W.Frag) : List V → Hp → VK → Prop := fun xs H Q => ∃ v d, xs = [v] ∧ Dp K H v d ∧ d.showable = true ∧ d.hasDict = false ∧ d.depth ≤ 60 ∧ d.shown.length ≤ sizeLine ∧ Q (.str d.shown) H
section
variable {X : Cx}
theorem op_catL : OpR X (binaryOp .Add) (rCatL X.K) := by
  intro pins s σ H x y v u Q I rx ry h
  obtain ⟨a, b, xs, ys, rfl, rfl, ha, hb, hz, q⟩ := h
  cases rx
  cases ry
  obtain ⟨i1, r1, p1, z1⟩ := I.list ha
  obtain ⟨i2, r2, p2, z2⟩ := I.list hb
  obtain ⟨m, F⟩ := I.fr
  have rr := r1.append r2
  have hl := rr.length
  rw [List.length_append, List.length_append] at hl
  obtain ⟨o1, n1, g1, c1, d1, q1⟩ := p1
  obtain ⟨o2, n2, g2, c2, d2, q2⟩ := p2
  obtain ⟨k1, u1, w1, sl1⟩ := o1
  obtain ⟨k2, u2, w2, sl2⟩ := o2
  simp only at c1 d1 q1 c2 d2 q2
  subst c1 d1 q1 c2 d2 q2
  have hz' : i1.toArray.size + i2.toArray.size ≤ sizeLine := by
    rw [List.size_toArray, List.size_toArray]
    omega
  refine concat_meets ⟨_, g1, rfl⟩ ⟨_, g2, rfl⟩
    noFill_list_add seq_list_add
    PySem.F.slot_list_add PySem.F.entry_list_add
    (PySem.F.args_list_add_2 _ _)
    (PyProof.Rows.list_addW a b i1.toArray i2.toArray n1 n2 none none sl1 sl2 hz') ⟨g1, g2, ?_⟩
  have ea : i1.toArray ++ i2.toArray = (i1 ++ i2).toArray := by simp
  rw [ea]
  exact ⟨.ref _, _, I.lnew (t' := s.toks) rr (by rw [List.length_append]; omega), rfl, q _ I.fresh⟩
theorem call_reprS : CallR X (.builtin "repr") rReprS := by
  intro pins s σ H xs us Q I r h
  rcases h with ⟨i, rfl, hz, q⟩ | ⟨b, rfl, q⟩
  · obtain ⟨u, rfl, t, rfl⟩ := vals1 r
    exact PySem.P.repr_of_int hz ⟨.str _, H, I.tok _, ⟨_, rfl⟩, q⟩
  · obtain ⟨u, rfl, ru⟩ := vals1 r
    cases ru
    exact PySem.P.repr_of_bool ⟨.str _, H, I.tok _, ⟨_, rfl⟩, q⟩
theorem call_reprD (hg : X.A.guards = some []) (hu : X.A.units + 64 < cLine) : CallR X (.builtin "repr") (rReprD X.K) := by
  intro pins s σ H xs us Q I r h
  obtain ⟨v, d, rfl, hd, hs, hn, hdp, hsz, q⟩ := h
  obtain ⟨u, rfl, ru⟩ := vals1 r
  have hR := Dp.reads I d v u hd ru
  cases hd with
  | non => cases ru; exact PySem.P.repr_of_none ⟨.str _, H, I.tok _, ⟨_, rfl⟩, q⟩
  | bl b => cases ru; exact PySem.P.repr_of_bool ⟨.str _, H, I.tok _, ⟨_, rfl⟩, q⟩
  | int i => obtain ⟨t, rfl⟩ := ru; exact PySem.P.repr_of_int (of_decide_eq_true hs) ⟨.str _, H, I.tok _, ⟨_, rfl⟩, q⟩
  | str x => obtain ⟨t, rfl⟩ := ru; exact PySem.P.repr_of_str ⟨.str _, H, I.tok _, ⟨_, rfl⟩, q⟩ hsz
  | lst a b =>
    cases ru
    obtain ⟨as, rd⟩ := hR
    exact repr_of_reads' rd hs (fun e => by rw [hn] at e; cases e) hg (by omega) (fun _ _ e => e) (fun h' u tk hk => ⟨.str _, H, I.kept (t' := tk) hk, ⟨u, rfl⟩, q⟩) hsz
  | tup a b =>
    cases ru
    obtain ⟨as, rd⟩ := hR
    exact repr_of_reads' rd hs (fun e => by rw [hn] at e; cases e) hg (by omega) (fun _ _ e => e) (fun h' u tk hk => ⟨.str _, H, I.kept (t' := tk) hk, ⟨u, rfl⟩, q⟩) hsz
variable {CX : CXT} {k : Nat} {f : Addr} {fd : FuncData} {ps ks : List Str} {sp : Sp} {E : XK} {x : Str} {p pos : Pos} {kws : List Keyword} {tk : TA} {g : List Value → List Value → List Value} {gV : List V → List V → List V}
/-- f(k = v, ..) -/
theorem pe_callK0 (F : FnOk X.prog X.w X.K X.mg X.base CX k f fd ps sp) (hr : Room k X.A) (hg : Gl X x) (hm : X.mg x = some (.ref f)) (hk : PySem.W.keepIn X.K (.ref f) = true) (hb : KBinds X.K fd ps ks g gV) (hx : Passes CX X E) (hkw : PK X kws tk)
    (hall : (backToKw pos (keywordEach kws X.env)).all (·.1.isSome) = true := by rfl) (hks : (backToKw pos (keywordEach kws X.env)).filterMap (·.1) = ks := by rfl) (hdb : (x == ("__debug__" : Str)) = false := by decide)
    (hpl : ((backTo pos (starEach [] X.env)).any (·.1) || (backToKw pos (keywordEach kws X.env)).any (·.1.isNone)) = false := by rfl) : PE X (.Call (.Name x p) [] kws pos) (tCallK sp gV E tNil tk) := by
  refine ⟨fun pins s σ H Q I h => wpAny_Call_Name_kw (ld_glob I hg hm ?_ hdb)⟩
  refine PySem.W.callWith_KW0 (h₀ := X.base) I.ok.mod.kin hk hall (thn (hkw.run pos pins s σ H _ I h) fun ws s2 ⟨zs, H2, I2, rz, q2⟩ => ⟨I2.kIn, ?_⟩) hpl
  rw [hks]
  exact run_fnk (us := []) F hr hb hx I2 .nil rz q2
end
/-! ### over data -/
section
variable {K : PySem.W.Frag} {ta tb tc te : TE} {a b c e : TD}
def cReprS : CD := fun es P => (∃ i : Int, es = [.int i] ∧ i.natAbs.log2 < 1920 ∧ P (.str (PyData.shown (.int i)))) ∨ ∃ b, es = [.bool b] ∧ P (.str (PyData.shown (.bool b)))
theorem sc_reprS : SC K rReprS cReprS := by
  refine ⟨fun a P P' h q => ?_, fun F σ H ρ vs ds xs es Q e R q => ?_⟩
  · rcases q with ⟨i, e, z, q⟩ | ⟨b, e, q⟩
    · exact .inl ⟨i, e, z, h _ q⟩
    · exact .inr ⟨b, e, h _ q⟩
  · rcases q with ⟨i, e1, z, q⟩ | ⟨b, e1, q⟩
    · subst e1
      obtain ⟨x, r, rfl, e2⟩ := len_cons e
      obtain rfl := len_nil e2
      obtain rfl := Rel.int R
      exact .inl ⟨i, rfl, z, q _ _ (Rel.push (v := .str (PyData.shown (.int i))) R.drop rfl)⟩
    · subst e1
      obtain ⟨x, r, rfl, e2⟩ := len_cons e
      obtain rfl := len_nil e2
      obtain rfl := Rel.bl R
      exact .inr ⟨b, rfl, q _ _ (Rel.push (v := .str (PyData.shown (.bool b))) R.drop rfl)⟩
def cReprD : CD := fun es P => ∃ d : D, es = [d] ∧ d.showable = true ∧ d.hasDict = false ∧ d.depth ≤ 60 ∧ d.shown.length ≤ sizeLine ∧ P (.str d.shown)
theorem sc_reprD : SC K (rReprD K) cReprD := by
  refine ⟨fun a P P' h ⟨d, e, h1, h2, h3, h4, q⟩ => ⟨d, e, h1, h2, h3, h4, h _ q⟩, fun F σ H ρ vs ds xs es Q e R ⟨d, e1, h1, h2, h3, h4, q⟩ => ?_⟩
  subst e1
  obtain ⟨x, r, rfl, e2⟩ := len_cons e
  obtain rfl := len_nil e2
  exact ⟨x, d, rfl, Rel.dp R, h1, h2, h3, h4, q _ _ (Rel.push (v := .str d.shown) (Rel.drop R) rfl)⟩
/-! isinstance -/
def typD : D → String
  | .none => "NoneType" | .bool _ => "bool" | .int _ => "int" | .str _ => "str" | .list _ => "list" | .tuple _ => "tuple" | .dict _ => "dict"
theorem tyx_of {H : Hp} {v : V} {d : D} (h : Dp K H v d) : TyX K H v (.type (typD d)) := by
  cases h with
  | non => exact .base .non
  | bl b => exact .base (.bl b)
  | int i => exact .base (.int i)
  | str x => exact .base (.str x)
  | lst s _ =>
    rcases s with (s | ⟨o, s⟩) | ⟨o, its, n, s, c, _⟩
    · exact .base (.lst s)
    · exact .base (.frz s)
    · exact .kList s c
  | tup s _ =>
    rcases s with (s | ⟨o, s⟩) | ⟨o, its, n, s, c, _⟩
    · exact .base (.tup s)
    · exact .fTuple s
    · exact .kTuple s c
/-- x is an instance of the class of this name -/
structure IsiD (K : PySem.W.Frag) (n : String) (f : D → Bool) : Prop where
  ok : ∀ d, PySem.W.kitOne K (.type (typD d)) (.type n) = some (f d)
def dIsi (f : D → Bool) (a : TD) : TD := fun ρ P => a ρ fun r d => P r (.bool (f d))
theorem se_isi {n : String} {f : D → Bool} (k : IsiD K n f) (s : SE K te e) : SE K (tCB (rIsi K) (tCons te (tCons (tC (.ty n)) tNil))) (dIsi f e) := ⟨fun ρ P P' h q => s.mono _ _ _ (fun _ d q => h _ _ q) q, fun F σ H ρ vs ds Q R q =>
  s.run F σ H ρ vs ds _ R (s.mono _ _ _ (fun r d q v H1 R1 => ⟨v, .ty n, _, _, f d, rfl, .ty n, tyx_of R1.dp, k.ok d, q _ _ (Rel.push (v := .bl (f d)) R1.drop rfl)⟩) q)⟩
def dIsiT (f : D → Bool) (a : TD) : TD := dIsi f a
/-- + -/
def dCatL (a b : TD) : TDA := fun ρ P => a ρ fun r1 x => b r1 fun r2 y => ∃ es fs, x = .list es ∧ y = .list fs ∧ es.length + fs.length ≤ sizeLine ∧ P r2 (es ++ fs)
theorem sf_catL (sa : SE K ta a) (sb : SE K tb b) : SF K (tOp (rCatL K) ta tb) (dCatL a b) := by
  refine ⟨fun ρ P P' h q => sa.mono _ _ _ (fun _ x q => sb.mono _ _ _ (fun _ y ⟨es, fs, e1, e2, z, q⟩ => ⟨es, fs, e1, e2, z, h _ _ q⟩) q) q, fun F σ H ρ vs ds Q R q => ?_⟩
  refine sa.run F σ H ρ vs ds _ R (sa.mono _ _ _ (fun r1 x q1 v H1 R1 => ?_) q)
  refine sb.run F σ H1 r1 _ _ _ R1 (sb.mono _ _ _ (fun r2 y q2 u H2 R2 => ?_) q1)
  obtain ⟨es, fs, e1, e2, z, q3⟩ := q2
  subst e1 e2
  obtain ⟨Hi, own, R5⟩ := R2
  have t := R5.tmp
  cases t with
  | cons t2 t =>
    cases t with
    | cons t1 t =>
      cases t1 with
      | lst w1 g1 =>
        cases t2 with
        | lst w2 g2 =>
          have g3 := dpAll_app g1 g2
          exact ⟨_, _, _, _, rfl, rfl, R5.sub.seq w1, R5.sub.seq w2, by rw [dpAll_len g1, dpAll_len g2]; exact z, fun p hp => q3 _ _ p (dpAll_len g3) ⟨Hi, own, R5.tmpTo (dpAll_app g3 t)⟩ hp⟩
end
end LD

/-! LD8: chains of comparisons, keywords, + of tuples, returns of a new source; short words for a whole def. -/
namespace LD
open PySem PySem.Spec L2
section
variable {K : PySem.W.Frag} {ta tb tc te : TE} {a b c e : TD}
def dChain (o o' : OD) (a b c : TD) : TD := fun ρ P => a ρ fun r1 x => b r1 fun r2 y => o x y fun z => ∃ k, z = .bool k ∧ if k = true then c r2 (fun r3 w => o' y w (P r3)) else P r2 (.bool false)
theorem se_chain {r r' : R2} {o o' : OD} (so : SO K r o) (so' : SO K r' o') (sa : SE K ta a) (sb : SE K tb b) (sc : SE K tc c) : SE K (tChain r r' ta tb tc) (dChain o o' a b c) := by
  refine ⟨fun ρ P P' h q => sa.mono _ _ _ (fun _ x q => sb.mono _ _ _ (fun _ y q => so.mono _ _ _ _ (fun z q => ?_) q) q) q, fun F σ H ρ vs ds Q R q => ?_⟩
  · obtain ⟨k, e, q⟩ := q
    refine ⟨k, e, ?_⟩
    cases k with
    | true => exact sc.mono _ _ _ (fun _ w q => so'.mono _ _ _ _ (h _) q) q
    | false => exact h _ _ q
  · refine sa.run F σ H ρ vs ds _ R (sa.mono _ _ _ (fun r1 x q v H1 R1 => ?_) q)
    refine sb.run F σ H1 r1 _ _ _ R1 (sb.mono _ _ _ (fun r2 y q u H2 R2 => ?_) q)
    refine so.run F σ H2 r2 (u :: vs) (y :: ds) v u x y _ (R2.swap fun _ h => ?_) (so.mono _ _ _ _ (fun z q w H3 R3 => ?_) q)
    · cases h with
      | cons h1 h => cases h with | cons h2 h => exact .cons h1 (.cons h2 (.cons h1 h))
    · obtain ⟨k, e, q⟩ := q
      subst e
      refine ⟨k, R3.bl, ?_⟩
      cases k with
      | true =>
        refine sc.run F σ H3 r2 _ _ _ R3.drop (sc.mono _ _ _ (fun r3 w q w' H4 R4 => ?_) q)
        exact so'.run F σ H4 r3 vs ds u w' y w Q R4 q
      | false => exact q _ _ (R3.drop.drop.push (v := .bl false) rfl)
/-- + of tuples -/
def oCatT : OD := fun a b P => ∃ es fs, a = .tuple es ∧ b = .tuple fs ∧ es.length + fs.length ≤ sizeLine ∧ P (.tuple (es ++ fs))
theorem so_catT : SO K (rCatA K) oCatT := by
  refine ⟨fun a b P P' h ⟨es, fs, e1, e2, z, q⟩ => ⟨es, fs, e1, e2, z, h _ q⟩, fun F σ H ρ vs ds x y a b Q R q => ?_⟩
  obtain ⟨es, fs, e1, e2, z, q⟩ := q
  subst e1 e2
  obtain ⟨Hi, own, R5⟩ := R
  have t := R5.tmp
  cases t with
  | cons t2 t =>
    cases t with
    | cons t1 t =>
      cases t1 with
      | tup w1 g1 =>
        cases t2 with
        | tup w2 g2 =>
          have g3 := dpAll_app g1 g2
          have l1 := dpAll_len g1
          have l2 := dpAll_len g2
          refine ⟨_, _, _, _, rfl, rfl, sqT_mono R5.sub w1, sqT_mono R5.sub w2, by rw [l1, l2]; exact z, fun h => ?_, fun _ h => ?_, fun _ _ p hp => ?_⟩
          · rw [h] at l1
            have e : es = [] := List.length_eq_zero_iff.mp l1.symm
            subst e
            exact q _ _ ⟨Hi, own, R5.tmpTo (.cons (.tup w2 g2) t)⟩
          · rw [h] at l2
            have e : fs = [] := List.length_eq_zero_iff.mp l2.symm
            subst e
            rw [List.append_nil] at q
            exact q _ _ ⟨Hi, own, R5.tmpTo (.cons (.tup w1 g1) t)⟩
          · exact q _ _ (Rel.tup ⟨Hi, own, R5.tmpTo (dpAll_app g3 t)⟩ (dpAll_len g3) hp)
/-! keywords -/
def ordP {α : Type} (n m : Nat) (o : List Nat) (xs zs : List α) : List α := if xs.length = n ∧ zs.length = m then o.filterMap fun i => (xs ++ zs)[i]? else []
theorem dpAll_pick {H : Hp} {es : List D} {xs : List V} (h : DpAll K H xs es) : ∀ o : List Nat, DpAll K H (o.filterMap fun i => xs[i]?) (o.filterMap fun i => es[i]?)
  | [] => .nil
  | i :: o => by
    have hl := dpAll_len h
    cases he : es[i]? with
    | none =>
      have hx : xs[i]? = none := by
        have := List.getElem?_eq_none_iff.mp he
        exact List.getElem?_eq_none_iff.mpr (by omega)
      rw [List.filterMap_cons_none hx, List.filterMap_cons_none he]
      exact dpAll_pick h o
    | some d =>
      obtain ⟨v, hv, q⟩ := dpAll_at h he
      rw [List.filterMap_cons_some hv, List.filterMap_cons_some he]
      exact .cons q (dpAll_pick h o)
theorem vals_pick {xs : List V} {us : List Value} (h : Vals xs us) : ∀ o : List Nat, Vals (o.filterMap fun i => xs[i]?) (o.filterMap fun i => us[i]?)
  | [] => .nil
  | i :: o => by
    cases he : xs[i]? with
    | none =>
      rw [List.filterMap_cons_none he, List.filterMap_cons_none (h.none_of he)]
      exact vals_pick h o
    | some d =>
      obtain ⟨v, hv, q⟩ := h.get he
      rw [List.filterMap_cons_some he, List.filterMap_cons_some hv]
      exact .cons q (vals_pick h o)
theorem dpAll_ord {H : Hp} {es fs : List D} {xs zs : List V} (h : DpAll K H xs es) (k : DpAll K H zs fs) (n m : Nat) (o : List Nat) : DpAll K H (ordP n m o xs zs) (ordP n m o es fs) := by
  unfold ordP
  rw [dpAll_len h, dpAll_len k]
  split
  · exact dpAll_pick (dpAll_app h k) o
  · exact .nil
theorem vals_ord {xs zs : List V} {us ws : List Value} (h : Vals xs us) (k : Vals zs ws) (n m : Nat) (o : List Nat) : Vals (ordP n m o xs zs) (ordP n m o us ws) := by
  unfold ordP
  rw [h.length, k.length]
  split
  · exact vals_pick (h.append k) o
  · exact .nil
/-- how a call with n arguments by place and the keywords ks binds -/
theorem kb_mk {x qual : Str} {st : Stmt} {f : Addr} {fd : FuncData} {ps ks : List Str} {n m : Nat} {o : List Nat} (F : Fun K x qual st f fd) (hp : ps ≠ [])
    (h : ∀ (kV doc pm : Value) (an : Option Addr) (cdv ct : Value) (us ws : List Value), us.length = n → ws.length = m → bindArgs (PySem.W.fnOf x qual (defArgs st) (defBody st) (defScope st) .none kV doc pm an cdv ct) ⟨us, ks.zip ws⟩ = pure (ps.zip (ordP n m o us ws))) : KBinds K fd ps ks (ordP n m o) (ordP n m o) := by
  obtain ⟨oc, od, kV, doc, pm, an, cdv, ct, osl, rfl, lk, hcd⟩ := F.ex
  refine ⟨fun s us ws hK hl => .of_eq (h _ _ _ _ _ _ us ws ?_ ?_), fun r k => vals_ord r k n m o⟩
  all_goals
    by_cases hc : us.length = n ∧ ws.length = m
    · first | exact hc.1 | exact hc.2
    · unfold ordP at hl
      rw [if_neg hc] at hl
      exact absurd (List.length_eq_zero_iff.mp hl.symm) hp
def dCallK (n m : Nat) (o : List Nat) (g : CD) (t tk : TDA) : TD := fun ρ P => t ρ fun r es => tk r fun r2 fs => g (ordP n m o es fs) (P r2)
theorem se_callK {n m : Nat} {o : List Nat} {g : CD} {ta tk : TA} {t u : TDA} {E : XK} (hg : ∀ es P P', (∀ d, P d → P' d) → g es P → g es P') (s : SA K ta t) (s' : SA K tk u) : SE K (tCallK (spD K g) (ordP n m o) E ta tk) (dCallK n m o g t u) := by
  refine ⟨fun ρ P P' h q => s.mono _ _ _ (fun _ es q => s'.mono _ _ _ (fun _ fs q => hg _ _ _ (h _) q) q) q, fun F σ H ρ vs ds Q R q => s.run F σ H ρ vs ds _ R (s.mono _ _ _ (fun r es q xs H1 e R1 => ?_) q)⟩
  refine s'.run F σ H1 r _ _ _ R1 (s'.mono _ _ _ (fun r2 fs q zs H2 e2 R2 => ?_) q)
  obtain ⟨Hi, own, R3⟩ := R2
  obtain ⟨t1, t2⟩ := dpAll_split e2 R3.tmp
  obtain ⟨t3, t4⟩ := dpAll_split e t2
  exact ⟨Hi, ordP n m o es fs, R3.sub, dpAll_ord t3 t1 n m o, hg _ _ _ (fun d q v H' Hi' h1 h2 h3 h4 h5 => q v H' ⟨Hi', own, R3.after h1 h2 h3 h4 (.cons h5 (dpAll_mono h1 _ _ t4))⟩) q⟩
/-! return [great numbers, a mixed number] -/
def dRetM (t : TDA) (e : TD) : TDS := fun dn ρ => t ρ fun r es => e r fun r2 d => ∃ ns b, es = ns.map PyData.int ∧ d = .int b ∧ DealOk ns b ∧ dn.rm r2
theorem ss_retM {tf : TE} {t : TDA} (sf : SF K tf t) (se : SE K te e) : SS K (tRet (tLst (tCons tf (tCons te tNil)))) (dRetM t e) := by
  refine ⟨fun a b ρ h q => sf.mono _ _ _ (fun _ es q => se.mono _ _ _ (fun _ d ⟨ns, k, e1, e2, ok, q⟩ => ⟨ns, k, e1, e2, ok, h.rm _ q⟩) q) q, fun F σ H ρ vs ds E dn G R q => ?_⟩
  refine sf.run F σ H ρ vs ds _ R (sf.mono _ _ _ (fun r es q xs H1 p el R1 hp => ?_) q)
  have f0 := R1.pinFree hp
  refine se.run (F.mk1 p (.lst xs)) σ _ r _ _ _ (R1.pinNew hp) (se.mono _ _ _ (fun r2 d q4 v H2 R2 => ?_) q)
  obtain ⟨ns, b, e1, e2, ok, q5⟩ := q4
  subst e1 e2
  obtain rfl := R2.int
  refine ⟨by show 2 ≤ sizeLine; decide, fun p2 hp2 => ?_⟩
  obtain ⟨u1, u2, u3⟩ := R2.unpin f0.1 f0.2
  have ex : xs = ns.map V.int := ints_of (K := K) ns xs (dpAll_split el u3.drop.dpAll).1
  have n2 : p2 ≠ p := fun z => by rw [z, R2.pinAt] at hp2; cases hp2
  have h3 : (hide H2 p) p2 = none := by unfold hide; rw [if_neg n2]; exact hp2
  rw [u2, ex]
  exact G.rm _ _ _ p2 p ns b (u3.drop.dropN el) n2 h3 u1 ok q5
/-- the entry of a def that makes a source -/
theorem run_M {N : List Str} {ts : TS} {t : TDS} {Hi H : Hp} {vs : List V} {ds : List D} {Q : VK} (s : SS K ts t) (h1 : Same Hi H) (h2 : DpAll K Hi vs ds)
    (hq : ∀ a l ns b H', a ≠ l → H' a = none → H' l = none → Same H H' → DealOk ns b → Q (.ref a) (upd (upd H' l (.lst (ns.map V.int))) a (.lst [.ref l, .int b])))
    (ht : t { nx := fun _ => False, rt := fun _ _ => False, rm := fun _ => True } (rho0 ds (N.length - ds.length))) : ts { nx := fun _ H' => Q .non H', rt := Q } (L2.start N vs) H := by
  have el := dpAll_len h2
  refine s.run ⟨Hi, H, [], []⟩ (L2.start N vs) H (rho0 ds (N.length - ds.length)) [] [] { nx := fun _ H' => Q .non H', rt := Q } { nx := fun _ => False, rt := fun _ _ => False, rm := fun _ => True } ⟨fun _ _ _ _ z => z.elim, fun _ _ _ _ _ _ z => z.elim, fun _ _ _ _ z => z.elim, fun _ _ _ _ z => z.elim, fun σ' H' ρ' a l ns b R n ha hl ok _ => ?_⟩ ⟨Hi, fun _ => [], ?_⟩ ht
  · obtain ⟨Hi', own, R⟩ := R
    exact hq a l ns b H' n ha hl (fun b o e => R.keep b o e (by simp)) ok
  · refine ⟨Same.refl _, h1, fun b hb => .inl hb, fun b o e _ => e, fun b e => e, ?_, fun i x e => ?_, fun i a ha => (by cases ha), fun i a ha => (by cases ha), fun i a ha => (by cases ha), fun i j _ a ha => (by cases ha), fun i es e a ha => (by cases ha), fun z hz => (by cases hz), DpAll.nil⟩
    · unfold L2.start rho0
      rw [List.length_append, List.length_append, List.length_map, List.length_map, List.length_replicate, List.length_replicate, el]
    · unfold rho0 at e
      rcases start_sh (N := N) h2 e with z | ⟨d, v, z, e2, q⟩
      · rw [z]; trivial
      · rw [z]
        refine ⟨v, ?_, q⟩
        unfold L2.start
        rw [el, e2]
        rfl
end
/-! ### a whole def -/
section
variable {P : Program} {w : World} {K : PySem.W.Frag} {mg : Str → Option Value} {base : Heap}
theorem ok_D {x qual : Str} {st : Stmt} {f : Addr} {fd : FuncData} {N ps : List Str} {k : Nat} {g : CD} (F : Fun K x qual st f fd) (S : FnScope N ps (defScope st)) (hl : ∀ ds P, g ds P → ds.length = ps.length)
    (hbody : ∀ (cdv : Value) (A : Around) (outer : List Env) (s : Shared) (H : Hp) (E : XK), Room k (A.deeper (PyProof.Rows.envOfC qual (defScope st) s.heap.objs.size f cdv)) →
      ∃ ts t, PSs (cxOf CX0 P w K mg base N qual (defScope st) f cdv A outer s H E).nox (defBody st) ts ∧ SS K ts t ∧ ∀ ds Pd, g ds Pd → t { nx := fun _ => Pd .none, rt := fun _ d => Pd d } (rho0 ds (N.length - ds.length))) : FnOk P w K mg base CX0 (k + 1) f fd ps (spD K g) := by
  refine F.ok S (fun vs H Q E h => ?_) (fun cdv A outer s H vs Q E hr h => ?_)
  · obtain ⟨Hi, ds, _, h2, hg⟩ := h
    rw [dpAll_len h2]
    exact hl _ _ hg
  · obtain ⟨ts, t, h1, h2, h3⟩ := hbody cdv A outer s H E hr
    obtain ⟨Hi, ds, e1, e2, hg⟩ := h
    exact ⟨ts, h1, run_D h2 e1 e2 (fun d q => q) (h3 ds _ hg)⟩
theorem ok_W {x qual : Str} {st : Stmt} {f : Addr} {fd : FuncData} {N ps : List Str} {k : Nat} {g : CD} (F : Fun K x qual st f fd) (S : FnScope N ps (defScope st)) (hl : ∀ ds P, g ds P → 1 + ds.length = ps.length) (hN : ps.length ≤ N.length)
    (hbody : ∀ (cdv : Value) (A : Around) (outer : List Env) (s : Shared) (H : Hp) (E : XK), Room k (A.deeper (PyProof.Rows.envOfC qual (defScope st) s.heap.objs.size f cdv)) →
      ∃ ts t, PSs (cxOf CX0 P w K mg base N qual (defScope st) f cdv A outer s H E).nox (defBody st) ts ∧ SS K ts t ∧ ∀ a l ds Pd, g ds Pd → t { nx := fun r => r[0]? = some (.dl a l) ∧ Pd .none, rt := fun r d => r[0]? = some (.dl a l) ∧ Pd d } (.dl a l :: rho0 ds (N.length - 1 - ds.length))) : FnOk P w K mg base CX0 (k + 1) f fd ps (spW K g) := by
  refine F.ok S (fun vs H Q E h => ?_) (fun cdv A outer s H vs Q E hr h => ?_)
  · obtain ⟨Hi, a, l, vs', ds, rfl, _, _, _, _, _, h2, hg⟩ := h
    rw [List.length_cons, dpAll_len h2, ← hl _ _ hg]
    omega
  · obtain ⟨ts, t, h1, h2, h3⟩ := hbody cdv A outer s H E hr
    obtain ⟨Hi, a, l, vs', ds, rfl, n, e1, ea, el, ed, e2, hg⟩ := h
    exact ⟨ts, h1, run_W h2 n e1 ea el ed e2 (fun d q => q) (by rw [hl _ _ hg]; exact hN) (h3 a l ds _ hg)⟩
theorem ok_M {x qual : Str} {st : Stmt} {f : Addr} {fd : FuncData} {N ps : List Str} {k : Nat} {g : List D → Prop} (F : Fun K x qual st f fd) (S : FnScope N ps (defScope st)) (hl : ∀ ds, g ds → ds.length = ps.length)
    (hbody : ∀ (cdv : Value) (A : Around) (outer : List Env) (s : Shared) (H : Hp) (E : XK), Room k (A.deeper (PyProof.Rows.envOfC qual (defScope st) s.heap.objs.size f cdv)) →
      ∃ ts t, PSs (cxOf CX0 P w K mg base N qual (defScope st) f cdv A outer s H E).nox (defBody st) ts ∧ SS K ts t ∧ ∀ ds, g ds → t { nx := fun _ => False, rt := fun _ _ => False, rm := fun _ => True } (rho0 ds (N.length - ds.length))) : FnOk P w K mg base CX0 (k + 1) f fd ps (spM K g) := by
  refine F.ok S (fun vs H Q E h => ?_) (fun cdv A outer s H vs Q E hr h => ?_)
  · obtain ⟨Hi, ds, _, h2, hg, _⟩ := h
    rw [dpAll_len h2]
    exact hl _ hg
  · obtain ⟨ts, t, h1, h2, h3⟩ := hbody cdv A outer s H E hr
    obtain ⟨Hi, ds, e1, e2, hg, hq⟩ := h
    exact ⟨ts, h1, run_M h2 e1 e2 hq (h3 ds hg)⟩
end
end LD

/-! LD9: defs by name, with keywords too. -/
namespace LD
open PySem PySem.Spec L2
theorem st_yes {K : PySem.W.Frag} : ST K tYes (fun ρ P => P ρ true) := ⟨fun ρ P P' h q => h _ _ q, fun F σ H ρ vs ds Q R q => q H R⟩
theorem bools_of {K : PySem.W.Frag} {H : Hp} : ∀ (ns : List Bool) (vs : List V), DpAll K H vs (ns.map PyData.bool) → vs = ns.map V.bl
  | [], _, h => by cases h; rfl
  | n :: ns, _, h => by
    cases h with
    | cons a b =>
      cases a
      rw [bools_of ns _ b]
      rfl
def cAll : CD := fun es P => ∃ bs : List Bool, es = [.list (bs.map PyData.bool)] ∧ P (.bool (bs.all id))
def cAny : CD := fun es P => ∃ bs : List Bool, es = [.list (bs.map PyData.bool)] ∧ P (.bool (bs.any id))
def cSum : CD := fun es P => ∃ ns : List Int, es = [.list (ns.map PyData.int)] ∧ P (.int ns.sum)
theorem sc_all {K : PySem.W.Frag} : SC K (rAll K) cAll := ⟨fun a P P' h ⟨bs, e, q⟩ => ⟨bs, e, h _ q⟩, fun F σ H ρ vs ds xs es Q e R ⟨bs, h, q⟩ => by
  subst h
  obtain ⟨x, r, rfl, e1⟩ := len_cons e
  obtain rfl := len_nil e1
  obtain ⟨p, ys, rfl, e2, s, R1⟩ := Rel.asList R
  have ey := bools_of (K := K) bs ys (dpAll_split e2 R1.dpAll).1
  subst ey
  exact ⟨p, bs, rfl, s, q _ _ (Rel.push (v := .bl (bs.all id)) (Rel.drop R) rfl)⟩⟩
theorem sc_any {K : PySem.W.Frag} : SC K (rAny K) cAny := ⟨fun a P P' h ⟨bs, e, q⟩ => ⟨bs, e, h _ q⟩, fun F σ H ρ vs ds xs es Q e R ⟨bs, h, q⟩ => by
  subst h
  obtain ⟨x, r, rfl, e1⟩ := len_cons e
  obtain rfl := len_nil e1
  obtain ⟨p, ys, rfl, e2, s, R1⟩ := Rel.asList R
  have ey := bools_of (K := K) bs ys (dpAll_split e2 R1.dpAll).1
  subst ey
  exact ⟨p, bs, rfl, s, q _ _ (Rel.push (v := .bl (bs.any id)) (Rel.drop R) rfl)⟩⟩
theorem sc_sum {K : PySem.W.Frag} : SC K (rSum K) cSum := ⟨fun a P P' h ⟨bs, e, q⟩ => ⟨bs, e, h _ q⟩, fun F σ H ρ vs ds xs es Q e R ⟨bs, h, q⟩ => by
  subst h
  obtain ⟨x, r, rfl, e1⟩ := len_cons e
  obtain rfl := len_nil e1
  obtain ⟨p, ys, rfl, e2, s, R1⟩ := Rel.asList R
  have ey := ints_of (K := K) bs ys (dpAll_split e2 R1.dpAll).1
  subst ey
  exact ⟨p, bs, rfl, s, q _ _ (Rel.push (v := .int bs.sum) (Rel.drop R) rfl)⟩⟩
structure CalK (P : Program) (w : World) (K : PySem.W.Frag) (mg : Str → Option Value) (base : Heap) (k : Nat) (x : Str) (ks : List Str) (n m : Nat) (o : List Nat) (sp : Sp) : Prop where
  ex : ∃ (f : Addr) (fd : FuncData) (ps : List Str), FnOk P w K mg base CX0 k f fd ps sp ∧ mg x = some (.ref f) ∧ PySem.W.keepIn K (.ref f) = true ∧ KBinds K fd ps ks (ordP n m o) (ordP n m o)
section
variable {X : Cx} {k j n m : Nat} {o : List Nat} {ks : List Str} {sp : Sp} {x : Str} {p pos : Pos} {e : Expr} {es : List Expr} {kws : List Keyword} {t tk : TA}
theorem pe_cK0 (c : CalK X.prog X.w X.K X.mg X.base k x ks n m o sp) (hr : Room j X.A) (hk : k ≤ j) (hg : Gl X x) (hkw : PK X kws tk)
    (hall : (backToKw pos (keywordEach kws X.env)).all (·.1.isSome) = true := by rfl) (hks : (backToKw pos (keywordEach kws X.env)).filterMap (·.1) = ks := by rfl) (hdb : (x == ("__debug__" : Str)) = false := by decide)
    (hpl : ((backTo pos (starEach [] X.env)).any (·.1) || (backToKw pos (keywordEach kws X.env)).any (·.1.isNone)) = false := by rfl) : PE X (.Call (.Name x p) [] kws pos) (tCallK sp (ordP n m o) E0 tNil tk) := by
  obtain ⟨f, fd, ps, F, hm, kp, b⟩ := c.ex
  exact pe_callK0 F (hr.mono hk) hg hm kp b pass0 hkw hall hks hdb hpl
end
section
variable {P : Program} {w : World} {K : PySem.W.Frag} {mg : Str → Option Value} {base : Heap} {k : Nat} {x : Str} {f : Addr} {fd : FuncData} {ps : List Str} {sp : Sp}
theorem cal_of (F : FnOk P w K mg base CX0 k f fd ps sp) (g : mg x = some (.ref f)) (kp : PySem.W.keepIn K (.ref f) = true) (b : Binds K fd ps []) : C8.Cal P w K mg base k x sp [] := ⟨⟨f, fd, ps, [], F, g, kp, b, .nil⟩⟩
theorem calK_of {ks : List Str} {n m : Nat} {o : List Nat} (F : FnOk P w K mg base CX0 k f fd ps sp) (g : mg x = some (.ref f)) (kp : PySem.W.keepIn K (.ref f) = true) (b : KBinds K fd ps ks (ordP n m o) (ordP n m o)) : CalK P w K mg base k x ks n m o sp := ⟨⟨f, fd, ps, F, g, kp, b⟩⟩
end
end LD

/-! LD10: comprehensions told as lists; small facts for readings. -/
namespace LD
open PySem PySem.Spec L2
/-- one statement after another, by what holds between them -/
def dSeqM (t u : TDS) : TDS := fun dn ρ => ∃ J : Rho → Prop, t { dn with nx := J } ρ ∧ ∀ r, J r → u dn r
theorem ss_consM {K : PySem.W.Frag} {ts us : TS} {t u : TDS} (s : SS K ts t) (s' : SS K us u) : SS K (tSeq ts us) (dSeqM t u) := ⟨fun a b ρ h ⟨J, q, q'⟩ => ⟨J, s.mono { a with nx := J } { b with nx := J } _ ⟨fun _ z => z, h.rt, h.bk, h.ct, h.rm⟩ q, fun r z => s'.mono _ _ _ h (q' r z)⟩, fun F σ H ρ vs ds E dn G R ⟨J, q, q'⟩ =>
  s.run F σ H ρ vs ds { E with nx := us E } { dn with nx := J } ⟨fun σ H ρ R z => s'.run F σ H ρ vs ds E dn G R (q' ρ z), G.rt, G.bk, G.ct, G.rm⟩ R q⟩
theorem compW_det {f : D → Rho → (Rho → Option D → Prop) → Prop} {js : List Nat} {ρ : Rho} (h : D → Option D) : ∀ {items acc : List D} {P : KL}, (∀ d ∈ items, ∀ k : Rho → Option D → Prop, (∀ r, wipeR r js = ρ → k r (h d)) → f d ρ k) → P ρ (acc ++ items.filterMap h) → compW f js items ρ acc P
  | [], acc, P, _, q => by
    rw [List.filterMap_nil, List.append_nil] at q
    exact q
  | d :: r, acc, P, hf, q => by
    unfold compW
    refine hf d List.mem_cons_self _ fun r1 e => ?_
    cases hd : h d with
    | none =>
      rw [List.filterMap_cons_none hd] at q
      show compW f js r (wipeR r1 js) acc P
      rw [e]
      exact compW_det h (fun d hd => hf d (List.mem_cons_of_mem _ hd)) q
    | some y =>
      rw [List.filterMap_cons_some hd] at q
      show compW f js r (wipeR r1 js) (acc ++ [y]) P
      rw [e]
      refine compW_det h (fun d hd => hf d (List.mem_cons_of_mem _ hd)) ?_
      rw [List.append_assoc]
      exact q
theorem compW_any {f : D → Rho → (Rho → Option D → Prop) → Prop} {js : List Nat} {ρ : Rho} (Pr : D → Prop) : ∀ {items acc : List D} {P : KL}, (∀ d ∈ items, ∀ k : Rho → Option D → Prop, (∀ r y, wipeR r js = ρ → Pr y → k r (some y)) → f d ρ k) → (∀ y ∈ acc, Pr y) →
    (∀ ys : List D, ys.length = acc.length + items.length → (∀ y ∈ ys, Pr y) → P ρ ys) → compW f js items ρ acc P
  | [], acc, P, _, ha, q => q acc rfl ha
  | d :: r, acc, P, hf, ha, q => by
    unfold compW
    refine hf d List.mem_cons_self _ fun r1 y e hy => ?_
    show compW f js r (wipeR r1 js) (acc ++ [y]) P
    rw [e]
    refine compW_any Pr (fun d hd => hf d (List.mem_cons_of_mem _ hd)) (fun z hz => ?_) fun ys hl hy => q ys ?_ hy
    · rcases List.mem_append.mp hz with hz | hz
      · exact ha z hz
      · have : z = y := by simpa using hz
        rw [this]; exact hy
    · rw [hl, List.length_append, List.length_cons]
      show acc.length + 1 + r.length = acc.length + (r.length + 1)
      omega
theorem isi_of {K : PySem.W.Frag} {n : String} {f : String → Bool} (h : ∀ s ∈ ["NoneType", "bool", "int", "str", "list", "tuple", "dict"], kitB s n = some (f s)) : IsiD K n fun d => f (typD d) := ⟨fun d => kit_ty (h _ (by cases d <;> simp [typD]))⟩
def oInt (F : Int → Option D) : D → Option D
  | .int k => F k
  | _ => none
theorem fm_oInt (F : Int → Option D) : ∀ ns : List Int, (ns.map PyData.int).filterMap (oInt F) = ns.filterMap F
  | [] => rfl
  | x :: xs => by
    rw [List.map_cons]
    cases h : F x with
    | none => rw [List.filterMap_cons_none (show oInt F (.int x) = none from h), List.filterMap_cons_none h, fm_oInt F xs]
    | some y => rw [List.filterMap_cons_some (show oInt F (.int x) = some y from h), List.filterMap_cons_some h, fm_oInt F xs]
theorem fm_some (g : Int → Int) : ∀ ns : List Int, ns.filterMap (fun k => some (PyData.int (g k))) = (ns.map g).map PyData.int
  | [] => rfl
  | x :: xs => by
    rw [List.map_cons, List.map_cons, ← fm_some g xs]
    exact List.filterMap_cons_some (f := fun k => some (PyData.int (g k))) rfl
theorem fm_if (p : Int → Bool) : ∀ ns : List Int, ns.filterMap (fun k => if p k = true then some (PyData.int k) else none) = (ns.filter p).map PyData.int
  | [] => rfl
  | x :: xs => by
    cases h : p x with
    | true => rw [List.filter_cons_of_pos h, List.map_cons, ← fm_if p xs, List.filterMap_cons_some (b := PyData.int x) (by rw [if_pos h])]
    | false => rw [List.filter_cons_of_neg (by rw [h]; decide), ← fm_if p xs, List.filterMap_cons_none (by rw [if_neg (by rw [h]; decide)])]
theorem mem_int {ns : List Int} {d : D} (h : d ∈ ns.map PyData.int) : ∃ n, d = .int n ∧ n ∈ ns := by
  obtain ⟨n, hn, rfl⟩ := List.mem_map.mp h
  exact ⟨n, rfl, hn⟩
theorem ifT {c : Bool} {A B : Prop} (h : c = true) (x : A) : if c = true then A else B := by
  rw [if_pos h]
  exact x
theorem ifF {c : Bool} {A B : Prop} (h : c = false) (x : B) : if c = true then A else B := by
  rw [h]
  exact iteF x
theorem sh_int (i : Int) : SeqAt.shaped (.int i) = true := rfl
theorem eqv_int (i j : Int) : PyData.eqv (.int i) (.int j) = decide (i = j) := by
  simp only [PyData.eqv]
  by_cases h : i = j
  · rw [h]; simp
  · simp [h]
theorem mem_rngD {lo : Int} {n : Nat} {d : D} (h : d ∈ rngD lo n) : ∃ k : Int, d = .int k ∧ lo ≤ k ∧ k < lo + n := by
  unfold rngD at h
  obtain ⟨k, hk, rfl⟩ := List.mem_map.mp h
  have := List.mem_range.mp hk
  exact ⟨_, rfl, by omega, by omega⟩
theorem rngD_len (lo : Int) (n : Nat) : (rngD lo n).length = n := by unfold rngD; rw [List.length_map, List.length_range]
theorem rngD_at {lo : Int} {n i : Nat} {d : D} (h : (rngD lo n)[i]? = some d) : d = .int (lo + i) ∧ i < n := by
  unfold rngD at h
  rw [List.getElem?_map] at h
  have hi : i < n := by
    cases e : (List.range n)[i]? with
    | none => rw [e] at h; cases h
    | some k => have := (List.getElem?_eq_some_iff.mp e).1; rwa [List.length_range] at this
  rw [List.getElem?_range hi] at h
  cases h
  exact ⟨rfl, hi⟩
end LD

/-! LD11: enumerate of a tuple; min, sorted over data; sum of a tuple. -/
namespace LD
open PySem PySem.Spec L2
/-! ### enumerate of what begins -/
set_option maxHeartbeats 1000000 in
theorem newEnum1 {v : Value} {o : Obj} {W : Heap → Prop} (B : Begins v o W) : Meets (Builtin.«enumerate.__new__» ⟨[.type "enumerate", v], []⟩) fun _ R s => W s.heap ∧
      R (.ok (.ret (.ref (s.heap.push o).objs.size))) { s with heap := (s.heap.push o).push { cls := .type "enumerate", data := .fields #[.none, .bool false, .ref s.heap.objs.size, rawInt 0, .none, .none] } } :=
  .of_wp fun prog w A R s h => by
    obtain ⟨hp, g, d, tk, os⟩ := s
    obtain ⟨h1, h⟩ := h
    have hsub := sub_enumerate
    have go : ∀ {A' : Around} {E Q : Value → Shared → Prop}, Q (.ref hp.objs.size) ⟨hp.push o, g, d, tk, os⟩ → wpAny (model prog w) A' (pyIter v) Q E ⟨hp, g, d, tk, os⟩ := fun q => B.iter prog w _ _ ⟨hp, g, d, tk, os⟩ _ h1 q
    wp_walk using go
    refine wpAny_stack_any fun st => wpAny_pure ?_
    split
    · rename_i c _ _ _ _ _
      cases (c == Value.type "enumerate") <;> (wp_walk using go; exact ⟨_, rfl, h⟩)
    · wp_walk using go
      exact ⟨_, rfl, h⟩
section
variable {prog : Program} {w : World} {A : Around} {E : Value → Shared → Prop} {s : Shared}
theorem enum1 {v : Value} {o : Obj} {W : Heap → Prop} {Q : Value → Shared → Prop} (B : Begins v o W) (h1 : W s.heap)
    (h : ∀ h', IsEnum h' (s.heap.objs.size + 1) s.heap.objs.size 0 .none → h'.get? s.heap.objs.size = some o → (∀ b x, s.heap.get? b = some x → h'.get? b = some x) → Q (.ref (s.heap.objs.size + 1)) { s with heap := h' }) :
    wpAny (model prog w) A (call (.type "enumerate") [v]) Q E s := by
  refine callType_new F.called_enumerate (by decide) (F.typeCall_enumerate_1 _) (F.newCall_enumerate_1 _) (fun x => F.args_object_init_2 x _) F.entry_enumerate_new (newEnum1 B) ⟨h1, ?_⟩
  have hz : (s.heap.push o).objs.size = s.heap.objs.size + 1 := Heap.size_push ..
  show _ ∧ _
  rw [hz]
  have he : IsEnum ((s.heap.push o).push { cls := .type "enumerate", data := .fields #[.none, .bool false, .ref s.heap.objs.size, rawInt 0, .none, .none] }) (s.heap.objs.size + 1) s.heap.objs.size 0 .none := by
    have e := Heap.get?_push_size (s.heap.push o) (o := { cls := .type "enumerate", data := .fields #[.none, .bool false, .ref s.heap.objs.size, rawInt 0, .none, .none] }) rfl
    rw [hz] at e
    exact e
  exact ⟨⟨_, he, rfl⟩, h _ he (Heap.get?_push_of_some _ (Heap.get?_push_size _ B.free)) fun b x e => Heap.get?_push_of_some _ (Heap.get?_push_of_some _ e)⟩
end
/-- the tuple at a, each item in a new pair with its number -/
def ItN (K : PySem.W.Frag) (a : Addr) : It where
  go i H := ∃ xs x, SqT K H a xs ∧ xs[i]? = some x
  yld i H v H' := ∃ T x, v = .ref T ∧ H T = none ∧ H' = upd H T (.tup [.int (i : Nat), x]) ∧ ∀ xs, SqT K H a xs → xs[i]? = some x
  stop i H := ∃ xs, SqT K H a xs ∧ xs.length ≤ i
theorem turn_numT {P : Program} {w : World} {K : PySem.W.Frag} {es : List Expr} {j : Nat} {tp : Pos} (a e it : Addr) :
    Turn P w K (.Tuple es j tp) (ItN K a) [e, it] e fun i h => (∃ old, IsEnum h e it ((i : Nat) : Int) old) ∧ h.IsTupleIter it a i ∧ e ≠ it ∧ a ≠ it ∧ a ≠ e where
  mem := by simp
  obj i h st b hb := by
    obtain ⟨⟨old, he⟩, ⟨o, ho, hc, hd⟩, _⟩ := st
    rcases (by simpa using hb : b = e ∨ b = it) with z | z
    · exact z ▸ ⟨_, he, fun v q => nomatch q⟩
    · exact z ▸ ⟨o, ho, fun v q => by rw [hd] at q; cases q⟩
  keep i h h' st k := by
    obtain ⟨⟨old, he⟩, hi, n⟩ := st
    exact ⟨⟨old, k e (by simp) _ he⟩, hi.at fun o q => k it (by simp) o q, n⟩
  item := by
    intro X hP hw hK hc i pins s σ H E I hf st hg
    subst hP hw hK
    obtain ⟨⟨old, he⟩, hit, hne, n1, n2⟩ := st
    obtain ⟨xs, x, hq, hx⟩ := hg
    obtain ⟨its, rv, p, hz⟩ := I.tuple hq
    obtain ⟨u, hu, ru⟩ := rv.get hx
    have p' : s.heap.IsTuple a its.toArray := p
    have hel : e < s.heap.objs.size := Heap.lt_size he
    have hil : it < s.heap.objs.size := by
      obtain ⟨_, q, _⟩ := hit
      exact Heap.lt_size q
    have li : i < its.toArray.size := by
      have := (List.getElem?_eq_some_iff.mp hu).1
      rw [List.size_toArray]
      exact this
    refine wpAny_pyNext_enum_itemD (Draws.tuple (A := X.A.in1) (I.ok.hd hc) it a n1 its.toArray) he ⟨hit, p'⟩ li hne (by simp [hne, Ne.symm n2]) fun y h' tk hy ho hit' hT hsz hk => ?_
    have ey : y = u := by
      have h2 : its[i]? = some y := by simpa using hy
      rw [hu] at h2
      exact (Option.some.inj h2).symm
    subst ey
    refine ⟨_, rfl, wpAny_letOwnedTupleGo_enum (s := { s with heap := h', toks := tk + 1 }) ho fun h2 he' sb => ?_⟩
    have hT2 : h2.get? s.heap.objs.size = some { cls := .type "tuple", data := .seq #[.int i tk, y] } := (sb.2 _ (Nat.ne_of_gt hel)).trans hT
    have new : ObjOk X.prog X.w (upd H s.heap.objs.size (.tup [.int (i : Nat), x])) h2 s.heap.objs.size (.tup [.int (i : Nat), x]) :=
      ⟨by show 2 ≤ sizeLine; decide, [.int i tk, y], .cons ⟨_, rfl⟩ (.cons ru .nil), ⟨_, hT2, rfl, _, rfl⟩⟩
    have I1 : Inv X pins σ (upd H s.heap.objs.size (.tup [.int (i : Nat), x])) { s with heap := h2, toks := tk + 1 } :=
      I.turnedNew (ch := [e, it]) (fun b o hb q => (sb.2 b fun z => hb (by simp [z])).trans (hk b o (fun z => hb (by simp [z])) (fun z => hb (by simp [z])) q)) hf (Nat.le_refl _) new
    refine ⟨.ref s.heap.objs.size, _, I1, rfl, ⟨_, x, rfl, I.hok.fresh (Nat.le_refl _), rfl, fun ys hy => by rw [I.tuple_inj hy hq]; exact hx⟩, ⟨⟨y, ?_⟩, hit'.1.at fun o q => (sb.2 it (Ne.symm hne)).trans q, hne, n1, n2⟩, fun b hb => ?_⟩
    · rw [show ((i + 1 : Nat) : Int) = (i : Int) + 1 by omega]
      exact he'
    · have hb' : b < s.heap.objs.size := by
        rcases (by simpa using hb : b = e ∨ b = it) with z | z
        · exact z ▸ hel
        · exact z ▸ hil
      rw [upd_ne (Nat.ne_of_lt hb')]
      exact (hf b hb).1
  done := by
    intro X hP hw hK hc i pins s σ H E I hf st hg
    subst hP hw hK
    obtain ⟨⟨old, he⟩, hit, hne, n1, n2⟩ := st
    obtain ⟨xs, hq, hx⟩ := hg
    obtain ⟨its, rv, p, hz⟩ := I.tuple hq
    have p' : s.heap.IsTuple a its.toArray := p
    obtain ⟨f0, f1, f2, f3, f4, f5⟩ := hf it (by simp)
    have hl := rv.length
    have T : s.TypeIs (.ref e) "enumerate" := ⟨_, he, rfl⟩
    unfold pyNext
    refine wpAny_bind (wpAny_attempt (wpAny_callSpecial?_slot (name := Str.ofString "__next__") T F.slot_enumerate_next (wpAny_call_entry F.slot_enumerate_next T F.entry_enumerate_next ?_ (F.args_enumerate_next_1 _))))
    show wpAny _ _ (field (.ref e) 2 >>= _) _ _ _
    refine wpAny_bind (wpAny_field he rfl (x := .ref it) rfl ?_)
    refine wpAny_bind (wpAny_nextOf_tuple_end (I.ok.hd hc) hit p' (by simp; omega) fun h' x eb hx' => ?_)
    obtain ⟨o, ho, hcl⟩ := hx'
    refine wpAny_bind (wpAny_isInstance (T := "StopIteration") (b := true) ⟨o, ho, hcl⟩ isSubtype_stop (wpAny_pure ⟨rfl, ?_⟩))
    exact I.turned (t' := s.toks) (fun b o hb q => eb b o hb q) f0 f1 f3 f4 f5
  self A i s Q E st h := by
    obtain ⟨⟨_, he⟩, _⟩ := st
    exact wpAny_pyIter_enum he h
def iNumT (K : PySem.W.Frag) (ta : TA) : TI := fun σ H R => ta σ H fun vs H1 => ∃ a xs, vs = [.ref a] ∧ SqT K H1 a xs ∧ R (ItN K a) H1
theorem pi_numT {X : Cx} {e : Expr} {ta : TA} {p pos tp : Pos} {es : List Expr} {j : Nat} (hg : Gl X "enumerate") (hm : X.mg "enumerate" = none) (ha : PA X [e] ta) (hs : starEach [e] X.env = [(false, eval e X.env)] := by rfl) :
    PI X (.Tuple es j tp) (.Call (.Name "enumerate" p) [e] [] pos) (iNumT X.K ta) := by
  refine ⟨fun pins s σ H R I h => PyProof.Rows.Call_ (ld_blt I hg hm PyProof.Rows.boot_enumerate (PyProof.Rows.callWith_type1 (thn (ha.run pos pins s σ H _ I h) fun us s1 ⟨vs, H1, I1, r1, q1⟩ => ?_) hs rfl))⟩
  obtain ⟨a, xs, ex, hq, q⟩ := q1
  subst ex
  obtain ⟨u, rfl, ru⟩ := vals1 r1
  obtain rfl : u = Value.ref a := ru
  obtain ⟨its, rv, p', hz⟩ := I1.tuple hq
  have p2 : s1.heap.IsTuple a its.toArray := p'
  have la : a < s1.heap.objs.size := by
    obtain ⟨_, q, _⟩ := p2
    exact Heap.lt_size q
  refine enum1 (begins_tuple a its.toArray) p2 fun h' he hit hk => wpAny_pyIter_enum he ?_
  have I2 : Inv X pins σ H1 { s1 with heap := h' } := I1.kept (t' := s1.toks) hk
  refine ⟨s1.heap.objs.size + 1, [s1.heap.objs.size + 1, s1.heap.objs.size], _, _, H1, rfl, I2, turn_numT a (s1.heap.objs.size + 1) s1.heap.objs.size, ⟨⟨.none, he⟩, ⟨_, hit, rfl, rfl⟩, Nat.succ_ne_self _, Nat.ne_of_lt la, Nat.ne_of_lt (Nat.lt_succ_of_lt la)⟩, fun b hb => ?_, q⟩
  have hle : s1.heap.objs.size ≤ b := by
    rcases (by simpa using hb : b = s1.heap.objs.size + 1 ∨ b = s1.heap.objs.size) with z | z
    · rw [z]; exact Nat.le_add_right _ _
    · rw [z]; exact Nat.le_refl _
  exact I1.fpOk hle (I1.hok.fresh hle)

/-! ### min of a list of data that can be compared -/
def rMinD (K : PySem.W.Frag) : List V → Hp → VK → Prop := fun vs H Q => ∃ (a : Addr) (xs : List V) (d : D) (ds : List D), vs = [.ref a] ∧ SqL K H a xs ∧ DpAll K H xs (d :: ds) ∧ PySem.W.AlikeAll (d :: ds) ∧ PyData.depthAll (d :: ds) ≤ 50 ∧
  ∀ (i : Nat) (v : V), xs[i]? = some v → (d :: ds)[i]? = some (PySem.W.minD d ds) → Q v H
def rMaxD (K : PySem.W.Frag) : List V → Hp → VK → Prop := fun vs H Q => ∃ (a : Addr) (xs : List V) (d : D) (ds : List D), vs = [.ref a] ∧ SqL K H a xs ∧ DpAll K H xs (d :: ds) ∧ PySem.W.AlikeAll (d :: ds) ∧ PyData.depthAll (d :: ds) ≤ 50 ∧
  ∀ (i : Nat) (v : V), xs[i]? = some v → (d :: ds)[i]? = some (PySem.W.maxD d ds) → Q v H
theorem getD_some {α : Type} {xs : List α} {i : Nat} {x z : α} (hi : i < xs.length) (e : xs.getD i x = z) : xs[i]? = some z := by
  rw [List.getD_eq_getElem?_getD, List.getElem?_eq_getElem hi] at e
  rw [List.getElem?_eq_getElem hi]
  exact congrArg some e
theorem vals_back {xs : List V} {us : List Value} {i : Nat} {u : Value} (r : Vals xs us) (h : us[i]? = some u) : ∃ x, xs[i]? = some x ∧ RelV x u := by
  have hi : i < xs.length := by
    rw [r.length]
    exact (List.getElem?_eq_some_iff.mp h).1
  obtain ⟨u', e, q⟩ := r.get (List.getElem?_eq_getElem hi)
  rw [h] at e
  cases e
  exact ⟨_, List.getElem?_eq_getElem hi, q⟩
theorem cr_minD {X : Cx} (hc : X.calm = true) (hu : X.A.units + 64 < cLine) : CallR X (.builtin "min") (rMinD X.K) := by
  intro pins s σ H vs us Q I r h
  obtain ⟨a, xs, d, ds, rfl, hs, hd, ha, hz, q⟩ := h
  obtain ⟨its, rv, hl, _⟩ := I.list hs
  rw [Vals.ref1 r]
  obtain ⟨as, hr⟩ := Dp.readsAll I _ xs its hd rv
  have hn : its.length = ds.length + 1 := by rw [← rv.length, dpAll_len hd]; rfl
  have hr' : ReadsAll s.heap its.toArray.toList (d :: ds) as := hr
  refine PySem.call_min_walkH (PySem.W.iter_listW (A := X.A.in1) (I.ok.hd hc) hl.isList fun s₂ e W st hfp hw hk => ?_)
  refine ⟨_, _, _, _, _, _, _, s.heap, _, rfl, W, st, hfp, by rw [List.size_toArray]; omega, hw, hk, PySem.W.cmpIn_lt (A := X.A.in1) hr' ha (by show X.A.units + 1 + _ < _; omega), fun v s' hP m => ?_⟩
  obtain ⟨h', tk, rfl, hk'⟩ := PySem.W.moved_old e rfl m
  have e1 : its.toArray.size - 1 = ds.length := by rw [List.size_toArray]; omega
  obtain ⟨e3, e2⟩ := PySem.W.argBest_fold PySem.W.dataLt PyData.none d ds ds.length (Nat.le_refl _)
  rw [List.take_length] at e2
  rw [e1] at hP
  rw [List.getElem?_toArray] at hP
  obtain ⟨x, hx, rx⟩ := vals_back rv hP
  exact ⟨x, H, I.kept hk', rx, q _ x hx (getD_some (Nat.lt_succ_of_le e3) e2)⟩
theorem cr_maxD {X : Cx} (hc : X.calm = true) (hu : X.A.units + 64 < cLine) : CallR X (.builtin "max") (rMaxD X.K) := by
  intro pins s σ H vs us Q I r h
  obtain ⟨a, xs, d, ds, rfl, hs, hd, ha, hz, q⟩ := h
  obtain ⟨its, rv, hl, _⟩ := I.list hs
  rw [Vals.ref1 r]
  obtain ⟨as, hr⟩ := Dp.readsAll I _ xs its hd rv
  have hn : its.length = ds.length + 1 := by rw [← rv.length, dpAll_len hd]; rfl
  have hr' : ReadsAll s.heap its.toArray.toList (d :: ds) as := hr
  refine PySem.call_max_walkH (PySem.W.iter_listW (A := X.A.in1) (I.ok.hd hc) hl.isList fun s₂ e W st hfp hw hk => ?_)
  refine ⟨_, _, _, _, _, _, _, s.heap, _, rfl, W, st, hfp, by rw [List.size_toArray]; omega, hw, hk, PySem.W.cmpIn_gt (A := X.A.in1) hr' ha (by show X.A.units + 1 + _ < _; omega), fun v s' hP m => ?_⟩
  obtain ⟨h', tk, rfl, hk'⟩ := PySem.W.moved_old e rfl m
  have e1 : its.toArray.size - 1 = ds.length := by rw [List.size_toArray]; omega
  obtain ⟨e3, e2⟩ := PySem.W.argBest_fold (fun a b => PySem.W.dataLt b a) PyData.none d ds ds.length (Nat.le_refl _)
  rw [List.take_length] at e2
  rw [e1] at hP
  rw [List.getElem?_toArray] at hP
  obtain ⟨x, hx, rx⟩ := vals_back rv hP
  exact ⟨x, H, I.kept hk', rx, q _ x hx (getD_some (Nat.lt_succ_of_le e3) e2)⟩
/-! ### sorted of data that can be compared -/
def leD (x y : D) : Bool := !PySem.W.dataLt y x
def rSortD (K : PySem.W.Frag) : List V → Hp → VK → Prop := fun vs H Q => ∃ (a : Addr) (xs : List V) (ds : List D), vs = [.ref a] ∧ SqL K H a xs ∧ DpAll K H xs ds ∧ PySem.W.AllAlike ds ∧ PySem.W.Sortable ds ∧ PyData.depthAll ds ≤ 50 ∧
  ∀ (ys : List V) (p : Addr), ys.length = ds.length → (∀ Hi, DpAll K Hi xs ds → DpAll K Hi ys (ds.mergeSort leD)) → H p = none → Q (.ref p) (upd H p (.lst ys))
theorem each_vals : ∀ {xs : List V} {us : List Value} {ds : List D}, Vals xs us → xs.length = ds.length → PySem.W.EachIs (fun u (b : V × D) => RelV b.1 u) us (xs.zip ds)
  | [], _, [], r, _ => by cases r; exact .nil
  | [], _, _ :: _, _, e => by cases e
  | _ :: _, _, [], _, e => by cases e
  | x :: xs, _, d :: ds, r, e => by
    cases r with
    | cons r1 r2 => exact .cons r1 (each_vals r2 (Nat.succ.inj e))
theorem each_reads {h : Heap} : ∀ {xs : List V} {us : List Value} {ds : List D} {as : List Addr}, ReadsAll h us ds as → xs.length = ds.length → PySem.W.EachIs (fun u (b : V × D) => ∃ as, Reads h u b.2 as) us (xs.zip ds)
  | [], _, [], _, r, _ => by cases r; exact .nil
  | [], _, _ :: _, _, _, e => by cases e
  | _ :: _, _, [], _, _, e => by cases e
  | x :: xs, _, d :: ds, _, r, e => by
    cases r with
    | cons r1 r2 => exact .cons ⟨_, r1⟩ (each_reads r2 (Nat.succ.inj e))
theorem vals_each : ∀ {us : List Value} {zs : List (V × D)}, PySem.W.EachIs (fun u (b : V × D) => RelV b.1 u) us zs → Vals (zs.map Prod.fst) us
  | _, [], h => by cases h; exact .nil
  | _, z :: zs, h => by
    cases h with
    | cons a b => exact .cons a (vals_each b)
theorem dp_zip {K : PySem.W.Frag} {Hi : Hp} : ∀ {xs : List V} {ds : List D}, DpAll K Hi xs ds → ∀ z ∈ xs.zip ds, Dp K Hi z.1 z.2
  | _, [], h, z, hz => by cases h; cases hz
  | _, d :: ds, h, z, hz => by
    cases h with
    | cons a b =>
      rcases List.mem_cons.mp hz with e | hz
      · rw [e]; exact a
      · exact dp_zip b z hz
theorem dp_unzip {K : PySem.W.Frag} {Hi : Hp} : ∀ {zs : List (V × D)}, (∀ z ∈ zs, Dp K Hi z.1 z.2) → DpAll K Hi (zs.map Prod.fst) (zs.map Prod.snd)
  | [], _ => .nil
  | z :: zs, h => .cons (h z List.mem_cons_self) (dp_unzip fun y hy => h y (List.mem_cons_of_mem _ hy))
theorem depth_mem : ∀ {ds : List D} {d : D}, d ∈ ds → d.depth ≤ PyData.depthAll ds
  | e :: ds, d, h => by
    unfold PyData.depthAll
    rcases List.mem_cons.mp h with z | z
    · rw [z]; exact Nat.le_max_left _ _
    · exact Nat.le_trans (depth_mem z) (Nat.le_max_right _ _)
theorem cr_sortD {X : Cx} (hu : X.A.units + 64 < cLine) : CallR X (.builtin "sorted") (rSortD X.K) := by
  intro pins s σ H vs us Q I r h
  obtain ⟨a, xs, ds, rfl, hs, hd, ha, hb, hz, q⟩ := h
  obtain ⟨its, rv, hl, hsz⟩ := I.list hs
  rw [Vals.ref1 r]
  obtain ⟨as, hr⟩ := Dp.readsAll I _ xs its hd rv
  have el := dpAll_len hd
  have em : (xs.zip ds).map Prod.snd = ds := List.map_snd_zip (by omega)
  have en : (xs.zip ds).length = ds.length := by rw [List.length_zip]; omega
  refine PySem.W.sorted_data (bs := xs.zip ds) (enc := Prod.snd) hl.isList (each_vals rv el) (each_reads hr el) (by rw [em]; exact ha) (by rw [em]; exact hb) (by rw [en, ← el]; exact hsz) (fun b hb => ?_) fun out ho he => ?_
  · have := depth_mem (List.of_mem_zip (a := b.1) (b := b.2) hb).2
    omega
  have hv := vals_each he
  generalize hzs : (xs.zip ds).mergeSort (PySem.W.dataLe false Prod.snd) = zs at hv
  have hp : ∀ z ∈ zs, z ∈ xs.zip ds := fun z h => by
    rw [← hzs] at h
    exact (List.mergeSort_perm _ _).mem_iff.mp h
  have hlz : zs.length = ds.length := by rw [← hzs, (List.mergeSort_perm _ _).length_eq, en]
  have es : zs.map Prod.snd = ds.mergeSort leD := by
    rw [← hzs, List.map_mergeSort (s := leD) (fun x _ y _ => by rw [PySem.W.dataLe_eq]; rfl), em]
  obtain ⟨ep, he'⟩ := PyProof.Rows.sortedAll_at s.heap its out.toArray
  have hlen : (zs.map Prod.fst).length ≤ sizeLine := by rw [List.length_map, hlz, ← el]; exact hsz
  refine ⟨.ref _, upd H (s.heap.objs.size + 1) (.lst (zs.map Prod.fst)), I.laid (t' := s.toks) (fun _ _ => PyProof.Rows.sortedAll_old) (Nat.le_succ _) ⟨hlen, out, ep, hv, he'⟩, rfl, q _ _ (by rw [List.length_map, hlz]) (fun Hi h => ?_) (I.hok.fresh (Nat.le_succ _))⟩
  rw [← es]
  exact dp_unzip fun z hz => dp_zip h z (hp z hz)
/-! ### sum of a tuple -/
def rSumT (K : PySem.W.Frag) : List V → Hp → VK → Prop := fun vs H Q => ∃ (a : Addr) (ns : List Int), vs = [V.ref a] ∧ SqT K H a (ns.map V.int) ∧ Q (.int ns.sum) H
theorem preSum_take (ns : List Int) : ∀ k, k ≤ ns.length → preSum (fun i => ns.getD i 0) k = (ns.take k).sum
  | 0, _ => by rw [List.take_zero]; rfl
  | k + 1, h => by
    rw [List.take_add_one, List.sum_append, ← preSum_take ns k (Nat.le_of_succ_le h), List.getElem?_eq_getElem h]
    show _ + ns.getD k 0 = _
    rw [List.getD_eq_getElem?_getD, List.getElem?_eq_getElem h]
    simp
theorem cr_sumT {X : Cx} (hc : X.calm = true) : CallR X (.builtin "sum") (rSumT X.K) := by
  intro pins s σ H vs us Q I r h
  obtain ⟨a, ns, rfl, hs, q⟩ := h
  obtain ⟨its, rv, hl, _⟩ := I.tuple hs
  rw [Vals.ref1 r]
  have hl' : s.heap.IsTuple a its.toArray := hl
  have hn : its.length = ns.length := by rw [← rv.length, List.length_map]
  refine PySem.call_sum_walkAnyS (PySem.W.iter_tupleW (A := X.A.in1) (I.ok.hd hc) hl' fun s₂ e W st hfp hw hk => ?_)
  refine ⟨_, _, _, _, _, _, _, fun i => ns.getD i 0, rfl, W, st, hfp, fun i v hv => ?_, fun s' t' m => ?_⟩
  · obtain ⟨x, hx, rx⟩ := vals_back rv (by simpa using hv)
    rw [List.getElem?_map] at hx
    cases hi : ns[i]? with
    | none => rw [hi] at hx; cases hx
    | some n =>
      rw [hi] at hx
      cases hx
      obtain ⟨t, rfl⟩ := rx
      exact ⟨t, by show _ = Value.int (ns.getD i 0) t; rw [List.getD_eq_getElem?_getD, hi]; rfl⟩
  · obtain ⟨h', tk, rfl, hk'⟩ := PySem.W.moved_old e rfl m
    refine ⟨.int ns.sum, H, I.kept hk', ⟨t', ?_⟩, q⟩
    rw [List.size_toArray, hn, preSum_take ns _ (Nat.le_refl _), List.take_length]
end LD

/-! LD12: defs in which the text of a list or tuple is asked: no such text is under way around them. -/
namespace LD
open PySem PySem.Spec L2 PyProof.Rows
/-- as FnOk, where no repr is under way -/
structure FnQ (P : Program) (w : World) (K : PySem.W.Frag) (mg : Str → Option Value) (base : Heap) (CX : CXT) (k : Nat) (f : Addr) (fd : FuncData) (ps : List Str) (sp : Sp) : Prop where
  len : ∀ vs H Q E, sp vs H Q E → vs.length = ps.length
  run : ∀ {A : Around} {outer : List Env} {s : Shared} {H : Hp} {args : Args} {us : List Value} {vs : List V} {Q : VK} {E : XK}, A.guards = some [] → Room k A → Env0 P w K mg base A outer s H →
    BindsTo s fd args (ps.zip us) → Vals vs us → sp vs H Q E → codeAny (model P w) A (.call (.ref f) args) (CR CX outer P w H s Q E) s
section
variable {P : Program} {w : World} {K : PySem.W.Frag} {mg : Str → Option Value} {base : Heap} {CX : CXT} {k : Nat} {f : Addr} {fd : FuncData} {ps N : List Str} {sp : Sp}
theorem FnQ.of (F : FnOk P w K mg base CX k f fd ps sp) : FnQ P w K mg base CX k f fd ps sp := ⟨F.len, fun _ hr e b r h => F.run _ _ _ _ _ _ _ _ _ hr e b r h⟩
theorem FnQ.mono {j : Nat} (F : FnQ P w K mg base CX j f fd ps sp) (h : j ≤ k) : FnQ P w K mg base CX k f fd ps sp := ⟨F.len, fun g hr => F.run g (hr.mono h)⟩
/-- a def by its body -/
theorem okQ {x qual : Str} {st : Stmt} (F : Fun K x qual st f fd) (S : FnScope N ps (defScope st)) (len : ∀ vs H Q E, sp vs H Q E → vs.length = ps.length)
    (hbody : ∀ (cdv : Value) (A : Around) (outer : List Env) (s : Shared) (H : Hp) (vs : List V) (Q : VK) (E : XK), (A.deeper (envOfC qual (defScope st) s.heap.objs.size f cdv)).guards = some [] → Room k (A.deeper (envOfC qual (defScope st) s.heap.objs.size f cdv)) → sp vs H Q E →
      ∃ t, PSs (cxOf CX0 P w K mg base N qual (defScope st) f cdv A outer s H E).nox (defBody st) t ∧ t { nx := fun _ H' => Q .non H', rt := Q } (start N vs) H) : FnQ P w K mg base CX0 (k + 1) f fd ps sp := by
  obtain ⟨oc, od, kV, doc, pm, an, cdv, ct, osl, rfl, lk, hcd⟩ := F.ex
  refine ⟨len, fun {A outer s H args us vs Q E} hg hr e0 hb r hsp => ?_⟩
  have hl := len _ _ _ _ hsp
  have old : ∀ b o, base.get? b = some o → s.heap.get? b = some o := fun b o e => (e0.bs b o e).1
  have KX := e0.mod.kin.keeps old
  refine codeAny_call_function hr.depth (KX _ _ lk) rfl S.co S.gen rfl (PySem.W.codeRec_of KX hcd) (hb _ _ _ _ ?_)
  refine wpAny_newFunctionEnv_cells S.kind (fun y hy => ?_) fun env he s1 x => ?_
  · have hm : y.1 ∈ ps := by
      obtain ⟨n, v⟩ := y
      exact (List.of_mem_zip hy).1
    rcases S.par _ hm with q | q
    · exact .inl q
    · exact .inr ⟨q, PySem.W.cellsFrom_some _ _ _ (.inl q)⟩
  subst he
  refine ⟨(e0.mod.nolimit.keeps old).keeps x.toInCall.keep, codeAny_func ?_⟩
  obtain ⟨t, ht, hq⟩ := hbody cdv A outer s H vs Q E hg (hr.deeper _) hsp
  have I := inv_start (CX := CX0) (E := E) S hr.hd e0 hl r x
  refine wpAny_mono (ht.nox.run [] s1 (start N vs) H _ I hq) (fun fl s' hs => ?_) fun e s' hs => hs
  cases fl with
  | ret u =>
    obtain ⟨v, σ', H', J, rv, q⟩ := hs
    exact ⟨v, H', J.os, J.bare, J.base, J.hok, rv, q⟩
  | next =>
    obtain ⟨σ', H', J, q⟩ := hs
    exact ⟨.non, H', J.os, J.bare, J.base, J.hok, rfl, q⟩
  | brk =>
    obtain ⟨_, _, _, q⟩ := hs
    exact q.elim
  | cont =>
    obtain ⟨_, _, _, q⟩ := hs
    exact q.elim
end
/-! ### calls of such defs -/
section
variable {X : Cx} {k : Nat} {f : Addr} {fd : FuncData} {ps : List Str} {sp : Sp}
theorem runQ {pins : List (Addr × Obj)} {σ : L2.St} {H : Hp} {s : Shared} {Q : VK} {us : List Value} {vs : List V} (F : FnQ X.prog X.w X.K X.mg X.base CX0 k f fd ps sp) (hg : X.A.guards = some []) (hr : Room k X.A) (hb : Binds X.K fd ps [])
    (I : Inv X pins σ H s) (r : Vals vs us) (h : sp vs H Q E0) : wpAny (model X.prog X.w) X.A (call (.ref f) us) (EP X pins σ Q) X.xe s := by
  have hl : us.length = ps.length := (r.length).symm.trans (F.len _ _ _ _ h)
  have b := hb s us I.kIn (by rw [List.append_nil]; exact hl)
  rw [List.append_nil] at b
  refine wpAny_call (codeAny_mono (F.run hg hr I.env0 b r h) fun o s' hq => ?_)
  cases o with
  | error e => exact hq.elim
  | ok fl =>
    cases fl with
    | ret u => exact I.after hq
    | next => exact hq.elim
    | brk => exact hq.elim
    | cont => exact hq.elim
structure CalQ (P : Program) (w : World) (K : PySem.W.Frag) (mg : Str → Option Value) (base : Heap) (k : Nat) (x : Str) (sp : Sp) : Prop where
  ex : ∃ (f : Addr) (fd : FuncData) (ps : List Str), FnQ P w K mg base CX0 k f fd ps sp ∧ mg x = some (.ref f) ∧ PySem.W.keepIn K (.ref f) = true ∧ Binds K fd ps []
theorem pe_q {x : Str} {p pos : Pos} {e : Expr} {es : List Expr} {j : Nat} {t : TA} (c : CalQ X.prog X.w X.K X.mg X.base k x sp) (hgd : X.A.guards = some []) (hr : Room j X.A) (hk : k ≤ j) (hg : Gl X x) (ha : PA X (e :: es) t)
    (hdb : (x == ("__debug__" : Str)) = false := by decide) (he : starEach (e :: es) X.env = (false, eval e X.env) :: starEach es X.env := by rfl) (hpl : (backTo pos (starEach es X.env)).any (·.1) = false := by rfl) :
    PE X (.Call (.Name x p) (e :: es) [] pos) (tCall sp [] E0 t) := by
  obtain ⟨f, fd, ps, F, hm, kp, b⟩ := c.ex
  refine ⟨fun pins s σ H Q I h => wpAny_Call_Name_kw (ld_glob I hg hm ?_ hdb)⟩
  refine PySem.W.callWith_K (h₀ := X.base) I.ok.mod.kin kp (thn (ha.run pos pins s σ H _ I h) fun us s1 ⟨vs, H1, I1, r, q⟩ => ⟨I1.kIn, ?_⟩) he hpl
  have q2 : sp (vs ++ []) H1 Q E0 := q
  rw [List.append_nil] at q2
  exact runQ F hgd (hr.mono hk) b I1 r q2
theorem calQ_of {P : Program} {w : World} {K : PySem.W.Frag} {mg : Str → Option Value} {base : Heap} {x : Str} (F : FnQ P w K mg base CX0 k f fd ps sp) (g : mg x = some (.ref f)) (kp : PySem.W.keepIn K (.ref f) = true) (b : Binds K fd ps []) : CalQ P w K mg base k x sp := ⟨⟨f, fd, ps, F, g, kp, b⟩⟩
end
/-! ### the law's own call: no repr is under way around it -/
theorem lawQ {P : Program} {w : World} {K : PySem.W.Frag} {mg mb : Str → Option Value} {k : Nat} {fa a : Addr} {fd : FuncData} {x : Str} {sp : Sp} {s : Shared} {vs : List Value} {ns : List Int}
    (KX : K.In s.heap) (hns : s.heap.Ns mainGlobals mg) (hb : s.heap.Ns builtinsNs mb) (hbb : ∀ x : Str, x ≠ "__name__" → mb x = bootBuiltins x) (hlim : s.heap.NoLimit) (hg : s.gens = #[])
    (ha : s.heap.get? a = some { cls := .type "list", data := .seq vs.toArray }) (hi : IntsAre vs ns) (hl : ns.length ≤ sizeLine) (hr : Room k callerA)
    (F : ∀ base : Heap, K.In base → base.Ns mainGlobals mg → FnQ P w K mg base CX0 k fa fd [x] sp) (hbind : ∀ (s : Shared) (u : Value), BindsTo s fd ⟨[u], []⟩ [(x, u)])
    (hsp : ∀ H : Hp, Only H → SqL K H a (ns.map V.int) → sp [.ref a] H (fun v _ => v = .bl true) fun _ _ _ => False) :
    codeAny (model P w) callerA (.call (.ref fa) ⟨[.ref a], []⟩) (fun r s' => r = .ok (.ret (.bool true)) ∧ OldK s.heap s'.heap ∧ s'.os = s.os ∧ AllBare s'.gens) s := by
  have rv := vals_ints hi
  have lenV := hi.length
  have run : ∀ H : Hp, Only H → SqL K H a (ns.map V.int) → HOk P w H s.heap → (∀ b, b ≠ a → H b = none) → (H a = none ∨ K.lookup a = none) →
      codeAny (model P w) callerA (.call (.ref fa) ⟨[.ref a], []⟩) (fun r s' => r = .ok (.ret (.bool true)) ∧ OldK s.heap s'.heap ∧ s'.os = s.os ∧ AllBare s'.gens) s := by
    intro H hO hS hok hA hK
    have dictFree : ∀ {b : Addr} {o : Obj} {es : Array DictEntry} {ep : Nat}, s.heap.get? b = some o → o.data = .dict es ep → H b = none := fun {b o es ep} e d => by
      by_cases z : b = a
      · subst z
        rw [ha] at e
        cases e
        have d' : Data.seq vs.toArray _ = Data.dict es ep := d
        cases d'
      · exact hA b z
    have ns2 : ∀ {b : Addr} {m : Str → Option Value}, s.heap.Ns b m → (hidT s.heap H).Ns b m := fun ⟨o, es, ep, e, d, r⟩ => ⟨o, es, ep, hidT_get e (dictFree e d), d, r⟩
    have kin2 : K.In (hidT s.heap H) := fun b o e => hidT_get (KX b o e) (by
      by_cases z : b = a
      · rcases hK with q | q
        · rw [z]; exact q
        · rw [z, q] at e; cases e
      · exact hA b z)
    obtain ⟨mc, c1, c2⟩ := hlim
    have e0 : Env0 P w K mg (hidT s.heap H) callerA [] s H := ⟨rfl, ⟨kin2, ns2 hns, ⟨mb, ns2 hb, hbb⟩, ⟨mc, ns2 c1, c2⟩⟩, fun b o e => of_hidT e, Nat.le_of_eq (hidT_size _ _), trivial, fun b hb => (by cases hb), hok, .of_eq hg⟩
    refine codeAny_mono ((F _ kin2 (ns2 hns)).run (us := [.ref a]) (vs := [V.ref a]) rfl hr e0 (hbind s (.ref a)) (.cons rfl .nil) (hsp H hO hS)) fun r s' h => ?_
    cases r with
    | error e => exact h.elim
    | ok fl =>
      cases fl with
      | next => exact h.elim
      | brk => exact h.elim
      | cont => exact h.elim
      | ret u =>
        obtain ⟨v, H', os, bare, un, hok', r', q⟩ := h
        obtain rfl : v = .bl true := q
        obtain rfl : u = Value.bool true := r'
        refine ⟨rfl, OldK.of_keep fun b o e => ?_, os, bare⟩
        cases z : H b with
        | none => exact un.keep b o e z (fun y => by cases y) (fun y => by cases y)
        | some y =>
          rcases hO b with c | ⟨ob, xs, c⟩
          · rw [z] at c; cases c
          · have e1 := (hok b _ c).1
            have e2 := (hok' b _ (un.frzs b ob _ c)).1
            rw [e] at e1
            cases e1
            exact e2
  cases hk : K.lookup a with
  | some o =>
    have e := KX a o hk
    rw [ha] at e
    cases e
    exact run (fun _ => none) (fun _ => .inl rfl) (.inr ⟨_, vs.toArray, _, hk, rfl, rfl, rfl, by rw [List.size_toArray, lenV]; exact hl, by simpa using rv⟩) (fun b u z => by have z' : (none : Option HO) = some u := z; cases z') (fun b _ => rfl) (.inl rfl)
  | none =>
    let o : HO := .frz { cls := .type "list", data := .seq vs.toArray } (.lst (ns.map V.int))
    have at_a : (upd (fun _ => none) a o) a = some o := upd_same
    have off : ∀ b, b ≠ a → (upd (fun _ => none) a o) b = none := fun b hb => upd_ne hb
    refine run (upd (fun _ => none) a o) (fun b => ?_) (.inl (.inr ⟨_, at_a⟩)) (fun b u z => ?_) off (.inr hk)
    · by_cases hb : b = a
      · exact .inr ⟨_, _, by rw [hb]; exact at_a⟩
      · exact .inl (off b hb)
    · by_cases hb : b = a
      · subst hb
        rw [at_a] at z
        cases z
        exact ⟨ha, by rw [List.length_map]; exact hl, vs, _, rv, ha⟩
      · rw [off b hb] at z
        cases z
theorem walkQ {l : PySem.W.OpenLaw} {n k : Nat} {q : Program} {loose : List Str} {XP : (Str → Option Value) → Heap → Prop} {YP : World → Heap → Prop} {d : DefRec} {K : Params → PySem.W.Frag} {sp : World → Sp} {x : Str}
    (hn : l.most = some n) (hn2 : n ≤ sizeLine) (hdf : d.params.defaults = []) (hr : Room k callerA) (hY : ∀ (w : World) (h : Heap), YP w h → (K w.params).In h)
    (F : ∀ (w : World) (mg : Str → Option Value) (fa : Addr) (h : Heap), (K w.params).In h → h.Ns mainGlobals mg → mg d.name = some (.ref fa) →
      ∃ fd : FuncData, (∀ (s : Shared) (u : Value), BindsTo s fd ⟨[u], []⟩ [(x, u)]) ∧ ∀ base : Heap, (K w.params).In base → base.Ns mainGlobals mg → FnQ l.prog w (K w.params) mg base CX0 k fa fd [x] (sp w))
    (hsp : ∀ (w : World) (H : Hp) (a : Addr) (ns : List Int), ns.length ≤ n → Only H → SqL (K w.params) H a (ns.map V.int) → sp w [.ref a] H (fun v _ => v = .bl true) fun _ _ _ => False) :
    PySem.W.WalkO q loose XP YP l.row.toRowW d [] (fun f vs => PySem.call f vs) :=
  Att.attach_call hn hdf fun w s0 s1 mg mb fa o pm cd doc a vs ns G Y ho hd hcd hmg hobj hints hlen hg =>
    have KX := hY w _ Y
    let ⟨fd, hb, hF⟩ := F w mg fa _ KX G.T.g hmg
    lawQ KX G.T.g G.T.b G.T.builtins G.T.nolimit hg hobj hints (Nat.le_trans hlen hn2) hr hF hb fun H hO hS => hsp w H a ns hlen hO hS
end LD

/-! LD13: readings over data of what LD11 and LD12 bring. -/
namespace LD
open PySem PySem.Spec L2
section
variable {K : PySem.W.Frag} {ta tb : TE} {a b : TD}
/-! enumerate of a tuple -/
def numD (es : List D) : List D := (List.range es.length).map fun i => .tuple [.int (i : Nat), es.getD i .none]
theorem numD_len (es : List D) : (numD es).length = es.length := by unfold numD; rw [List.length_map, List.length_range]
theorem numD_at {es : List D} {i : Nat} {d : D} (h : (numD es)[i]? = some d) : ∃ x, es[i]? = some x ∧ d = .tuple [.int (i : Nat), x] := by
  unfold numD at h
  rw [List.getElem?_map] at h
  cases hi : (List.range es.length)[i]? with
  | none => rw [hi] at h; cases h
  | some j =>
    have hl : i < es.length := by have := (List.getElem?_eq_some_iff.mp hi).1; rwa [List.length_range] at this
    rw [List.getElem?_range hl] at h
    refine ⟨es[i], List.getElem?_eq_getElem hl, ?_⟩
    rw [← Option.some.inj h]
    show PyData.tuple [.int (i : Nat), es.getD i .none] = _
    rw [List.getD_eq_getElem?_getD, List.getElem?_eq_getElem hl]
    rfl
theorem walks_num {p : Addr} {es : List D} : Walks K (ItN K p) (numD es) [.ref p] [.tuple es] := by
  intro F σ H ρ vs ds i R
  obtain ⟨p', xs, e, e2, s, R1⟩ := Rel.asTup (vs := vs) (ds := ds) R
  cases e
  refine ⟨fun d hd => ?_, fun h => ⟨xs, s, by rw [e2, ← numD_len es]; exact h⟩⟩
  obtain ⟨z, hz, rfl⟩ := numD_at hd
  obtain ⟨v, e3, R2⟩ := R1.pick e2 hz
  refine ⟨⟨xs, v, s, e3⟩, fun x H' hy => ?_⟩
  obtain ⟨T, x', rfl, hT, rfl, hy⟩ := hy
  have := (hy xs s).symm.trans e3
  cases this
  exact Rel.tup (xs := [.int (i : Nat), v]) (es := [.int (i : Nat), z]) (R2.swap fun Hi h => .cons (.int _) h) rfl hT
def iN (t : TDA) : TDI := fun ρ P => t ρ fun r es => ∃ fs, es = [.tuple fs] ∧ P r (numD fs)
theorem si_numT {ta : TA} {t : TDA} (sa : SA K ta t) : SI K (iNumT K ta) (iN t) := by
  refine ⟨fun ρ P P' h q => sa.mono _ _ _ (fun _ es ⟨fs, e, q⟩ => ⟨fs, e, h _ _ q⟩) q, fun F σ H ρ vs ds Q R q => ?_⟩
  refine sa.run F σ H ρ vs ds _ R (sa.mono _ _ _ (fun r es q xs H1 e R1 => ?_) q)
  obtain ⟨fs, e1, q⟩ := q
  subst e1
  obtain ⟨x, xr, rfl, e2⟩ := len_cons e
  obtain rfl := len_nil e2
  obtain ⟨p, ys, rfl, e3, s, R2⟩ := Rel.asTup R1
  exact ⟨p, ys, rfl, s, q _ _ [.ref p] [.tuple fs] rfl walks_num R1⟩
/-! min, max, sorted of data; sum of a tuple -/
def cMinD : CD := fun es P => ∃ d ds, es = [.list (d :: ds)] ∧ PySem.W.AlikeAll (d :: ds) ∧ PyData.depthAll (d :: ds) ≤ 50 ∧ P (PySem.W.minD d ds)
theorem sc_minD : SC K (rMinD K) cMinD := ⟨fun a P P' h ⟨d, ds, e, h1, h2, q⟩ => ⟨d, ds, e, h1, h2, h _ q⟩, fun F σ H ρ vs ds xs es Q e R ⟨d, fs, h, h1, h2, q⟩ => by
  subst h
  obtain ⟨x, r, rfl, e1⟩ := len_cons e
  obtain rfl := len_nil e1
  obtain ⟨p, ys, rfl, e2, s, R1⟩ := Rel.asList R
  refine ⟨p, ys, d, fs, rfl, s, (dpAll_split e2 R1.dpAll).1, h1, h2, fun i v hv hd => ?_⟩
  obtain ⟨w, hw, R2⟩ := R1.pick e2 hd
  rw [hv] at hw
  cases hw
  exact q _ _ R2.drop2⟩
def cMaxD : CD := fun es P => ∃ d ds, es = [.list (d :: ds)] ∧ PySem.W.AlikeAll (d :: ds) ∧ PyData.depthAll (d :: ds) ≤ 50 ∧ P (PySem.W.maxD d ds)
theorem sc_maxD : SC K (rMaxD K) cMaxD := ⟨fun a P P' h ⟨d, ds, e, h1, h2, q⟩ => ⟨d, ds, e, h1, h2, h _ q⟩, fun F σ H ρ vs ds xs es Q e R ⟨d, fs, h, h1, h2, q⟩ => by
  subst h
  obtain ⟨x, r, rfl, e1⟩ := len_cons e
  obtain rfl := len_nil e1
  obtain ⟨p, ys, rfl, e2, s, R1⟩ := Rel.asList R
  refine ⟨p, ys, d, fs, rfl, s, (dpAll_split e2 R1.dpAll).1, h1, h2, fun i v hv hd => ?_⟩
  obtain ⟨w, hw, R2⟩ := R1.pick e2 hd
  rw [hv] at hw
  cases hw
  exact q _ _ R2.drop2⟩
def cSortD : CF := fun es P => ∃ ds, es = [.list ds] ∧ PySem.W.AllAlike ds ∧ PySem.W.Sortable ds ∧ PyData.depthAll ds ≤ 50 ∧ P (ds.mergeSort leD)
theorem scf_sortD : SCF K (rSortD K) cSortD := ⟨fun a P P' h ⟨ds, e, h1, h2, h3, q⟩ => ⟨ds, e, h1, h2, h3, h _ q⟩, fun F σ H ρ vs ds xs es Q e R ⟨fs, h, h1, h2, h3, q⟩ => by
  subst h
  obtain ⟨x, r, rfl, e1⟩ := len_cons e
  obtain rfl := len_nil e1
  obtain ⟨p, ys, rfl, e2, s, R1⟩ := Rel.asList R
  refine ⟨p, ys, fs, rfl, s, (dpAll_split e2 R1.dpAll).1, h1, h2, h3, fun zs l hz hd hl => q zs H l (by rw [(List.mergeSort_perm _ _).length_eq]; exact hz) (R1.swap fun Hi h => ?_) hl⟩
  obtain ⟨g1, g2⟩ := dpAll_split e2 h
  cases g2 with | cons _ g2 => exact dpAll_app (hd Hi g1) g2⟩
def cSumT : CD := fun es P => ∃ ns : List Int, es = [.tuple (ns.map PyData.int)] ∧ P (.int ns.sum)
theorem sc_sumT : SC K (rSumT K) cSumT := ⟨fun a P P' h ⟨bs, e, q⟩ => ⟨bs, e, h _ q⟩, fun F σ H ρ vs ds xs es Q e R ⟨bs, h, q⟩ => by
  subst h
  obtain ⟨x, r, rfl, e1⟩ := len_cons e
  obtain rfl := len_nil e1
  obtain ⟨p, ys, rfl, e2, s, R1⟩ := Rel.asTup R
  have ey := ints_of (K := K) bs ys (dpAll_split e2 R1.dpAll).1
  subst ey
  exact ⟨p, bs, rfl, s, q _ _ (Rel.push (v := .int bs.sum) (Rel.drop R) rfl)⟩⟩
/-! a tuple so many times -/
def oRepT : OD := fun a b P => ∃ es k, a = .tuple es ∧ b = .int k ∧ es ≠ [] ∧ 2 ≤ k ∧ k ≤ 1000 ∧ es.length ≤ 1000 ∧ P (.tuple (List.replicate k.toNat es).flatten)
theorem dpAll_rep {Hi : Hp} {xs : List V} {es : List D} (h : DpAll K Hi xs es) : ∀ n, DpAll K Hi (List.replicate n xs).flatten (List.replicate n es).flatten
  | 0 => .nil
  | n + 1 => by
    rw [List.replicate_succ, List.replicate_succ, List.flatten_cons, List.flatten_cons]
    exact dpAll_app h (dpAll_rep h n)
theorem so_repT : SO K (rRepT K) oRepT := by
  refine ⟨fun a b P P' h ⟨es, k, e1, e2, h1, h2, h3, h4, q⟩ => ⟨es, k, e1, e2, h1, h2, h3, h4, h _ q⟩, fun F σ H ρ vs ds x y a b Q R q => ?_⟩
  obtain ⟨es, k, e1, e2, h1, h2, h3, h4, q⟩ := q
  subst e1 e2
  obtain rfl := R.int
  obtain ⟨p, xs, rfl, e, s, R1⟩ := R.drop.asTup
  refine ⟨p, k, xs, rfl, rfl, s, fun z => h1 ?_, h2, h3, by rw [e]; exact h4, fun t ht => q _ _ ?_⟩
  · rw [z] at e
    exact List.length_eq_zero_iff.mp e.symm
  · have R2 : Rel K F σ H ρ ((List.replicate k.toNat xs).flatten ++ vs) ((List.replicate k.toNat es).flatten ++ ds) := R1.swap fun Hi h => by
      obtain ⟨g1, g2⟩ := dpAll_split e h
      cases g2 with | cons _ g2 => exact dpAll_app (dpAll_rep g1 _) g2
    exact R2.tup (by rw [List.length_flatten, List.length_flatten, List.map_replicate, List.map_replicate, e]) ht
/-! list(range(..)) -/
theorem rgV_dp {Hi : Hp} (i j : Int) : DpAll K Hi (rgV i j) (rngD i (j - i).toNat) := by
  unfold rgV rngD
  generalize List.range (j - i).toNat = l
  induction l with
  | nil => exact .nil
  | cons x l ih => exact .cons (.int _) ih
def dRg1 (a : TD) : TDA := fun ρ P => a ρ fun r d => ∃ n, d = .int n ∧ RgOk 0 n ∧ P r (rngD 0 n.toNat)
theorem sf_rg1 (sa : SE K ta a) : SF K (tLstRg (tRg1 ta)) (dRg1 a) := by
  refine ⟨fun ρ P P' h q => sa.mono _ _ _ (fun _ x ⟨n, e, h1, q⟩ => ⟨n, e, h1, h _ _ q⟩) q, fun F σ H ρ vs ds Q R q => ?_⟩
  refine sa.run F σ H ρ vs ds _ R (sa.mono _ _ _ (fun r x q v H1 R1 => ?_) q)
  obtain ⟨n, e, h1, q⟩ := q
  subst e
  obtain rfl := R1.int
  refine ⟨n, rfl, h1, fun p hp => q _ _ _ ?_ (R1.drop.swap fun Hi h => ?_) hp⟩
  · rw [rgV_length, rngD_len, Int.sub_zero]
  · have := rgV_dp (K := K) (Hi := Hi) 0 n
    rw [Int.sub_zero] at this
    exact dpAll_app this h
def dRg2 (a b : TD) : TDA := fun ρ P => a ρ fun r x => b r fun r2 y => ∃ i j, x = .int i ∧ y = .int j ∧ RgOk i j ∧ P r2 (rngD i (j - i).toNat)
theorem sf_rg2 (sa : SE K ta a) (sb : SE K tb b) : SF K (tLstRg (tRg2 ta tb)) (dRg2 a b) := by
  refine ⟨fun ρ P P' h q => sa.mono _ _ _ (fun _ x q => sb.mono _ _ _ (fun _ y ⟨i, j, e, e2, h1, q⟩ => ⟨i, j, e, e2, h1, h _ _ q⟩) q) q, fun F σ H ρ vs ds Q R q => ?_⟩
  refine sa.run F σ H ρ vs ds _ R (sa.mono _ _ _ (fun r x q v H1 R1 => ?_) q)
  refine sb.run F σ H1 r _ _ _ R1 (sb.mono _ _ _ (fun r2 y q u H2 R2 => ?_) q)
  obtain ⟨i, j, e, e2, h1, q3⟩ := q
  subst e e2
  have ej := R2.int
  have ei := R2.drop.int
  subst ei ej
  refine ⟨i, j, rfl, rfl, h1, fun p hp => q3 _ _ _ ?_ (R2.drop.drop.swap fun Hi h => dpAll_app (rgV_dp i j) h) hp⟩
  rw [rgV_length, rngD_len]
end
/-! a whole def in which the text of data is asked -/
section
variable {P : Program} {w : World} {K : PySem.W.Frag} {mg : Str → Option Value} {base : Heap}
theorem ok_Q {x qual : Str} {st : Stmt} {f : Addr} {fd : FuncData} {N ps : List Str} {k : Nat} {g : CD} (F : Fun K x qual st f fd) (S : FnScope N ps (defScope st)) (hl : ∀ ds P, g ds P → ds.length = ps.length)
    (hbody : ∀ (cdv : Value) (A : Around) (outer : List Env) (s : Shared) (H : Hp) (E : XK), (A.deeper (PyProof.Rows.envOfC qual (defScope st) s.heap.objs.size f cdv)).guards = some [] → Room k (A.deeper (PyProof.Rows.envOfC qual (defScope st) s.heap.objs.size f cdv)) →
      ∃ ts t, PSs (cxOf CX0 P w K mg base N qual (defScope st) f cdv A outer s H E).nox (defBody st) ts ∧ SS K ts t ∧ ∀ ds Pd, g ds Pd → t { nx := fun _ => Pd .none, rt := fun _ d => Pd d } (rho0 ds (N.length - ds.length))) : FnQ P w K mg base CX0 (k + 1) f fd ps (spD K g) := by
  refine okQ F S (fun vs H Q E h => ?_) (fun cdv A outer s H vs Q E hgd hr h => ?_)
  · obtain ⟨Hi, ds, _, h2, hg⟩ := h
    rw [dpAll_len h2]
    exact hl _ _ hg
  · obtain ⟨ts, t, h1, h2, h3⟩ := hbody cdv A outer s H E hgd hr
    obtain ⟨Hi, ds, e1, e2, hg⟩ := h
    exact ⟨ts, h1, run_D h2 e1 e2 (fun d q => q) (h3 ds _ hg)⟩
end
end LD

/-! LD14: what the draws promise; facts that more than one law asks. -/
namespace LD
open PySem PySem.Spec L2
def g_any : CD := fun ds P => ∃ m : Int, ds = [.int m] ∧ 0 < m ∧ m.natAbs.log2 < 9000 ∧ ∀ x, 0 ≤ x → x < m → P (.int x)
theorem g_any_mono : ∀ es P P', (∀ d, P d → P' d) → g_any es P → g_any es P' := fun es P P' h ⟨m, e, h1, h2, q⟩ => ⟨m, e, h1, h2, fun x a b => h _ (q x a b)⟩
def g_of : CD := fun ds P => ∃ es : List D, ds = [.list es] ∧ es ≠ [] ∧ es.length ≤ 1000000 ∧ ∀ d ∈ es, P d
theorem g_of_mono : ∀ es P P', (∀ d, P d → P' d) → g_of es P → g_of es P' := fun es P P' h ⟨m, e, h1, h2, q⟩ => ⟨m, e, h1, h2, fun x a => h _ (q x a)⟩
def g_draw : List D → Prop := fun ds => ∃ (ns : List Int) (s : Int), ds = [.list (ns.map PyData.int), .int s] ∧ ns.length ≤ 63 ∧ 0 ≤ s ∧ s < 1000
theorem fm_map {α β γ : Type} {g : α → β} {h : β → Option γ} {k : α → γ} (hk : ∀ x, h (g x) = some (k x)) : ∀ xs : List α, (xs.map g).filterMap h = xs.map k
  | [] => rfl
  | x :: xs => by rw [List.map_cons, List.filterMap_cons_some (hk x), fm_map hk xs, List.map_cons]
theorem cut48 (ns : List Int) : ∃ ms : List Int, cutD (ns.map PyData.int) none (some 48) = ms.map PyData.int ∧ ms.length ≤ 48 := by
  refine ⟨ns.take 48, ?_, List.length_take_le ..⟩
  unfold cutD
  rw [HT.sIx_none, List.drop_zero, Nat.sub_zero, List.length_map, List.map_take]
  rw [show HT.sIx ns.length ns.length (some 48) = min 48 ns.length from HT.sIx_nat ns.length ns.length 48]
  by_cases h : 48 ≤ ns.length
  · rw [Nat.min_eq_left h]
  · rw [Nat.min_eq_right (by omega), List.take_of_length_le (by rw [List.length_map]; omega), List.take_of_length_le (by rw [List.length_map]; omega)]
/-! ### the source of draws, on the heap -/
structure DX (H H' : Hp) (a l : Addr) (ns : List Int) (b : Int) : Prop where
  keep : ∀ c o, H c = some o → c ≠ a → c ≠ l → H' c = some o
  dom : ∀ c, H c ≠ none → H' c ≠ none
  nal : a ≠ l
  at_a : H' a = some (.lst [.ref l, .int b])
  at_l : H' l = some (.lst (ns.map V.int))
theorem DX.new {H H' : Hp} {a l p : Addr} {o : HO} {ns : List Int} {b : Int} (d : DX H H' a l ns b) (hp : H' p = none) : DX H (upd H' p o) a l ns b :=
  ⟨fun c x e n1 n2 => same_upd hp c x (d.keep c x e n1 n2), fun c e => by
    cases q : H' c with
    | none => exact absurd q (d.dom c e)
    | some x => rw [same_upd hp c x q]; simp, d.nal, same_upd hp _ _ d.at_a, same_upd hp _ _ d.at_l⟩
theorem DX.setL {H H' : Hp} {a l : Addr} {ns ms : List Int} {b : Int} (d : DX H H' a l ns b) : DX H (upd H' l (.lst (ms.map V.int))) a l ms b :=
  ⟨fun c x e n1 n2 => by rw [upd_ne n2]; exact d.keep c x e n1 n2, fun c e => by
    by_cases hc : c = l
    · rw [hc, upd_same]; simp
    · rw [upd_ne hc]; exact d.dom c e, d.nal, by rw [upd_ne d.nal]; exact d.at_a, upd_same⟩
theorem DX.setA {H H' : Hp} {a l : Addr} {ns : List Int} {b c : Int} (d : DX H H' a l ns b) : DX H (upd H' a (.lst [.ref l, .int c])) a l ns c :=
  ⟨fun c x e n1 n2 => by rw [upd_ne n1]; exact d.keep c x e n1 n2, fun c e => by
    by_cases hc : c = a
    · rw [hc, upd_same]; simp
    · rw [upd_ne hc]; exact d.dom c e, d.nal, upd_same, by rw [upd_ne (Ne.symm d.nal)]; exact d.at_l⟩
theorem canLay_ints : ∀ ns : List Int, PyData.canLayAll0 (ns.map PyData.int) = true
  | [] => rfl
  | n :: ns => by
    rw [List.map_cons]
    simp only [PyData.canLayAll0, PyData.canLay0, canLay_ints ns, Bool.and_self]
theorem depth_ints : ∀ ns : List Int, PyData.depthAll (ns.map PyData.int) = 0
  | [] => rfl
  | n :: ns => by
    rw [List.map_cons]
    simp only [PyData.depthAll, PyData.depth, depth_ints ns, Nat.max_self]
theorem sh_ints (ns : List Int) : SeqAt.shaped (.list (ns.map PyData.int)) = true := by
  unfold SeqAt.shaped
  simp only [PyData.canLay0, PyData.depth, canLay_ints, depth_ints]
  rfl
theorem eqv_nil (ns : List Int) : PyData.eqv (.list (ns.map PyData.int)) (.list []) = ns.isEmpty := by
  cases ns with
  | nil => simp [PyData.eqv, PyData.eqvAll]
  | cons x xs => simp [PyData.eqv, PyData.eqvAll]
theorem snoc_or (ns : List Int) : ns = [] ∨ ∃ ms z, ns = ms ++ [z] := by
  cases ns with
  | nil => exact .inl rfl
  | cons x xs => exact .inr ⟨(x :: xs).dropLast, (x :: xs).getLast (List.cons_ne_nil _ _), (List.dropLast_concat_getLast _).symm⟩
def rngI (lo : Int) (n : Nat) : List Int := (List.range n).map fun (k : Nat) => lo + (k : Int)
theorem rngD_I (lo : Int) (n : Nat) : rngD lo n = (rngI lo n).map PyData.int := by
  unfold rngD rngI
  rw [List.map_map]
  rfl
theorem small_log {n : Int} (h1 : -(2 ^ 200) < n) (h2 : n < 2 ^ 200) : n.natAbs.log2 < 1920 := Nat.lt_trans (PySem.Flt.log2_lt_of (k := 200) (by decide) (by omega)) (by decide)
theorem ints_all {p : Int → Prop} : ∀ {ys : List D}, (∀ y ∈ ys, ∃ i : Int, y = .int i ∧ p i) → ∃ ns : List Int, ys = ns.map PyData.int ∧ ∀ n ∈ ns, p n
  | [], _ => ⟨[], rfl, fun _ h => by cases h⟩
  | y :: ys, h => by
    obtain ⟨i, rfl, q⟩ := h y List.mem_cons_self
    obtain ⟨ns, rfl, q2⟩ := ints_all fun z hz => h z (List.mem_cons_of_mem _ hz)
    refine ⟨i :: ns, rfl, fun n hn => ?_⟩
    rcases List.mem_cons.mp hn with e | hn
    · rw [e]; exact q
    · exact q2 n hn
/-- what stands ready for the draws -/
structure TB (K : PySem.W.Frag) (mg : Str → Option Value) : Prop where
  b_int : mg "int" = none
  b_abs : mg "abs" = none
  b_len : mg "len" = none
structure TA (P : Program) (w : World) (K : PySem.W.Frag) (mg : Str → Option Value) (base : Heap) : Prop extends TB K mg where
  d_law_any : C8.Cal P w K mg base 1 "_law_any" (spW K g_any) []
/-! texts that are short -/
structure RepOk (d : D) : Prop where
  show_ : d.showable = true
  flat : d.hasDict = false
  deep : d.depth ≤ 60
  len : d.shown.length ≤ sizeLine
def Mid (n : Int) : Prop := -999999999999 ≤ n ∧ n ≤ 999999999999
theorem rep_int {i : Int} (h : Mid i) : RepOk (.int i) := by
  have h1 := h.1
  have h2 := h.2
  refine ⟨?_, rfl, Nat.zero_le _, ?_⟩
  · simp only [PyData.showable, decide_eq_true_eq]
    exact small_log (by omega) (by omega)
  · exact Nat.le_trans (PyData.shown_int_le2 h1 h2) (by rw [sizeLine_eq]; decide)
theorem ints_show : ∀ {ns : List Int}, (∀ n ∈ ns, Mid n) → PyData.showableAll (ns.map PyData.int) = true ∧ PyData.hasDictAll (ns.map PyData.int) = false ∧ PyData.leavesShortAll 13 (ns.map PyData.int) = true ∧ PyData.bulkAll (ns.map PyData.int) = ns.length
  | [], _ => ⟨rfl, rfl, rfl, rfl⟩
  | n :: ns, h => by
    obtain ⟨a, b, c, d⟩ := ints_show fun m hm => h m (List.mem_cons_of_mem _ hm)
    have hn := h n List.mem_cons_self
    have r := rep_int hn
    have l := PyData.shown_int_le2 hn.1 hn.2
    rw [List.map_cons]
    refine ⟨?_, ?_, ?_, ?_⟩
    · simp only [PyData.showableAll, r.show_, a, Bool.and_self]
    · simp only [PyData.hasDictAll, r.flat, b, Bool.or_self]
    · simp only [PyData.leavesShortAll, PyData.leavesShort, c, Bool.and_true, decide_eq_true_eq]
      exact l
    · simp only [PyData.bulkAll, PyData.bulk, d, List.length_cons]
      omega
theorem rep_tup {ns : List Int} (h : ∀ n ∈ ns, Mid n) (hl : ns.length ≤ 1000000) : RepOk (.tuple (ns.map PyData.int)) := by
  obtain ⟨a, b, c, d⟩ := ints_show h
  refine ⟨?_, ?_, ?_, PyData.shown_fits_bulk (B := 13) (by decide) (by decide) ?_ ?_⟩
  · simp only [PyData.showable, a]
  · simp only [PyData.hasDict, b]
  · simp only [PyData.depth, depth_ints]
    omega
  · simp only [PyData.leavesShort, c]
  · simp only [PyData.bulk, d]
    omega
theorem eqv_bool (a b : Bool) : PyData.eqv (.bool a) (.bool b) = (a == b) := by
  cases a <;> cases b <;> simp [PyData.eqv]
end LD

namespace K19
open PySem PySem.Spec L2 LD
/-! ### the reckoning -/
def prodI (ns : List Int) : Int := ns.foldl (fun a b => a * b) 1
abbrev Pr := Int × Nat
def lexP (p q : Pr) : Bool := decide (p.1 < q.1 ∨ (p.1 = q.1 ∧ p.2 < q.2))
theorem lexP_iff {p q : Pr} : lexP p q = true ↔ (p.1 < q.1 ∨ (p.1 = q.1 ∧ p.2 < q.2)) := by unfold lexP; simp
theorem lexP_no {p q : Pr} : lexP p q = false ↔ ¬ (p.1 < q.1 ∨ (p.1 = q.1 ∧ p.2 < q.2)) := by unfold lexP; simp
def candP (ls sh : List Int) : List Pr := ((List.range sh.length).filter fun i => decide (1 < sh.getD i 0)).map fun i => (ls.getD i 0, i)
def minP (p : Pr) (ps : List Pr) : Pr := ps.foldl (fun a y => if lexP y a then y else a) p
def stepF (ls sh : List Int) : List Int := match candP ls sh with
  | [] => sh
  | p :: ps => sh.set (minP p ps).2 (sh.getD (minP p ps).2 0 - 1)
def leastF (ls : List Int) : Nat → List Int
  | 0 => ls
  | n + 1 => stepF ls (leastF ls n)
def takeF : List Pr → List Int → Int → List Int
  | [], sh, _ => sh
  | (l, i) :: r, sh, left => takeF r (sh.set i (l - if l - 1 < left then l - 1 else left)) (left - if l - 1 < left then l - 1 else left)
def pairsP (ls : List Int) : List Pr := (List.range ls.length).map fun i => (ls.getD i 0, i)
def sortP (ls : List Int) : List Pr := (pairsP ls).mergeSort fun p q => !lexP q p
def stepBy (ps : List Pr) (sh : List Int) : List Int := match ps.find? fun p => decide (1 < sh.getD p.2 0) with
  | none => sh
  | some p => sh.set p.2 (sh.getD p.2 0 - 1)
theorem getD_set_ne {sh : List Int} {i j : Nat} {v : Int} (h : i ≠ j) : (sh.set i v).getD j 0 = sh.getD j 0 := by
  rw [List.getD_eq_getElem?_getD, List.getElem?_set_ne h, ← List.getD_eq_getElem?_getD]
theorem getD_set_eq {sh : List Int} {i : Nat} {v : Int} (h : i < sh.length) : (sh.set i v).getD i 0 = v := by
  rw [List.getD_eq_getElem?_getD, List.getElem?_set_self h]
  rfl
structure Fit (ps : List Pr) (sh : List Int) : Prop where
  nodup : (ps.map Prod.snd).Nodup
  at_ : ∀ p ∈ ps, sh.getD p.2 0 = p.1 ∧ 1 ≤ p.1 ∧ p.2 < sh.length
theorem Fit.tail {l : Int} {i : Nat} {r : List Pr} {sh : List Int} {v : Int} (F : Fit ((l, i) :: r) sh) : Fit r (sh.set i v) := by
  have h := List.nodup_cons.mp F.nodup
  refine ⟨h.2, fun p hp => ?_⟩
  have hi : i ≠ p.2 := fun e => h.1 (by rw [e]; exact List.mem_map.mpr ⟨p, hp, rfl⟩)
  obtain ⟨a, b, c⟩ := F.at_ p (List.mem_cons_of_mem _ hp)
  rw [getD_set_ne hi, List.length_set]
  exact ⟨a, b, c⟩
theorem take_zero : ∀ {ps : List Pr} {sh : List Int}, Fit ps sh → takeF ps sh 0 = sh
  | [], _, _ => rfl
  | (l, i) :: r, sh, F => by
    obtain ⟨a, b, c⟩ := F.at_ (l, i) List.mem_cons_self
    have e : (if l - 1 < 0 then l - 1 else 0) = (0 : Int) := if_neg (by omega)
    have e2 : sh.set i l = sh := by
      refine List.ext_getElem? fun j => ?_
      by_cases hj : i = j
      · subst hj
        rw [List.getElem?_set_self c, List.getElem?_eq_getElem c]
        rw [List.getD_eq_getElem?_getD, List.getElem?_eq_getElem c] at a
        exact congrArg some a.symm
      · rw [List.getElem?_set_ne hj]
    show takeF r (sh.set i (l - if l - 1 < 0 then l - 1 else 0)) (0 - if l - 1 < 0 then l - 1 else 0) = sh
    rw [e, Int.sub_zero, Int.sub_zero]
    have := take_zero (F.tail (v := l))
    rw [e2] at this ⊢
    exact this
theorem take_len : ∀ {ps : List Pr} {sh : List Int} {d : Int}, (takeF ps sh d).length = sh.length
  | [], _, _ => rfl
  | (l, i) :: r, sh, d => by
    unfold takeF
    rw [take_len, List.length_set]
theorem take_off : ∀ {ps : List Pr} {sh : List Int} {d : Int} {j : Nat}, j ∉ ps.map Prod.snd → (takeF ps sh d).getD j 0 = sh.getD j 0
  | [], _, _, _, _ => rfl
  | (l, i) :: r, sh, d, j, h => by
    unfold takeF
    have hi : i ≠ j := fun e => h (by rw [← e]; exact List.mem_cons_self)
    rw [take_off fun z => h (List.mem_cons_of_mem _ z), getD_set_ne hi]
theorem set_set (sh : List Int) (i : Nat) (u v : Int) : (sh.set i u).set i v = sh.set i v := List.set_set ..
theorem take_step : ∀ {ps : List Pr} {sh : List Int} {d : Int}, 0 ≤ d → Fit ps sh → takeF ps sh (d + 1) = stepBy ps (takeF ps sh d)
  | [], _, _, _, _ => rfl
  | (l, i) :: r, sh, d, hd, F => by
    obtain ⟨a, b, c⟩ := F.at_ (l, i) List.mem_cons_self
    have hn := List.nodup_cons.mp F.nodup
    show takeF r (sh.set i (l - if l - 1 < d + 1 then l - 1 else d + 1)) (d + 1 - if l - 1 < d + 1 then l - 1 else d + 1) = stepBy ((l, i) :: r) (takeF r (sh.set i (l - if l - 1 < d then l - 1 else d)) (d - if l - 1 < d then l - 1 else d))
    by_cases h : d < l - 1
    · have e1 : (if l - 1 < d + 1 then l - 1 else d + 1) = d + 1 := if_neg (by omega)
      have e2 : (if l - 1 < d then l - 1 else d) = d := if_neg (by omega)
      rw [e1, e2, Int.sub_self, Int.sub_self, take_zero F.tail, take_zero F.tail]
      unfold stepBy
      have g : (sh.set i (l - d)).getD i 0 = l - d := getD_set_eq c
      rw [List.find?_cons_of_pos (by rw [g]; exact decide_eq_true (by omega))]
      show _ = (sh.set i (l - d)).set i ((sh.set i (l - d)).getD i 0 - 1)
      rw [g, set_set]
      congr 1
      omega
    · have e1 : (if l - 1 < d + 1 then l - 1 else d + 1) = l - 1 := if_pos (by omega)
      have e2 : (if l - 1 < d then l - 1 else d) = l - 1 := by
        by_cases z : l - 1 < d
        · exact if_pos z
        · rw [if_neg z]; omega
      rw [e1, e2, show d + 1 - (l - 1) = (d - (l - 1)) + 1 by omega, take_step (by omega) F.tail]
      unfold stepBy
      have g : (takeF r (sh.set i (l - (l - 1))) (d - (l - 1))).getD i 0 = l - (l - 1) := by
        rw [take_off hn.1, getD_set_eq c]
      rw [List.find?_cons_of_neg (by rw [g]; simp; omega)]
theorem mem_pairs {ls : List Int} {p : Pr} : p ∈ pairsP ls ↔ p.2 < ls.length ∧ p.1 = ls.getD p.2 0 := by
  unfold pairsP
  rw [List.mem_map]
  constructor
  · rintro ⟨i, hi, rfl⟩
    exact ⟨List.mem_range.mp hi, rfl⟩
  · rintro ⟨h1, h2⟩
    exact ⟨p.2, List.mem_range.mpr h1, Prod.ext h2.symm rfl⟩
theorem sort_mem {ls : List Int} {p : Pr} : p ∈ sortP ls ↔ p.2 < ls.length ∧ p.1 = ls.getD p.2 0 := by
  rw [← mem_pairs]
  exact (List.mergeSort_perm _ _).mem_iff
theorem sort_fit {ls : List Int} (h1 : ∀ l ∈ ls, 1 ≤ l) : Fit (sortP ls) ls := by
  refine ⟨?_, fun p hp => ?_⟩
  · have hp : (sortP ls).map Prod.snd |>.Perm ((pairsP ls).map Prod.snd) := (List.mergeSort_perm _ _).map _
    rw [hp.nodup_iff]
    unfold pairsP
    rw [List.map_map]
    have : (Prod.snd ∘ fun i => (ls.getD i 0, i)) = (fun i : Nat => i) := rfl
    rw [this, List.map_id']
    exact List.nodup_range
  · obtain ⟨a, b⟩ := sort_mem.mp hp
    refine ⟨b.symm, ?_, a⟩
    rw [b, List.getD_eq_getElem?_getD, List.getElem?_eq_getElem a]
    exact h1 _ (List.getElem_mem a)
theorem sort_pw (ls : List Int) : (sortP ls).Pairwise fun p q => lexP q p = false := by
  have := List.pairwise_mergeSort (le := fun p q : Pr => !lexP q p) (fun a b c h1 h2 => ?_) (fun a b => ?_) (pairsP ls)
  · exact this.imp fun {a b} h => by simpa using h
  · simp only [Bool.not_eq_true', lexP_no] at h1 h2 ⊢
    omega
  · simp only [Bool.or_eq_true, Bool.not_eq_true', lexP_no]
    omega
theorem min_mem (p : Pr) : ∀ ps : List Pr, minP p ps ∈ p :: ps ∧ ∀ q ∈ p :: ps, lexP q (minP p ps) = false := by
  intro ps
  unfold minP
  induction ps generalizing p with
  | nil =>
    refine ⟨List.mem_cons_self, fun q hq => ?_⟩
    obtain rfl : q = p := by simpa using hq
    show lexP q q = false
    exact lexP_no.mpr (by omega)
  | cons y ys ih =>
    obtain ⟨a, b⟩ := ih (if lexP y p then y else p)
    rw [List.foldl_cons]
    generalize hm : ys.foldl (fun a y => if lexP y a then y else a) (if lexP y p then y else p) = m at a b
    by_cases h : lexP y p = true
    · rw [if_pos h] at a b
      refine ⟨List.mem_cons_of_mem _ a, fun q hq => ?_⟩
      rcases List.mem_cons.mp hq with e | hq
      · have h2 := lexP_iff.mp h
        have h3 := lexP_no.mp (b y List.mem_cons_self)
        rw [e]
        exact lexP_no.mpr (by omega)
      · exact b q hq
    · rw [if_neg h] at a b
      refine ⟨?_, fun q hq => ?_⟩
      · rcases List.mem_cons.mp a with e | a
        · rw [e]; exact List.mem_cons_self
        · exact List.mem_cons_of_mem _ (List.mem_cons_of_mem _ a)
      · rcases List.mem_cons.mp hq with e | hq
        · rw [e]; exact b p List.mem_cons_self
        · rcases List.mem_cons.mp hq with e | hq
          · have h2 := lexP_no.mp (by simpa using h : lexP y p = false)
            have h3 := lexP_no.mp (b p List.mem_cons_self)
            rw [e]
            exact lexP_no.mpr (by omega)
          · exact b q (List.mem_cons_of_mem _ hq)
theorem mem_cand {ls sh : List Int} {q : Pr} : q ∈ candP ls sh ↔ q.2 < sh.length ∧ 1 < sh.getD q.2 0 ∧ q.1 = ls.getD q.2 0 := by
  unfold candP
  rw [List.mem_map]
  constructor
  · rintro ⟨i, hi, rfl⟩
    obtain ⟨a, b⟩ := List.mem_filter.mp hi
    exact ⟨List.mem_range.mp a, of_decide_eq_true b, rfl⟩
  · rintro ⟨h1, h2, h3⟩
    exact ⟨q.2, List.mem_filter.mpr ⟨List.mem_range.mpr h1, decide_eq_true h2⟩, Prod.ext h3.symm rfl⟩
theorem step_eq {ls sh : List Int} (hl : sh.length = ls.length) : stepBy (sortP ls) sh = stepF ls sh := by
  unfold stepBy
  cases hf : (sortP ls).find? fun p => decide (1 < sh.getD p.2 0) with
  | none =>
    have hn := List.find?_eq_none.mp hf
    have hc : candP ls sh = [] := List.eq_nil_iff_forall_not_mem.mpr fun q hq => by
      obtain ⟨a, b, c⟩ := mem_cand.mp hq
      exact hn q (sort_mem.mpr ⟨by omega, c⟩) (decide_eq_true b)
    unfold stepF
    rw [hc]
  | some p =>
    obtain ⟨hp, as, bs, hs, hbf⟩ := List.find?_eq_some_iff_append.mp hf
    have hp1 : 1 < sh.getD p.2 0 := of_decide_eq_true hp
    have pm : p ∈ sortP ls := by rw [hs]; simp
    obtain ⟨c1, c2⟩ := sort_mem.mp pm
    have pc : p ∈ candP ls sh := mem_cand.mpr ⟨by omega, hp1, c2⟩
    unfold stepF
    cases hc : candP ls sh with
    | nil => rw [hc] at pc; cases pc
    | cons x xs =>
      have e : minP x xs = p := by
        obtain ⟨m1, m2⟩ := min_mem x xs
        rw [← hc] at m1 m2
        obtain ⟨a, b, c⟩ := mem_cand.mp m1
        have mm : minP x xs ∈ sortP ls := sort_mem.mpr ⟨by omega, c⟩
        have h3 := lexP_no.mp (m2 p pc)
        rw [hs] at mm
        have pw := sort_pw ls
        rw [hs] at pw
        rcases List.mem_append.mp mm with z | z
        · have := hbf _ z
          rw [decide_eq_true b] at this
          cases this
        · rcases List.mem_cons.mp z with z | z
          · exact z
          · have h4 := lexP_no.mp ((List.pairwise_cons.mp (List.pairwise_append.mp pw).2.1).1 _ z)
            refine Prod.ext ?_ ?_ <;> omega
      show _ = sh.set (minP x xs).2 (sh.getD (minP x xs).2 0 - 1)
      rw [e]
theorem step_len (ls sh : List Int) : (stepF ls sh).length = sh.length := by
  unfold stepF
  split
  · rfl
  · rw [List.length_set]
theorem least_len (ls : List Int) : ∀ n, (leastF ls n).length = ls.length
  | 0 => rfl
  | n + 1 => by
    unfold leastF
    rw [step_len, least_len ls n]
theorem take_least {ls : List Int} (h1 : ∀ l ∈ ls, 1 ≤ l) : ∀ n : Nat, takeF (sortP ls) ls (n : Int) = leastF ls n
  | 0 => take_zero (sort_fit h1)
  | n + 1 => by
    rw [show ((n + 1 : Nat) : Int) = (n : Int) + 1 by omega, take_step (by omega) (sort_fit h1), take_least h1 n, step_eq (least_len ls n)]
    rfl
theorem least_two : ((List.range 12).all fun d => decide (prodI (leastF (List.replicate 10 2) d) = 2 ^ (10 - d))) = true := by decide +kernel
/-! sums, products -/
theorem prod_cons (x : Int) (xs : List Int) : prodI (x :: xs) = x * prodI xs := by
  have h : ∀ (ys : List Int) (a : Int), ys.foldl (fun a b => a * b) a = a * ys.foldl (fun a b => a * b) 1 := by
    intro ys
    induction ys with
    | nil => intro a; exact (Int.mul_one a).symm
    | cons y ys ih => intro a; rw [List.foldl_cons, List.foldl_cons, ih, ih (1 * y), Int.one_mul, Int.mul_assoc]
  unfold prodI
  rw [List.foldl_cons, h, Int.one_mul]
theorem prod_pos : ∀ {xs : List Int}, (∀ x ∈ xs, 1 ≤ x) → 1 ≤ prodI xs
  | [], _ => Int.le_refl _
  | x :: xs, h => by
    rw [prod_cons]
    have h1 := h x List.mem_cons_self
    have h2 := prod_pos fun y hy => h y (List.mem_cons_of_mem _ hy)
    have := Int.mul_le_mul h1 h2 (by omega) (by omega)
    omega
theorem prod_set : ∀ {xs : List Int} {i : Nat}, (∀ x ∈ xs, 1 ≤ x) → 1 ≤ xs.getD i 0 - 1 → prodI (xs.set i (xs.getD i 0 - 1)) ≤ prodI xs
  | [], _, _, h => Int.le_refl _
  | x :: xs, 0, h, h2 => by
    have e : (x :: xs).getD 0 0 = x := rfl
    rw [e] at h2 ⊢
    show prodI ((x - 1) :: xs) ≤ _
    rw [prod_cons, prod_cons]
    exact Int.mul_le_mul_of_nonneg_right (by omega) (by have := prod_pos fun y hy => h y (List.mem_cons_of_mem _ hy); omega)
  | x :: xs, i + 1, h, h2 => by
    have e : (x :: xs).getD (i + 1) 0 = xs.getD i 0 := rfl
    rw [e] at h2 ⊢
    show prodI (x :: xs.set i (xs.getD i 0 - 1)) ≤ _
    rw [prod_cons, prod_cons]
    have h1 := h x List.mem_cons_self
    exact Int.mul_le_mul_of_nonneg_left (prod_set (fun y hy => h y (List.mem_cons_of_mem _ hy)) h2) (by omega)
theorem sum_set : ∀ {xs : List Int} {i : Nat} {v : Int}, i < xs.length → (xs.set i v).sum = xs.sum - xs.getD i 0 + v
  | [], _, _, h => by cases h
  | x :: xs, 0, v, h => by
    show v + xs.sum = x + xs.sum - x + v
    omega
  | x :: xs, i + 1, v, h => by
    have e : (x :: xs).getD (i + 1) 0 = xs.getD i 0 := rfl
    rw [e]
    show x + (xs.set i v).sum = x + xs.sum - _ + v
    rw [sum_set (Nat.lt_of_succ_lt_succ h)]
    omega
theorem sum_ge : ∀ {xs : List Int}, (∀ x ∈ xs, 1 ≤ x) → (xs.length : Int) ≤ xs.sum
  | [], _ => Int.le_refl _
  | x :: xs, h => by
    have h1 := h x List.mem_cons_self
    have h2 := sum_ge fun y hy => h y (List.mem_cons_of_mem _ hy)
    show ((xs.length + 1 : Nat) : Int) ≤ x + xs.sum
    omega
theorem prod_one : ∀ {xs : List Int}, (∀ x ∈ xs, 1 ≤ x) → (prodI xs = 1 ↔ xs.sum = (xs.length : Int))
  | [], _ => ⟨fun _ => rfl, fun _ => rfl⟩
  | x :: xs, h => by
    have h1 := h x List.mem_cons_self
    have ht : ∀ y ∈ xs, 1 ≤ y := fun y hy => h y (List.mem_cons_of_mem _ hy)
    have h2 := prod_pos ht
    have h3 := sum_ge ht
    have ih := prod_one ht
    rw [prod_cons]
    show _ ↔ x + xs.sum = ((xs.length + 1 : Nat) : Int)
    constructor
    · intro e
      have hx : x = 1 := by
        by_cases z : x = 1
        · exact z
        · have := Int.mul_le_mul (show (2 : Int) ≤ x by omega) h2 (by omega) (by omega)
          omega
      rw [hx, Int.one_mul] at e
      have := ih.mp e
      omega
    · intro e
      have hx : x = 1 := by omega
      rw [hx, Int.one_mul]
      exact ih.mpr (by omega)
structure Low (ls sh : List Int) : Prop where
  len : sh.length = ls.length
  one : ∀ x ∈ sh, 1 ≤ x
theorem getD_mem {xs : List Int} {i : Nat} (h : i < xs.length) : xs.getD i 0 ∈ xs := by
  rw [List.getD_eq_getElem?_getD, List.getElem?_eq_getElem h]
  exact List.getElem_mem h
theorem step_low {ls sh : List Int} (L : Low ls sh) : Low ls (stepF ls sh) ∧ prodI (stepF ls sh) ≤ prodI sh ∧ ((stepF ls sh).sum = sh.sum - 1 ∧ (ls.length : Int) < sh.sum ∨ (stepF ls sh).sum = sh.sum ∧ sh.sum = (ls.length : Int)) := by
  unfold stepF
  cases hc : candP ls sh with
  | nil =>
    refine ⟨L, Int.le_refl _, .inr ⟨rfl, ?_⟩⟩
    have h1 : ∀ x ∈ sh, x = 1 := fun x hx => by
      obtain ⟨i, hi, e⟩ := List.getElem_of_mem hx
      have h2 := L.one x hx
      have h3 : ¬ 1 < sh.getD i 0 := fun z => by
        have : ((ls.getD i 0, i) : Pr) ∈ candP ls sh := mem_cand.mpr ⟨hi, z, rfl⟩
        rw [hc] at this
        cases this
      rw [List.getD_eq_getElem?_getD, List.getElem?_eq_getElem hi] at h3
      have : ¬ 1 < sh[i] := h3
      omega
    have : ∀ ys : List Int, (∀ x ∈ ys, x = 1) → ys.sum = (ys.length : Int) := by
      intro ys
      induction ys with
      | nil => intro _; rfl
      | cons y ys ih =>
        intro h
        have e := ih fun z hz => h z (List.mem_cons_of_mem _ hz)
        have e2 := h y List.mem_cons_self
        show y + ys.sum = ((ys.length + 1 : Nat) : Int)
        omega
    rw [this sh h1, L.len]
  | cons p ps =>
    obtain ⟨m1, _⟩ := min_mem p ps
    rw [← hc] at m1
    obtain ⟨a, b, _⟩ := mem_cand.mp m1
    show Low ls (sh.set (minP p ps).2 (sh.getD (minP p ps).2 0 - 1)) ∧ prodI (sh.set (minP p ps).2 (sh.getD (minP p ps).2 0 - 1)) ≤ prodI sh ∧ ((sh.set (minP p ps).2 (sh.getD (minP p ps).2 0 - 1)).sum = sh.sum - 1 ∧ (ls.length : Int) < sh.sum ∨ (sh.set (minP p ps).2 (sh.getD (minP p ps).2 0 - 1)).sum = sh.sum ∧ sh.sum = (ls.length : Int))
    have lo : ∀ x ∈ sh.set (minP p ps).2 (sh.getD (minP p ps).2 0 - 1), 1 ≤ x := fun x hx => by
      rcases List.mem_or_eq_of_mem_set hx with z | z
      · exact L.one x z
      · omega
    have es : (sh.set (minP p ps).2 (sh.getD (minP p ps).2 0 - 1)).sum = sh.sum - 1 := by
      rw [sum_set a]
      omega
    refine ⟨⟨by rw [List.length_set]; exact L.len, lo⟩, prod_set L.one (by omega), .inl ⟨es, ?_⟩⟩
    have := sum_ge lo
    rw [es, List.length_set, L.len] at this
    omega
theorem least_low {ls : List Int} (h1 : ∀ l ∈ ls, 1 ≤ l) : ∀ n : Nat, Low ls (leastF ls n) ∧ ((leastF ls n).sum = ls.sum - n ∨ (leastF ls n).sum = (ls.length : Int) ∧ ls.sum - n ≤ (ls.length : Int))
  | 0 => ⟨⟨rfl, h1⟩, .inl (by show ls.sum = ls.sum - ((0 : Nat) : Int); omega)⟩
  | n + 1 => by
    obtain ⟨L, e⟩ := least_low h1 n
    obtain ⟨L2, _, e2⟩ := step_low L
    have lo := sum_ge L2.one
    rw [L2.len] at lo
    refine ⟨L2, ?_⟩
    show (stepF ls (leastF ls n)).sum = _ ∨ (stepF ls (leastF ls n)).sum = _ ∧ _
    omega
theorem least_prod {ls : List Int} (h1 : ∀ l ∈ ls, 1 ≤ l) (n : Nat) : 1 ≤ prodI (leastF ls n) ∧ prodI (leastF ls (n + 1)) ≤ prodI (leastF ls n) ∧ (prodI (leastF ls n) = 1 ↔ ls.sum - (ls.length : Int) ≤ n) := by
  obtain ⟨L, e⟩ := least_low h1 n
  refine ⟨prod_pos L.one, (step_low L).2.1, ?_⟩
  rw [prod_one L.one, L.len]
  have lo := sum_ge L.one
  rw [L.len] at lo
  omega
/-! the least product, for few lists that are short -/
def chooseF (rows : List (List Int)) : List (List Int) := rows.foldl (fun found row => found.foldl (fun later c => later ++ row.map fun x => c ++ [x]) []) [[]]
def rowsOf (ls : List Int) : List (List Int) := ls.map fun l => rngI 1 (l + 1 - 1).toNat
def lists1 : List (List Int) := [1, 2, 3, 4, 5].map fun a => [a]
def lists2 : List (List Int) := lists1.flatMap fun l => [1, 2, 3, 4, 5].map fun a => a :: l
def lists3 : List (List Int) := lists2.flatMap fun l => [1, 2, 3, 4, 5].map fun a => a :: l
def okAt (ls : List Int) (s p : Int) : Bool := ((chooseF (rowsOf ls)).any fun c => decide (c.sum = s ∧ prodI c = p)) && (chooseF (rowsOf ls)).all fun c => decide (c.sum = s → p ≤ prodI c)
def okL (ls : List Int) : Bool := (List.range 17).all fun d => okAt ls (leastF ls d).sum (prodI (leastF ls d))
set_option maxHeartbeats 4000000 in
theorem ok1 : (lists1.all okL) = true := by decide +kernel
set_option maxHeartbeats 4000000 in
theorem ok2 : (lists2.all okL) = true := by decide +kernel
set_option maxHeartbeats 40000000 in
theorem ok3 : (lists3.all okL) = true := by decide +kernel
theorem five {a : Int} (h1 : 1 ≤ a) (h2 : a ≤ 5) : a ∈ ([1, 2, 3, 4, 5] : List Int) := by
  simp only [List.mem_cons, List.not_mem_nil, or_false]
  omega
theorem ok_all : ∀ {ls : List Int}, ls ≠ [] → ls.length ≤ 3 → (∀ l ∈ ls, 1 ≤ l ∧ l ≤ 5) → okL ls = true
  | [], h, _, _ => absurd rfl h
  | [a], _, _, h => List.all_eq_true.mp ok1 _ (List.mem_map.mpr ⟨a, five (h a (by simp)).1 (h a (by simp)).2, rfl⟩)
  | [b, a], _, _, h => List.all_eq_true.mp ok2 _ (List.mem_flatMap.mpr ⟨[a], List.mem_map.mpr ⟨a, five (h a (by simp)).1 (h a (by simp)).2, rfl⟩, List.mem_map.mpr ⟨b, five (h b (by simp)).1 (h b (by simp)).2, rfl⟩⟩)
  | [c, b, a], _, _, h => List.all_eq_true.mp ok3 _ (List.mem_flatMap.mpr ⟨[b, a], List.mem_flatMap.mpr ⟨[a], List.mem_map.mpr ⟨a, five (h a (by simp)).1 (h a (by simp)).2, rfl⟩, List.mem_map.mpr ⟨b, five (h b (by simp)).1 (h b (by simp)).2, rfl⟩⟩, List.mem_map.mpr ⟨c, five (h c (by simp)).1 (h c (by simp)).2, rfl⟩⟩)
  | _ :: _ :: _ :: _ :: _, _, h, _ => absurd h (by simp)
theorem least_is {ls : List Int} {d : Nat} (h1 : ls ≠ []) (h2 : ls.length ≤ 3) (h3 : ∀ l ∈ ls, 1 ≤ l ∧ l ≤ 5) (hd : d < 17) : okAt ls (leastF ls d).sum (prodI (leastF ls d)) = true := List.all_eq_true.mp (ok_all h1 h2 h3) d (List.mem_range.mpr hd)
end K19

namespace K19
open PySem PySem.Spec L2 LD
def topS (i : Nat) : Stmt := PySem.Challenge.pw_listpicks_k19_least_products.main.body.getD i (.Pass ⟨0, 0, 0, 0⟩)
abbrev s_product_of : Stmt := topS 1
abbrev N_product_of : List Str := ["numbers", "found", "number"]
theorem sc_product_of : FnScope N_product_of ["numbers"] (defScope s_product_of) := ⟨rfl, rfl, rfl, by decide +kernel, rfl, by decide +kernel, by decide +kernel⟩
abbrev s_least_shape : Stmt := topS 3
abbrev N_least_shape : List Str := ["lengths", "d", "shape", "left", "length", "at", "taken", "place", "many"]
theorem sc_least_shape : FnScope N_least_shape ["lengths", "d"] (defScope s_least_shape) := ⟨rfl, rfl, rfl, by decide +kernel, rfl, by decide +kernel, by decide +kernel⟩
abbrev s_least_picks : Stmt := topS 4
abbrev N_least_picks : List Str := ["lengths", "d"]
theorem sc_least_picks : FnScope N_least_picks ["lengths", "d"] (defScope s_least_picks) := ⟨rfl, rfl, rfl, by decide +kernel, rfl, by decide +kernel, by decide +kernel⟩
abbrev s_law_draw : Stmt := topS 6
abbrev N_law_draw : List Str := ["script", "salt", "cells", "blend", "cell"]
theorem sc_law_draw : FnScope N_law_draw ["script", "salt"] (defScope s_law_draw) := ⟨rfl, rfl, rfl, by decide +kernel, rfl, by decide +kernel, by decide +kernel⟩
abbrev s_law_any : Stmt := topS 7
abbrev N_law_any : List Str := ["deal", "bound", "rest"]
theorem sc_law_any : FnScope N_law_any ["deal", "bound"] (defScope s_law_any) := ⟨rfl, rfl, rfl, by decide +kernel, rfl, by decide +kernel, by decide +kernel⟩
abbrev s_law_of : Stmt := topS 8
abbrev N_law_of : List Str := ["deal", "some"]
theorem sc_law_of : FnScope N_law_of ["deal", "some"] (defScope s_law_of) := ⟨rfl, rfl, rfl, by decide +kernel, rfl, by decide +kernel, by decide +kernel⟩
abbrev s_law_choices : Stmt := topS 9
abbrev N_law_choices : List Str := ["lists", "found", "row", "later", "choice", "one"]
theorem sc_law_choices : FnScope N_law_choices ["lists"] (defScope s_law_choices) := ⟨rfl, rfl, rfl, by decide +kernel, rfl, by decide +kernel, by decide +kernel⟩
abbrev s_law_product : Stmt := topS 10
abbrev N_law_product : List Str := ["numbers", "found", "number"]
theorem sc_law_product : FnScope N_law_product ["numbers"] (defScope s_law_product) := ⟨rfl, rfl, rfl, by decide +kernel, rfl, by decide +kernel, by decide +kernel⟩
abbrev s_law_least : Stmt := topS 11
abbrev N_law_least : List Str := ["lengths", "d", "found", "step", "some", "at", "one"]
theorem sc_law_least : FnScope N_law_least ["lengths", "d"] (defScope s_law_least) := ⟨rfl, rfl, rfl, by decide +kernel, rfl, by decide +kernel, by decide +kernel⟩
abbrev s_law : Stmt := topS 12
abbrev N_law : List Str := ["script", "deal", "turn", "two", "many", "lengths", "d", "due", "told", "some", "at", "one", "length"]
theorem sc_law : FnScope N_law ["script"] (defScope s_law) := ⟨rfl, rfl, rfl, by decide +kernel, rfl, by decide +kernel, by decide +kernel⟩

def g_product_of : CD := fun ds P => ∃ ns : List Int, ds = [.tuple (ns.map PyData.int)] ∧ ns.length ≤ 40 ∧ (∀ n ∈ ns, n.natAbs < 2 ^ 20) ∧ P (.int (prodI ns))
theorem g_product_of_mono : ∀ es P P', (∀ d, P d → P' d) → g_product_of es P → g_product_of es P' := fun es P P' h ⟨ns, e, h1, h2, q⟩ => ⟨ns, e, h1, h2, h _ q⟩
def Okl (ls : List Int) : Prop := ls.length ≤ 20 ∧ ∀ l ∈ ls, 1 ≤ l ∧ l ≤ 1000
def g_least_shape : CD := fun ds P => ∃ (ls : List Int) (d : Nat), ds = [.tuple (ls.map PyData.int), .int d] ∧ Okl ls ∧ d ≤ 100000 ∧ P (.tuple ((leastF ls d).map PyData.int))
theorem g_least_shape_mono : ∀ es P P', (∀ d, P d → P' d) → g_least_shape es P → g_least_shape es P' := fun es P P' h ⟨ns, d, e, h1, h2, q⟩ => ⟨ns, d, e, h1, h2, h _ q⟩
def g_least_picks : CD := fun ds P => ∃ (ls : List Int) (d : Nat), ds = [.tuple (ls.map PyData.int), .int d] ∧ Okl ls ∧ d ≤ 100000 ∧ P (.int (prodI (leastF ls d)))
theorem g_least_picks_mono : ∀ es P P', (∀ d, P d → P' d) → g_least_picks es P → g_least_picks es P' := fun es P P' h ⟨ns, d, e, h1, h2, q⟩ => ⟨ns, d, e, h1, h2, h _ q⟩
def g_law_product : CD := g_product_of
theorem g_law_product_mono : ∀ es P P', (∀ d, P d → P' d) → g_law_product es P → g_law_product es P' := g_product_of_mono
def g_law_least : CD := g_least_shape
theorem g_law_least_mono : ∀ es P P', (∀ d, P d → P' d) → g_law_least es P → g_law_least es P' := g_least_shape_mono
def tupI (c : List Int) : D := .tuple (c.map PyData.int)
def lstI (c : List Int) : D := .list (c.map PyData.int)
def g_law_choices : CD := fun ds P => ∃ rows : List (List Int), ds = [.list (rows.map lstI)] ∧ rows.length ≤ 100 ∧ (∀ r ∈ rows, r.length ≤ 1000) ∧ (∀ k, (chooseF (rows.take k)).length ≤ 1000) ∧ P (.list ((chooseF rows).map tupI))
theorem g_law_choices_mono : ∀ es P P', (∀ d, P d → P' d) → g_law_choices es P → g_law_choices es P' := fun es P P' h ⟨ns, e, h1, h2, h3, q⟩ => ⟨ns, e, h1, h2, h3, h _ q⟩
def g_law : CD := fun ds P => ∃ ns : List Int, ds = [.list (ns.map PyData.int)] ∧ ns.length ≤ 63 ∧ P (.bool true)
structure TX (K : PySem.W.Frag) (mg : Str → Option Value) : Prop extends TB K mg where
  b_list : mg "list" = none
  b_tuple : mg "tuple" = none
  b_sorted : mg "sorted" = none
  b_enumerate : mg "enumerate" = none
  b_min : mg "min" = none
  b_sum : mg "sum" = none
  b_range : mg "range" = none
  b_repr : mg "repr" = none
section
variable {P : Program} {w : World} {K : PySem.W.Frag} {mg : Str → Option Value} {base : Heap}
theorem ok_law_of {f : Addr} {fd : FuncData} (F : Fun K "_law_of" "_law_of" s_law_of f fd) (T : TA P w K mg base) : FnOk P w K mg base CX0 2 f fd ["deal", "some"] (spW K g_of) := by
  refine ok_W F sc_law_of (fun ds P ⟨es, e, _⟩ => by rw [e]; rfl) (by decide) (fun cdv A outer s H E hr => ⟨_, _, (pss_one (ps_ret (pe_ix ix_list (pv 1) (C8.pe_c T.d_law_any hr (by decide) (by rfl) (pa_cons (pv 0) (pa_cons (pe_callB call_len_seq (by rfl) T.b_len (by decide +kernel) (pa_cons (pv 1) pa_nil)) pa_nil))) (fun _ _ => rfl)))), (ss_ret (se_op so_ixL (se_var 1) (se_callW (i := 0) g_any_mono (sa_cons (se_cb sc_len (sa_cons (se_var 1) sa_nil)) sa_nil)))), fun a l ds Pd h => ?_⟩)
  obtain ⟨es, rfl, hne, hl, q⟩ := h
  have pos : 0 < es.length := List.length_pos_iff.mpr hne
  refine ⟨_, rfl, ⟨a, l, rfl⟩, _, rfl, es, .inl rfl, ⟨a, l, rfl⟩, es.length, rfl, by omega, ?_, fun x x0 x1 => ?_⟩
  · have : (es.length : Int).natAbs < 2 ^ 20 := by omega
    exact Nat.lt_trans (PySem.Flt.log2_lt_of (by decide) this) (by decide)
  · have hx : x.toNat < es.length := by omega
    refine ⟨es, x, es[x.toNat], rfl, rfl, ?_, rfl, q _ (List.getElem_mem hx)⟩
    have e := atI_nat (xs := es) (j := x.toNat) (List.getElem?_eq_getElem hx)
    rw [Int.toNat_of_nonneg x0] at e
    exact e
theorem ok_law_draw {f : Addr} {fd : FuncData} (F : Fun K "_law_draw" "_law_draw" s_law_draw f fd) (T : TB K mg) : FnOk P w K mg base CX0 1 f fd ["script", "salt"] (spM K g_draw) := by
  refine ok_M F sc_law_draw (fun ds ⟨ns, s, e, _⟩ => by rw [e]; rfl) (fun cdv A outer s H E hr => ⟨_, _, (pss_cons (ps_setLc (i := 2) (own := [("cell", 4)]) (g := (gName 4)) (tt := tYes) rfl sc_law_draw.nd rfl rfl (sw_true rfl rfl rfl (by decide +kernel)) (pi_list (pe_slice sl_list (pv 0) po_none (po_some pe_int))) (blkOk_by (N := N_law_draw) (sc := defScope s_law_draw) (own := [("cell", 4)]) (by decide +kernel)) (fun _ _ _ _ _ => (pg_name (i := 4) sc_law_draw.nd rfl (by first | exact Or.inl rfl | exact Or.inr rfl))) (fun _ _ _ _ _ => pts_nil) (fun _ _ _ _ _ => (pe_callB call_abs (by rfl) T.b_abs (by decide +kernel) (pa_cons (pe_callTy call_int1 (by rfl) T.b_int (by decide +kernel) (pa_cons (pv 4) pa_nil)) pa_nil))))
      (pss_cons (ps_set (i := 3) sc_law_draw.nd rfl (by first | exact Or.inl rfl | exact Or.inr rfl) (pe_op op_add pe_int (pe_op op_mulW pe_int (pv 1))))
      (pss_cons (ps_for PassesOwn.never rfl (pi_list (pv 2)) (pg_name (i := 4) sc_law_draw.nd rfl (by first | exact Or.inl rfl | exact Or.inr rfl)) (pss_one (ps_set (i := 3) sc_law_draw.nd rfl (by first | exact Or.inl rfl | exact Or.inr rfl) (pe_op op_mod (pe_callTy call_int1 (by rfl) T.b_int (by decide +kernel) (pa_cons (pe_op op_add (pe_op op_add (pe_op op_mulW (pv 3) pe_int) (pe_op op_mod (pv 4) pe_int)) pe_int) pa_nil)) pe_int))))
      (pss_one (ps_ret (pe_lst (pa_cons (pe_revL (pe_lc (own := [("cell", 4)]) (g := (gName 4)) (tt := _) rfl sc_law_draw.nd (pi_list (pv 2)) (blkOk_by (N := N_law_draw) (sc := defScope s_law_draw) (own := [("cell", 4)]) (by decide +kernel)) (fun _ _ _ _ _ => (pg_name (i := 4) sc_law_draw.nd rfl (by first | exact Or.inl rfl | exact Or.inr rfl))) (fun _ _ _ _ _ => (pts_one (pt_cmpR op_ge (pv 4) (pe_op op_pow pe_int pe_int) (nomark _)))) (fun _ _ _ _ _ => (pv 4)))) (pa_cons (pv 3) pa_nil)))))))), (ss_cons (ss_fgt [4] (ss_asg (se_sh (sf_lc (js := [4]) (si_list (se_sh (sf_slL (se_var 0) sop_none (sop_some se_c)))) (sg_name 4) st_yes (se_cb sc_abs (sa_cons (se_cb sc_int (sa_cons (se_var 4) sa_nil)) sa_nil)))) (sg_name 2)))
      (ss_cons (ss_asg (se_op so_rI0 se_c (se_op so_rI se_c (se_var 1))) (sg_name 3))
      (ss_cons (ss_for (si_list (se_var 2)) (sg_name 4) (ss_asg (se_op so_rI (se_cb sc_int (sa_cons (se_op so_rI0 (se_op so_rI0 (se_op so_rI (se_var 3) se_c) (se_op so_rI (se_var 4) se_c)) se_c) sa_nil)) se_c) (sg_name 3)))
      (ss_fgt [4] (ss_retM (sf_revL (se_sh (sf_lc (js := [4]) (si_list (se_var 2)) (sg_name 4) (st_test (se_op so_rI0 (se_var 4) (se_op so_rI se_c se_c))) (se_var 4)))) (se_var 3)))))), fun ds h => ?_⟩)
  obtain ⟨ns, s, rfl, hl, s0, s1⟩ := h
  obtain ⟨ms, em, hm⟩ := cut48 ns
  have hms : ∀ k ∈ ms.map (fun k : Int => if k < 0 then -k else k), 0 ≤ k := fun k hk => by
    obtain ⟨z, _, rfl⟩ := List.mem_map.mp hk
    show 0 ≤ if z < 0 then -z else z
    split <;> omega
  refine ⟨_, rfl, _, rfl, _, rfl, _, congrArg PyData.list em, ?_⟩
  refine ⟨by rw [List.length_map, sizeLine_eq]; omega, fun j hj => by
    obtain rfl : j = 4 := by simpa using hj
    rfl, ?_⟩
  refine compW_det (oInt fun k => some (PyData.int (if k < 0 then -k else k))) (fun d hd k hk => ?_) ?_
  · obtain ⟨z, rfl, _⟩ := mem_int hd
    refine ⟨(by show 4 < 5; decide), _, rfl, z, rfl, z, rfl, ?_⟩
    exact hk _ rfl
  rw [List.nil_append, fm_oInt, fm_some]
  refine ⟨(by show 2 < 5; decide), ?_⟩
  -- blend = 7919 + 104729 * salt
  refine ⟨_, rfl, _, _, rfl, rfl, ?_, _, _, rfl, rfl, (by show 3 < 5; decide), ?_⟩
  · show CMulW _ _
    exact wide_mul (a := 20) (b := 20) (by omega) (by omega) (by decide) (by decide) (by decide)
  -- for cell in cells
  refine ⟨_, rfl, _, rfl, fun i r => ∃ (b : Int) (x : DV), r = [.sh (.list (ns.map PyData.int)), .sh (.int s), .sh (.list ((ms.map fun k => if k < 0 then -k else k).map PyData.int)), .sh (.int b), x] ∧ 0 ≤ b ∧ b < 2147483647, ⟨_, _, rfl, by show (0 : Int) ≤ 7919 + 104729 * s; omega, by show 7919 + 104729 * s < (2147483647 : Int); omega⟩, fun i d r hd hI => ?_, fun r hI => ?_⟩
  · obtain ⟨b, x, rfl, b0, b2⟩ := hI
    obtain ⟨z, rfl, _⟩ := mem_int (List.mem_of_getElem? hd)
    refine ⟨(by show 4 < 5; decide), _, rfl, _, _, rfl, rfl, ?_, _, rfl, _, _, rfl, rfl, (by show (0 : Int) < 2147483549; decide), _, _, rfl, rfl, _, _, rfl, rfl, _, rfl, _, _, rfl, rfl, (by show (0 : Int) < 2147483647; decide), (by show 3 < 5; decide), ?_⟩
    · show CMulW b 48271
      have hb : b.natAbs < 2 ^ 40 := by omega
      exact wide_mul (a := 40) (b := 20) hb (by decide) (by decide) (by decide) (by decide)
    · exact ⟨_, _, rfl, Int.emod_nonneg _ (by decide), Int.emod_lt_of_pos _ (by decide)⟩
  · obtain ⟨b, x, rfl, b0, b2⟩ := hI
    refine ⟨_, rfl, _, rfl, ?_⟩
    generalize hcs : ms.map (fun k : Int => if k < 0 then -k else k) = cs at *
    have hcl : cs.length ≤ 48 := by rw [← hcs, List.length_map]; exact hm
    refine ⟨by rw [List.length_map, sizeLine_eq]; omega, fun j hj => by
      obtain rfl : j = 4 := by simpa using hj
      rfl, ?_⟩
    refine compW_det (oInt fun k => if decide ((10 : Int) ^ 18 ≤ k) = true then some (PyData.int k) else none) (fun d hd k hk => ?_) ?_
    · obtain ⟨z, rfl, _⟩ := mem_int hd
      refine ⟨(by show 4 < 5; decide), _, rfl, _, _, rfl, rfl, ⟨by decide, by decide, by decide⟩, _, _, rfl, rfl, _, rfl, ?_⟩
      by_cases h : (10 : Int) ^ 18 ≤ z
      · refine ifT (decide_eq_true h) ⟨_, rfl, ?_⟩
        have := hk ([.sh (.list (ns.map PyData.int)), .sh (.int s), .sh (.list (cs.map PyData.int)), .sh (.int b), .sh (.int z)]) rfl
        rw [show oInt (fun k => if decide ((10 : Int) ^ 18 ≤ k) = true then some (PyData.int k) else none) (.int z) = some (.int z) from if_pos (decide_eq_true h)] at this
        exact this
      · refine ifF (decide_eq_false h) ?_
        have := hk ([.sh (.list (ns.map PyData.int)), .sh (.int s), .sh (.list (cs.map PyData.int)), .sh (.int b), .sh (.int z)]) rfl
        rw [show oInt (fun k => if decide ((10 : Int) ^ 18 ≤ k) = true then some (PyData.int k) else none) (.int z) = none from if_neg (by rw [decide_eq_false h]; decide)] at this
        exact this
    · rw [List.nil_append, fm_oInt, fm_if]
      refine ⟨_, rfl, _, rfl, (cs.filter fun k => decide ((10 : Int) ^ 18 ≤ k)).reverse, b, by rw [List.map_reverse], rfl, ⟨fun n hn => ?_, ?_, b0, b2⟩, trivial⟩
      · exact hms n (List.mem_filter.mp (List.mem_reverse.mp hn)).1
      · rw [List.length_reverse]
        exact Nat.le_trans (List.length_filter_le ..) hcl
theorem ok_law_any {f : Addr} {fd : FuncData} (F : Fun K "_law_any" "_law_any" s_law_any f fd) (T : TB K mg) : FnOk P w K mg base CX0 1 f fd ["deal", "bound"] (spW K g_any) := by
  refine F.ok sc_law_any (fun vs H Q E h => ?_) (fun cdv A outer s H vs Q E hr h => ?_)
  · obtain ⟨Hi, a, l, vs', ds, rfl, _, _, _, _, _, h2, m, e, _⟩ := h
    subst e
    rw [List.length_cons, dpAll_len h2]
    rfl
  · obtain ⟨Hi, a, l, vs', ds, rfl, nal, hs, ha, hl, ⟨ns, b, ok, ea, el⟩, hv, m, e, m0, m1, q⟩ := h
    subst e
    have ev : vs' = [.int m] := ints_of (K := K) [m] vs' hv
    subst ev
    have ps : Int → Prop := fun _ => True
    refine ⟨_, pss_cons (ps_while PassesOwn.never (PW.pt (pw_and (pt_cmpR (op_neD hr.units) (pe_ix ix_list (pv 0) pe_int (fun _ _ => rfl)) (pe_lst pa_nil) (nomark _)) (pw_and1 (pt_cmpR (op_eqD hr.units) (pe_ix ix_list (pe_ix ix_list (pv 0) pe_int (fun _ _ => rfl)) (pe_un un_neg pe_int) (fun _ _ => rfl)) pe_int (nomark _)))))
        (pss_one (ps_expr (pe_bm0 PySem.F.plainAttrs_list PySem.F.slot_list_pop PySem.F.type_list_pop mt_pop (pe_ix ix_list (pv 0) pe_int (fun _ _ => rfl))))))
      (pss_cons (ps_if (pt_cmpR (op_neD hr.units) (pe_ix ix_list (pv 0) pe_int (fun _ _ => rfl)) (pe_lst pa_nil) (nomark _))
        (pss_cons (ps_set (i := 2) sc_law_any.nd rfl (by first | exact Or.inl rfl | exact Or.inr rfl) (pe_callTy call_int1 (by rfl) T.b_int (by decide +kernel) (pa_cons (pe_bm0 PySem.F.plainAttrs_list PySem.F.slot_list_pop PySem.F.type_list_pop mt_pop (pe_ix ix_list (pv 0) pe_int (fun _ _ => rfl))) pa_nil)))
        (pss_cons (ps_expr (pe_bm PySem.F.plainAttrs_list PySem.F.slot_list_append PySem.F.type_list_append mt_append (pe_ix ix_list (pv 0) pe_int (fun _ _ => rfl)) (pa_cons (pe_op op_fdivW (pv 2) (pv 1)) pa_nil)))
        (pss_one (ps_ret (pe_op op_mod (pv 2) (pv 1)))))) pss_nil)
      (pss_cons (ps_asg (pe_op op_mod (pe_callTy call_int1 (by rfl) T.b_int (by decide +kernel) (pa_cons (pe_op op_add (pe_op op_mulW (pe_ix ix_list (pv 0) pe_int (fun _ _ => rfl)) pe_int) pe_int) pa_nil)) pe_int) (pg_sub (pv 0) pe_int set_list))
      (pss_one (ps_ret (pe_op op_mod (pe_callTy call_int1 (by rfl) T.b_int (by decide +kernel) (pa_cons (pe_op op_fdivW (pe_ix ix_list (pv 0) pe_int (fun _ _ => rfl)) pe_int) pa_nil)) (pv 1)))))), ?_⟩
    -- what is wanted at a return
    have fin : ∀ (x : Int) (H' : Hp) (ns' : List Int) (b' : Int), 0 ≤ x → x < m → DX H H' a l ns' b' → DealOk ns' b' → Q (.int x) H' := fun x H' ns' b' x0 x1 d k =>
      q x x0 x1 (.int x) H' Hi (Same.refl _) (fun c o e => d.keep c o (hs c o e) (fun z => by rw [z, ha] at e; cases e) (fun z => by rw [z, hl] at e; cases e)) d.keep d.dom (fun c hc => .inl hc) ⟨ns', b', k, d.at_a, d.at_l⟩ (.int x)
    have at0 : ∀ {H' : Hp} {ns' : List Int} {b' : Int}, atI [V.ref l, .int b'] 0 = some (.ref l) := rfl
    have dpl : ∀ {H' : Hp} {ns' : List Int} {b' : Int}, DX H H' a l ns' b' → Dp K H' (.ref l) (.list (ns'.map PyData.int)) := fun d => .lst (.inl (.inl d.at_l)) (dpAll_ints _)
    have tst : ∀ (Q2 : Bool → Hp → Prop) (H' : Hp) (ns' : List Int), DX H H' a l ns' b → (∀ b2 H2, DX H H2 a l ns' b → (b2 = true → ∃ ms, ns' = ms ++ [0]) → Q2 b2 H2) →
        (tAnd (tTest (tOp (rNeD K) (tOp (rIxL K) (tVar 0) (tC (.int 0))) (tLst tNil))) (tTest (tOp (rEqD K) (tOp (rIxL K) (tOp (rIxL K) (tVar 0) (tC (.int 0))) (tUn (rU fun i => .int (-i)) (tC (.int 1)))) (tC (.int 0))))) [some (.ref a), some (.int m), none] H' Q2 := by
      intro Q2 H' ns' d k
      refine ⟨.ref a, rfl, a, _, 0, .ref l, rfl, rfl, SqL.of d.at_a, rfl, Nat.zero_le _, fun p hp => ?_⟩
      have d1 : DX H (upd H' p (.lst [])) a l ns' b := d.new hp
      refine ⟨_, .list [], dpl d1, .lst (.inl (.inl upd_same)) .nil, sh_ints _, rfl, _, rfl, ?_⟩
      rcases snoc_or ns' with e | ⟨ms, z, e⟩
      · subst e
        exact ifF (by rw [eqv_nil]; rfl) (k false _ d1 fun h => by cases h)
      · subst e
        refine ifT (by rw [eqv_nil]; simp) ?_
        refine ⟨.ref a, rfl, a, _, 0, .ref l, rfl, rfl, SqL.of d1.at_a, rfl, 1, rfl, l, _, -1, .int z, rfl, rfl, SqL.of d1.at_l, (by rw [List.map_append]; exact atI_last _ _), .int z, .int 0, .int z, .int 0, rfl, rfl, _, rfl, k _ _ d1 fun h => ⟨ms, ?_⟩⟩
        rw [eqv_int] at h
        rw [of_decide_eq_true h]
    refine ⟨fun k σ H' => σ = [some (.ref a), some (.int m), none] ∧ ∃ ns', k = ns'.length ∧ DX H H' a l ns' b ∧ DealOk ns' b, ⟨ns.length, rfl, ns, rfl, ⟨fun c o e _ _ => e, fun c e => e, nal, ea, el⟩, ok⟩, fun k σ H' hW => ?_⟩
    obtain ⟨rfl, ns', rfl, d, k'⟩ := hW
    refine tst _ H' ns' d fun b2 H2 d2 hb => ?_
    cases b2 with
    | true =>
      obtain ⟨ms, rfl⟩ := hb rfl
      refine ⟨fun σ' H' => σ' = [some (.ref a), some (.int m), none] ∧ DX H H' a l ms b ∧ DealOk ms b, fun σ' H' h' => ⟨ms.length, by rw [List.length_append]; exact Nat.lt_succ_self _, h'.1, ms, rfl, h'.2⟩, ?_⟩
      refine ⟨.ref a, rfl, a, _, 0, .ref l, rfl, rfl, SqL.of d2.at_a, rfl, .inl ⟨rfl, _, SqL.of d2.at_l⟩, l, _, .int 0, rfl, rfl, d2.at_l, by simp, rfl, ?_, ⟨fun n hn => k'.pos n (List.mem_append_left _ hn), ?_, k'.lo, k'.hi⟩⟩
      · rw [List.map_append, List.map_singleton, List.dropLast_concat]
        exact d2.setL
      · have := k'.few
        rw [List.length_append] at this
        exact Nat.le_of_succ_le this
    | false =>
      -- if deal[0] != []
      refine ⟨.ref a, rfl, a, _, 0, .ref l, rfl, rfl, SqL.of d2.at_a, rfl, Nat.zero_le _, fun p hp => ?_⟩
      have d3 : DX H (upd H2 p (.lst [])) a l ns' b := d2.new hp
      refine ⟨_, .list [], dpl d3, .lst (.inl (.inl upd_same)) .nil, sh_ints _, rfl, _, rfl, ?_⟩
      rcases snoc_or ns' with e | ⟨ms, z, e⟩
      · subst e
        refine ifF (by rw [eqv_nil]; rfl) ?_
        have hb : b.natAbs < 2 ^ 40 := by
          have h1 := k'.lo
          have h2 := k'.hi
          omega
        refine ⟨.ref a, rfl, a, _, 1, .int b, rfl, rfl, SqL.of d3.at_a, rfl, b, 40693, rfl, rfl, wide_mul (a := 40) (b := 20) hb (by decide) (by decide) (by decide) (by decide), _, _, rfl, rfl, .inl ⟨_, rfl, _, _, rfl, rfl, (by show (0 : Int) < 2147483647; decide), .ref a, rfl, a, _, 1, 1, rfl, rfl, d3.at_a, rfl, ?_⟩⟩
        have d4 := d3.setA (c := (b * 40693 + 71) % 2147483647)
        refine ⟨.ref a, rfl, a, _, 1, .int ((b * 40693 + 71) % 2147483647), rfl, rfl, SqL.of d4.at_a, rfl, _, _, rfl, rfl, ⟨by decide, by decide⟩, .inl ⟨_, rfl, .int m, rfl, _, _, rfl, rfl, m0, ?_⟩⟩
        exact fin _ _ [] _ (Int.emod_nonneg _ (by omega)) (Int.emod_lt_of_pos _ m0) d4 ⟨fun _ h => (by cases h), by decide, Int.emod_nonneg _ (by decide), Int.emod_lt_of_pos _ (by decide)⟩
      · subst e
        refine ifT (by rw [eqv_nil]; simp) ?_
        have hz : 0 ≤ z := k'.pos z (List.mem_append_right _ (by simp))
        refine ⟨.ref a, rfl, a, _, 0, .ref l, rfl, rfl, SqL.of d3.at_a, rfl, .inl ⟨rfl, _, SqL.of d3.at_l⟩, l, _, .int z, rfl, rfl, d3.at_l, by simp, .inl ⟨z, rfl, ?_⟩⟩
        rw [List.map_append, List.map_singleton, List.dropLast_concat]
        have d4 : DX H _ a l ms b := d3.setL
        refine ⟨.ref a, rfl, a, _, 0, .ref l, rfl, rfl, SqL.of d4.at_a, rfl, .inl ⟨rfl, _, SqL.of d4.at_l⟩, .int z, rfl, .int m, rfl, z, m, rfl, rfl, ⟨m0, m1⟩, l, _, .int (z / m), rfl, rfl, d4.at_l, ?_, .int z, rfl, .int m, rfl, z, m, rfl, rfl, m0, ?_⟩
        · have := k'.few
          rw [List.length_append] at this
          rw [List.length_map, sizeLine_eq]
          omega
        · have d5 := d4.setL (ms := ms ++ [z / m])
          rw [List.map_append, List.map_singleton] at d5
          refine fin _ _ (ms ++ [z / m]) b (Int.emod_nonneg _ (by omega)) (Int.emod_lt_of_pos _ m0) ?_ ⟨fun n hn => ?_, by rw [List.length_append]; have := k'.few; rw [List.length_append] at this; exact this, k'.lo, k'.hi⟩
          · exact d5
          · rcases List.mem_append.mp hn with hn | hn
            · exact k'.pos n (List.mem_append_left _ hn)
            · obtain rfl : n = z / m := by simpa using hn
              exact Int.ediv_nonneg hz (Int.le_of_lt m0)

theorem prod_take {ns : List Int} {i : Nat} {n : Int} (h : ns[i]? = some n) : prodI (ns.take (i + 1)) = prodI (ns.take i) * n := by
  rw [List.take_add_one, h]
  unfold prodI
  rw [List.foldl_append]
  rfl
theorem prod_abs {ns : List Int} (h : ∀ n ∈ ns, n.natAbs < 2 ^ 20) : ∀ i, (prodI (ns.take i)).natAbs ≤ 2 ^ (20 * i)
  | 0 => by rw [List.take_zero]; decide
  | i + 1 => by
    have ih := prod_abs h i
    cases hn : ns[i]? with
    | none =>
      rw [List.take_of_length_le (Nat.le_succ_of_le (List.getElem?_eq_none_iff.mp hn)), ← List.take_of_length_le (List.getElem?_eq_none_iff.mp hn)]
      exact Nat.le_trans ih (Nat.pow_le_pow_right (by decide) (by omega))
    | some n =>
      rw [prod_take hn, Int.natAbs_mul, show 20 * (i + 1) = 20 * i + 20 by omega, Nat.pow_add]
      exact Nat.mul_le_mul ih (Nat.le_of_lt (h n (List.mem_of_getElem? hn)))
theorem prod_small {ns : List Int} (h : ∀ n ∈ ns, n.natAbs < 2 ^ 20) (hl : ns.length ≤ 40) (i : Nat) : (prodI (ns.take i)).natAbs < 2 ^ 801 := by
  have h2 : (prodI (ns.take i)).natAbs ≤ 2 ^ 800 := by
    by_cases hi : i ≤ 40
    · exact Nat.le_trans (prod_abs h i) (Nat.pow_le_pow_right (by decide) (by omega))
    · rw [List.take_of_length_le (by omega), ← List.take_of_length_le hl]
      exact prod_abs h 40
  exact Nat.lt_of_le_of_lt h2 (Nat.pow_lt_pow_right (by decide) (by decide))
theorem ok_product_of {f : Addr} {fd : FuncData} (F : Fun K "product_of" "product_of" s_product_of f fd) : FnOk P w K mg base CX0 1 f fd ["numbers"] (spD K g_product_of) := by
  refine ok_D F sc_product_of (fun ds P ⟨ns, e, _⟩ => by rw [e]; rfl) (fun cdv A outer s H E hr => ⟨_, _, (pss_cons (ps_set (i := 1) sc_product_of.nd rfl (by first | exact Or.inl rfl | exact Or.inr rfl) pe_int)
      (pss_cons (ps_for PassesOwn.never rfl (pi_tup (pv 0)) (pg_name (i := 2) sc_product_of.nd rfl (by first | exact Or.inl rfl | exact Or.inr rfl)) (pss_one (ps_set (i := 1) sc_product_of.nd rfl (by first | exact Or.inl rfl | exact Or.inr rfl) (pe_op op_mulW (pv 1) (pv 2)))))
      (pss_one (ps_ret (pv 1))))), (ss_cons (ss_asg se_c (sg_name 1))
      (ss_cons (ss_for (si_tup (se_var 0)) (sg_name 2) (ss_asg (se_op so_rI (se_var 1) (se_var 2)) (sg_name 1)))
      (ss_ret (se_var 1)))), fun ds Pd h => ?_⟩)
  obtain ⟨ns, rfl, hl, hn, q⟩ := h
  refine ⟨(by show 1 < 3; decide), _, rfl, _, rfl, fun i r => ∃ x : DV, r = [.sh (.tuple (ns.map PyData.int)), .sh (.int (prodI (ns.take i))), x], ⟨_, rfl⟩, fun i d r hd hI => ?_, fun r hI => ?_⟩
  · obtain ⟨x, rfl⟩ := hI
    rw [List.getElem?_map] at hd
    cases hi : ns[i]? with
    | none => rw [hi] at hd; cases hd
    | some n =>
      rw [hi] at hd
      cases hd
      refine ⟨(by show 2 < 3; decide), _, rfl, _, rfl, _, _, rfl, rfl, wide_mul (a := 801) (b := 20) (prod_small hn hl i) (hn n (List.mem_of_getElem? hi)) (by decide) (by decide) (by decide), (by show 1 < 3; decide), .sh (.int n), ?_⟩
      rw [prod_take hi]
      rfl
  · obtain ⟨x, rfl⟩ := hI
    rw [List.length_map, List.take_length]
    exact ⟨_, rfl, q⟩
theorem ok_law_product {f : Addr} {fd : FuncData} (F : Fun K "_law_product" "_law_product" s_law_product f fd) : FnOk P w K mg base CX0 1 f fd ["numbers"] (spD K g_law_product) := by
  refine ok_D F sc_law_product (fun ds P ⟨ns, e, _⟩ => by rw [e]; rfl) (fun cdv A outer s H E hr => ⟨_, _, (pss_cons (ps_set (i := 1) sc_law_product.nd rfl (by first | exact Or.inl rfl | exact Or.inr rfl) pe_int)
      (pss_cons (ps_for PassesOwn.never rfl (pi_tup (pv 0)) (pg_name (i := 2) sc_law_product.nd rfl (by first | exact Or.inl rfl | exact Or.inr rfl)) (pss_one (ps_set (i := 1) sc_law_product.nd rfl (by first | exact Or.inl rfl | exact Or.inr rfl) (pe_op op_mulW (pv 1) (pv 2)))))
      (pss_one (ps_ret (pv 1))))), (ss_cons (ss_asg se_c (sg_name 1))
      (ss_cons (ss_for (si_tup (se_var 0)) (sg_name 2) (ss_asg (se_op so_rI (se_var 1) (se_var 2)) (sg_name 1)))
      (ss_ret (se_var 1)))), fun ds Pd h => ?_⟩)
  obtain ⟨ns, rfl, hl, hn, q⟩ := h
  refine ⟨(by show 1 < 3; decide), _, rfl, _, rfl, fun i r => ∃ x : DV, r = [.sh (.tuple (ns.map PyData.int)), .sh (.int (prodI (ns.take i))), x], ⟨_, rfl⟩, fun i d r hd hI => ?_, fun r hI => ?_⟩
  · obtain ⟨x, rfl⟩ := hI
    rw [List.getElem?_map] at hd
    cases hi : ns[i]? with
    | none => rw [hi] at hd; cases hd
    | some n =>
      rw [hi] at hd
      cases hd
      refine ⟨(by show 2 < 3; decide), _, rfl, _, rfl, _, _, rfl, rfl, wide_mul (a := 801) (b := 20) (prod_small hn hl i) (hn n (List.mem_of_getElem? hi)) (by decide) (by decide) (by decide), (by show 1 < 3; decide), .sh (.int n), ?_⟩
      rw [prod_take hi]
      rfl
  · obtain ⟨x, rfl⟩ := hI
    rw [List.length_map, List.take_length]
    exact ⟨_, rfl, q⟩
structure T2 (P : Program) (w : World) (K : PySem.W.Frag) (mg : Str → Option Value) (base : Heap) : Prop extends TX K mg where
  d_product_of : C8.Cal P w K mg base 1 "product_of" (spD K g_product_of) []
  d_least_shape : C8.Cal P w K mg base 1 "least_shape" (spD K g_least_shape) []
theorem step_le {ls sh : List Int} {b : Int} (h : ∀ x ∈ sh, x ≤ b) : ∀ x ∈ stepF ls sh, x ≤ b := by
  unfold stepF
  split
  · exact h
  · rename_i p ps hc
    intro x hx
    rcases List.mem_or_eq_of_mem_set hx with z | z
    · exact h x z
    · obtain ⟨m1, _⟩ := min_mem p ps
      rw [← hc] at m1
      obtain ⟨a, _, _⟩ := mem_cand.mp m1
      have := h _ (getD_mem a)
      omega
theorem least_le {ls : List Int} (h : Okl ls) : ∀ (d : Nat), ∀ x ∈ leastF ls d, 1 ≤ x ∧ x ≤ 1000
  | d => fun x hx => ⟨(least_low (fun l h2 => (h.2 l h2).1) d).1.one x hx, by
    have : ∀ d : Nat, ∀ x ∈ leastF ls d, x ≤ 1000 := by
      intro d
      induction d with
      | zero => exact fun x hx => (h.2 x hx).2
      | succ d ih => exact step_le ih
    exact this d x hx⟩
theorem ok_least_picks {f : Addr} {fd : FuncData} (F : Fun K "least_picks" "least_picks" s_least_picks f fd) (T : T2 P w K mg base) : FnOk P w K mg base CX0 2 f fd ["lengths", "d"] (spD K g_least_picks) := by
  refine ok_D F sc_least_picks (fun ds P ⟨ns, d, e, _⟩ => by rw [e]; rfl) (fun cdv A outer s H E hr => ⟨_, _, (pss_one (ps_ret (C8.pe_c T.d_product_of hr (by decide) (by rfl) (pa_cons (C8.pe_c T.d_least_shape hr (by decide) (by rfl) (pa_cons (pv 0) (pa_cons (pv 1) pa_nil))) pa_nil)))), (ss_ret (se_call g_product_of_mono (sa_cons (se_call g_least_shape_mono (sa_cons (se_var 0) (sa_cons (se_var 1) sa_nil))) sa_nil))), fun ds Pd h => ?_⟩)
  obtain ⟨ls, d, rfl, hl, hd, q⟩ := h
  have L := least_low (fun l h => (hl.2 l h).1) d
  refine ⟨_, rfl, _, rfl, ls, d, rfl, hl, hd, leastF ls d, rfl, ?_, ?_, q⟩
  · have := L.1.len
    have := hl.1
    omega
  · exact fun n hn => by
      have := least_le hl d n hn
      omega

def innerF (row : List Int) (cs : List (List Int)) : List (List Int) := cs.foldl (fun later c => later ++ row.map fun x => c ++ [x]) []
theorem inner_take {row : List Int} {cs : List (List Int)} {j : Nat} {c : List Int} (h : cs[j]? = some c) : innerF row (cs.take (j + 1)) = innerF row (cs.take j) ++ row.map fun x => c ++ [x] := by
  rw [List.take_add_one, h]
  unfold innerF
  rw [List.foldl_append]
  rfl
theorem inner_len (row : List Int) : ∀ cs : List (List Int), (innerF row cs).length = cs.length * row.length := by
  have : ∀ (cs acc : List (List Int)), (cs.foldl (fun later c => later ++ row.map fun x => c ++ [x]) acc).length = acc.length + cs.length * row.length := by
    intro cs
    induction cs with
    | nil => intro acc; simp
    | cons c cs ih =>
      intro acc
      rw [List.foldl_cons, ih, List.length_append, List.length_map, List.length_cons, Nat.succ_mul]
      omega
  intro cs
  have e := this cs []
  rw [List.length_nil, Nat.zero_add] at e
  exact e
theorem choose_take {rows : List (List Int)} {i : Nat} {row : List Int} (h : rows[i]? = some row) : chooseF (rows.take (i + 1)) = innerF row (chooseF (rows.take i)) := by
  rw [List.take_add_one, h]
  unfold chooseF innerF
  rw [List.foldl_append]
  rfl
theorem inner_mem {row : List Int} {x : List Int} : ∀ {cs : List (List Int)}, x ∈ innerF row cs → ∃ c ∈ cs, ∃ k ∈ row, x = c ++ [k] := by
  have : ∀ (cs acc : List (List Int)), x ∈ cs.foldl (fun later c => later ++ row.map fun x => c ++ [x]) acc → x ∈ acc ∨ ∃ c ∈ cs, ∃ k ∈ row, x = c ++ [k] := by
    intro cs
    induction cs with
    | nil => intro acc h; exact .inl h
    | cons c cs ih =>
      intro acc h
      rw [List.foldl_cons] at h
      rcases ih _ h with h | ⟨b, hb, k, hk, e⟩
      · rcases List.mem_append.mp h with h | h
        · exact .inl h
        · obtain ⟨k, hk, rfl⟩ := List.mem_map.mp h
          exact .inr ⟨c, List.mem_cons_self, k, hk, rfl⟩
      · exact .inr ⟨b, List.mem_cons_of_mem _ hb, k, hk, e⟩
  intro cs h
  rcases this cs [] h with h | h
  · cases h
  · exact h
theorem choose_len : ∀ {rows : List (List Int)} {c : List Int}, c ∈ chooseF rows → c.length = rows.length := by
  have : ∀ (rows found : List (List Int)) (n : Nat), (∀ c ∈ found, c.length = n) → ∀ c ∈ rows.foldl (fun found row => innerF row found) found, c.length = n + rows.length := by
    intro rows
    induction rows with
    | nil => intro found n h c hc; exact h c hc
    | cons row rows ih =>
      intro found n h c hc
      rw [List.foldl_cons] at hc
      have := ih _ (n + 1) (fun c hc => by
        obtain ⟨b, hb, k, _, rfl⟩ := inner_mem hc
        rw [List.length_append, h b hb]
        rfl) c hc
      rw [this, List.length_cons]
      omega
  intro rows c hc
  have := this rows [[]] 0 (fun c hc => by
    obtain rfl : c = [] := by simpa using hc
    rfl) c hc
  omega
theorem map_at {α : Type} {g : α → D} {xs : List α} {i : Nat} {d : D} (h : (xs.map g)[i]? = some d) : ∃ x, xs[i]? = some x ∧ d = g x := by
  rw [List.getElem?_map] at h
  cases hi : xs[i]? with
  | none => rw [hi] at h; cases h
  | some x =>
    rw [hi] at h
    exact ⟨x, rfl, (Option.some.inj h).symm⟩
theorem fm_to {α : Type} (F : Int → α) (g : α → D) : ∀ ns : List Int, (ns.map PyData.int).filterMap (oInt fun k => some (g (F k))) = (ns.map F).map g
  | [] => rfl
  | n :: ns => by
    rw [List.map_cons, List.filterMap_cons_some (f := oInt fun k => some (g (F k))) (a := PyData.int n) (b := g (F n)) rfl, fm_to F g ns]
    rfl
theorem ok_law_choices {f : Addr} {fd : FuncData} (F : Fun K "_law_choices" "_law_choices" s_law_choices f fd) : FnOk P w K mg base CX0 1 f fd ["lists"] (spD K g_law_choices) := by
  refine ok_D F sc_law_choices (fun ds P ⟨ns, e, _⟩ => by rw [e]; rfl) (fun cdv A outer s H E hr => ⟨_, _, (pss_cons (ps_set (i := 1) sc_law_choices.nd rfl (by first | exact Or.inl rfl | exact Or.inr rfl) (pe_lst (pa_cons (pe_tup pa_nil) pa_nil)))
      (pss_cons (ps_for PassesOwn.never rfl (pi_list (pv 0)) (pg_name (i := 2) sc_law_choices.nd rfl (by first | exact Or.inl rfl | exact Or.inr rfl)) (pss_cons (ps_set (i := 3) sc_law_choices.nd rfl (by first | exact Or.inl rfl | exact Or.inr rfl) (pe_lst pa_nil))
      (pss_cons (ps_for PassesOwn.never rfl (pi_list (pv 1)) (pg_name (i := 4) sc_law_choices.nd rfl (by first | exact Or.inl rfl | exact Or.inr rfl)) (pss_one (ps_set (i := 3) sc_law_choices.nd rfl (by first | exact Or.inl rfl | exact Or.inr rfl) (pe_op op_catL (pv 3) (pe_lc (own := [("one", 5)]) (g := (gName 5)) (tt := tYes) rfl sc_law_choices.nd (pi_list (pv 2)) (blkOk_by (N := N_law_choices) (sc := defScope s_law_choices) (own := [("one", 5)]) (by decide +kernel)) (fun _ _ _ _ _ => (pg_name (i := 5) sc_law_choices.nd rfl (by first | exact Or.inl rfl | exact Or.inr rfl))) (fun _ _ _ _ _ => pts_nil) (fun _ _ _ _ _ => (pe_op op_catA (pv 4) (pe_tup (pa_cons (pv 5) pa_nil)))))))))
      (pss_one (ps_set (i := 1) sc_law_choices.nd rfl (by first | exact Or.inl rfl | exact Or.inr rfl) (pv 3))))))
      (pss_one (ps_ret (pv 1))))), (ss_cons (ss_asg (se_sh (sf_lst (sa_cons (se_tup sa_nil) sa_nil))) (sg_name 1))
      (ss_cons (ss_for (si_list (se_var 0)) (sg_name 2) (ss_cons (ss_asg (se_sh (sf_lst sa_nil)) (sg_name 3))
      (ss_cons (ss_for (si_list (se_var 1)) (sg_name 4) (ss_asg (se_sh (sf_catL (se_var 3) (se_sh (sf_lc (js := [5]) (si_list (se_var 2)) (sg_name 5) st_yes (se_op so_catT (se_var 4) (se_tup (sa_cons (se_var 5) sa_nil))))))) (sg_name 3)))
      (ss_asg (se_var 3) (sg_name 1)))))
      (ss_ret (se_var 1)))), fun ds Pd h => ?_⟩)
  obtain ⟨rows, rfl, h1, h2, h3, q⟩ := h
  generalize hS : PyData.list (rows.map lstI) = S
  refine ⟨Nat.zero_le _, (by show 1 ≤ sizeLine; decide), (by show 1 < 6; decide), S, rfl, _, hS.symm, fun i r => ∃ x2 x3 x4 : DV, r = [.sh S, .sh (.list ((chooseF (rows.take i)).map tupI)), x2, x3, x4, .no], ⟨_, _, _, rfl⟩, fun i d r hd hI => ?_, fun r hI => ?_⟩
  · obtain ⟨x2, x3, x4, rfl⟩ := hI
    obtain ⟨row, hi, rfl⟩ := map_at hd
    have hl := h3 i
    have hr2 := h2 row (List.mem_of_getElem? hi)
    refine ⟨(by show 2 < 6; decide), Nat.zero_le _, (by show 3 < 6; decide), _, rfl, _, rfl, fun j r => ∃ x4 : DV, r = [.sh S, .sh (.list ((chooseF (rows.take i)).map tupI)), .sh (lstI row), .sh (.list ((innerF row ((chooseF (rows.take i)).take j)).map tupI)), x4, .no], ⟨_, rfl⟩, fun j d r hd hI => ?_, fun r hI => ?_⟩
    · obtain ⟨x4, rfl⟩ := hI
      obtain ⟨c, hc, rfl⟩ := map_at hd
      refine ⟨(by show 4 < 6; decide), _, rfl, _, rfl, _, rfl, by rw [List.length_map, sizeLine_eq]; omega, fun j hj => by
        obtain rfl : j = 5 := by simpa using hj
        rfl, ?_⟩
      refine compW_det (oInt fun k => some (tupI (c ++ [k]))) (fun d hd k hk => ?_) ?_
      · obtain ⟨z, rfl, _⟩ := mem_int hd
        refine ⟨(by show 5 < 6; decide), tupI c, rfl, .int z, rfl, (by show 1 ≤ sizeLine; decide), _, _, rfl, rfl, ?_, ?_⟩
        · have := choose_len (List.mem_of_getElem? hc)
          rw [List.length_take] at this
          rw [List.length_map, sizeLine_eq]
          show c.length + 1 ≤ _
          omega
        · have e : c.map PyData.int ++ [PyData.int z] = (c ++ [z]).map PyData.int := by rw [List.map_append]; rfl
          rw [e]
          refine hk _ ?_
          rfl
      · rw [List.nil_append, fm_to (fun k => c ++ [k]) tupI]
        refine ⟨_, _, rfl, rfl, ?_, (by show 3 < 6; decide), .sh (tupI c), ?_⟩
        · rw [List.length_map, List.length_map, List.length_map, inner_len, List.length_take, sizeLine_eq]
          have : min j (chooseF (rows.take i)).length * row.length ≤ 1000 * 1000 := Nat.mul_le_mul (by omega) hr2
          omega
        · rw [inner_take hc, List.map_append]
          rfl
    · obtain ⟨x4, rfl⟩ := hI
      refine ⟨_, rfl, (by show 1 < 6; decide), .sh (lstI row), .sh (.list ((innerF row (chooseF (rows.take i))).map tupI)), x4, ?_⟩
      rw [choose_take hi, List.length_map, List.take_length]
      rfl
  · obtain ⟨x2, x3, x4, rfl⟩ := hI
    rw [List.length_map, List.take_length]
    exact ⟨_, rfl, q⟩
theorem leastAt {ls : List Int} {i : Nat} (h : i < ls.length) : (ls.map PyData.int)[i]? = some (.int (ls.getD i 0)) := by
  rw [List.getElem?_map, List.getElem?_eq_getElem h, List.getD_eq_getElem?_getD, List.getElem?_eq_getElem h]
  rfl
theorem ixN_nat {n j : Nat} (h : j < n) : ixN n (j : Int) = some j := by
  unfold ixN
  rw [if_pos (by omega), if_pos (by omega)]
  rfl
def nsF (sh : List Int) : List Int := (rngI 0 sh.length).filter fun k => decide (1 < sh.getD k.toNat 0)
theorem cand_eq (ls sh : List Int) : candP ls sh = (nsF sh).map fun k => (ls.getD k.toNat 0, k.toNat) := by
  unfold candP nsF rngI
  rw [List.filter_map, List.map_map]
  have e1 : ((fun k : Int => decide (1 < sh.getD k.toNat 0)) ∘ fun k : Nat => 0 + (k : Int)) = fun i : Nat => decide (1 < sh.getD i 0) := by
    funext i
    show decide (1 < sh.getD (0 + (i : Int)).toNat 0) = _
    rw [show (0 + (i : Int)).toNat = i by omega]
  rw [e1]
  refine List.map_congr_left fun i _ => ?_
  show _ = (ls.getD (0 + (i : Int)).toNat 0, (0 + (i : Int)).toNat)
  rw [show (0 + (i : Int)).toNat = i by omega]
theorem ns_mem {sh : List Int} {k : Int} (h : k ∈ nsF sh) : 0 ≤ k ∧ k.toNat < sh.length := by
  have h1 := (List.mem_filter.mp h).1
  unfold rngI at h1
  obtain ⟨i, hi, rfl⟩ := List.mem_map.mp h1
  have := List.mem_range.mp hi
  omega
def pairD (p : Pr) : D := .tuple [.int p.1, .int (p.2 : Int)]
theorem lt_pair (p q : Pr) : PySem.W.dataLt (pairD p) (pairD q) = lexP p q := by
  unfold pairD lexP
  rw [PySem.W.dataLt_ii]
  congr 1
  exact propext (by omega)
theorem min_pair (p : Pr) (ps : List Pr) : PySem.W.minD (pairD p) (ps.map pairD) = pairD (minP p ps) := by
  unfold PySem.W.minD minP
  induction ps generalizing p with
  | nil => rfl
  | cons y ys ih =>
    rw [List.map_cons, List.foldl_cons, List.foldl_cons, lt_pair, ← ih]
    by_cases h : lexP y p = true
    · rw [if_pos h, if_pos h]
    · rw [if_neg h, if_neg h]
theorem alike_pair (p q : Pr) : PySem.W.alike (pairD p) (pairD q) = true := by
  unfold pairD
  simp [PySem.W.alike, PySem.W.alikeAll]
theorem depth_pair (p : Pr) : (pairD p).depth ≤ 2 := by
  unfold pairD
  simp [PyData.depth, PyData.depthAll]
theorem depth_le {n : Nat} : ∀ {ds : List D}, (∀ d ∈ ds, d.depth ≤ n) → PyData.depthAll ds ≤ n
  | [], _ => Nat.zero_le _
  | d :: ds, h => by
    unfold PyData.depthAll
    exact Nat.max_le.mpr ⟨h d List.mem_cons_self, depth_le fun e he => h e (List.mem_cons_of_mem _ he)⟩
theorem depth_pairs (ps : List Pr) : PyData.depthAll (ps.map pairD) ≤ 50 := depth_le fun d hd => by
  obtain ⟨p, _, rfl⟩ := List.mem_map.mp hd
  have := depth_pair p
  omega
theorem ok_law_least {f : Addr} {fd : FuncData} (F : Fun K "_law_least" "_law_least" s_law_least f fd) (T : TX K mg) : FnOk P w K mg base CX0 1 f fd ["lengths", "d"] (spD K g_law_least) := by
  refine ok_D F sc_law_least (fun ds P ⟨ns, d, e, _⟩ => by rw [e]; rfl) (fun cdv A outer s H E hr => ⟨_, _, (pss_cons (ps_set (i := 2) sc_law_least.nd rfl (by first | exact Or.inl rfl | exact Or.inr rfl) (pe_callTy call_list_of (by rfl) T.b_list (by decide +kernel) (pa_cons (pv 0) pa_nil)))
      (pss_cons (ps_for PassesOwn.never rfl (pi_range1 (by rfl) T.b_range (pa_cons (pv 1) pa_nil)) (pg_name (i := 3) sc_law_least.nd rfl (by first | exact Or.inl rfl | exact Or.inr rfl)) (pss_cons (ps_setLc (i := 4) (own := [("at", 5)]) (g := (gName 5)) (tt := _) rfl sc_law_least.nd rfl rfl (sw_true rfl rfl rfl (by decide +kernel)) (pi_range1 (by rfl) T.b_range (pa_cons (pe_callB call_len_seq (by rfl) T.b_len PySem.boot_len (pa_cons (pv 2) pa_nil)) pa_nil)) (blkOk_by (N := N_law_least) (sc := defScope s_law_least) (own := [("at", 5)]) (by decide +kernel)) (fun _ _ _ _ _ => (pg_name (i := 5) sc_law_least.nd rfl (by first | exact Or.inl rfl | exact Or.inr rfl))) (fun _ _ _ _ _ => (pts_one (pt_cmpR op_gt (pe_ix ix_list (pv 2) (pv 5) (fun _ _ => rfl)) pe_int (nomark _)))) (fun _ _ _ _ _ => (pv 5)))
      (pss_one (ps_if (pt_cmpR (op_neD hr.units) (pv 4) (pe_lst pa_nil) (nomark _)) (pss_cons (ps_set (i := 5) sc_law_least.nd rfl (by first | exact Or.inl rfl | exact Or.inr rfl) (pe_ix ix_tup (pe_callB (cr_minD rfl hr.units) (by rfl) T.b_min (by decide +kernel) (pa_cons (pe_lc (own := [("one", 6)]) (g := (gName 6)) (tt := tYes) rfl sc_law_least.nd (pi_list (pv 4)) (blkOk_by (N := N_law_least) (sc := defScope s_law_least) (own := [("one", 6)]) (by decide +kernel)) (fun _ _ _ _ _ => (pg_name (i := 6) sc_law_least.nd rfl (by first | exact Or.inl rfl | exact Or.inr rfl))) (fun _ _ _ _ _ => pts_nil) (fun _ _ _ _ _ => (pe_tup (pa_cons (pe_ix ix_tup (pv 0) (pv 6) (fun _ _ => rfl)) (pa_cons (pv 6) pa_nil))))) pa_nil)) pe_int (fun _ _ => rfl)))
      (pss_one (ps_asg (pe_op op_sub (pe_ix ix_list (pv 2) (pv 5) (fun _ _ => rfl)) pe_int) (pg_sub (pv 2) (pv 5) set_list)))) pss_nil))))
      (pss_one (ps_ret (pe_callTy call_tuple_of (by rfl) T.b_tuple (by decide +kernel) (pa_cons (pv 2) pa_nil)))))), (ss_cons (ss_own (i := 2) (sf_cb scf_list (sa_cons (se_var 0) sa_nil)))
      (ss_cons (ss_for (si_rng1 (sa_cons (se_var 1) sa_nil)) (sg_name 3) (ss_cons (ss_fgt [5] (ss_asg (se_sh (sf_lc (js := [5]) (si_rng1 (sa_cons (se_lenO 2) sa_nil)) (sg_name 5) (st_test (se_op so_rI0 (se_ixO 2 (se_var 5)) se_c)) (se_var 5))) (sg_name 4)))
      (ss_if (st_test (se_op so_neD (se_var 4) (se_sh (sf_lst sa_nil)))) (ss_cons (ss_asg (se_op so_ixT (se_cb sc_minD (sa_cons (se_sh (sf_lc (js := [6]) (si_list (se_var 4)) (sg_name 6) st_yes (se_tup (sa_cons (se_op so_ixT (se_var 0) (se_var 6)) (sa_cons (se_var 6) sa_nil))))) sa_nil)) se_c) (sg_name 5))
      (ss_setI 2 (se_op so_rI0 (se_ixO 2 (se_var 5)) se_c) (se_var 5))) ss_nil)))
      (ss_frz 2 (ss_ret (se_cb sc_tuple (sa_cons (se_var 2) sa_nil)))))), fun ds Pd h => ?_⟩)
  obtain ⟨ls, d, rfl, hl, hd, q⟩ := h
  generalize hS : PyData.tuple (ls.map PyData.int) = S
  refine ⟨S, rfl, ls.map PyData.int, .inr (by rw [hS]), (by show 2 < 7; decide), _, rfl, d, rfl, by omega, by omega, fun i r => ∃ x3 x4 x5 : DV, r = [.sh S, .sh (.int d), .ls ((leastF ls i).map PyData.int), x3, x4, x5, .no], ⟨_, _, _, rfl⟩, fun i y r hd hI => ?_, fun r hI => ?_⟩
  · obtain ⟨x3, x4, x5, rfl⟩ := hI
    have hlen := least_len ls i
    have e0 : leastF ls (i + 1) = stepF ls (leastF ls i) := rfl
    generalize leastF ls i = sh at hlen e0 ⊢
    have hl1 := hl.1
    refine ⟨(by show 3 < 7; decide), _, rfl, _, rfl, ?_, ?_, ?_, fun j hj => by
      obtain rfl : j = 5 := by simpa using hj
      rfl, ?_⟩
    · rw [List.length_map]; omega
    · rw [List.length_map]; omega
    · rw [rngD_len, List.length_map, sizeLine_eq]; omega
    rw [List.length_map, Int.toNat_natCast]
    refine compW_det (oInt fun k => if decide (1 < sh.getD k.toNat 0) = true then some (PyData.int k) else none) (fun d hd k hk => ?_) ?_
    · obtain ⟨z, rfl, z0, z1⟩ := mem_rngD hd
      obtain ⟨j, rfl⟩ : ∃ j : Nat, z = (j : Int) := ⟨z.toNat, by omega⟩
      refine ⟨(by show 5 < 7; decide), ⟨_, rfl⟩, _, rfl, _, _, _, rfl, rfl, atI_nat (leastAt (show j < sh.length by omega)), _, _, rfl, rfl, _, rfl, ?_⟩
      by_cases h : 1 < sh.getD j 0
      · refine ifT (decide_eq_true h) ⟨_, rfl, ?_⟩
        have := hk ([.sh S, .sh (.int d), .ls (sh.map PyData.int), .sh y, x4, .sh (.int j), .no]) rfl
        rw [show oInt (fun k => if decide (1 < sh.getD k.toNat 0) = true then some (PyData.int k) else none) (.int j) = some (.int j) from if_pos (decide_eq_true h)] at this
        exact this
      · refine ifF (decide_eq_false h) ?_
        have := hk ([.sh S, .sh (.int d), .ls (sh.map PyData.int), .sh y, x4, .sh (.int j), .no]) rfl
        rw [show oInt (fun k => if decide (1 < sh.getD k.toNat 0) = true then some (PyData.int k) else none) (.int j) = none from if_neg (by show ¬ decide (1 < sh.getD j 0) = true; rw [decide_eq_false h]; decide)] at this
        exact this
    rw [List.nil_append, rngD_I, fm_oInt, fm_if (fun k => decide (1 < sh.getD k.toNat 0))]
    have ec := cand_eq ls sh
    have hm : ∀ k ∈ nsF sh, 0 ≤ k ∧ k.toNat < sh.length := fun k h => ns_mem h
    have hnl : (nsF sh).length ≤ 20 := by
      unfold nsF
      refine Nat.le_trans (List.length_filter_le ..) ?_
      unfold rngI
      rw [List.length_map, List.length_range]
      omega
    rw [show (rngI 0 sh.length).filter (fun k => decide (1 < sh.getD k.toNat 0)) = nsF sh from rfl]
    refine ⟨(by show 4 < 7; decide), ?_⟩
    generalize nsF sh = ns at ec hm hnl ⊢
    refine ⟨_, rfl, Nat.zero_le _, sh_ints _, rfl, _, rfl, ?_⟩
    rw [eqv_nil]
    cases ns with
    | nil =>
      refine ifF rfl ?_
      have e1 : stepF ls sh = sh := by unfold stepF; rw [ec]; rfl
      refine ⟨.sh y, .sh (.list []), .no, ?_⟩
      rw [e0, e1]
      rfl
    | cons n ns =>
      refine ifT rfl ?_
      refine ⟨_, rfl, _, rfl, by rw [List.length_map, sizeLine_eq]; omega, fun j hj => by
        obtain rfl : j = 6 := by simpa using hj
        rfl, ?_⟩
      refine compW_det (oInt fun k => some (pairD (ls.getD k.toNat 0, k.toNat))) (fun e he k hk => ?_) ?_
      · obtain ⟨z, rfl, hz⟩ := mem_int he
        obtain ⟨z0, z1⟩ := hm z hz
        obtain ⟨j, rfl⟩ : ∃ j : Nat, z = (j : Int) := ⟨z.toNat, by omega⟩
        refine ⟨(by show 6 < 7; decide), S, rfl, _, rfl, _, _, _, hS.symm, rfl, atI_nat (leastAt (show j < ls.length by omega)), _, rfl, (by show 2 ≤ sizeLine; decide), ?_⟩
        exact hk ([.sh S, .sh (.int d), .ls (sh.map PyData.int), .sh y, .sh (.list ((n :: ns).map PyData.int)), .no, .sh (.int j)]) rfl
      rw [List.nil_append, fm_to (fun k => ((ls.getD k.toNat 0, k.toNat) : Pr)) pairD, ← ec]
      cases hc : candP ls sh with
      | nil => rw [hc] at ec; cases ec
      | cons p ps =>
        obtain ⟨m1, _⟩ := min_mem p ps
        rw [← hc] at m1
        obtain ⟨a, b, c⟩ := mem_cand.mp m1
        have e1 : stepF ls sh = sh.set (minP p ps).2 (sh.getD (minP p ps).2 0 - 1) := by unfold stepF; rw [hc]
        generalize hmp : minP p ps = m at a e1
        refine ⟨pairD p, ps.map pairD, rfl, ⟨fun x hx y hy => ?_, fun x hx => ?_⟩, depth_pairs (p :: ps), ?_⟩
        · obtain ⟨u, _, rfl⟩ := List.mem_map.mp (show x ∈ (p :: ps).map pairD from hx)
          obtain ⟨v, _, rfl⟩ := List.mem_map.mp (show y ∈ (p :: ps).map pairD from hy)
          exact alike_pair u v
        · obtain ⟨u, _, rfl⟩ := List.mem_map.mp (show x ∈ (p :: ps).map pairD from hx)
          exact fun z => by cases z
        rw [min_pair, hmp]
        refine ⟨_, 1, .int (m.2 : Int), rfl, rfl, rfl, (by show 5 < 7; decide), ⟨_, rfl⟩, _, rfl, _, _, _, rfl, rfl, atI_nat (leastAt a), _, _, rfl, rfl, ⟨_, rfl⟩, _, rfl, _, _, _, rfl, rfl, ixN_nat (by rw [List.length_map]; exact a), .sh y, .sh (.list ((n :: ns).map PyData.int)), .sh (.int m.2), ?_⟩
        rw [e0, e1, List.map_set]
        rfl
  · obtain ⟨x3, x4, x5, rfl⟩ := hI
    rw [rngD_len, Int.toNat_natCast]
    exact ⟨_, rfl, _, rfl, _, .inl rfl, q⟩
def swapD : D → Option D
  | .tuple [x, y] => some (.tuple [y, x])
  | _ => none
theorem swap_pairs (ls : List Int) : (numD (ls.map PyData.int)).filterMap swapD = (pairsP ls).map pairD := by
  unfold numD pairsP
  rw [List.length_map, List.filterMap_map, List.map_map]
  have : ∀ is : List Nat, (∀ i ∈ is, i < ls.length) → is.filterMap (swapD ∘ fun i => .tuple [.int (i : Nat), (ls.map PyData.int).getD i .none]) = is.map (pairD ∘ fun i => (ls.getD i 0, i)) := by
    intro is
    induction is with
    | nil => intro _; rfl
    | cons i is ih =>
      intro h
      have hi := h i List.mem_cons_self
      rw [List.filterMap_cons_some (b := pairD (ls.getD i 0, i)) ?_, ih fun j hj => h j (List.mem_cons_of_mem _ hj)]
      · rfl
      · show swapD (.tuple [.int (i : Nat), (ls.map PyData.int).getD i .none]) = _
        rw [List.getD_eq_getElem?_getD, leastAt hi]
        rfl
  exact this _ fun i hi => List.mem_range.mp hi
theorem sort_pairs (ls : List Int) : ((pairsP ls).map pairD).mergeSort leD = (sortP ls).map pairD := by
  unfold sortP
  exact (List.map_mergeSort (f := pairD) (fun p _ q _ => by unfold leD; rw [lt_pair])).symm
theorem ok_least_shape {f : Addr} {fd : FuncData} (F : Fun K "least_shape" "least_shape" s_least_shape f fd) (T : TX K mg) : FnOk P w K mg base CX0 1 f fd ["lengths", "d"] (spD K g_least_shape) := by
  refine ok_D F sc_least_shape (fun ds P ⟨ns, d, e, _⟩ => by rw [e]; rfl) (fun cdv A outer s H E hr => ⟨_, _, (pss_cons (ps_set (i := 2) sc_least_shape.nd rfl (by first | exact Or.inl rfl | exact Or.inr rfl) (pe_callTy call_list_of (by rfl) T.b_list (by decide +kernel) (pa_cons (pv 0) pa_nil)))
      (pss_cons (ps_set (i := 3) sc_least_shape.nd rfl (by first | exact Or.inl rfl | exact Or.inr rfl) (pv 1))
      (pss_cons (ps_for PassesOwn.never rfl (pi_list (pe_callB (cr_sortD hr.units) (by rfl) T.b_sorted (by decide +kernel) (pa_cons (pe_lc (own := [("place", 7), ("many", 8)]) (g := (gTup K 2 (gCons (gName 7) (gCons (gName 8) gNil)))) (tt := tYes) rfl sc_least_shape.nd (pi_numT (by rfl) T.b_enumerate (pa_cons (pv 0) pa_nil)) (blkOk_by (N := N_least_shape) (sc := defScope s_least_shape) (own := [("place", 7), ("many", 8)]) (by decide +kernel)) (fun _ _ _ _ _ => (pg_tup rfl (pgs_cons (pg_name (i := 7) sc_least_shape.nd rfl (by first | exact Or.inl rfl | exact Or.inr rfl)) (pgs_cons (pg_name (i := 8) sc_least_shape.nd rfl (by first | exact Or.inl rfl | exact Or.inr rfl)) pgs_nil)))) (fun _ _ _ _ _ => pts_nil) (fun _ _ _ _ _ => (pe_tup (pa_cons (pv 8) (pa_cons (pv 7) pa_nil))))) pa_nil))) (pg_tup rfl (pgs_cons (pg_name (i := 4) sc_least_shape.nd rfl (by first | exact Or.inl rfl | exact Or.inr rfl)) (pgs_cons (pg_name (i := 5) sc_least_shape.nd rfl (by first | exact Or.inl rfl | exact Or.inr rfl)) pgs_nil))) (pss_cons (ps_set (i := 6) sc_least_shape.nd rfl (by first | exact Or.inl rfl | exact Or.inr rfl) (pe_callB (call_min2 rfl) (by rfl) T.b_min (by decide +kernel) (pa_cons (pv 3) (pa_cons (pe_op op_sub (pv 4) pe_int) pa_nil))))
      (pss_cons (ps_asg (pe_op op_sub (pv 4) (pv 6)) (pg_sub (pv 2) (pv 5) set_list))
      (pss_one (ps_set (i := 3) sc_least_shape.nd rfl (by first | exact Or.inl rfl | exact Or.inr rfl) (pe_op op_sub (pv 3) (pv 6)))))))
      (pss_one (ps_ret (pe_callTy call_tuple_of (by rfl) T.b_tuple (by decide +kernel) (pa_cons (pv 2) pa_nil))))))), (ss_cons (ss_own (i := 2) (sf_cb scf_list (sa_cons (se_var 0) sa_nil)))
      (ss_cons (ss_asg (se_var 1) (sg_name 3))
      (ss_cons (ss_for (si_list (se_sh (sf_cb scf_sortD (sa_cons (se_sh (sf_lc (js := [7, 8]) (si_numT (sa_cons (se_var 0) sa_nil)) (sg_tup (sgs_cons (sg_name 7) (sgs_cons (sg_name 8) sgs_nil))) st_yes (se_tup (sa_cons (se_var 8) (sa_cons (se_var 7) sa_nil))))) sa_nil)))) (sg_tup (sgs_cons (sg_name 4) (sgs_cons (sg_name 5) sgs_nil))) (ss_cons (ss_asg (se_cb sc_min2 (sa_cons (se_var 3) (sa_cons (se_op so_rI0 (se_var 4) se_c) sa_nil))) (sg_name 6))
      (ss_cons (ss_setI 2 (se_op so_rI0 (se_var 4) (se_var 6)) (se_var 5))
      (ss_asg (se_op so_rI0 (se_var 3) (se_var 6)) (sg_name 3)))))
      (ss_frz 2 (ss_ret (se_cb sc_tuple (sa_cons (se_var 2) sa_nil))))))), fun ds Pd h => ?_⟩)
  obtain ⟨ls, d, rfl, hl, hd, q⟩ := h
  have hl1 := hl.1
  generalize hS : PyData.tuple (ls.map PyData.int) = S
  refine ⟨S, rfl, ls.map PyData.int, .inr (by rw [hS]), (by show 2 < 9; decide), _, rfl, (by show 3 < 9; decide), S, rfl, ls.map PyData.int, by rw [hS], by rw [numD_len, List.length_map, sizeLine_eq]; omega, fun j hj => ?_, ?_⟩
  · rcases (by simpa using hj : j = 7 ∨ j = 8) with rfl | rfl <;> rfl
  refine compW_det swapD (fun y hy k hk => ?_) ?_
  · obtain ⟨i, hi, e⟩ := List.getElem_of_mem hy
    obtain ⟨x, hx, e2⟩ := numD_at (List.getElem?_eq_getElem hi)
    rw [e] at e2
    subst e2
    refine ⟨_, rfl, rfl, _, _, rfl, (by show 7 < 9; decide), _, _, rfl, (by show 8 < 9; decide), rfl, _, rfl, _, rfl, (by show 2 ≤ sizeLine; decide), ?_⟩
    refine hk _ ?_
    rfl
  rw [List.nil_append, swap_pairs]
  refine ⟨_, rfl, fun x hx y hy => ?_, .inl fun x hx => ?_, depth_pairs _, ?_⟩
  · obtain ⟨u, _, rfl⟩ := List.mem_map.mp hx
    obtain ⟨v, _, rfl⟩ := List.mem_map.mp hy
    exact alike_pair u v
  · obtain ⟨u, _, rfl⟩ := List.mem_map.mp hx
    exact ⟨_, _, rfl⟩
  rw [sort_pairs]
  refine ⟨_, rfl, fun i r => ∃ (sh : List Int) (left : Int) (x4 x5 x6 : DV), r = [.sh S, .sh (.int d), .ls (sh.map PyData.int), .sh (.int left), x4, x5, x6, .no, .no] ∧ sh.length = ls.length ∧ takeF ((sortP ls).drop i) sh left = takeF (sortP ls) ls d, ⟨ls, d, _, _, _, rfl, rfl, rfl⟩, fun i y r hy hI => ?_, fun r hI => ?_⟩
  · obtain ⟨sh, left, x4, x5, x6, rfl, hsh, ht⟩ := hI
    obtain ⟨p, hp, rfl⟩ := map_at hy
    obtain ⟨p1, _⟩ := sort_mem.mp (List.mem_of_getElem? hp)
    have hi := (List.getElem?_eq_some_iff.mp hp).1
    have ep : (sortP ls)[i] = p := (List.getElem?_eq_some_iff.mp hp).2
    rw [List.drop_eq_getElem_cons hi, ep] at ht
    obtain ⟨l, j⟩ := p
    refine ⟨_, rfl, rfl, _, _, rfl, (by show 4 < 9; decide), _, _, rfl, (by show 5 < 9; decide), rfl, ?_⟩
    refine ⟨_, rfl, _, rfl, _, _, rfl, rfl, _, _, rfl, (by show 6 < 9; decide), _, rfl, _, rfl, _, _, rfl, rfl, ⟨_, rfl⟩, _, rfl, _, _, _, rfl, rfl, ixN_nat (show j < _ by rw [List.length_map]; omega), _, rfl, _, rfl, _, _, rfl, rfl, (by show 3 < 9; decide), ?_⟩
    refine ⟨sh.set j (l - if l - 1 < left then l - 1 else left), left - (if l - 1 < left then l - 1 else left), .sh (.int l), .sh (.int j), .sh (.int (if l - 1 < left then l - 1 else left)), ?_, by rw [List.length_set]; exact hsh, ht⟩
    rw [List.map_set]
    rfl
  · obtain ⟨sh, left, x4, x5, x6, rfl, hsh, ht⟩ := hI
    rw [List.drop_of_length_le (by rw [List.length_map]; exact Nat.le_refl _), take_least fun l h => (hl.2 l h).1] at ht
    have ht' : sh = leastF ls d := ht
    subst ht'
    exact ⟨_, rfl, _, rfl, _, .inl rfl, q⟩
theorem choose_in {x : Int} : ∀ {rows : List (List Int)} {c : List Int}, c ∈ chooseF rows → x ∈ c → ∃ row ∈ rows, x ∈ row := by
  have : ∀ (rows found : List (List Int)) (c : List Int), c ∈ rows.foldl (fun found row => innerF row found) found → x ∈ c → (∃ b ∈ found, x ∈ b) ∨ ∃ row ∈ rows, x ∈ row := by
    intro rows
    induction rows with
    | nil => intro found c h hx; exact .inl ⟨c, h, hx⟩
    | cons row rows ih =>
      intro found c h hx
      rw [List.foldl_cons] at h
      rcases ih _ _ h hx with ⟨b, hb, hx⟩ | ⟨r, hr, hx⟩
      · obtain ⟨e, he, k, hk, rfl⟩ := inner_mem hb
        rcases List.mem_append.mp hx with hx | hx
        · exact .inl ⟨e, he, hx⟩
        · obtain rfl : x = k := by simpa using hx
          exact .inr ⟨row, List.mem_cons_self, hk⟩
      · exact .inr ⟨r, List.mem_cons_of_mem _ hr, hx⟩
  intro rows c h hx
  rcases this rows [[]] c h hx with ⟨b, hb, hx⟩ | h
  · obtain rfl : b = [] := by simpa using hb
    cases hx
  · exact h
theorem choose_few : ∀ {rows : List (List Int)}, (∀ r ∈ rows, r.length ≤ 5) → (chooseF rows).length ≤ 5 ^ rows.length := by
  have : ∀ (rows found : List (List Int)), (∀ r ∈ rows, r.length ≤ 5) → (rows.foldl (fun found row => innerF row found) found).length ≤ found.length * 5 ^ rows.length := by
    intro rows
    induction rows with
    | nil => intro found _; simp
    | cons row rows ih =>
      intro found h
      rw [List.foldl_cons]
      refine Nat.le_trans (ih _ fun r hr => h r (List.mem_cons_of_mem _ hr)) ?_
      rw [inner_len, List.length_cons, Nat.pow_succ, Nat.mul_assoc]
      refine Nat.mul_le_mul_left _ ?_
      rw [Nat.mul_comm (5 ^ rows.length) 5]
      exact Nat.mul_le_mul_right _ (h row List.mem_cons_self)
  intro rows h
  have := this rows [[]] h
  rw [List.length_singleton, Nat.one_mul] at this
  exact this
theorem rows_mem {ls : List Int} {r : List Int} (h : r ∈ rowsOf ls) : ∃ l ∈ ls, r = rngI 1 (l + 1 - 1).toNat := by
  obtain ⟨l, hl, rfl⟩ := List.mem_map.mp h
  exact ⟨l, hl, rfl⟩
theorem rngI_len (lo : Int) (n : Nat) : (rngI lo n).length = n := by unfold rngI; rw [List.length_map, List.length_range]
theorem rngI_mem {lo x : Int} {n : Nat} (h : x ∈ rngI lo n) : lo ≤ x ∧ x < lo + n := by
  unfold rngI at h
  obtain ⟨i, hi, rfl⟩ := List.mem_map.mp h
  have := List.mem_range.mp hi
  omega
theorem min_is {p : Int} : ∀ {ns : List Int} {n : Int}, (p ∈ n :: ns) → (∀ x ∈ n :: ns, p ≤ x) → ns.foldl min n = p
  | [], n, h, _ => by
    have : p = n := by simpa using h
    exact this.symm
  | m :: ns, n, h, h2 => by
    rw [List.foldl_cons]
    have h3 := h2 n List.mem_cons_self
    have h4 := h2 m (by simp)
    refine min_is ?_ fun x hx => ?_
    · rcases List.mem_cons.mp h with e | h
      · rw [show min n m = p by omega]; exact List.mem_cons_self
      · rcases List.mem_cons.mp h with e | h
        · rw [show min n m = p by omega]; exact List.mem_cons_self
        · exact List.mem_cons_of_mem _ h
    · rcases List.mem_cons.mp hx with e | hx
      · omega
      · exact h2 x (List.mem_cons_of_mem _ (List.mem_cons_of_mem _ hx))
theorem prod_le12 : ∀ {xs : List Int}, (∀ x ∈ xs, 1 ≤ x ∧ x ≤ 12) → prodI xs ≤ 12 ^ xs.length
  | [], _ => Int.le_refl _
  | x :: xs, h => by
    have h1 := h x List.mem_cons_self
    have ht : ∀ y ∈ xs, 1 ≤ y ∧ y ≤ 12 := fun y hy => h y (List.mem_cons_of_mem _ hy)
    have ih := prod_le12 ht
    have p := prod_pos fun y hy => (ht y hy).1
    rw [prod_cons, List.length_cons, Int.pow_succ, Int.mul_comm]
    exact Int.mul_le_mul ih h1.2 (by omega) (by omega)
theorem sum_le12 : ∀ {xs : List Int}, (∀ x ∈ xs, 1 ≤ x ∧ x ≤ 12) → xs.sum ≤ 12 * (xs.length : Int)
  | [], _ => Int.le_refl _
  | x :: xs, h => by
    have h1 := h x List.mem_cons_self
    have := sum_le12 fun y hy => h y (List.mem_cons_of_mem _ hy)
    show x + xs.sum ≤ 12 * ((xs.length + 1 : Nat) : Int)
    omega
theorem least_prod_le {ls : List Int} (h1 : ∀ l ∈ ls, 1 ≤ l) : ∀ n : Nat, prodI (leastF ls n) ≤ prodI ls
  | 0 => Int.le_refl _
  | n + 1 => Int.le_trans (least_prod h1 n).2.1 (least_prod_le h1 n)
def sumD : D → Int
  | .tuple es => (es.map fun d => match d with | .int i => i | _ => 0).sum
  | _ => 0
theorem sumD_tup (c : List Int) : sumD (tupI c) = c.sum := by
  unfold sumD tupI
  show ((c.map PyData.int).map fun d => match d with | .int i => i | _ => 0).sum = _
  rw [List.map_map]
  congr 1
  exact List.map_id c
def keepD (s : Int) (d : D) : Option D := if decide (sumD d = s) = true then some d else none
theorem keep_map (s : Int) : ∀ cs : List (List Int), (cs.map tupI).filterMap (keepD s) = (cs.filter fun c => decide (c.sum = s)).map tupI
  | [] => rfl
  | c :: cs => by
    rw [List.map_cons]
    by_cases h : c.sum = s
    · rw [List.filterMap_cons_some (b := tupI c) (by unfold keepD; rw [sumD_tup, if_pos (decide_eq_true h)]), List.filter_cons_of_pos (p := fun c : List Int => decide (c.sum = s)) (decide_eq_true h), List.map_cons, keep_map s cs]
    · rw [List.filterMap_cons_none (by unfold keepD; rw [sumD_tup, if_neg (by rw [decide_eq_false h]; decide)]), List.filter_cons_of_neg (p := fun c : List Int => decide (c.sum = s)) (by rw [decide_eq_false h]; decide), keep_map s cs]
def prodD : D → Option D
  | .tuple es => some (.int (prodI (es.map fun d => match d with | .int i => i | _ => 0)))
  | _ => none
theorem prodD_tup (c : List Int) : prodD (tupI c) = some (.int (prodI c)) := by
  unfold prodD tupI
  show some (PyData.int (prodI ((c.map PyData.int).map fun d => match d with | .int i => i | _ => 0))) = _
  rw [List.map_map]
  congr 3
  exact List.map_id c
theorem prod_map : ∀ cs : List (List Int), (cs.map tupI).filterMap prodD = (cs.map prodI).map PyData.int
  | [] => rfl
  | c :: cs => by
    rw [List.map_cons, List.filterMap_cons_some (prodD_tup c), prod_map cs]
    rfl
structure T3 (P : Program) (w : World) (K : PySem.W.Frag) (mg : Str → Option Value) (base : Heap) : Prop extends T2 P w K mg base where
  d_law_any : C8.Cal P w K mg base 1 "_law_any" (spW K g_any) []
  d_law_of : C8.Cal P w K mg base 2 "_law_of" (spW K g_of) []
  d_law_draw : C8.Cal P w K mg base 1 "_law_draw" (spM K g_draw) []
  d_law_least : C8.Cal P w K mg base 1 "_law_least" (spD K g_law_least) []
  d_law_product : C8.Cal P w K mg base 1 "_law_product" (spD K g_law_product) []
  d_law_choices : C8.Cal P w K mg base 1 "_law_choices" (spD K g_law_choices) []
  k_least_shape : CalK P w K mg base 1 "least_shape" ["d", "lengths"] 0 2 [1, 0] (spD K g_least_shape)
  d_least_picks : C8.Cal P w K mg base 2 "least_picks" (spD K g_least_picks) []
  k_least_picks : CalK P w K mg base 2 "least_picks" ["d", "lengths"] 0 2 [1, 0] (spD K g_least_picks)
set_option maxHeartbeats 4000000 in
theorem ok_law {f : Addr} {fd : FuncData} (F : Fun K "law" "law" s_law f fd) (T : T3 P w K mg base) : FnQ P w K mg base CX0 3 f fd ["script"] (spD K g_law) := by
  refine ok_Q F sc_law (fun ds P ⟨ns, e, _⟩ => by rw [e]; rfl) (fun cdv A outer s H E hgd hr => ⟨_, _, (pss_cons (ps_set (i := 1) sc_law.nd rfl (by first | exact Or.inl rfl | exact Or.inr rfl) (C8.pe_c T.d_law_draw hr (by decide) (by rfl) (pa_cons (pv 0) (pa_cons pe_int pa_nil))))
      (pss_cons (ps_for PassesOwn.never rfl (pi_range1 (by rfl) T.b_range (pa_cons pe_int pa_nil)) (pg_name (i := 2) sc_law.nd rfl (by first | exact Or.inl rfl | exact Or.inr rfl)) (pss_cons (ps_set (i := 4) sc_law.nd rfl (by first | exact Or.inl rfl | exact Or.inr rfl) (pe_op op_add pe_int (C8.pe_c T.d_law_any hr (by decide) (by rfl) (pa_cons (pv 1) (pa_cons (C8.pe_c T.d_law_of hr (by decide) (by rfl) (pa_cons (pv 1) (pa_cons (pe_lst (pa_cons pe_int (pa_cons pe_int (pa_cons pe_int pa_nil)))) pa_nil))) pa_nil)))))
      (pss_cons (ps_set (i := 5) sc_law.nd rfl (by first | exact Or.inl rfl | exact Or.inr rfl) (pe_callTy call_tuple_of (by rfl) T.b_tuple (by decide +kernel) (pa_cons (pe_lc (own := [("at", 10)]) (g := (gName 10)) (tt := tYes) rfl sc_law.nd (pi_range1 (by rfl) T.b_range (pa_cons (pv 4) pa_nil)) (blkOk_by (N := N_law) (sc := defScope s_law) (own := [("at", 10)]) (by decide +kernel)) (fun _ _ _ _ _ => (pg_name (i := 10) sc_law.nd rfl (by first | exact Or.inl rfl | exact Or.inr rfl))) (fun _ _ _ _ _ => pts_nil) (fun _ _ _ _ _ => (pe_op op_add pe_int (C8.pe_c T.d_law_any hr (by decide) (by rfl) (pa_cons (pv 1) (pa_cons (pe_ifExp (pt_cmpR op_lt (pv 4) pe_int (nomark _)) pe_int pe_int) pa_nil)))))) pa_nil)))
      (pss_cons (ps_set (i := 6) sc_law.nd rfl (by first | exact Or.inl rfl | exact Or.inr rfl) (C8.pe_c T.d_law_any hr (by decide) (by rfl) (pa_cons (pv 1) (pa_cons (pe_op op_add (pe_callB (cr_sumT rfl) (by rfl) T.b_sum (by decide +kernel) (pa_cons (pv 5) pa_nil)) pe_int) pa_nil))))
      (pss_cons (ps_set (i := 7) sc_law.nd rfl (by first | exact Or.inl rfl | exact Or.inr rfl) (C8.pe_c T.d_law_least hr (by decide) (by rfl) (pa_cons (pv 5) (pa_cons (pv 6) pa_nil))))
      (pss_cons (ps_if (PW.pt (pw_or (pt_cmpR op_ne (pe_callB (call_reprD hgd hr.units) (by rfl) T.b_repr (by decide +kernel) (pa_cons (C8.pe_c T.d_least_shape hr (by decide) (by rfl) (pa_cons (pv 5) (pa_cons (pv 6) pa_nil))) pa_nil)) (pe_callB (call_reprD hgd hr.units) (by rfl) T.b_repr (by decide +kernel) (pa_cons (pv 7) pa_nil)) (nomark _)) (pw_or1 (pt_cmpR op_ne (pe_callB (call_reprD hgd hr.units) (by rfl) T.b_repr (by decide +kernel) (pa_cons (pe_cK0 T.k_least_shape hr (by decide) (by rfl) (pk_cons (pv 6) (pk_cons (pv 5) pk_nil))) pa_nil)) (pe_callB (call_reprD hgd hr.units) (by rfl) T.b_repr (by decide +kernel) (pa_cons (pv 7) pa_nil)) (nomark _))))) (pss_one (ps_ret pe_bl)) pss_nil)
      (pss_cons (ps_set (i := 8) sc_law.nd rfl (by first | exact Or.inl rfl | exact Or.inr rfl) (C8.pe_c T.d_least_picks hr (by decide) (by rfl) (pa_cons (pv 5) (pa_cons (pv 6) pa_nil))))
      (pss_cons (ps_if (PW.pt (pw_or (pt_cmpR op_ne (pe_callB (call_reprD hgd hr.units) (by rfl) T.b_repr (by decide +kernel) (pa_cons (pv 8) pa_nil)) (pe_callB (call_reprD hgd hr.units) (by rfl) T.b_repr (by decide +kernel) (pa_cons (C8.pe_c T.d_law_product hr (by decide) (by rfl) (pa_cons (pv 7) pa_nil)) pa_nil)) (nomark _)) (pw_or1 (pt_cmpR op_ne (pe_callB (call_reprD hgd hr.units) (by rfl) T.b_repr (by decide +kernel) (pa_cons (pe_cK0 T.k_least_picks hr (by decide) (by rfl) (pk_cons (pv 6) (pk_cons (pv 5) pk_nil))) pa_nil)) (pe_callB (call_reprD hgd hr.units) (by rfl) T.b_repr (by decide +kernel) (pa_cons (pv 8) pa_nil)) (nomark _))))) (pss_one (ps_ret pe_bl)) pss_nil)
      (pss_cons (ps_if (PW.pt (pw_or (pt_cmpR (op_neD hr.units) (pe_cmpR (op_eqD hr.units) (pv 8) pe_int (nomark _)) (pe_cmpR op_ge (pv 6) (pe_op op_sub (pe_callB (cr_sumT rfl) (by rfl) T.b_sum (by decide +kernel) (pa_cons (pv 5) pa_nil)) (pv 4)) (nomark _)) (nomark _)) (pw_or1 (pt_cmpR op_gt (C8.pe_c T.d_least_picks hr (by decide) (by rfl) (pa_cons (pv 5) (pa_cons (pe_op op_add (pv 6) pe_int) pa_nil))) (pv 8) (nomark _))))) (pss_one (ps_ret pe_bl)) pss_nil)
      (pss_one (ps_if (pt_cmpR op_lt (pv 4) pe_int (nomark _)) (pss_cons (ps_setLc (i := 9) (own := [("one", 11)]) (g := (gName 11)) (tt := _) rfl sc_law.nd rfl rfl (sw_true rfl rfl rfl (by decide +kernel)) (pi_list (C8.pe_c T.d_law_choices hr (by decide) (by rfl) (pa_cons (pe_lc (own := [("length", 12)]) (g := (gName 12)) (tt := tYes) rfl sc_law.nd (pi_tup (pv 5)) (blkOk_by (N := N_law) (sc := defScope s_law) (own := [("length", 12)]) (by decide +kernel)) (fun _ _ _ _ _ => (pg_name (i := 12) sc_law.nd rfl (by first | exact Or.inl rfl | exact Or.inr rfl))) (fun _ _ _ _ _ => pts_nil) (fun _ _ _ _ _ => (pe_listRg rfl (by rfl) T.b_list (prg_2 (by rfl) T.b_range pe_int (pe_op op_add (pv 12) pe_int))))) pa_nil))) (blkOk_by (N := N_law) (sc := defScope s_law) (own := [("one", 11)]) (by decide +kernel)) (fun _ _ _ _ _ => (pg_name (i := 11) sc_law.nd rfl (by first | exact Or.inl rfl | exact Or.inr rfl))) (fun _ _ _ _ _ => (pts_one (pt_cmpR (op_eqD hr.units) (pe_callB (cr_sumT rfl) (by rfl) T.b_sum (by decide +kernel) (pa_cons (pv 11) pa_nil)) (pe_callB (cr_sumT rfl) (by rfl) T.b_sum (by decide +kernel) (pa_cons (pv 7) pa_nil)) (nomark _)))) (fun _ _ _ _ _ => (pv 11)))
      (pss_one (ps_if (pt_cmpR (op_neD hr.units) (pv 8) (pe_callB (cr_minD rfl hr.units) (by rfl) T.b_min (by decide +kernel) (pa_cons (pe_lc (own := [("one", 11)]) (g := (gName 11)) (tt := tYes) rfl sc_law.nd (pi_list (pv 9)) (blkOk_by (N := N_law) (sc := defScope s_law) (own := [("one", 11)]) (by decide +kernel)) (fun _ _ _ _ _ => (pg_name (i := 11) sc_law.nd rfl (by first | exact Or.inl rfl | exact Or.inr rfl))) (fun _ _ _ _ _ => pts_nil) (fun _ _ _ _ _ => (C8.pe_c T.d_law_product hr (by decide) (by rfl) (pa_cons (pv 11) pa_nil)))) pa_nil)) (nomark _)) (pss_one (ps_ret pe_bl)) pss_nil))) pss_nil)))))))))))
      (pss_cons (ps_set (i := 3) sc_law.nd rfl (by first | exact Or.inl rfl | exact Or.inr rfl) (C8.pe_c T.d_law_any hr (by decide) (by rfl) (pa_cons (pv 1) (pa_cons pe_int pa_nil))))
      (pss_one (ps_ret (pe_cmpR (op_eqD hr.units) (C8.pe_c T.d_least_picks hr (by decide) (by rfl) (pa_cons (pe_op op_repT (pe_tup (pa_cons pe_int pa_nil)) pe_int) (pa_cons (pv 3) pa_nil))) (pe_op op_shl pe_int (pe_op op_sub pe_int (pv 3))) (nomark _))))))), (ss_cons (ss_mk (i := 1) (sa_cons (se_var 0) (sa_cons se_c sa_nil)))
      (ss_cons (ss_for (si_rng1 (sa_cons se_c sa_nil)) (sg_name 2) (ss_cons (ss_asg (se_op so_rI0 se_c (se_callW (i := 1) g_any_mono (sa_cons (se_callW (i := 1) g_of_mono (sa_cons (se_sh (sf_lst (sa_cons se_c (sa_cons se_c (sa_cons se_c sa_nil))))) sa_nil)) sa_nil))) (sg_name 4))
      (ss_cons (ss_asg (se_cb sc_tuple (sa_cons (se_sh (sf_lc (js := [10]) (si_rng1 (sa_cons (se_var 4) sa_nil)) (sg_name 10) st_yes (se_op so_rI0 se_c (se_callW (i := 1) g_any_mono (sa_cons (se_if (st_test (se_op so_rI0 (se_var 4) se_c)) se_c se_c) sa_nil))))) sa_nil)) (sg_name 5))
      (ss_cons (ss_asg (se_callW (i := 1) g_any_mono (sa_cons (se_op so_rI0 (se_cb sc_sumT (sa_cons (se_var 5) sa_nil)) se_c) sa_nil)) (sg_name 6))
      (ss_cons (ss_asg (se_call g_law_least_mono (sa_cons (se_var 5) (sa_cons (se_var 6) sa_nil))) (sg_name 7))
      (ss_cons (ss_if (st_or (st_test (se_op so_neS (se_cb sc_reprD (sa_cons (se_call g_least_shape_mono (sa_cons (se_var 5) (sa_cons (se_var 6) sa_nil))) sa_nil)) (se_cb sc_reprD (sa_cons (se_var 7) sa_nil)))) (st_test (se_op so_neS (se_cb sc_reprD (sa_cons (se_callK g_least_shape_mono sa_nil (sa_cons (se_var 6) (sa_cons (se_var 5) sa_nil))) sa_nil)) (se_cb sc_reprD (sa_cons (se_var 7) sa_nil))))) (ss_ret se_c) ss_nil)
      (ss_cons (ss_asg (se_call g_least_picks_mono (sa_cons (se_var 5) (sa_cons (se_var 6) sa_nil))) (sg_name 8))
      (ss_cons (ss_if (st_or (st_test (se_op so_neS (se_cb sc_reprD (sa_cons (se_var 8) sa_nil)) (se_cb sc_reprD (sa_cons (se_call g_law_product_mono (sa_cons (se_var 7) sa_nil)) sa_nil)))) (st_test (se_op so_neS (se_cb sc_reprD (sa_cons (se_callK g_least_picks_mono sa_nil (sa_cons (se_var 6) (sa_cons (se_var 5) sa_nil))) sa_nil)) (se_cb sc_reprD (sa_cons (se_var 8) sa_nil))))) (ss_ret se_c) ss_nil)
      (ss_cons (ss_if (st_or (st_test (se_op so_neD (se_op so_eqD (se_var 8) se_c) (se_op so_rI0 (se_var 6) (se_op so_rI0 (se_cb sc_sumT (sa_cons (se_var 5) sa_nil)) (se_var 4))))) (st_test (se_op so_rI0 (se_call g_least_picks_mono (sa_cons (se_var 5) (sa_cons (se_op so_rI0 (se_var 6) se_c) sa_nil))) (se_var 8)))) (ss_ret se_c) ss_nil)
      (ss_if (st_test (se_op so_rI0 (se_var 4) se_c)) (ss_cons (ss_asg (se_sh (sf_lc (js := [11]) (si_list (se_call g_law_choices_mono (sa_cons (se_sh (sf_lc (js := [12]) (si_tup (se_var 5)) (sg_name 12) st_yes (se_sh (sf_rg2 se_c (se_op so_rI0 (se_var 12) se_c))))) sa_nil))) (sg_name 11) (st_test (se_op so_eqD (se_cb sc_sumT (sa_cons (se_var 11) sa_nil)) (se_cb sc_sumT (sa_cons (se_var 7) sa_nil)))) (se_var 11))) (sg_name 9))
      (ss_if (st_test (se_op so_neD (se_var 8) (se_cb sc_minD (sa_cons (se_sh (sf_lc (js := [11]) (si_list (se_var 9)) (sg_name 11) st_yes (se_call g_law_product_mono (sa_cons (se_var 11) sa_nil)))) sa_nil)))) (ss_ret se_c) ss_nil)) ss_nil))))))))))
      (ss_cons (ss_asg (se_callW (i := 1) g_any_mono (sa_cons se_c sa_nil)) (sg_name 3))
      (ss_ret (se_op so_eqD (se_call g_least_picks_mono (sa_cons (se_op so_repT (se_tup (sa_cons se_c sa_nil)) se_c) (sa_cons (se_var 3) sa_nil))) (se_op so_rI se_c (se_op so_rI0 se_c (se_var 3)))))))), fun ds Pd h => ?_⟩)
  obtain ⟨ns, rfl, hl, q⟩ := h
  generalize hS : PyData.list (ns.map PyData.int) = S
  refine ⟨_, rfl, (by show 1 < 13; decide), ⟨ns, 19, by rw [← hS]; rfl, hl, by decide, by decide⟩, fun a l => ?_⟩
  refine ⟨4, rfl, by decide, by decide, fun i r => ∃ x2 x4 x5 x6 x7 x8 x9 : DV, r = [.sh S, .dl a l, x2, .no, x4, x5, x6, x7, x8, x9, .no, .no, .no], ⟨_, _, _, _, _, _, _, rfl⟩, fun i y r hd hI => ?_, fun r hI => ?_⟩
  · obtain ⟨x2, x4, x5, x6, x7, x8, x9, rfl⟩ := hI
    refine ⟨(by show 2 < 13; decide), ⟨a, l, rfl⟩, ⟨a, l, rfl⟩, (by show 3 ≤ sizeLine; decide), ⟨a, l, rfl⟩, _, rfl, List.cons_ne_nil _ _, (by show 3 ≤ 1000000; decide), fun e he => ?_⟩
    obtain ⟨m, rfl, m1, m2⟩ : ∃ m : Int, e = .int m ∧ 0 < m ∧ m ≤ 10 := by
      simp only [List.mem_cons, List.not_mem_nil, or_false] at he
      rcases he with rfl | rfl | rfl
      · exact ⟨3, rfl, by decide, by decide⟩
      · exact ⟨3, rfl, by decide, by decide⟩
      · exact ⟨10, rfl, by decide, by decide⟩
    refine ⟨⟨a, l, rfl⟩, m, rfl, m1, Nat.lt_trans (PySem.Flt.log2_lt_of (k := 20) (by decide) (by omega)) (by decide), fun x x0 x1 => ?_⟩
    refine ⟨_, _, rfl, rfl, (by show 4 < 13; decide), ?_⟩
    generalize hmany : (1 : Int) + x = many
    have b1 : 1 ≤ many := by omega
    have b2 : many ≤ 10 := by omega
    refine ⟨_, rfl, _, rfl, by omega, by omega, by rw [rngD_len, sizeLine_eq]; omega, fun j hj => by
      obtain rfl : j = 10 := by simpa using hj
      rfl, ?_⟩
    refine compW_any (fun e => ∃ i : Int, e = .int i ∧ (1 ≤ i ∧ i ≤ 12) ∧ (many < 4 → i ≤ 5)) (fun e he k hk => ?_) (fun y hy => by cases hy) (fun ys hyl hy => ?_)
    · obtain ⟨z, rfl, _⟩ := mem_rngD he
      refine ⟨(by show 10 < 13; decide), ifT rfl ⟨⟨a, l, rfl⟩, _, rfl, _, _, rfl, rfl, _, rfl, ?_⟩⟩
      by_cases h4 : many < 4
      · refine ifT (decide_eq_true (show 1 + x < 4 by omega)) ⟨⟨a, l, rfl⟩, 5, rfl, by decide, by decide, fun x x0 x1 => ⟨_, _, rfl, rfl, ?_⟩⟩
        refine hk _ _ ?_ ⟨1 + x, rfl, ⟨by omega, by omega⟩, fun _ => by omega⟩
        rfl
      · refine ifF (decide_eq_false (show ¬ 1 + x < 4 by omega)) ⟨⟨a, l, rfl⟩, 12, rfl, by decide, by decide, fun x x0 x1 => ⟨_, _, rfl, rfl, ?_⟩⟩
        refine hk _ _ ?_ ⟨1 + x, rfl, ⟨by omega, by omega⟩, fun z => absurd z h4⟩
        rfl
    obtain ⟨ls, rfl, hls⟩ := ints_all hy
    rw [List.length_map, List.length_nil, Nat.zero_add, rngD_len] at hyl
    have l12 : ∀ n ∈ ls, 1 ≤ n ∧ n ≤ 12 := fun n hn => (hls n hn).1
    have l1 : ∀ n ∈ ls, 1 ≤ n := fun n hn => (hls n hn).1.1
    have okl : Okl ls := ⟨by omega, fun n hn => ⟨l1 n hn, by have := (l12 n hn).2; omega⟩⟩
    have s1 := sum_ge l1
    have s2 := sum_le12 l12
    refine ⟨ls.map PyData.int, .inl rfl, (by show 5 < 13; decide), ⟨a, l, rfl⟩, _, rfl, ls, rfl, _, _, rfl, rfl, ⟨a, l, rfl⟩, _, rfl, by omega, Nat.lt_trans (PySem.Flt.log2_lt_of (k := 20) (by decide) (by omega)) (by decide), fun d d0 d1 => ⟨(by show 6 < 13; decide), ?_⟩⟩
    obtain ⟨dn, rfl⟩ : ∃ dn : Nat, d = (dn : Int) := ⟨d.toNat, by omega⟩
    have hdn : dn ≤ 100000 := by omega
    refine ⟨_, rfl, _, rfl, ls, dn, rfl, okl, hdn, (by show 7 < 13; decide), ?_⟩
    have L := least_low l1 dn
    have Q := least_prod l1 dn
    have U := least_prod_le l1 dn
    have V := prod_le12 l12
    have W : (12 : Int) ^ ls.length ≤ 12 ^ 10 := by
      have : (12 : Nat) ^ ls.length ≤ 12 ^ 10 := Nat.pow_le_pow_right (by decide) (by omega)
      exact_mod_cast this
    have bnd := least_le okl dn
    have e1 : leastF ls (dn + 1) = leastF ls (dn + 1) := rfl
    have MS := fun (h1 : ls ≠ []) (h2 : ls.length ≤ 3) (h3 : ∀ l ∈ ls, 1 ≤ l ∧ l ≤ 5) (hd : dn < 17) => least_is h1 h2 h3 hd
    have Q2 := Q.2.1
    have hlen := L.1.len
    generalize hsh : leastF ls dn = sh at L Q U MS bnd hlen Q2
    have R : RepOk (.tuple (sh.map PyData.int)) := rep_tup (fun n hn => ⟨by have := bnd n hn; omega, by have := bnd n hn; omega⟩) (by omega)
    have Rp : RepOk (.int (prodI sh)) := rep_int ⟨by omega, by omega⟩
    have npr : ∀ n ∈ sh, n.natAbs < 2 ^ 20 := fun n hn => by have := bnd n hn; omega
    refine ⟨_, rfl, _, rfl, ls, dn, rfl, okl, hdn, _, rfl, by rw [hsh]; exact R.show_, by rw [hsh]; exact R.flat, by rw [hsh]; exact R.deep, by rw [hsh]; exact R.len, _, rfl, _, rfl, R.show_, R.flat, R.deep, R.len, _, _, rfl, rfl, _, rfl, ifF (by rw [hsh]; simp) ?_⟩
    refine ⟨_, rfl, _, rfl, ls, dn, rfl, okl, hdn, _, rfl, by rw [hsh]; exact R.show_, by rw [hsh]; exact R.flat, by rw [hsh]; exact R.deep, by rw [hsh]; exact R.len, _, rfl, _, rfl, R.show_, R.flat, R.deep, R.len, _, _, rfl, rfl, _, rfl, ifF (by rw [hsh]; simp) ?_⟩
    -- told
    refine ⟨_, rfl, _, rfl, ls, dn, rfl, okl, hdn, (by show 8 < 13; decide), ?_⟩
    rw [hsh]
    refine ⟨_, rfl, _, rfl, Rp.show_, Rp.flat, Rp.deep, Rp.len, _, rfl, sh, rfl, by omega, npr, _, rfl, Rp.show_, Rp.flat, Rp.deep, Rp.len, _, _, rfl, rfl, _, rfl, ifF (by simp) ?_⟩
    refine ⟨_, rfl, _, rfl, ls, dn, rfl, okl, hdn, _, rfl, by rw [hsh]; exact Rp.show_, by rw [hsh]; exact Rp.flat, by rw [hsh]; exact Rp.deep, by rw [hsh]; exact Rp.len, _, rfl, _, rfl, Rp.show_, Rp.flat, Rp.deep, Rp.len, _, _, rfl, rfl, _, rfl, ifF (by rw [hsh]; simp) ?_⟩
    -- told == 1
    refine ⟨_, rfl, rfl, rfl, _, rfl, _, rfl, ls, rfl, _, rfl, _, _, rfl, rfl, _, _, rfl, rfl, rfl, rfl, _, rfl, ifF ?_ ?_⟩
    · show (!PyData.eqv (.bool (PyData.eqv (.int (prodI sh)) (.int 1))) (.bool (decide (ls.sum - (1 + x) ≤ (dn : Int))))) = false
      rw [eqv_int, eqv_bool]
      have e : decide (prodI sh = 1) = decide (ls.sum - (1 + x) ≤ (dn : Int)) := decide_eq_decide.mpr (by rw [Q.2.2]; omega)
      rw [e]
      simp
    refine ⟨_, rfl, _, rfl, _, _, rfl, rfl, ls, dn + 1, rfl, okl, by omega, _, rfl, _, _, rfl, rfl, _, rfl, ifF (decide_eq_false (by omega)) ?_⟩
    -- many < 4
    refine ⟨_, rfl, _, _, rfl, rfl, _, rfl, ?_⟩
    by_cases h4 : many < 4
    · refine ifT (decide_eq_true (show 1 + x < 4 by omega)) ?_
      have l3 : ls.length ≤ 3 := by omega
      have l5 : ∀ n ∈ ls, 1 ≤ n ∧ n ≤ 5 := fun n hn => ⟨l1 n hn, (hls n hn).2 h4⟩
      have lne : ls ≠ [] := fun e => by rw [e] at hyl; simp only [List.length_nil] at hyl; omega
      have s5 : ls.sum ≤ 5 * (ls.length : Int) := by
        have : ∀ {xs : List Int}, (∀ n ∈ xs, 1 ≤ n ∧ n ≤ 5) → xs.sum ≤ 5 * (xs.length : Int) := by
          intro xs
          induction xs with
          | nil => intro _; exact Int.le_refl _
          | cons n xs ih =>
            intro h
            have h1 := h n List.mem_cons_self
            have := ih fun m hm => h m (List.mem_cons_of_mem _ hm)
            show n + xs.sum ≤ 5 * ((xs.length + 1 : Nat) : Int)
            omega
        exact this l5
      have ok := MS lne l3 l5 (by omega)
      unfold okAt at ok
      obtain ⟨ok1, ok2⟩ := Bool.and_eq_true_iff.mp ok
      have rl : ∀ r ∈ rowsOf ls, r.length ≤ 5 := fun r hr => by
        obtain ⟨n, hn, rfl⟩ := rows_mem hr
        have := (l5 n hn).2
        rw [rngI_len]
        omega
      have rn : (rowsOf ls).length = ls.length := List.length_map ..
      have few : ∀ k, (chooseF ((rowsOf ls).take k)).length ≤ 1000 := fun k => by
        have h := choose_few (rows := (rowsOf ls).take k) fun r hr => rl r (List.mem_of_mem_take hr)
        have h2 : 5 ^ ((rowsOf ls).take k).length ≤ 5 ^ 3 := Nat.pow_le_pow_right (by decide) (by rw [List.length_take]; omega)
        omega
      have few1 : (chooseF (rowsOf ls)).length ≤ 1000 := by
        have := few (rowsOf ls).length
        rwa [List.take_length] at this
      refine ⟨_, rfl, _, rfl, by rw [List.length_map, sizeLine_eq]; omega, fun j hj => by
        obtain rfl : j = 12 := by simpa using hj
        rfl, ?_⟩
      refine compW_det (oInt fun n => some (lstI (rngI 1 (n + 1 - 1).toNat))) (fun e he k hk => ?_) ?_
      · obtain ⟨n, rfl, hn⟩ := mem_int he
        have := (l5 n hn).1
        have := (l5 n hn).2
        refine ⟨(by show 12 < 13; decide), _, rfl, _, _, rfl, rfl, 1, _, rfl, rfl, .of_le (by decide) (by omega) (by decide) (by omega), ?_⟩
        rw [rngD_I]
        refine hk _ ?_
        rfl
      rw [List.nil_append, fm_to (fun n => rngI 1 (n + 1 - 1).toNat) lstI]
      refine ⟨rowsOf ls, rfl, by omega, fun r hr => by have := rl r hr; omega, few, _, rfl, by rw [List.length_map, sizeLine_eq]; omega, fun j hj => by
        obtain rfl : j = 11 := by simpa using hj
        rfl, ?_⟩
      refine compW_det (keepD sh.sum) (fun e he k hk => ?_) ?_
      · obtain ⟨c, hc, rfl⟩ := List.mem_map.mp he
        have hz := hk [.sh S, .dl a l, .sh y, .no, .sh (.int (1 + x)), .sh (.tuple (ls.map PyData.int)), .sh (.int dn), .sh (.tuple (sh.map PyData.int)), .sh (.int (prodI sh)), x9, .no, .sh (tupI c), .no] rfl
        refine ⟨(by show 11 < 13; decide), _, rfl, c, rfl, _, rfl, sh, rfl, rfl, rfl, _, rfl, ?_⟩
        rw [eqv_int]
        unfold keepD at hz
        rw [sumD_tup] at hz
        by_cases h : c.sum = sh.sum
        · rw [if_pos (decide_eq_true h)] at hz
          exact ifT (decide_eq_true h) ⟨_, rfl, hz⟩
        · rw [if_neg (by rw [decide_eq_false h]; decide)] at hz
          exact ifF (decide_eq_false h) hz
      rw [List.nil_append, keep_map]
      have cf : ∀ c ∈ (chooseF (rowsOf ls)).filter (fun c => decide (c.sum = sh.sum)), c ∈ chooseF (rowsOf ls) ∧ c.sum = sh.sum := fun c hc => ⟨(List.mem_filter.mp hc).1, of_decide_eq_true (List.mem_filter.mp hc).2⟩
      have cl : ((chooseF (rowsOf ls)).filter (fun c => decide (c.sum = sh.sum))).length ≤ 1000 := Nat.le_trans (List.length_filter_le ..) few1
      have p_in : prodI sh ∈ ((chooseF (rowsOf ls)).filter (fun c => decide (c.sum = sh.sum))).map prodI := by
        obtain ⟨c, hc, h⟩ := List.any_eq_true.mp ok1
        obtain ⟨h1, h2⟩ := of_decide_eq_true h
        exact List.mem_map.mpr ⟨c, List.mem_filter.mpr ⟨hc, decide_eq_true h1⟩, h2⟩
      have p_le : ∀ z ∈ ((chooseF (rowsOf ls)).filter (fun c => decide (c.sum = sh.sum))).map prodI, prodI sh ≤ z := fun z hz => by
        obtain ⟨c, hc, rfl⟩ := List.mem_map.mp hz
        obtain ⟨h1, h2⟩ := cf c hc
        exact of_decide_eq_true (List.all_eq_true.mp ok2 c h1) h2
      generalize (chooseF (rowsOf ls)).filter (fun c => decide (c.sum = sh.sum)) = cs at cf cl p_in p_le ⊢
      refine ⟨(by show 9 < 13; decide), _, rfl, _, rfl, _, rfl, by rw [List.length_map, sizeLine_eq]; omega, fun j hj => by
        obtain rfl : j = 11 := by simpa using hj
        rfl, ?_⟩
      refine compW_det prodD (fun e he k hk => ?_) ?_
      · obtain ⟨c, hc, rfl⟩ := List.mem_map.mp he
        obtain ⟨h1, h2⟩ := cf c hc
        have hz := hk [.sh S, .dl a l, .sh y, .no, .sh (.int (1 + x)), .sh (.tuple (ls.map PyData.int)), .sh (.int dn), .sh (.tuple (sh.map PyData.int)), .sh (.int (prodI sh)), .sh (.list (cs.map tupI)), .no, .sh (tupI c), .no] rfl
        rw [prodD_tup] at hz
        refine ⟨(by show 11 < 13; decide), _, rfl, c, rfl, by have := choose_len h1; omega, fun n hn => ?_, hz⟩
        obtain ⟨r, hr, hx⟩ := choose_in h1 hn
        obtain ⟨m, hm, rfl⟩ := rows_mem hr
        have := rngI_mem hx
        have := (l5 m hm).2
        omega
      rw [List.nil_append, prod_map]
      generalize cs.map prodI = zs at p_in p_le ⊢
      cases zs with
      | nil => cases p_in
      | cons n zs =>
        refine ⟨.int n, zs.map PyData.int, rfl, ⟨fun u hu v hv => ?_, fun u hu => ?_⟩, ?_, ?_⟩
        · obtain ⟨i, rfl, _⟩ := mem_int (ns := n :: zs) hu
          obtain ⟨j, rfl, _⟩ := mem_int (ns := n :: zs) hv
          rfl
        · obtain ⟨i, rfl, _⟩ := mem_int (ns := n :: zs) hu
          exact fun z => by cases z
        · have := depth_ints (n :: zs)
          rw [List.map_cons] at this
          omega
        rw [PySem.W.minD_ints, min_is p_in p_le]
        refine ⟨rfl, rfl, _, rfl, ifF ?_ ⟨.sh y, _, _, _, _, _, _, rfl⟩⟩
        rw [eqv_int]
        simp
    · refine ifF (decide_eq_false (show ¬ 1 + x < 4 by omega)) ?_
      exact ⟨.sh y, _, _, _, _, _, _, rfl⟩
  · obtain ⟨x2, x4, x5, x6, x7, x8, x9, rfl⟩ := hI
    refine ⟨⟨a, l, rfl⟩, ⟨a, l, rfl⟩, 11, rfl, by decide, by decide, fun x x0 x1 => ⟨(by show 3 < 13; decide), ?_⟩⟩
    obtain ⟨dn, rfl⟩ : ∃ dn : Nat, x = (dn : Int) := ⟨x.toNat, by omega⟩
    refine ⟨(by show 1 ≤ sizeLine; decide), [.int 2], 10, rfl, rfl, List.cons_ne_nil _ _, by decide, by decide, by decide, _, rfl, List.replicate 10 2, dn, rfl, ⟨by decide, by decide⟩, by omega, _, rfl, _, _, rfl, rfl, _, _, rfl, rfl, ⟨by omega, by omega, by decide⟩, rfl, rfl, ?_⟩
    have h := of_decide_eq_true (List.all_eq_true.mp least_two dn (List.mem_range.mpr (by omega)))
    have e : (1 : Int) * 2 ^ ((10 : Int) - (dn : Int)).toNat = 2 ^ (10 - dn) := by
      rw [Int.one_mul]
      congr 1
      omega
    show Pd (.bool (PyData.eqv (.int (prodI (leastF (List.replicate 10 2) dn))) (.int (1 * 2 ^ ((10 : Int) - (dn : Int)).toNat))))
    rw [e, h, eqv_int, decide_eq_true rfl]
    exact q

end
/-! ### what the top has written; the end -/
theorem all_mk {l : PySem.W.OpenLaw} {w : World} {K : PySem.W.Frag} {h : Heap} {mg : Str → Option Value} {fa f0 f1 f2 f3 f4 f5 f6 f7 f8 f9 : Addr} (X : K.In h) (G : h.Ns mainGlobals mg) (hfa : mg "law" = some (.ref fa))
    {od0 an0 od1 an1 od2 an2 od3 an3 od4 an4 od5 an5 od6 an6 od7 an7 od8 an8 od9 an9 : Option Addr} {sl0 sl1 sl2 sl3 sl4 sl5 sl6 sl7 sl8 sl9 : Array (Option Value)} {oc0 kV0 dc0 pm0 cd0 ct0 oc1 kV1 dc1 pm1 cd1 ct1 oc2 kV2 dc2 pm2 cd2 ct2 oc3 kV3 dc3 pm3 cd3 ct3 oc4 kV4 dc4 pm4 cd4 ct4 oc5 kV5 dc5 pm5 cd5 ct5 oc6 kV6 dc6 pm6 cd6 ct6 oc7 kV7 dc7 pm7 cd7 ct7 oc8 kV8 dc8 pm8 cd8 ct8 oc9 kV9 dc9 pm9 cd9 ct9 : Value}
    (a0 : PySem.W.nsIn K mainGlobals "product_of" = some (some (.ref f0))) (l0 : K.lookup f0 = some ⟨oc0, od0, .func (PySem.W.fnOf "product_of" "product_of" (defArgs s_product_of) (defBody s_product_of) (defScope s_product_of) .none kV0 dc0 pm0 an0 cd0 ct0), sl0⟩) (c0 : PySem.W.codeIn K cd0 "product_of" = true) (k0 : PySem.W.keepIn K (.ref f0) = true)
    (a1 : PySem.W.nsIn K mainGlobals "least_shape" = some (some (.ref f1))) (l1 : K.lookup f1 = some ⟨oc1, od1, .func (PySem.W.fnOf "least_shape" "least_shape" (defArgs s_least_shape) (defBody s_least_shape) (defScope s_least_shape) .none kV1 dc1 pm1 an1 cd1 ct1), sl1⟩) (c1 : PySem.W.codeIn K cd1 "least_shape" = true) (k1 : PySem.W.keepIn K (.ref f1) = true)
    (a2 : PySem.W.nsIn K mainGlobals "least_picks" = some (some (.ref f2))) (l2 : K.lookup f2 = some ⟨oc2, od2, .func (PySem.W.fnOf "least_picks" "least_picks" (defArgs s_least_picks) (defBody s_least_picks) (defScope s_least_picks) .none kV2 dc2 pm2 an2 cd2 ct2), sl2⟩) (c2 : PySem.W.codeIn K cd2 "least_picks" = true) (k2 : PySem.W.keepIn K (.ref f2) = true)
    (a3 : PySem.W.nsIn K mainGlobals "_law_draw" = some (some (.ref f3))) (l3 : K.lookup f3 = some ⟨oc3, od3, .func (PySem.W.fnOf "_law_draw" "_law_draw" (defArgs s_law_draw) (defBody s_law_draw) (defScope s_law_draw) .none kV3 dc3 pm3 an3 cd3 ct3), sl3⟩) (c3 : PySem.W.codeIn K cd3 "_law_draw" = true) (k3 : PySem.W.keepIn K (.ref f3) = true)
    (a4 : PySem.W.nsIn K mainGlobals "_law_any" = some (some (.ref f4))) (l4 : K.lookup f4 = some ⟨oc4, od4, .func (PySem.W.fnOf "_law_any" "_law_any" (defArgs s_law_any) (defBody s_law_any) (defScope s_law_any) .none kV4 dc4 pm4 an4 cd4 ct4), sl4⟩) (c4 : PySem.W.codeIn K cd4 "_law_any" = true) (k4 : PySem.W.keepIn K (.ref f4) = true)
    (a5 : PySem.W.nsIn K mainGlobals "_law_of" = some (some (.ref f5))) (l5 : K.lookup f5 = some ⟨oc5, od5, .func (PySem.W.fnOf "_law_of" "_law_of" (defArgs s_law_of) (defBody s_law_of) (defScope s_law_of) .none kV5 dc5 pm5 an5 cd5 ct5), sl5⟩) (c5 : PySem.W.codeIn K cd5 "_law_of" = true) (k5 : PySem.W.keepIn K (.ref f5) = true)
    (a6 : PySem.W.nsIn K mainGlobals "_law_choices" = some (some (.ref f6))) (l6 : K.lookup f6 = some ⟨oc6, od6, .func (PySem.W.fnOf "_law_choices" "_law_choices" (defArgs s_law_choices) (defBody s_law_choices) (defScope s_law_choices) .none kV6 dc6 pm6 an6 cd6 ct6), sl6⟩) (c6 : PySem.W.codeIn K cd6 "_law_choices" = true) (k6 : PySem.W.keepIn K (.ref f6) = true)
    (a7 : PySem.W.nsIn K mainGlobals "_law_product" = some (some (.ref f7))) (l7 : K.lookup f7 = some ⟨oc7, od7, .func (PySem.W.fnOf "_law_product" "_law_product" (defArgs s_law_product) (defBody s_law_product) (defScope s_law_product) .none kV7 dc7 pm7 an7 cd7 ct7), sl7⟩) (c7 : PySem.W.codeIn K cd7 "_law_product" = true) (k7 : PySem.W.keepIn K (.ref f7) = true)
    (a8 : PySem.W.nsIn K mainGlobals "_law_least" = some (some (.ref f8))) (l8 : K.lookup f8 = some ⟨oc8, od8, .func (PySem.W.fnOf "_law_least" "_law_least" (defArgs s_law_least) (defBody s_law_least) (defScope s_law_least) .none kV8 dc8 pm8 an8 cd8 ct8), sl8⟩) (c8 : PySem.W.codeIn K cd8 "_law_least" = true) (k8 : PySem.W.keepIn K (.ref f8) = true)
    (a9 : PySem.W.nsIn K mainGlobals "law" = some (some (.ref f9))) (l9 : K.lookup f9 = some ⟨oc9, od9, .func (PySem.W.fnOf "law" "law" (defArgs s_law) (defBody s_law) (defScope s_law) .none kV9 dc9 pm9 an9 cd9 ct9), sl9⟩) (c9 : PySem.W.codeIn K cd9 "law" = true) (k9 : PySem.W.keepIn K (.ref f9) = true)
    (z_int : PySem.W.nsIn K mainGlobals "int" = some none)
    (z_abs : PySem.W.nsIn K mainGlobals "abs" = some none)
    (z_len : PySem.W.nsIn K mainGlobals "len" = some none)
    (z_list : PySem.W.nsIn K mainGlobals "list" = some none)
    (z_tuple : PySem.W.nsIn K mainGlobals "tuple" = some none)
    (z_sorted : PySem.W.nsIn K mainGlobals "sorted" = some none)
    (z_enumerate : PySem.W.nsIn K mainGlobals "enumerate" = some none)
    (z_min : PySem.W.nsIn K mainGlobals "min" = some none)
    (z_sum : PySem.W.nsIn K mainGlobals "sum" = some none)
    (z_range : PySem.W.nsIn K mainGlobals "range" = some none)
    (z_repr : PySem.W.nsIn K mainGlobals "repr" = some none)
    : ∃ fd : FuncData, (∀ (s : Shared) (v : Value), BindsTo s fd ⟨[v], []⟩ [("script", v)]) ∧ ∀ base : Heap, K.In base → base.Ns mainGlobals mg → FnQ l.prog w K mg base CX0 3 fa fd ["script"] (spD K g_law) := by
  have e := hfa.symm.trans (PySem.W.mg_of X G a9)
  cases e
  have F0 := fun_mk (st := s_product_of) l0 c0 k0
  have b0 := F0.binds (ps := ["numbers"]) fun _ _ _ _ _ _ us hl => match us, hl with | [_], _ => rfl
  have m0 := PySem.W.mg_of X G a0
  have F1 := fun_mk (st := s_least_shape) l1 c1 k1
  have b1 := F1.binds (ps := ["lengths", "d"]) fun _ _ _ _ _ _ us hl => match us, hl with | [_, _], _ => rfl
  have m1 := PySem.W.mg_of X G a1
  have F2 := fun_mk (st := s_least_picks) l2 c2 k2
  have b2 := F2.binds (ps := ["lengths", "d"]) fun _ _ _ _ _ _ us hl => match us, hl with | [_, _], _ => rfl
  have m2 := PySem.W.mg_of X G a2
  have F3 := fun_mk (st := s_law_draw) l3 c3 k3
  have b3 := F3.binds (ps := ["script", "salt"]) fun _ _ _ _ _ _ us hl => match us, hl with | [_, _], _ => rfl
  have m3 := PySem.W.mg_of X G a3
  have F4 := fun_mk (st := s_law_any) l4 c4 k4
  have b4 := F4.binds (ps := ["deal", "bound"]) fun _ _ _ _ _ _ us hl => match us, hl with | [_, _], _ => rfl
  have m4 := PySem.W.mg_of X G a4
  have F5 := fun_mk (st := s_law_of) l5 c5 k5
  have b5 := F5.binds (ps := ["deal", "some"]) fun _ _ _ _ _ _ us hl => match us, hl with | [_, _], _ => rfl
  have m5 := PySem.W.mg_of X G a5
  have F6 := fun_mk (st := s_law_choices) l6 c6 k6
  have b6 := F6.binds (ps := ["lists"]) fun _ _ _ _ _ _ us hl => match us, hl with | [_], _ => rfl
  have m6 := PySem.W.mg_of X G a6
  have F7 := fun_mk (st := s_law_product) l7 c7 k7
  have b7 := F7.binds (ps := ["numbers"]) fun _ _ _ _ _ _ us hl => match us, hl with | [_], _ => rfl
  have m7 := PySem.W.mg_of X G a7
  have F8 := fun_mk (st := s_law_least) l8 c8 k8
  have b8 := F8.binds (ps := ["lengths", "d"]) fun _ _ _ _ _ _ us hl => match us, hl with | [_, _], _ => rfl
  have m8 := PySem.W.mg_of X G a8
  have F9 := fun_mk (st := s_law) l9 c9 k9
  have kb1 := kb_mk (n := 0) (m := 2) (o := [1, 0]) (ps := ["lengths", "d"]) (ks := ["d", "lengths"]) F1 (by decide) fun _ _ _ _ _ _ us ws hu hw => match us, ws, hu, hw with | [], [_, _], _, _ => rfl
  have kb2 := kb_mk (n := 0) (m := 2) (o := [1, 0]) (ps := ["lengths", "d"]) (ks := ["d", "lengths"]) F2 (by decide) fun _ _ _ _ _ _ us ws hu hw => match us, ws, hu, hw with | [], [_, _], _, _ => rfl
  refine ⟨PySem.W.fnOf "law" "law" (defArgs s_law) (defBody s_law) (defScope s_law) .none kV9 dc9 pm9 an9 cd9 ct9, fun s v => .of_eq rfl, fun base _ _ => ?_⟩
  have T1' : TX K mg := { b_int := PySem.W.mg_none_of X G z_int, b_abs := PySem.W.mg_none_of X G z_abs, b_len := PySem.W.mg_none_of X G z_len, b_list := PySem.W.mg_none_of X G z_list, b_tuple := PySem.W.mg_none_of X G z_tuple, b_sorted := PySem.W.mg_none_of X G z_sorted, b_enumerate := PySem.W.mg_none_of X G z_enumerate, b_min := PySem.W.mg_none_of X G z_min, b_sum := PySem.W.mg_none_of X G z_sum, b_range := PySem.W.mg_none_of X G z_range, b_repr := PySem.W.mg_none_of X G z_repr }
  have o0 : FnOk l.prog w K mg base CX0 1 f0 _ ["numbers"] (spD K g_product_of) := ok_product_of F0
  have o1 : FnOk l.prog w K mg base CX0 1 f1 _ ["lengths", "d"] (spD K g_least_shape) := ok_least_shape F1 T1'
  have T2' : T2 l.prog w K mg base := { toTX := T1', d_product_of := cal_of o0 m0 F0.kp b0, d_least_shape := cal_of o1 m1 F1.kp b1 }
  have o2 : FnOk l.prog w K mg base CX0 2 f2 _ ["lengths", "d"] (spD K g_least_picks) := ok_least_picks F2 T2'
  have o3 : FnOk l.prog w K mg base CX0 1 f3 _ ["script", "salt"] (spM K g_draw) := ok_law_draw F3 T1'.toTB
  have o4 : FnOk l.prog w K mg base CX0 1 f4 _ ["deal", "bound"] (spW K g_any) := ok_law_any F4 T1'.toTB
  have o5 : FnOk l.prog w K mg base CX0 2 f5 _ ["deal", "some"] (spW K g_of) := ok_law_of F5 { toTB := T1'.toTB, d_law_any := cal_of o4 m4 F4.kp b4 }
  have o6 : FnOk l.prog w K mg base CX0 1 f6 _ ["lists"] (spD K g_law_choices) := ok_law_choices F6
  have o7 : FnOk l.prog w K mg base CX0 1 f7 _ ["numbers"] (spD K g_law_product) := ok_law_product F7
  have o8 : FnOk l.prog w K mg base CX0 1 f8 _ ["lengths", "d"] (spD K g_law_least) := ok_law_least F8 T1'
  exact ok_law F9 { toT2 := T2', d_law_any := cal_of o4 m4 F4.kp b4, d_law_of := cal_of o5 m5 F5.kp b5, d_law_draw := cal_of o3 m3 F3.kp b3, d_law_least := cal_of o8 m8 F8.kp b8, d_law_product := cal_of o7 m7 F7.kp b7, d_law_choices := cal_of o6 m6 F6.kp b6, k_least_shape := calK_of o1 m1 F1.kp kb1, d_least_picks := cal_of o2 m2 F2.kp b2, k_least_picks := calK_of o2 m2 F2.kp kb2 }
end K19
open PySem PySem.W PyProof.Rows
set_option maxRecDepth 100000 in
set_option maxHeartbeats 0 in
theorem PySem.Challenge.cw_listpicks_k19_least_products_holds : PySem.Challenge.rw_listpicks_k19_least_products.Holds := by
  w_on; o_law; k_head; (case hw => w_witness2)
  k_fill
  refine LD.walkQ (l := PySem.Challenge.rw_listpicks_k19_least_products) (n := 63) (k := 3) (x := "script") (sp := fun w => LD.spD _ K19.g_law) rfl (by decide) rfl ⟨rfl, by decide, by decide⟩ (fun w h Y => PySem.W.kIn_of Y) ?F (fun w H a ns hl _ hS => ⟨H, [.list (ns.map PyData.int)], L2.Same.refl _, .cons (.lst hS (LD.dpAll_ints ns)) .nil, ns, rfl, hl, fun v H2 Hi _ _ _ _ hv => by cases hv; rfl⟩)
  case F =>
    intro w mg fa h KX G hmg
    refine' K19.all_mk KX G hmg ?a0 ?l0 ?c0 ?k0 ?a1 ?l1 ?c1 ?k1 ?a2 ?l2 ?c2 ?k2 ?a3 ?l3 ?c3 ?k3 ?a4 ?l4 ?c4 ?k4 ?a5 ?l5 ?c5 ?k5 ?a6 ?l6 ?c6 ?k6 ?a7 ?l7 ?c7 ?k7 ?a8 ?l8 ?c8 ?k8 ?a9 ?l9 ?c9 ?k9 ?z_int ?z_abs ?z_len ?z_list ?z_tuple ?z_sorted ?z_enumerate ?z_min ?z_sum ?z_range ?z_repr
    (case a0 => k_is)
    (case l0 => k_is)
    (case c0 => k_is)
    (case k0 => k_is)
    (case a1 => k_is)
    (case l1 => k_is)
    (case c1 => k_is)
    (case k1 => k_is)
    (case a2 => k_is)
    (case l2 => k_is)
    (case c2 => k_is)
    (case k2 => k_is)
    (case a3 => k_is)
    (case l3 => k_is)
    (case c3 => k_is)
    (case k3 => k_is)
    (case a4 => k_is)
    (case l4 => k_is)
    (case c4 => k_is)
    (case k4 => k_is)
    (case a5 => k_is)
    (case l5 => k_is)
    (case c5 => k_is)
    (case k5 => k_is)
    (case a6 => k_is)
    (case l6 => k_is)
    (case c6 => k_is)
    (case k6 => k_is)
    (case a7 => k_is)
    (case l7 => k_is)
    (case c7 => k_is)
    (case k7 => k_is)
    (case a8 => k_is)
    (case l8 => k_is)
    (case c8 => k_is)
    (case k8 => k_is)
    (case a9 => k_is)
    (case l9 => k_is)
    (case c9 => k_is)
    (case k9 => k_is)
    (case z_int => k_is)
    (case z_abs => k_is)
    (case z_len => k_is)
    (case z_list => k_is)
    (case z_tuple => k_is)
    (case z_sorted => k_is)
    (case z_enumerate => k_is)
    (case z_min => k_is)
    (case z_sum => k_is)
    (case z_range => k_is)
    (case z_repr => k_is)
