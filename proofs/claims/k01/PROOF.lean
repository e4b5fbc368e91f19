import PyProof.Rows.All
import Wide.All
import OpenK.AllK
import Wide.FinOn
import HandS.ForExc
import HandS.ForMost
import HandS.Wide
import HandS.IsInst
import HandS.Flow
import HandS.Style
import HandS.RaiseMore
import HandS.TupAny
import HandS.TupMul
import HandS.Conv
import HandS.SortRule
import HandS.SortInts
import PyProof.ReprRoads
import PyProof.Rows.SeqMore
import HandS.Codes
import PySem.Challenge.RW_listpicks_k01_fields_and_elements
set_option Elab.async false
set_option linter.all false
set_option maxRecDepth 100000
/-! LD1: slots that hold data (trees of None, bools, ints, texts, lists, tuples), told from the heap once and for all. -/
namespace LD
open PySem PySem.Spec L2
abbrev D := PyData

theorem sqT_mono {K : PySem.W.Frag} {H H' : Hp} {a : Addr} {xs : List V} (e : Same H H') (h : SqT K H a xs) : SqT K H' a xs := by
  cases h with
  | inl h =>
    cases h with
    | inl h => exact .inl (.inl (e _ _ h))
    | inr h =>
      obtain ⟨o, h⟩ := h
      exact .inl (.inr ⟨o, e _ _ h⟩)
  | inr h => exact .inr h
mutual
theorem dp_mono {K : PySem.W.Frag} {H H' : Hp} (e : Same H H') : ∀ (d : D) (v : V), Dp K H v d → Dp K H' v d
  | .none, _, h => by cases h; exact .non
  | .bool b, _, h => by cases h; exact .bl b
  | .int i, _, h => by cases h; exact .int i
  | .str x, _, h => by cases h; exact .str x
  | .list es, _, h => by
    cases h with
    | lst s q => exact .lst (e.seq s) (dpAll_mono e es _ q)
  | .tuple es, _, h => by
    cases h with
    | tup s q => exact .tup (sqT_mono e s) (dpAll_mono e es _ q)
  | .dict _, _, h => by cases h
theorem dpAll_mono {K : PySem.W.Frag} {H H' : Hp} (e : Same H H') : ∀ (ds : List D) (vs : List V), DpAll K H vs ds → DpAll K H' vs ds
  | [], _, h => by cases h; exact .nil
  | d :: ds, _, h => by
    cases h with
    | cons a b => exact .cons (dp_mono e d _ a) (dpAll_mono e ds _ b)
end
theorem dpAll_len {K : PySem.W.Frag} {H : Hp} : ∀ {ds : List D} {vs : List V}, DpAll K H vs ds → vs.length = ds.length
  | [], _, h => by cases h; rfl
  | d :: ds, _, h => by
    cases h with
    | cons a b => exact congrArg Nat.succ (dpAll_len b)
theorem dpAll_at {K : PySem.W.Frag} {H : Hp} : ∀ {ds : List D} {vs : List V} {i : Nat} {d : D}, DpAll K H vs ds → ds[i]? = some d → ∃ v, vs[i]? = some v ∧ Dp K H v d
  | [], _, _, _, h, e => by cases e
  | d :: ds, _, 0, _, h, e => by
    cases h with
    | cons a b =>
      cases e
      exact ⟨_, rfl, a⟩
  | d :: ds, _, i + 1, _, h, e => by
    cases h with
    | cons a b =>
      obtain ⟨v, e', q⟩ := dpAll_at (i := i) b e
      exact ⟨v, e', q⟩
theorem dpAll_app {K : PySem.W.Frag} {H : Hp} : ∀ {ds es : List D} {vs ws : List V}, DpAll K H vs ds → DpAll K H ws es → DpAll K H (vs ++ ws) (ds ++ es)
  | [], _, _, _, h, k => by cases h; exact k
  | d :: ds, _, _, _, h, k => by
    cases h with
    | cons a b => exact .cons a (dpAll_app b k)
theorem dpAll_split {K : PySem.W.Frag} {H : Hp} : ∀ {vs ws : List V} {ds es : List D}, vs.length = ds.length → DpAll K H (vs ++ ws) (ds ++ es) → DpAll K H vs ds ∧ DpAll K H ws es
  | [], _, [], _, _, h => ⟨.nil, h⟩
  | [], _, _ :: _, _, e, _ => by cases e
  | _ :: _, _, [], _, e, _ => by cases e
  | v :: vs, _, d :: ds, _, e, h => by
    cases h with
    | cons a b =>
      obtain ⟨h1, h2⟩ := dpAll_split (Nat.succ.inj e) b
      exact ⟨.cons a h1, h2⟩
theorem dpAll_ints {K : PySem.W.Frag} {H : Hp} : ∀ (ns : List Int), DpAll K H (ns.map V.int) (ns.map PyData.int)
  | [] => .nil
  | n :: ns => .cons (.int n) (dpAll_ints ns)
theorem ints_of {K : PySem.W.Frag} {H : Hp} : ∀ (ns : List Int) (vs : List V), DpAll K H vs (ns.map PyData.int) → vs = ns.map V.int
  | [], _, h => by cases h; rfl
  | n :: ns, _, h => by
    cases h with
    | cons a b =>
      cases a
      rw [ints_of ns _ b]
      rfl

/-! ### what a slot holds: nothing told; data that never changes; a list that only this slot knows; the source of draws -/
inductive DV where
  | no
  | sh (d : D)
  | ls (ds : List D)
  | dl (a l : Addr)
abbrev Rho := List DV

/-- Hb: what never changes at the entry; H0: all that is tracked there; P: what the def may change of it; Z: what is being made -/
structure Fx where
  Hb : Hp
  H0 : Hp
  P : List Addr
  Z : List (Addr × HO)

/-- the source of draws: great numbers, none below 0, and a number that is mixed -/
structure DealOk (ns : List Int) (b : Int) : Prop where
  pos : ∀ n ∈ ns, 0 ≤ n
  few : ns.length ≤ 48
  lo : 0 ≤ b
  hi : b < 2147483647
def DealAt (H : Hp) (a l : Addr) : Prop := ∃ ns b, DealOk ns b ∧ H a = some (.lst [.ref l, .int b]) ∧ H l = some (.lst (ns.map V.int))
def SlotOk (K : PySem.W.Frag) (Hi H : Hp) (s : Option V) (os : List Addr) : DV → Prop
  | .no => True
  | .sh d => ∃ v, s = some v ∧ Dp K Hi v d
  | .ls ds => ∃ a xs, s = some (.ref a) ∧ os = [a] ∧ H a = some (.lst xs) ∧ DpAll K Hi xs ds
  | .dl a l => s = some (.ref a) ∧ os = [a, l] ∧ a ≠ l ∧ DealAt H a l

structure RelI (K : PySem.W.Frag) (F : Fx) (σ : St) (H : Hp) (ρ : Rho) (vs : List V) (ds : List D) (Hi : Hp) (own : Nat → List Addr) : Prop where
  base : Same F.Hb Hi
  sub : Same Hi H
  new : ∀ b, Hi b ≠ none → F.Hb b ≠ none ∨ F.H0 b = none
  keep : ∀ b o, F.H0 b = some o → b ∉ F.P → H b = some o
  dom : ∀ b, F.H0 b ≠ none → H b ≠ none
  len : σ.length = ρ.length
  slot : ∀ i x, ρ[i]? = some x → SlotOk K Hi H (σ[i]?.join) (own i) x
  free : ∀ i, ∀ a ∈ own i, Hi a = none
  held : ∀ i, ∀ a ∈ own i, H a ≠ none
  nown : ∀ i, ∀ a ∈ own i, F.H0 a = none ∨ a ∈ F.P
  sep : ∀ i j, i ≠ j → ∀ a ∈ own i, a ∉ own j
  nls : ∀ i es, ρ[i]? = some (.ls es) → ∀ a ∈ own i, F.H0 a = none
  pin : ∀ z ∈ F.Z, H z.1 = some z.2 ∧ Hi z.1 = none ∧ ∀ i, z.1 ∉ own i
  tmp : DpAll K Hi vs ds
def Rel (K : PySem.W.Frag) (F : Fx) (σ : St) (H : Hp) (ρ : Rho) (vs : List V) (ds : List D) : Prop := ∃ Hi own, RelI K F σ H ρ vs ds Hi own

section
variable {K : PySem.W.Frag} {F : Fx} {σ : St} {H : Hp} {ρ : Rho} {vs ws xs : List V} {ds es : List D} {Hi : Hp} {own : Nat → List Addr}

theorem RelI.tmpTo (R : RelI K F σ H ρ vs ds Hi own) (h : DpAll K Hi ws es) : RelI K F σ H ρ ws es Hi own :=
  ⟨R.base, R.sub, R.new, R.keep, R.dom, R.len, R.slot, R.free, R.held, R.nown, R.sep, R.nls, R.pin, h⟩
theorem Rel.swap (R : Rel K F σ H ρ vs ds) (h : ∀ Hi, DpAll K Hi vs ds → DpAll K Hi ws es) : Rel K F σ H ρ ws es := by
  obtain ⟨Hi, own, R⟩ := R
  exact ⟨Hi, own, R.tmpTo (h Hi R.tmp)⟩
theorem Rel.drop {v : V} {d : D} (R : Rel K F σ H ρ (v :: vs) (d :: ds)) : Rel K F σ H ρ vs ds := R.swap fun _ h => by cases h with | cons _ b => exact b
theorem Rel.drop2 {v w : V} {d e : D} (R : Rel K F σ H ρ (v :: w :: vs) (d :: e :: ds)) : Rel K F σ H ρ (v :: vs) (d :: ds) := R.swap fun _ h => by
  cases h with | cons a b => cases b with | cons _ c => exact .cons a c
theorem Rel.dropN (R : Rel K F σ H ρ (ws ++ vs) (es ++ ds)) (e : ws.length = es.length) : Rel K F σ H ρ vs ds := R.swap fun _ h => (dpAll_split e h).2
/-- a scalar's value -/
def vD : V → D
  | .non => .none
  | .bl b => .bool b
  | .int i => .int i
  | .str x => .str x
  | _ => .none
def isSc : V → Bool
  | .non => true | .bl _ => true | .int _ => true | .str _ => true | _ => false
theorem dp_sc {H : Hp} {v : V} (h : isSc v = true) : Dp K H v (vD v) := by
  cases v <;> first | (cases h; done) | constructor
theorem Rel.push {v : V} (R : Rel K F σ H ρ vs ds) (h : isSc v = true) : Rel K F σ H ρ (v :: vs) (vD v :: ds) := R.swap fun _ q => .cons (dp_sc h) q
theorem RelI.noSub (R : RelI K F σ H ρ vs ds Hi own) {p : Addr} (h : H p = none) : Hi p = none := by
  cases q : Hi p with
  | none => rfl
  | some o => rw [R.sub _ _ q] at h; cases h
theorem RelI.no0 (R : RelI K F σ H ρ vs ds Hi own) {p : Addr} (h : H p = none) : F.H0 p = none := by
  cases q : F.H0 p with
  | none => rfl
  | some o => exact absurd h (R.dom p (by rw [q]; simp))
theorem same_upd {p : Addr} {o : HO} (h : H p = none) : Same H (upd H p o) := fun b x e => by
  rw [upd_ne (ne_of_none e h)]
  exact e
theorem same_upd2 {p : Addr} {o : HO} (e : Same Hi H) : Hi p = none → Same (upd Hi p o) (upd H p o) := fun hn b x q => by
  by_cases hb : b = p
  · rw [hb, upd_same] at q ⊢
    exact q
  · rw [upd_ne hb] at q ⊢
    exact e _ _ q
/-- the slots' part when more never changes and the owned objects stay -/
theorem SlotOk.grow {Hi' H' : Hp} {s : Option V} {os : List Addr} {x : DV} (h : SlotOk K Hi H s os x) (e : Same Hi Hi') (k : ∀ a ∈ os, ∀ o, H a = some o → H' a = some o) : SlotOk K Hi' H' s os x := by
  cases x with
  | no => trivial
  | sh d =>
    obtain ⟨v, e1, q⟩ := h
    exact ⟨v, e1, dp_mono e _ _ q⟩
  | ls ds =>
    obtain ⟨a, xs, e1, e2, h1, q⟩ := h
    exact ⟨a, xs, e1, e2, k a (by rw [e2]; simp) _ h1, dpAll_mono e _ _ q⟩
  | dl a l =>
    obtain ⟨e1, e2, n, ns, b, ok, h1, h2⟩ := h
    exact ⟨e1, e2, n, ns, b, ok, k a (by rw [e2]; simp) _ h1, k l (by rw [e2]; simp) _ h2⟩
/-- something new that never changes is laid at p -/
theorem RelI.lay {p : Addr} {o : HO} (R : RelI K F σ H ρ vs ds Hi own) (hp : H p = none) (h : DpAll K (upd Hi p o) ws es) : RelI K F σ (upd H p o) ρ ws es (upd Hi p o) own := by
  have np := R.noSub hp
  have s1 : Same Hi (upd Hi p o) := same_upd np
  have ne : ∀ i, ∀ a ∈ own i, a ≠ p := fun i a ha z => R.held i a ha (by rw [z]; exact hp)
  refine ⟨R.base.trans s1, same_upd2 R.sub np, fun b hb => ?_, fun b q h hn => ?_, fun b h => ?_, R.len, fun i x h => ?_, fun i a ha => ?_, fun i a ha => ?_, R.nown, R.sep, R.nls, fun z hz => ?_, h⟩
  · by_cases hbp : b = p
    · rw [hbp]; exact .inr (R.no0 hp)
    · rw [upd_ne hbp] at hb; exact R.new b hb
  · rw [upd_ne (ne_of_none (R.keep b q h hn) hp)]; exact R.keep b q h hn
  · by_cases hbp : b = p
    · rw [hbp, upd_same]; simp
    · rw [upd_ne hbp]; exact R.dom b h
  · exact (R.slot i x h).grow s1 fun a ha o q => by rw [upd_ne (ne i a ha)]; exact q
  · rw [upd_ne (ne i a ha)]; exact R.free i a ha
  · rw [upd_ne (ne i a ha)]; exact R.held i a ha
  · obtain ⟨z1, z2, z3⟩ := R.pin z hz
    have nz : z.1 ≠ p := ne_of_none z1 hp
    exact ⟨by rw [upd_ne nz]; exact z1, by rw [upd_ne nz]; exact z2, z3⟩
/-- a tuple of what was reckoned -/
theorem Rel.tup {p : Addr} (R : Rel K F σ H ρ (xs ++ vs) (es ++ ds)) (e : xs.length = es.length) (hp : H p = none) : Rel K F σ (upd H p (.tup xs)) ρ (.ref p :: vs) (.tuple es :: ds) := by
  obtain ⟨Hi, own, R⟩ := R
  obtain ⟨h1, h2⟩ := dpAll_split e R.tmp
  have s1 : Same Hi (upd Hi p (.tup xs)) := same_upd (R.noSub hp)
  exact ⟨_, own, R.lay hp (.cons (.tup (.inl (.inl upd_same)) (dpAll_mono s1 _ _ h1)) (dpAll_mono s1 _ _ h2))⟩
/-- a list of what was reckoned, shared from the first -/
theorem Rel.lst {p : Addr} (R : Rel K F σ H ρ (xs ++ vs) (es ++ ds)) (e : xs.length = es.length) (hp : H p = none) : Rel K F σ (upd H p (.lst xs)) ρ (.ref p :: vs) (.list es :: ds) := by
  obtain ⟨Hi, own, R⟩ := R
  obtain ⟨h1, h2⟩ := dpAll_split e R.tmp
  have s1 : Same Hi (upd Hi p (.lst xs)) := same_upd (R.noSub hp)
  exact ⟨_, own, R.lay hp (.cons (.lst (.inl (.inl upd_same)) (dpAll_mono s1 _ _ h1)) (dpAll_mono s1 _ _ h2))⟩
/-- a list of what was reckoned, kept in slot i alone -/
theorem Rel.keepOwn {p : Addr} {i : Nat} (R : Rel K F σ H ρ (xs ++ vs) (es ++ ds)) (e : xs.length = es.length) (hp : H p = none) (hi : i < ρ.length) : Rel K F (σ.set i (some (.ref p))) (upd H p (.lst xs)) (ρ.set i (.ls es)) vs ds := by
  obtain ⟨Hi, own, R⟩ := R
  obtain ⟨h1, h2⟩ := dpAll_split e R.tmp
  have ne : ∀ i, ∀ a ∈ own i, a ≠ p := fun i a ha z => R.held i a ha (by rw [z]; exact hp)
  have s1 : Same Hi (upd H p (.lst xs)) := R.sub.trans (same_upd hp)
  refine ⟨Hi, fun j => if j = i then [p] else own j, ⟨R.base, s1, R.new, fun b q h hn => ?_, fun b h => ?_, ?_, fun j x h => ?_, fun j a ha => ?_, fun j a ha => ?_, fun j a ha => ?_, fun j k hjk a ha hk => ?_, fun j es' h a ha => ?_, fun z hz => ?_, h2⟩⟩
  · rw [upd_ne (ne_of_none (R.keep b q h hn) hp)]; exact R.keep b q h hn
  · by_cases hbp : b = p
    · rw [hbp, upd_same]; simp
    · rw [upd_ne hbp]; exact R.dom b h
  · rw [List.length_set, List.length_set]; exact R.len
  · by_cases hj : j = i
    · subst hj
      rw [List.getElem?_set_self hi] at h
      cases h
      have e1 : (σ.set j (some (V.ref p)))[j]? = some (some (.ref p)) := List.getElem?_set_self (by rw [R.len]; exact hi)
      rw [e1]
      exact ⟨p, xs, rfl, by rw [if_pos rfl], upd_same, h1⟩
    · rw [List.getElem?_set_ne (Ne.symm hj)] at h ⊢
      rw [if_neg hj]
      exact (R.slot j x h).grow (Same.refl _) fun a ha o q => by rw [upd_ne (ne j a ha)]; exact q
  · by_cases hj : j = i
    · rw [if_pos hj] at ha
      obtain rfl : a = p := by simpa using ha
      exact R.noSub hp
    · rw [if_neg hj] at ha; exact R.free j a ha
  · by_cases hj : j = i
    · rw [if_pos hj] at ha
      obtain rfl : a = p := by simpa using ha
      rw [upd_same]; simp
    · rw [if_neg hj] at ha; rw [upd_ne (ne j a ha)]; exact R.held j a ha
  · by_cases hj : j = i
    · rw [if_pos hj] at ha
      obtain rfl : a = p := by simpa using ha
      exact .inl (R.no0 hp)
    · rw [if_neg hj] at ha; exact R.nown j a ha
  · by_cases hj : j = i
    · rw [if_pos hj] at ha
      obtain rfl : a = p := by simpa using ha
      rw [if_neg (fun z => hjk (hj.trans z.symm))] at hk
      exact ne k a hk rfl
    · rw [if_neg hj] at ha
      by_cases hki : k = i
      · rw [if_pos hki] at hk
        obtain rfl : a = p := by simpa using hk
        exact ne j a ha rfl
      · rw [if_neg hki] at hk; exact R.sep j k hjk a ha hk
  · by_cases hj : j = i
    · rw [if_pos hj] at ha
      obtain rfl : a = p := by simpa using ha
      exact R.no0 hp
    · rw [if_neg hj] at ha
      rw [List.getElem?_set_ne (Ne.symm hj)] at h
      exact R.nls j es' h a ha
  · obtain ⟨z1, z2, z3⟩ := R.pin z hz
    have nz : z.1 ≠ p := ne_of_none z1 hp
    refine ⟨by rw [upd_ne nz]; exact z1, z2, fun j hj => ?_⟩
    by_cases hji : j = i
    · rw [if_pos hji] at hj
      exact nz (by simpa using hj)
    · rw [if_neg hji] at hj; exact z3 j hj
/-- slot i is given another word (nothing, or data); what it owned before is forgotten -/
theorem RelI.put {i : Nat} {v : Option V} {x : DV} (R : RelI K F σ H ρ vs ds Hi own) (hi : i < ρ.length) (hx : SlotOk K Hi H v [] x) (h : DpAll K Hi ws es) : RelI K F (σ.set i v) H (ρ.set i x) ws es Hi (fun j => if j = i then [] else own j) := by
  refine ⟨R.base, R.sub, R.new, R.keep, R.dom, ?_, fun j y h => ?_, fun j a ha => ?_, fun j a ha => ?_, fun j a ha => ?_, fun j k hjk a ha hk => ?_, fun j es' h a ha => ?_, fun z hz => ?_, h⟩
  · rw [List.length_set, List.length_set]; exact R.len
  · by_cases hj : j = i
    · subst hj
      rw [List.getElem?_set_self hi] at h
      cases h
      have e1 : (σ.set j v)[j]? = some v := List.getElem?_set_self (by rw [R.len]; exact hi)
      rw [e1, if_pos rfl]
      exact hx
    · rw [List.getElem?_set_ne (Ne.symm hj)] at h ⊢
      rw [if_neg hj]
      exact R.slot j y h
  · by_cases hj : j = i
    · rw [if_pos hj] at ha; cases ha
    · rw [if_neg hj] at ha; exact R.free j a ha
  · by_cases hj : j = i
    · rw [if_pos hj] at ha; cases ha
    · rw [if_neg hj] at ha; exact R.held j a ha
  · by_cases hj : j = i
    · rw [if_pos hj] at ha; cases ha
    · rw [if_neg hj] at ha; exact R.nown j a ha
  · by_cases hj : j = i
    · rw [if_pos hj] at ha; cases ha
    · rw [if_neg hj] at ha
      by_cases hki : k = i
      · rw [if_pos hki] at hk; cases hk
      · rw [if_neg hki] at hk; exact R.sep j k hjk a ha hk
  · by_cases hj : j = i
    · rw [if_pos hj] at ha; cases ha
    · rw [if_neg hj] at ha
      rw [List.getElem?_set_ne (Ne.symm hj)] at h
      exact R.nls j es' h a ha
  · obtain ⟨z1, z2, z3⟩ := R.pin z hz
    refine ⟨z1, z2, fun j hj => ?_⟩
    by_cases hji : j = i
    · rw [if_pos hji] at hj; cases hj
    · rw [if_neg hji] at hj; exact z3 j hj
theorem Rel.store {i : Nat} {v : V} {d : D} (R : Rel K F σ H ρ (v :: vs) (d :: ds)) (hi : i < ρ.length) : Rel K F (σ.set i (some v)) H (ρ.set i (.sh d)) vs ds := by
  obtain ⟨Hi, own, R⟩ := R
  have q := R.tmp
  cases q with
  | cons a b => exact ⟨Hi, _, R.put hi ⟨v, rfl, a⟩ b⟩
theorem Rel.wipe1 {i : Nat} (R : Rel K F σ H ρ vs ds) (hi : i < ρ.length) : Rel K F (σ.set i none) H (ρ.set i .no) vs ds := by
  obtain ⟨Hi, own, R⟩ := R
  exact ⟨Hi, _, R.put hi trivial R.tmp⟩
/-- a slot's data -/
theorem Rel.get {i : Nat} {d : D} (R : Rel K F σ H ρ vs ds) (h : ρ[i]? = some (.sh d)) : ∃ v, σ[i]? = some (some v) ∧ Rel K F σ H ρ (v :: vs) (d :: ds) := by
  obtain ⟨Hi, own, R⟩ := R
  obtain ⟨v, e, q⟩ := R.slot i _ h
  have e' : σ[i]? = some (some v) := by
    cases z : σ[i]? with
    | none => rw [z] at e; cases e
    | some y => rw [z] at e; exact congrArg some e
  exact ⟨v, e', Hi, own, R.tmpTo (.cons q R.tmp)⟩
/-- a list that only slot i knows will never change again -/
theorem Rel.freeze {i : Nat} {es : List D} (R : Rel K F σ H ρ vs ds) (h : ρ[i]? = some (.ls es)) : Rel K F σ H (ρ.set i (.sh (.list es))) vs ds := by
  obtain ⟨Hi, own, R⟩ := R
  obtain ⟨p, xs, e, eo, hp, q⟩ := R.slot i _ h
  have hi : i < ρ.length := (List.getElem?_eq_some_iff.mp h).1
  have np : Hi p = none := R.free i p (by rw [eo]; simp)
  have s1 : Same Hi (upd Hi p (.lst xs)) := same_upd np
  have no : ∀ j, j ≠ i → ∀ a ∈ own j, a ≠ p := fun j hj a ha z => R.sep j i hj a ha (by rw [eo, z]; simp)
  refine ⟨upd Hi p (.lst xs), fun j => if j = i then [] else own j, ⟨R.base.trans s1, fun b o z => ?_, fun b hb => ?_, R.keep, R.dom, ?_, fun j y h => ?_, fun j a ha => ?_, fun j a ha => ?_, fun j a ha => ?_, fun j k hjk a ha hk => ?_, fun j es' h a ha => ?_, fun z hz => ?_, dpAll_mono s1 _ _ R.tmp⟩⟩
  · by_cases hb : b = p
    · rw [hb, upd_same] at z; rw [hb, hp]; exact z
    · rw [upd_ne hb] at z; exact R.sub b o z
  · by_cases hbp : b = p
    · rw [hbp]; exact .inr (R.nls i _ h p (by rw [eo]; simp))
    · rw [upd_ne hbp] at hb; exact R.new b hb
  · rw [List.length_set]; exact R.len
  · by_cases hj : j = i
    · subst hj
      rw [List.getElem?_set_self hi] at h
      cases h
      exact ⟨.ref p, e, .lst (.inl (.inl upd_same)) (dpAll_mono s1 _ _ q)⟩
    · rw [List.getElem?_set_ne (Ne.symm hj)] at h
      rw [if_neg hj]
      exact (R.slot j y h).grow s1 fun _ _ _ z => z
  · by_cases hj : j = i
    · rw [if_pos hj] at ha; cases ha
    · rw [if_neg hj] at ha; rw [upd_ne (no j hj a ha)]; exact R.free j a ha
  · by_cases hj : j = i
    · rw [if_pos hj] at ha; cases ha
    · rw [if_neg hj] at ha; exact R.held j a ha
  · by_cases hj : j = i
    · rw [if_pos hj] at ha; cases ha
    · rw [if_neg hj] at ha; exact R.nown j a ha
  · by_cases hj : j = i
    · rw [if_pos hj] at ha; cases ha
    · rw [if_neg hj] at ha
      by_cases hki : k = i
      · rw [if_pos hki] at hk; cases hk
      · rw [if_neg hki] at hk; exact R.sep j k hjk a ha hk
  · by_cases hj : j = i
    · rw [if_pos hj] at ha; cases ha
    · rw [if_neg hj] at ha
      rw [List.getElem?_set_ne (Ne.symm hj)] at h
      exact R.nls j es' h a ha
  · obtain ⟨z1, z2, z3⟩ := R.pin z hz
    have nz : z.1 ≠ p := fun e => z3 i (by rw [eo, e]; simp)
    refine ⟨z1, by rw [upd_ne nz]; exact z2, fun j hj => ?_⟩
    by_cases hji : j = i
    · rw [if_pos hji] at hj; cases hj
    · rw [if_neg hji] at hj; exact z3 j hj
end
end LD

/-! LD2: readings over data: expressions. -/
namespace LD
open PySem PySem.Spec L2

abbrev KD := Rho → D → Prop
abbrev KL := Rho → List D → Prop
abbrev TD := Rho → KD → Prop
abbrev TDA := Rho → KL → Prop
abbrev TDT := Rho → (Rho → Bool → Prop) → Prop
abbrev TDO := Rho → (Rho → Option Int → Prop) → Prop
abbrev OD := D → D → (D → Prop) → Prop
abbrev UD := D → (D → Prop) → Prop
abbrev CD := List D → (D → Prop) → Prop
abbrev CF := List D → (List D → Prop) → Prop

/-- the reading te, told over data by t -/
structure SE (K : PySem.W.Frag) (te : TE) (t : TD) : Prop where
  mono : ∀ ρ P P', (∀ r d, P r d → P' r d) → t ρ P → t ρ P'
  run : ∀ F σ H ρ vs ds Q, Rel K F σ H ρ vs ds → t ρ (fun r d => ∀ v H', Rel K F σ H' r (v :: vs) (d :: ds) → Q v H') → te σ H Q
/-- .. of a list that is made new -/
structure SF (K : PySem.W.Frag) (te : TE) (t : TDA) : Prop where
  mono : ∀ ρ P P', (∀ r d, P r d → P' r d) → t ρ P → t ρ P'
  run : ∀ F σ H ρ vs ds Q, Rel K F σ H ρ vs ds → t ρ (fun r es => ∀ xs H' p, xs.length = es.length → Rel K F σ H' r (xs ++ vs) (es ++ ds) → H' p = none → Q (.ref p) (upd H' p (.lst xs))) → te σ H Q
structure SA (K : PySem.W.Frag) (te : TA) (t : TDA) : Prop where
  mono : ∀ ρ P P', (∀ r d, P r d → P' r d) → t ρ P → t ρ P'
  run : ∀ F σ H ρ vs ds Q, Rel K F σ H ρ vs ds → t ρ (fun r es => ∀ xs H', xs.length = es.length → Rel K F σ H' r (xs ++ vs) (es ++ ds) → Q xs H') → te σ H Q
structure ST (K : PySem.W.Frag) (te : TT) (t : TDT) : Prop where
  mono : ∀ ρ P P', (∀ r d, P r d → P' r d) → t ρ P → t ρ P'
  run : ∀ F σ H ρ vs ds Q, Rel K F σ H ρ vs ds → t ρ (fun r b => ∀ H', Rel K F σ H' r vs ds → Q b H') → te σ H Q
structure SOp (K : PySem.W.Frag) (te : TO) (t : TDO) : Prop where
  mono : ∀ ρ P P', (∀ r d, P r d → P' r d) → t ρ P → t ρ P'
  run : ∀ F σ H ρ vs ds Q, Rel K F σ H ρ vs ds → t ρ (fun r o => ∀ H', Rel K F σ H' r vs ds → Q o H') → te σ H Q
structure SO (K : PySem.W.Frag) (r : R2) (o : OD) : Prop where
  mono : ∀ a b P P', (∀ d, P d → P' d) → o a b P → o a b P'
  run : ∀ F σ H ρ vs ds x y a b Q, Rel K F σ H ρ (y :: x :: vs) (b :: a :: ds) → o a b (fun d => ∀ v H', Rel K F σ H' ρ (v :: vs) (d :: ds) → Q v H') → r x y H Q
structure SU (K : PySem.W.Frag) (r : V → Hp → VK → Prop) (o : UD) : Prop where
  mono : ∀ a P P', (∀ d, P d → P' d) → o a P → o a P'
  run : ∀ F σ H ρ vs ds x a Q, Rel K F σ H ρ (x :: vs) (a :: ds) → o a (fun d => ∀ v H', Rel K F σ H' ρ (v :: vs) (d :: ds) → Q v H') → r x H Q
structure SC (K : PySem.W.Frag) (r : List V → Hp → VK → Prop) (o : CD) : Prop where
  mono : ∀ a P P', (∀ d, P d → P' d) → o a P → o a P'
  run : ∀ F σ H ρ vs ds xs es Q, xs.length = es.length → Rel K F σ H ρ (xs ++ vs) (es ++ ds) → o es (fun d => ∀ v H', Rel K F σ H' ρ (v :: vs) (d :: ds) → Q v H') → r xs H Q
/-- a built-in call that hands back a new list -/
structure SCF (K : PySem.W.Frag) (r : List V → Hp → VK → Prop) (o : CF) : Prop where
  mono : ∀ a P P', (∀ d, P d → P' d) → o a P → o a P'
  run : ∀ F σ H ρ vs ds xs es Q, xs.length = es.length → Rel K F σ H ρ (xs ++ vs) (es ++ ds) → o es (fun fs => ∀ ys H' p, ys.length = fs.length → Rel K F σ H' ρ (ys ++ vs) (fs ++ ds) → H' p = none → Q (.ref p) (upd H' p (.lst ys))) → r xs H Q

/-! ### inversions -/
section
variable {K : PySem.W.Frag} {F : Fx} {σ : L2.St} {H : Hp} {ρ : Rho} {vs xs : List V} {ds es : List D} {v : V}
theorem Rel.int {i : Int} (R : Rel K F σ H ρ (v :: vs) (.int i :: ds)) : v = .int i := by
  obtain ⟨_, _, R⟩ := R
  have q := R.tmp
  cases q with | cons a _ => cases a; rfl
theorem Rel.bl {i : Bool} (R : Rel K F σ H ρ (v :: vs) (.bool i :: ds)) : v = .bl i := by
  obtain ⟨_, _, R⟩ := R
  have q := R.tmp
  cases q with | cons a _ => cases a; rfl
theorem Rel.str {i : Str} (R : Rel K F σ H ρ (v :: vs) (.str i :: ds)) : v = .str i := by
  obtain ⟨_, _, R⟩ := R
  have q := R.tmp
  cases q with | cons a _ => cases a; rfl
theorem Rel.non (R : Rel K F σ H ρ (v :: vs) (PyData.none :: ds)) : v = .non := by
  obtain ⟨_, _, R⟩ := R
  have q := R.tmp
  cases q with | cons a _ => cases a; rfl
/-- a shared list: its items -/
theorem Rel.asList (R : Rel K F σ H ρ (v :: vs) (.list es :: ds)) : ∃ p xs, v = .ref p ∧ xs.length = es.length ∧ SqL K H p xs ∧ Rel K F σ H ρ (xs ++ v :: vs) (es ++ .list es :: ds) := by
  obtain ⟨Hi, own, R⟩ := R
  have q := R.tmp
  cases q with
  | cons a b =>
    cases a with
    | lst s q => exact ⟨_, _, rfl, dpAll_len q, R.sub.seq s, Hi, own, R.tmpTo (dpAll_app q (.cons (.lst s q) b))⟩
theorem Rel.asTup (R : Rel K F σ H ρ (v :: vs) (.tuple es :: ds)) : ∃ p xs, v = .ref p ∧ xs.length = es.length ∧ SqT K H p xs ∧ Rel K F σ H ρ (xs ++ v :: vs) (es ++ .tuple es :: ds) := by
  obtain ⟨Hi, own, R⟩ := R
  have q := R.tmp
  cases q with
  | cons a b =>
    cases a with
    | tup s q => exact ⟨_, _, rfl, dpAll_len q, sqT_mono R.sub s, Hi, own, R.tmpTo (dpAll_app q (.cons (.tup s q) b))⟩
theorem Rel.dp {d : D} (R : Rel K F σ H ρ (v :: vs) (d :: ds)) : Dp K H v d := by
  obtain ⟨Hi, own, R⟩ := R
  have q := R.tmp
  cases q with | cons a _ => exact dp_mono R.sub _ _ a
theorem Rel.dpAll (R : Rel K F σ H ρ vs ds) : DpAll K H vs ds := by
  obtain ⟨Hi, own, R⟩ := R
  exact dpAll_mono R.sub _ _ R.tmp
/-- one of the temporaries in front -/
theorem Rel.pick {i : Nat} {d : D} (R : Rel K F σ H ρ (xs ++ vs) (es ++ ds)) (e : xs.length = es.length) (h : es[i]? = some d) : ∃ v, xs[i]? = some v ∧ Rel K F σ H ρ (v :: vs) (d :: ds) := by
  obtain ⟨Hi, own, R⟩ := R
  obtain ⟨h1, h2⟩ := dpAll_split e R.tmp
  obtain ⟨v, e1, q⟩ := dpAll_at h1 h
  exact ⟨v, e1, Hi, own, R.tmpTo (.cons q h2)⟩
theorem len_nil {xs : List V} (e : xs.length = ([] : List D).length) : xs = [] := List.length_eq_zero_iff.mp e
theorem len_cons {xs : List V} {d : D} {ds : List D} (e : xs.length = (d :: ds).length) : ∃ x r, xs = x :: r ∧ r.length = ds.length := by
  cases xs with
  | nil => cases e
  | cons x r => exact ⟨x, r, rfl, Nat.succ.inj e⟩
end

/-! ### expressions -/
section
variable {K : PySem.W.Frag} {ta tb tc te : TE} {a b c t : TD}
def dVar (i : Nat) : TD := fun ρ P => ∃ d, ρ[i]? = some (.sh d) ∧ P ρ d
theorem se_var (i : Nat) : SE K (tVar i) (dVar i) := ⟨fun ρ P P' h ⟨d, e, q⟩ => ⟨d, e, h _ d q⟩, fun F σ H ρ vs ds Q R ⟨d, e, q⟩ => by
  obtain ⟨v, e1, R1⟩ := R.get e
  exact ⟨v, e1, q v H R1⟩⟩
def dC (d : D) : TD := fun ρ P => P ρ d
theorem se_c {v : V} (h : isSc v = true := by rfl) : SE K (tC v) (dC (vD v)) := ⟨fun ρ P P' h q => h _ _ q, fun F σ H ρ vs ds Q R q => q v H (R.push h)⟩
def dOp (o : OD) (a b : TD) : TD := fun ρ P => a ρ fun ρ1 x => b ρ1 fun ρ2 y => o x y (P ρ2)
theorem se_op {r : R2} {o : OD} (so : SO K r o) (sa : SE K ta a) (sb : SE K tb b) : SE K (tOp r ta tb) (dOp o a b) := by
  refine ⟨fun ρ P P' h q => sa.mono _ _ _ (fun _ x q => sb.mono _ _ _ (fun _ y q => so.mono _ _ _ _ (h _) q) q) q, fun F σ H ρ vs ds Q R q => ?_⟩
  refine sa.run F σ H ρ vs ds _ R (sa.mono _ _ _ (fun ρ1 x q v1 H1 R1 => ?_) q)
  refine sb.run F σ H1 ρ1 (v1 :: vs) (x :: ds) _ R1 (sb.mono _ _ _ (fun ρ2 y q v2 H2 R2 => ?_) q)
  exact so.run F σ H2 ρ2 vs ds v1 v2 x y Q R2 q
def dUn (o : UD) (a : TD) : TD := fun ρ P => a ρ fun ρ1 x => o x (P ρ1)
theorem se_un {r : V → Hp → VK → Prop} {o : UD} (so : SU K r o) (sa : SE K ta a) : SE K (tUn r ta) (dUn o a) := by
  refine ⟨fun ρ P P' h q => sa.mono _ _ _ (fun _ x q => so.mono _ _ _ (h _) q) q, fun F σ H ρ vs ds Q R q => ?_⟩
  exact sa.run F σ H ρ vs ds _ R (sa.mono _ _ _ (fun ρ1 x q v1 H1 R1 => so.run F σ H1 ρ1 vs ds v1 x Q R1 q) q)
/-- a list that is made and shared -/
def dSh (t : TDA) : TD := fun ρ P => t ρ fun r es => P r (.list es)
theorem se_sh {t : TDA} (s : SF K te t) : SE K te (dSh t) := ⟨fun ρ P P' h q => s.mono _ _ _ (fun _ es q => h _ _ q) q, fun F σ H ρ vs ds Q R q =>
  s.run F σ H ρ vs ds Q R (s.mono _ _ _ (fun _ es q xs H' p e R1 hp => q _ _ (R1.lst e hp)) q)⟩
/-! arguments, displays -/
def dNil : TDA := fun ρ P => P ρ []
def dCons (a : TD) (r : TDA) : TDA := fun ρ P => a ρ fun ρ1 x => r ρ1 fun ρ2 xs => P ρ2 (x :: xs)
theorem sa_nil : SA K tNil dNil := ⟨fun ρ P P' h q => h _ _ q, fun F σ H ρ vs ds Q R q => q [] H rfl R⟩
theorem sa_cons {tr : TA} {r : TDA} (sa : SE K ta a) (sr : SA K tr r) : SA K (tCons ta tr) (dCons a r) := by
  refine ⟨fun ρ P P' h q => sa.mono _ _ _ (fun _ x q => sr.mono _ _ _ (fun _ xs q => h _ _ q) q) q, fun F σ H ρ vs ds Q R q => ?_⟩
  refine sa.run F σ H ρ vs ds _ R (sa.mono _ _ _ (fun ρ1 x q v1 H1 R1 => ?_) q)
  refine sr.run F σ H1 ρ1 (v1 :: vs) (x :: ds) _ R1 (sr.mono _ _ _ (fun ρ2 es q xs H2 e R2 => ?_) q)
  refine q (v1 :: xs) H2 (congrArg Nat.succ e) (R2.swap fun Hi h => ?_)
  obtain ⟨h1, h2⟩ := dpAll_split e h
  cases h2 with
  | cons p q => exact .cons p (dpAll_app h1 q)
def dTup (t : TDA) : TD := fun ρ P => t ρ fun r es => es.length ≤ sizeLine ∧ P r (.tuple es)
theorem se_tup {ta : TA} {t : TDA} (s : SA K ta t) : SE K (tTup ta) (dTup t) := ⟨fun ρ P P' h q => s.mono _ _ _ (fun _ es q => ⟨q.1, h _ _ q.2⟩) q, fun F σ H ρ vs ds Q R q =>
  s.run F σ H ρ vs ds _ R (s.mono _ _ _ (fun _ es q xs H1 e R1 => ⟨by rw [e]; exact q.1, fun p hp => q.2 _ _ (R1.tup e hp)⟩) q)⟩
def dLst (t : TDA) : TDA := fun ρ P => t ρ fun r es => es.length ≤ sizeLine ∧ P r es
theorem sf_lst {ta : TA} {t : TDA} (s : SA K ta t) : SF K (tLst ta) (dLst t) := ⟨fun ρ P P' h q => s.mono _ _ _ (fun _ es q => ⟨q.1, h _ _ q.2⟩) q, fun F σ H ρ vs ds Q R q =>
  s.run F σ H ρ vs ds _ R (s.mono _ _ _ (fun _ es q xs H1 e R1 => ⟨by rw [e]; exact q.1, fun p hp => q.2 _ _ _ e R1 hp⟩) q)⟩
/-! built-in calls -/
def dCall (o : CD) (t : TDA) : TD := fun ρ P => t ρ fun r es => o es (P r)
theorem se_cb {r : List V → Hp → VK → Prop} {o : CD} {ta : TA} {t : TDA} (so : SC K r o) (s : SA K ta t) : SE K (tCB r ta) (dCall o t) := ⟨fun ρ P P' h q => s.mono _ _ _ (fun _ es q => so.mono _ _ _ (h _) q) q, fun F σ H ρ vs ds Q R q =>
  s.run F σ H ρ vs ds _ R (s.mono _ _ _ (fun ρ1 es q xs H1 e R1 => so.run F σ H1 ρ1 vs ds xs es Q e R1 q) q)⟩
def dCallF (o : CF) (t : TDA) : TDA := fun ρ P => t ρ fun r es => o es (P r)
theorem sf_cb {r : List V → Hp → VK → Prop} {o : CF} {ta : TA} {t : TDA} (so : SCF K r o) (s : SA K ta t) : SF K (tCB r ta) (dCallF o t) := ⟨fun ρ P P' h q => s.mono _ _ _ (fun _ es q => so.mono _ _ _ (h _) q) q, fun F σ H ρ vs ds Q R q =>
  s.run F σ H ρ vs ds _ R (s.mono _ _ _ (fun ρ1 es q xs H1 e R1 => so.run F σ H1 ρ1 vs ds xs es Q e R1 q) q)⟩
/-! conditional expressions, and, or, not -/
def dIf (t : TDT) (a b : TD) : TD := fun ρ P => t ρ fun r k => if k = true then a r P else b r P
theorem se_if {tt : TT} {t : TDT} (st : ST K tt t) (sa : SE K ta a) (sb : SE K tb b) : SE K (tIf tt ta tb) (dIf t a b) := by
  refine ⟨fun ρ P P' h q => st.mono _ _ _ (fun _ k q => ?_) q, fun F σ H ρ vs ds Q R q => ?_⟩
  · cases k with
    | true => exact sa.mono _ _ _ h q
    | false => exact sb.mono _ _ _ h q
  · refine st.run F σ H ρ vs ds _ R (st.mono _ _ _ (fun ρ1 k q H1 R1 => ?_) q)
    cases k with
    | true => exact sa.run F σ H1 ρ1 vs ds Q R1 q
    | false => exact sb.run F σ H1 ρ1 vs ds Q R1 q
def dAndV (a b : TD) : TD := fun ρ P => a ρ fun r x => ∃ k, x = .bool k ∧ if k = true then b r P else P r (.bool false)
theorem se_andV (sa : SE K ta a) (sb : SE K tb b) : SE K (tAndV ta tb) (dAndV a b) := by
  refine ⟨fun ρ P P' h q => sa.mono _ _ _ (fun _ x q => ?_) q, fun F σ H ρ vs ds Q R q => ?_⟩
  · obtain ⟨k, e, q⟩ := q
    refine ⟨k, e, ?_⟩
    cases k with
    | true => exact sb.mono _ _ _ h q
    | false => exact h _ _ q
  · refine sa.run F σ H ρ vs ds _ R (sa.mono _ _ _ (fun ρ1 x q v H1 R1 => ?_) q)
    obtain ⟨k, rfl, q⟩ := q
    refine ⟨k, R1.bl, ?_⟩
    cases k with
    | true => exact sb.run F σ H1 ρ1 vs ds Q R1.drop q
    | false => exact q _ _ (R1.drop.push (v := .bl false) rfl)
def dOrV (a b : TD) : TD := fun ρ P => a ρ fun r x => ∃ k, x = .bool k ∧ if k = true then P r (.bool true) else b r P
theorem se_orV (sa : SE K ta a) (sb : SE K tb b) : SE K (tOrV ta tb) (dOrV a b) := by
  refine ⟨fun ρ P P' h q => sa.mono _ _ _ (fun _ x q => ?_) q, fun F σ H ρ vs ds Q R q => ?_⟩
  · obtain ⟨k, e, q⟩ := q
    refine ⟨k, e, ?_⟩
    cases k with
    | false => exact sb.mono _ _ _ h q
    | true => exact h _ _ q
  · refine sa.run F σ H ρ vs ds _ R (sa.mono _ _ _ (fun ρ1 x q v H1 R1 => ?_) q)
    obtain ⟨k, rfl, q⟩ := q
    refine ⟨k, R1.bl, ?_⟩
    cases k with
    | false => exact sb.run F σ H1 ρ1 vs ds Q R1.drop q
    | true => exact q _ _ (R1.drop.push (v := .bl true) rfl)
def dNotV (a : TD) : TD := fun ρ P => a ρ fun r x => ∃ k, x = .bool k ∧ P r (.bool (!k))
theorem se_notV (sa : SE K ta a) : SE K (tNotV ta) (dNotV a) := by
  refine ⟨fun ρ P P' h q => sa.mono _ _ _ (fun _ x ⟨k, e, q⟩ => ⟨k, e, h _ _ q⟩) q, fun F σ H ρ vs ds Q R q => ?_⟩
  refine sa.run F σ H ρ vs ds _ R (sa.mono _ _ _ (fun ρ1 x q v H1 R1 => ?_) q)
  obtain ⟨k, rfl, q⟩ := q
  exact ⟨k, R1.bl, q _ _ (R1.drop.push (v := .bl (!k)) rfl)⟩
/-! tests -/
def dTB (a : TD) : TDT := fun ρ P => a ρ fun r d => ∃ b, d = .bool b ∧ P r b
theorem st_b (sa : SE K ta a) : ST K (tB ta) (dTB a) := ⟨fun ρ P P' h q => sa.mono _ _ _ (fun _ d ⟨b, e, q⟩ => ⟨b, e, h _ b q⟩) q, fun F σ H ρ vs ds Q R q =>
  sa.run F σ H ρ vs ds _ R (sa.mono _ _ _ (fun _ d q v H1 R1 => by
    obtain ⟨b, rfl, q⟩ := q
    exact ⟨b, R1.bl, q H1 R1.drop⟩) q)⟩
theorem st_test (sa : SE K ta a) : ST K (tTest ta) (dTB a) := ⟨(st_b sa).mono, (st_b sa).run⟩
def dTNot (t : TDT) : TDT := fun ρ P => t ρ fun r b => P r (!b)
def dTAnd (t u : TDT) : TDT := fun ρ P => t ρ fun r b => if b = true then u r P else P r false
def dTOr (t u : TDT) : TDT := fun ρ P => t ρ fun r b => if b = true then P r true else u r P
theorem st_not {tt : TT} {t : TDT} (st : ST K tt t) : ST K (tNot tt) (dTNot t) := ⟨fun ρ P P' h q => st.mono _ _ _ (fun _ b q => h _ _ q) q, fun F σ H ρ vs ds Q R q =>
  st.run F σ H ρ vs ds _ R (st.mono _ _ _ (fun _ b q H1 R1 => q H1 R1) q)⟩
theorem st_and {tt uu : TT} {t u : TDT} (st : ST K tt t) (su : ST K uu u) : ST K (tAnd tt uu) (dTAnd t u) := by
  refine ⟨fun ρ P P' h q => st.mono _ _ _ (fun _ b q => ?_) q, fun F σ H ρ vs ds Q R q => st.run F σ H ρ vs ds _ R (st.mono _ _ _ (fun r b q H1 R1 => ?_) q)⟩
  · cases b with
    | true => exact su.mono _ _ _ h q
    | false => exact h _ _ q
  · cases b with
    | true => exact su.run F σ H1 r vs ds Q R1 q
    | false => exact q H1 R1
theorem st_or {tt uu : TT} {t u : TDT} (st : ST K tt t) (su : ST K uu u) : ST K (tOr tt uu) (dTOr t u) := by
  refine ⟨fun ρ P P' h q => st.mono _ _ _ (fun _ b q => ?_) q, fun F σ H ρ vs ds Q R q => st.run F σ H ρ vs ds _ R (st.mono _ _ _ (fun r b q H1 R1 => ?_) q)⟩
  · cases b with
    | false => exact su.mono _ _ _ h q
    | true => exact h _ _ q
  · cases b with
    | false => exact su.run F σ H1 r vs ds Q R1 q
    | true => exact q H1 R1
end
end LD

/-! LD3: readings over data: operators, subscripts, slices, built-in functions. -/
namespace LD
open PySem PySem.Spec L2
section
variable {K : PySem.W.Frag}
def oI (C : Int → Int → Prop) (g : Int → Int → V) : OD := fun a b P => ∃ i j, a = .int i ∧ b = .int j ∧ C i j ∧ P (vD (g i j))
theorem so_rI {C : Int → Int → Prop} {g : Int → Int → V} (hs : ∀ i j, isSc (g i j) = true := by intros; rfl) : SO K (rI C g) (oI C g) :=
  ⟨fun a b P P' h ⟨i, j, e1, e2, c, q⟩ => ⟨i, j, e1, e2, c, h _ q⟩, fun F σ H ρ vs ds x y a b Q R ⟨i, j, e1, e2, c, q⟩ => by
    subst e1 e2
    exact ⟨i, j, R.drop.int, R.int, c, q _ _ (R.drop.drop.push (hs i j))⟩⟩
def oI0 (g : Int → Int → V) : OD := fun a b P => ∃ i j, a = .int i ∧ b = .int j ∧ P (vD (g i j))
theorem so_rI0 {g : Int → Int → V} (hs : ∀ i j, isSc (g i j) = true := by intros; rfl) : SO K (rI0 g) (oI0 g) :=
  ⟨fun a b P P' h ⟨i, j, e1, e2, q⟩ => ⟨i, j, e1, e2, h _ q⟩, fun F σ H ρ vs ds x y a b Q R ⟨i, j, e1, e2, q⟩ => by
    subst e1 e2
    exact ⟨i, j, R.drop.int, R.int, q _ _ (R.drop.drop.push (hs i j))⟩⟩
def uI (g : Int → Int) : UD := fun a P => ∃ i, a = .int i ∧ P (.int (g i))
theorem su_rU {g : Int → Int} : SU K (rU fun i => .int (g i)) (uI g) :=
  ⟨fun a P P' h ⟨i, e1, q⟩ => ⟨i, e1, h _ q⟩, fun F σ H ρ vs ds x a Q R ⟨i, e1, q⟩ => by
    subst e1
    exact ⟨i, R.int, q _ _ (R.drop.push (v := .int (g i)) rfl)⟩⟩
/-- ==, != of data -/
def oEq : OD := fun a b P => SeqAt.shaped a = true ∧ SeqAt.shaped b = true ∧ P (.bool (PyData.eqv a b))
def oNe : OD := fun a b P => SeqAt.shaped a = true ∧ SeqAt.shaped b = true ∧ P (.bool (!PyData.eqv a b))
theorem so_eqD : SO K (rEqD K) oEq := ⟨fun a b P P' h ⟨e1, e2, q⟩ => ⟨e1, e2, h _ q⟩, fun F σ H ρ vs ds x y a b Q R ⟨e1, e2, q⟩ =>
  ⟨a, b, R.drop.dp, R.dp, e1, e2, q _ _ (R.drop.drop.push (v := .bl (PyData.eqv a b)) rfl)⟩⟩
theorem so_neD : SO K (rNeD K) oNe := ⟨fun a b P P' h ⟨e1, e2, q⟩ => ⟨e1, e2, h _ q⟩, fun F σ H ρ vs ds x y a b Q R ⟨e1, e2, q⟩ =>
  ⟨a, b, R.drop.dp, R.dp, e1, e2, q _ _ (R.drop.drop.push (v := .bl (!PyData.eqv a b)) rfl)⟩⟩
/-- texts that are compared -/
def oNeS : OD := fun a b P => ∃ x y, a = .str x ∧ b = .str y ∧ P (.bool (!decide (x = y)))
theorem so_neS : SO K rNe oNeS := ⟨fun a b P P' h ⟨x, y, e1, e2, q⟩ => ⟨x, y, e1, e2, h _ q⟩, fun F σ H ρ vs ds x y a b Q R ⟨s, t, e1, e2, q⟩ => by
  subst e1 e2
  obtain rfl := R.str
  obtain rfl := R.drop.str
  refine ⟨rfl, ?_⟩
  have e : (!decide (V.str s = V.str t)) = !decide (s = t) := by
    by_cases h : s = t
    · rw [h]; simp
    · simp [h]
  rw [e]
  exact q _ _ (R.drop.drop.push (v := .bl (!decide (s = t))) rfl)⟩
def oEqS : OD := fun a b P => ∃ x y, a = .str x ∧ b = .str y ∧ P (.bool (decide (x = y)))
theorem so_eqS : SO K rEq oEqS := ⟨fun a b P P' h ⟨x, y, e1, e2, q⟩ => ⟨x, y, e1, e2, h _ q⟩, fun F σ H ρ vs ds x y a b Q R ⟨s, t, e1, e2, q⟩ => by
  subst e1 e2
  obtain rfl := R.str
  obtain rfl := R.drop.str
  refine ⟨rfl, ?_⟩
  have e : (decide (V.str s = V.str t)) = decide (s = t) := by
    by_cases h : s = t
    · rw [h]; simp
    · simp [h]
  rw [e]
  exact q _ _ (R.drop.drop.push (v := .bl (decide (s = t))) rfl)⟩
/-- is None -/
def isNoneD : D → Bool
  | .none => true
  | _ => false
theorem dp_none {H : Hp} {v : V} {d : D} (h : Dp K H v d) : decide (v = .non) = isNoneD d := by
  cases h <;> first | rfl | simp [isNoneD]
def oIsN : OD := fun a b P => b = .none ∧ P (.bool (isNoneD a))
def oNotN : OD := fun a b P => b = .none ∧ P (.bool (!isNoneD a))
theorem so_isN : SO K (fun x y H Q => y = .non ∧ Q (.bl (decide (x = .non))) H) oIsN := ⟨fun a b P P' h ⟨e2, q⟩ => ⟨e2, h _ q⟩, fun F σ H ρ vs ds x y a b Q R ⟨e2, q⟩ => by
  subst e2
  refine ⟨R.non, ?_⟩
  rw [dp_none R.drop.dp]
  exact q _ _ (R.drop.drop.push (v := .bl (isNoneD a)) rfl)⟩
theorem so_notN : SO K (fun x y H Q => y = .non ∧ Q (.bl (!decide (x = .non))) H) oNotN := ⟨fun a b P P' h ⟨e2, q⟩ => ⟨e2, h _ q⟩, fun F σ H ρ vs ds x y a b Q R ⟨e2, q⟩ => by
  subst e2
  refine ⟨R.non, ?_⟩
  rw [dp_none R.drop.dp]
  exact q _ _ (R.drop.drop.push (v := .bl (!isNoneD a)) rfl)⟩
/-- is, is not of bools -/
def oIsB (n : Bool) : OD := fun a b P => ∃ x y, a = .bool x ∧ b = .bool y ∧ P (.bool (if n = true then !decide (x = y) else decide (x = y)))
theorem so_isB : SO K rIsB (oIsB false) := ⟨fun a b P P' h ⟨x, y, e1, e2, q⟩ => ⟨x, y, e1, e2, h _ q⟩, fun F σ H ρ vs ds x y a b Q R ⟨s, t, e1, e2, q⟩ => by
  subst e1 e2
  exact ⟨s, t, R.drop.bl, R.bl, q _ _ (R.drop.drop.push (v := .bl (decide (s = t))) rfl)⟩⟩
theorem so_notB : SO K rNotB (oIsB true) := ⟨fun a b P P' h ⟨x, y, e1, e2, q⟩ => ⟨x, y, e1, e2, h _ q⟩, fun F σ H ρ vs ds x y a b Q R ⟨s, t, e1, e2, q⟩ => by
  subst e1 e2
  exact ⟨s, t, R.drop.bl, R.bl, q _ _ (R.drop.drop.push (v := .bl (!decide (s = t))) rfl)⟩⟩
/-! subscripts -/
theorem atI_pick {F : Fx} {σ : L2.St} {H : Hp} {ρ : Rho} {vs xs : List V} {ds es : List D} {i : Int} {d : D} (e : xs.length = es.length) (R : Rel K F σ H ρ (xs ++ vs) (es ++ ds)) (h : atI es i = some d) : ∃ v, atI xs i = some v ∧ Rel K F σ H ρ (v :: vs) (d :: ds) := by
  unfold atI at h ⊢
  rw [e]
  cases hn : ixN es.length i with
  | none => rw [hn] at h; cases h
  | some j =>
    rw [hn] at h
    obtain ⟨v, e1, R1⟩ := R.pick e (i := j) h
    exact ⟨v, e1, R1⟩
def oIxL : OD := fun a b P => ∃ es i d, a = .list es ∧ b = .int i ∧ atI es i = some d ∧ P d
def oIxT : OD := fun a b P => ∃ es i d, a = .tuple es ∧ b = .int i ∧ atI es i = some d ∧ P d
theorem so_ixL : SO K (rIxL K) oIxL := ⟨fun a b P P' h ⟨es, i, d, e1, e2, e3, q⟩ => ⟨es, i, d, e1, e2, e3, h _ q⟩, fun F σ H ρ vs ds x y a b Q R ⟨es, i, d, e1, e2, e3, q⟩ => by
  subst e1 e2
  obtain rfl := R.int
  obtain ⟨p, xs, rfl, e, s, R1⟩ := R.drop.asList
  obtain ⟨v, e4, R2⟩ := atI_pick e R1 e3
  exact ⟨p, xs, i, v, rfl, rfl, s, e4, q _ _ R2.drop2⟩⟩
theorem so_ixT : SO K (rIxT K) oIxT := ⟨fun a b P P' h ⟨es, i, d, e1, e2, e3, q⟩ => ⟨es, i, d, e1, e2, e3, h _ q⟩, fun F σ H ρ vs ds x y a b Q R ⟨es, i, d, e1, e2, e3, q⟩ => by
  subst e1 e2
  obtain rfl := R.int
  obtain ⟨p, xs, rfl, e, s, R1⟩ := R.drop.asTup
  obtain ⟨v, e4, R2⟩ := atI_pick e R1 e3
  exact ⟨p, xs, i, v, rfl, rfl, s, e4, q _ _ R2.drop2⟩⟩
/-! slices -/
def oNo : TDO := fun ρ P => P ρ none
def oPart (a : TD) : TDO := fun ρ P => a ρ fun r d => ∃ i, d = .int i ∧ P r (some i)
theorem sop_none : SOp K tNoPart oNo := ⟨fun ρ P P' h q => h _ _ q, fun F σ H ρ vs ds Q R q => q H R⟩
theorem sop_some {ta : TE} {a : TD} (sa : SE K ta a) : SOp K (tPart ta) (oPart a) := ⟨fun ρ P P' h q => sa.mono _ _ _ (fun _ d ⟨i, e, q⟩ => ⟨i, e, h _ _ q⟩) q, fun F σ H ρ vs ds Q R q =>
  sa.run F σ H ρ vs ds _ R (sa.mono _ _ _ (fun r d q v H1 R1 => by
    obtain ⟨i, rfl, q⟩ := q
    exact ⟨i, R1.int, q H1 R1.drop⟩) q)⟩
def cutD (es : List D) (lo hi : Option Int) : List D := (es.drop (HT.sIx es.length 0 lo)).take (HT.sIx es.length es.length hi - HT.sIx es.length 0 lo)
theorem dpAll_drop {H : Hp} : ∀ (n : Nat) {es : List D} {xs : List V}, DpAll K H xs es → DpAll K H (xs.drop n) (es.drop n)
  | 0, _, _, h => h
  | n + 1, [], _, h => by cases h; exact .nil
  | n + 1, e :: es, _, h => by
    cases h with
    | cons a b => exact dpAll_drop n b
theorem dpAll_take {H : Hp} : ∀ (n : Nat) {es : List D} {xs : List V}, DpAll K H xs es → DpAll K H (xs.take n) (es.take n)
  | 0, _, _, h => .nil
  | n + 1, [], _, h => by cases h; exact .nil
  | n + 1, e :: es, _, h => by
    cases h with
    | cons a b => exact .cons a (dpAll_take n b)
theorem dpAll_rev {H : Hp} {es : List D} {xs : List V} (h : DpAll K H xs es) : DpAll K H xs.reverse es.reverse := by
  have : ∀ (es : List D) (xs : List V) (fs : List D) (ys : List V), DpAll K H xs es → DpAll K H ys fs → DpAll K H (xs.reverseAux ys) (es.reverseAux fs) := by
    intro es
    induction es with
    | nil => intro xs fs ys h k; cases h; exact k
    | cons e es ih =>
      intro xs fs ys h k
      cases h with
      | cons a b =>
        rename_i v ws
        exact ih ws (e :: fs) (v :: ys) b (.cons a k)
  exact this es xs [] [] h .nil
theorem dpAll_cut {H : Hp} {es : List D} {xs : List V} (lo hi : Option Int) (h : DpAll K H xs es) : DpAll K H (cutV xs lo hi) (cutD es lo hi) := by
  unfold cutV cutD
  rw [dpAll_len h]
  exact dpAll_take _ (dpAll_drop _ h)
theorem Rel.cut {F : Fx} {σ : L2.St} {H : Hp} {ρ : Rho} {vs xs : List V} {ds es : List D} (lo hi : Option Int) (e : xs.length = es.length) (R : Rel K F σ H ρ (xs ++ vs) (es ++ ds)) : (cutV xs lo hi).length = (cutD es lo hi).length ∧ Rel K F σ H ρ (cutV xs lo hi ++ vs) (cutD es lo hi ++ ds) := by
  have q := (dpAll_split e R.dpAll).1
  exact ⟨dpAll_len (dpAll_cut lo hi q), R.swap fun _ h => dpAll_app (dpAll_cut lo hi (dpAll_split e h).1) (dpAll_split e h).2⟩
def dSlL (a : TD) (l u : TDO) : TDA := fun ρ P => a ρ fun r1 x => l r1 fun r2 lo => u r2 fun r3 hi => ∃ es, x = .list es ∧ P r3 (cutD es lo hi)
theorem sf_slL {ta : TE} {a : TD} {tl th : TO} {l u : TDO} (sa : SE K ta a) (sl : SOp K tl l) (su : SOp K th u) : SF K (tSl (rSlL K) ta tl th) (dSlL a l u) := by
  refine ⟨fun ρ P P' h q => sa.mono _ _ _ (fun _ x q => sl.mono _ _ _ (fun _ lo q => su.mono _ _ _ (fun _ hi ⟨es, e, q⟩ => ⟨es, e, h _ _ q⟩) q) q) q, fun F σ H ρ vs ds Q R q => ?_⟩
  refine sa.run F σ H ρ vs ds _ R (sa.mono _ _ _ (fun r1 x q1 v H1 R1 => ?_) q)
  refine sl.run F σ H1 r1 _ _ _ R1 (sl.mono _ _ _ (fun r2 lo q2 H2 R2 => ?_) q1)
  refine su.run F σ H2 r2 _ _ _ R2 (su.mono _ _ _ (fun r3 hi q3 H3 R3 => ?_) q2)
  obtain ⟨es, ex, q4⟩ := q3
  subst ex
  obtain ⟨p, xs, rfl, e, s, R4⟩ := R3.asList
  obtain ⟨e5, R5⟩ := R4.cut lo hi e
  exact ⟨p, xs, rfl, s, fun p' hp => q4 _ _ _ e5 (R5.swap fun _ h => by
    obtain ⟨h1, h2⟩ := dpAll_split e5 h
    cases h2 with | cons _ h2 => exact dpAll_app h1 h2) hp⟩
def dSlT (a : TD) (l u : TDO) : TD := fun ρ P => a ρ fun r1 x => l r1 fun r2 lo => u r2 fun r3 hi => ∃ es, x = .tuple es ∧ P r3 (.tuple (cutD es lo hi))
theorem cutD_all {es : List D} {lo hi : Option Int} (h1 : HT.sIx es.length 0 lo = 0) (h2 : HT.sIx es.length es.length hi = es.length) : cutD es lo hi = es := by
  unfold cutD
  rw [h1, h2, Nat.sub_zero]
  exact List.take_length
theorem se_slT {ta : TE} {a : TD} {tl th : TO} {l u : TDO} (sa : SE K ta a) (sl : SOp K tl l) (su : SOp K th u) : SE K (tSl (rSlA K) ta tl th) (dSlT a l u) := by
  refine ⟨fun ρ P P' h q => sa.mono _ _ _ (fun _ x q => sl.mono _ _ _ (fun _ lo q => su.mono _ _ _ (fun _ hi ⟨es, e, q⟩ => ⟨es, e, h _ _ q⟩) q) q) q, fun F σ H ρ vs ds Q R q => ?_⟩
  refine sa.run F σ H ρ vs ds _ R (sa.mono _ _ _ (fun r1 x q1 v H1 R1 => ?_) q)
  refine sl.run F σ H1 r1 _ _ _ R1 (sl.mono _ _ _ (fun r2 lo q2 H2 R2 => ?_) q1)
  refine su.run F σ H2 r2 _ _ _ R2 (su.mono _ _ _ (fun r3 hi q3 H3 R3 => ?_) q2)
  obtain ⟨es, ex, q4⟩ := q3
  subst ex
  obtain ⟨p, xs, rfl, e, s, R4⟩ := R3.asTup
  obtain ⟨e5, R5⟩ := R4.cut lo hi e
  refine ⟨p, xs, rfl, s, fun h => ?_, fun h p' hp => ?_⟩
  · rw [e] at h
    rw [cutD_all h.1 h.2] at q4
    exact q4 _ _ R3
  · exact q4 _ _ ((R5.swap fun _ h => by
      obtain ⟨h1, h2⟩ := dpAll_split e5 h
      cases h2 with | cons _ h2 => exact dpAll_app h1 h2).tup e5 hp)
def dRevL (a : TD) : TDA := fun ρ P => a ρ fun r x => ∃ es, x = .list es ∧ P r es.reverse
theorem sf_revL {ta : TE} {a : TD} (sa : SE K ta a) : SF K (tRevL K ta) (dRevL a) := by
  refine ⟨fun ρ P P' h q => sa.mono _ _ _ (fun _ x ⟨es, e, q⟩ => ⟨es, e, h _ _ q⟩) q, fun F σ H ρ vs ds Q R q => ?_⟩
  refine sa.run F σ H ρ vs ds _ R (sa.mono _ _ _ (fun r1 x q v H1 R1 => ?_) q)
  obtain ⟨es, rfl, q⟩ := q
  obtain ⟨p, xs, rfl, e, s, R4⟩ := R1.asList
  exact ⟨p, xs, rfl, s, fun p' hp => q _ _ _ (by rw [List.length_reverse, List.length_reverse]; exact e) (R4.swap fun _ h => by
    obtain ⟨h1, h2⟩ := dpAll_split e h
    cases h2 with | cons _ h2 => exact dpAll_app (dpAll_rev h1) h2) hp⟩
/-! built-in functions -/
def cLen : CD := fun es P => ∃ fs, (es = [.list fs] ∨ es = [.tuple fs]) ∧ P (.int fs.length)
theorem sc_len : SC K (fun xs H Q => ∃ p ys, xs = [.ref p] ∧ (SqL K H p ys ∨ SqT K H p ys) ∧ Q (.int ys.length) H) cLen := ⟨fun a P P' h ⟨fs, e, q⟩ => ⟨fs, e, h _ q⟩, fun F σ H ρ vs ds xs es Q e R ⟨fs, h, q⟩ => by
  rcases h with rfl | rfl
  · obtain ⟨x, r, rfl, e1⟩ := len_cons e
    obtain rfl := len_nil e1
    obtain ⟨p, ys, rfl, e2, s, R1⟩ := R.asList
    refine ⟨p, ys, rfl, .inl s, ?_⟩
    rw [e2]
    exact q _ _ (Rel.push (v := .int fs.length) R.drop rfl)
  · obtain ⟨x, r, rfl, e1⟩ := len_cons e
    obtain rfl := len_nil e1
    obtain ⟨p, ys, rfl, e2, s, R1⟩ := R.asTup
    refine ⟨p, ys, rfl, .inr s, ?_⟩
    rw [e2]
    exact q _ _ (Rel.push (v := .int fs.length) R.drop rfl)⟩
def cInt : CD := fun es P => ∃ i, es = [.int i] ∧ P (.int i)
theorem sc_int : SC K (fun xs H Q => (∃ i, xs = [.int i] ∧ Q (.int i) H) ∨ ∃ k, xs = [.bl k] ∧ Q (.int (if k then 1 else 0)) H) cInt := ⟨fun a P P' h ⟨fs, e, q⟩ => ⟨fs, e, h _ q⟩, fun F σ H ρ vs ds xs es Q e R ⟨i, h, q⟩ => by
  subst h
  obtain ⟨x, r, rfl, e1⟩ := len_cons e
  obtain rfl := len_nil e1
  obtain rfl := Rel.int R
  exact .inl ⟨i, rfl, q _ _ R⟩⟩
def cAbs : CD := fun es P => ∃ i : Int, es = [.int i] ∧ P (.int (if i < 0 then -i else i))
theorem sc_abs : SC K (fun xs H Q => ∃ i, xs = [.int i] ∧ Q (.int (if i < 0 then -i else i)) H) cAbs := ⟨fun a P P' h ⟨fs, e, q⟩ => ⟨fs, e, h _ q⟩, fun F σ H ρ vs ds xs es Q e R ⟨i, h, q⟩ => by
  subst h
  obtain ⟨x, r, rfl, e1⟩ := len_cons e
  obtain rfl := len_nil e1
  obtain rfl := Rel.int R
  exact ⟨i, rfl, q _ _ (Rel.push (v := .int (if i < 0 then -i else i)) R.drop rfl)⟩⟩
def cMin2 : CD := fun es P => ∃ i j : Int, es = [.int i, .int j] ∧ P (.int (if j < i then j else i))
theorem sc_min2 : SC K (fun xs H Q => ∃ i j, xs = [.int i, .int j] ∧ Q (.int (if j < i then j else i)) H) cMin2 := ⟨fun a P P' h ⟨i, j, e, q⟩ => ⟨i, j, e, h _ q⟩, fun F σ H ρ vs ds xs es Q e R ⟨i, j, h, q⟩ => by
  subst h
  obtain ⟨x, r, rfl, e1⟩ := len_cons e
  obtain ⟨y, r, rfl, e2⟩ := len_cons e1
  obtain rfl := len_nil e2
  have ex := Rel.int R
  have ey := Rel.int R.drop
  subst ex ey
  exact ⟨i, j, rfl, q _ _ (Rel.push (v := .int (if j < i then j else i)) R.drop.drop rfl)⟩⟩
/-- list(x) -/
def cList : CF := fun es P => ∃ fs, (es = [.list fs] ∨ es = [.tuple fs]) ∧ P fs
theorem scf_list : SCF K (fun xs H Q => ∃ p ys, xs = [.ref p] ∧ (SqL K H p ys ∨ SqT K H p ys) ∧ ∀ l, H l = none → Q (.ref l) (upd H l (.lst ys))) cList := ⟨fun a P P' h ⟨fs, e, q⟩ => ⟨fs, e, h _ q⟩, fun F σ H ρ vs ds xs es Q e R ⟨fs, h, q⟩ => by
  rcases h with rfl | rfl
  · obtain ⟨x, r, rfl, e1⟩ := len_cons e
    obtain rfl := len_nil e1
    obtain ⟨p, ys, rfl, e2, s, R1⟩ := R.asList
    exact ⟨p, ys, rfl, .inl s, fun l hl => q _ _ _ e2 (R1.swap fun _ h => by
      obtain ⟨h1, h2⟩ := dpAll_split e2 h
      cases h2 with | cons _ h2 => exact dpAll_app h1 h2) hl⟩
  · obtain ⟨x, r, rfl, e1⟩ := len_cons e
    obtain rfl := len_nil e1
    obtain ⟨p, ys, rfl, e2, s, R1⟩ := R.asTup
    exact ⟨p, ys, rfl, .inr s, fun l hl => q _ _ _ e2 (R1.swap fun _ h => by
      obtain ⟨h1, h2⟩ := dpAll_split e2 h
      cases h2 with | cons _ h2 => exact dpAll_app h1 h2) hl⟩⟩
/-- tuple(x) -/
def cTuple : CD := fun es P => ∃ fs, (es = [.list fs] ∨ es = [.tuple fs]) ∧ P (.tuple fs)
theorem sc_tuple : SC K (fun xs H Q => ∃ p ys, xs = [.ref p] ∧ ((SqL K H p ys ∧ ∀ l, H l = none → Q (.ref l) (upd H l (.tup ys))) ∨ (SqT K H p ys ∧ Q (.ref p) H))) cTuple := ⟨fun a P P' h ⟨fs, e, q⟩ => ⟨fs, e, h _ q⟩, fun F σ H ρ vs ds xs es Q e R ⟨fs, h, q⟩ => by
  rcases h with rfl | rfl
  · obtain ⟨x, r, rfl, e1⟩ := len_cons e
    obtain rfl := len_nil e1
    obtain ⟨p, ys, rfl, e2, s, R1⟩ := R.asList
    exact ⟨p, ys, rfl, .inl ⟨s, fun l hl => q _ _ ((R1.swap fun _ h => by
      obtain ⟨h1, h2⟩ := dpAll_split e2 h
      cases h2 with | cons _ h2 => exact dpAll_app h1 h2).tup e2 hl)⟩⟩
  · obtain ⟨x, r, rfl, e1⟩ := len_cons e
    obtain rfl := len_nil e1
    obtain ⟨p, ys, rfl, e2, s, R1⟩ := R.asTup
    exact ⟨p, ys, rfl, .inr ⟨s, q _ _ R⟩⟩⟩
end
end LD

/-! LD4: slots forgotten; things being made; targets; walks; list comprehensions. -/
namespace LD
open PySem PySem.Spec L2
def wipeR (ρ : Rho) : List Nat → Rho
  | [] => ρ
  | j :: js => (wipeR ρ js).set j .no
theorem wipeR_len (ρ : Rho) : ∀ js, (wipeR ρ js).length = ρ.length
  | [] => rfl
  | j :: js => by unfold wipeR; rw [List.length_set, wipeR_len ρ js]
theorem wipeR_out {ρ : Rho} {j : Nat} : ∀ {js : List Nat}, j ∉ js → (wipeR ρ js)[j]? = ρ[j]?
  | [], _ => rfl
  | k :: js, h => by
    unfold wipeR
    rw [List.getElem?_set_ne (fun e => h (by rw [e]; exact List.mem_cons_self)), wipeR_out fun z => h (List.mem_cons_of_mem _ z)]
theorem wipeR_in {ρ : Rho} {j : Nat} {x : DV} : ∀ {js : List Nat}, j ∈ js → (wipeR ρ js)[j]? = some x → x = .no
  | k :: js, h, e => by
    unfold wipeR at e
    by_cases hk : k = j
    · subst hk
      have hl : k < (wipeR ρ js).length := by
        have := (List.getElem?_eq_some_iff.mp e).1
        rwa [List.length_set] at this
      rw [List.getElem?_set_self hl] at e
      cases e
      rfl
    · rw [List.getElem?_set_ne hk] at e
      rcases List.mem_cons.mp h with z | z
      · exact absurd z.symm hk
      · exact wipeR_in z e
theorem wipe_out {σ : L2.St} {j : Nat} : ∀ {js : List Nat}, j ∉ js → (wipe σ js)[j]? = σ[j]?
  | [], _ => rfl
  | k :: js, h => by
    unfold wipe
    rw [List.getElem?_set_ne (fun e => h (by rw [e]; exact List.mem_cons_self)), wipe_out fun z => h (List.mem_cons_of_mem _ z)]
theorem wipe_in {σ : L2.St} {j : Nat} (hl : j < σ.length) : ∀ {js : List Nat}, j ∈ js → (wipe σ js)[j]? = some none
  | k :: js, h => by
    unfold wipe
    by_cases hk : k = j
    · subst hk
      rw [List.getElem?_set_self (by rw [wipe_length]; exact hl)]
    · rw [List.getElem?_set_ne hk]
      rcases List.mem_cons.mp h with z | z
      · exact absurd z.symm hk
      · exact wipe_in hl z
theorem wipe_eq {σ σ' : L2.St} {js : List Nat} (hl : σ'.length = σ.length) (h : ∀ j, j ∉ js → σ'[j]? = σ[j]?) : wipe σ' js = wipe σ js := by
  refine List.ext_getElem? fun j => ?_
  by_cases hj : j ∈ js
  · by_cases hlt : j < σ.length
    · rw [wipe_in (by rw [hl]; exact hlt) hj, wipe_in hlt hj]
    · rw [List.getElem?_eq_none_iff.mpr (by rw [wipe_length, hl]; omega), List.getElem?_eq_none_iff.mpr (by rw [wipe_length]; omega)]
  · rw [wipe_out hj, wipe_out hj, h j hj]
section
variable {K : PySem.W.Frag} {F : Fx} {σ σ' : L2.St} {H : Hp} {ρ : Rho} {vs ws xs : List V} {ds es : List D}
theorem Rel.len (R : Rel K F σ H ρ vs ds) : σ.length = ρ.length := by
  obtain ⟨_, _, R⟩ := R
  exact R.len
theorem Rel.resig (R : Rel K F σ H ρ vs ds) (hl : σ'.length = σ.length) (h : ∀ (j : Nat) (x : DV), ρ[j]? = some x → x = DV.no ∨ σ'[j]? = σ[j]?) : Rel K F σ' H ρ vs ds := by
  obtain ⟨Hi, own, R⟩ := R
  refine ⟨Hi, own, ⟨R.base, R.sub, R.new, R.keep, R.dom, hl.trans R.len, fun i x e => ?_, R.free, R.held, R.nown, R.sep, R.nls, R.pin, R.tmp⟩⟩
  rcases h i x e with z | z
  · rw [z]; trivial
  · rw [z]; exact R.slot i x e
theorem Rel.wipe {js : List Nat} (R : Rel K F σ H ρ vs ds) : Rel K F (wipe σ js) H (wipeR ρ js) vs ds := by
  obtain ⟨Hi, own, R⟩ := R
  refine ⟨Hi, own, ⟨R.base, R.sub, R.new, R.keep, R.dom, by rw [wipe_length, wipeR_len]; exact R.len, fun i x e => ?_, R.free, R.held, R.nown, R.sep, fun i es e => ?_, R.pin, R.tmp⟩⟩
  · by_cases hi : i ∈ js
    · rw [wipeR_in hi e]; trivial
    · rw [wipe_out hi]
      rw [wipeR_out hi] at e
      exact R.slot i x e
  · by_cases hi : i ∈ js
    · cases wipeR_in hi e
    · rw [wipeR_out hi] at e
      exact R.nls i es e

/-! ### what is being made -/
def Fx.mk1 (F : Fx) (p : Addr) (o : HO) : Fx := { F with Z := (p, o) :: F.Z }
theorem Rel.pinNew {p : Addr} {o : HO} (R : Rel K F σ H ρ vs ds) (hp : H p = none) : Rel K (F.mk1 p o) σ (upd H p o) ρ vs ds := by
  obtain ⟨Hi, own, R⟩ := R
  have ne : ∀ i, ∀ a ∈ own i, a ≠ p := fun i a ha z => R.held i a ha (by rw [z]; exact hp)
  refine ⟨Hi, own, ⟨R.base, R.sub.trans (same_upd hp), R.new, fun b q h hn => ?_, fun b h => ?_, R.len, fun i x h => ?_, R.free, fun i a ha => ?_, R.nown, R.sep, R.nls, fun z hz => ?_, R.tmp⟩⟩
  · rw [upd_ne (ne_of_none (R.keep b q h hn) hp)]; exact R.keep b q h hn
  · by_cases hbp : b = p
    · rw [hbp, upd_same]; simp
    · rw [upd_ne hbp]; exact R.dom b h
  · exact (R.slot i x h).grow (Same.refl _) fun a ha o q => by rw [upd_ne (ne i a ha)]; exact q
  · rw [upd_ne (ne i a ha)]; exact R.held i a ha
  · rcases List.mem_cons.mp hz with e | hz
    · rw [e]
      exact ⟨upd_same, R.noSub hp, fun i hi => ne i p hi rfl⟩
    · obtain ⟨z1, z2, z3⟩ := R.pin z hz
      exact ⟨by rw [upd_ne (ne_of_none z1 hp)]; exact z1, z2, z3⟩
theorem Rel.repin {p : Addr} {o o' : HO} (R : Rel K (F.mk1 p o) σ H ρ vs ds) (h0 : F.H0 p = none) (hz : ∀ z ∈ F.Z, z.1 ≠ p) : Rel K (F.mk1 p o') σ (upd H p o') ρ vs ds := by
  obtain ⟨Hi, own, R⟩ := R
  obtain ⟨p1, p2, p3⟩ := R.pin (p, o) List.mem_cons_self
  have ne : ∀ i, ∀ a ∈ own i, a ≠ p := fun i a ha z => p3 i (by rw [z] at ha; exact ha)
  refine ⟨Hi, own, ⟨R.base, fun b x e => ?_, R.new, fun b q h hn => ?_, fun b h => ?_, R.len, fun i x h => ?_, R.free, fun i a ha => ?_, R.nown, R.sep, R.nls, fun z hz' => ?_, R.tmp⟩⟩
  · have nb : b ≠ p := fun z => by rw [z, p2] at e; cases e
    rw [upd_ne nb]; exact R.sub b x e
  · have nb : b ≠ p := fun z => by rw [z] at h; exact absurd (h.symm.trans h0) (by simp)
    rw [upd_ne nb]; exact R.keep b q h hn
  · by_cases hbp : b = p
    · rw [hbp, upd_same]; simp
    · rw [upd_ne hbp]; exact R.dom b h
  · exact (R.slot i x h).grow (Same.refl _) fun a ha o q => by rw [upd_ne (ne i a ha)]; exact q
  · rw [upd_ne (ne i a ha)]; exact R.held i a ha
  · rcases List.mem_cons.mp hz' with e | hz'
    · rw [e]
      exact ⟨upd_same, p2, p3⟩
    · obtain ⟨z1, z2, z3⟩ := R.pin z (List.mem_cons_of_mem _ hz')
      exact ⟨by rw [upd_ne (hz z hz')]; exact z1, z2, z3⟩
def hide (H : Hp) (p : Addr) : Hp := fun b => if b = p then none else H b
theorem Rel.unpin {p : Addr} {o : HO} (R : Rel K (F.mk1 p o) σ H ρ vs ds) (h0 : F.H0 p = none) (hz : ∀ z ∈ F.Z, z.1 ≠ p) : (hide H p) p = none ∧ H = upd (hide H p) p o ∧ Rel K F σ (hide H p) ρ vs ds := by
  obtain ⟨Hi, own, R⟩ := R
  obtain ⟨p1, p2, p3⟩ := R.pin (p, o) List.mem_cons_self
  have ne : ∀ i, ∀ a ∈ own i, a ≠ p := fun i a ha z => p3 i (by rw [z] at ha; exact ha)
  have out : ∀ b, b ≠ p → hide H p b = H b := fun b h => by unfold hide; rw [if_neg h]
  refine ⟨by unfold hide; rw [if_pos rfl], ?_, Hi, own, ⟨R.base, fun b x e => ?_, R.new, fun b q h hn => ?_, fun b h => ?_, R.len, fun i x h => ?_, R.free, fun i a ha => ?_, R.nown, R.sep, R.nls, fun z hz' => ?_, R.tmp⟩⟩
  · funext b
    by_cases hb : b = p
    · rw [hb, upd_same]; exact p1
    · rw [upd_ne hb, out b hb]
  · have nb : b ≠ p := fun z => by rw [z, p2] at e; cases e
    rw [out b nb]; exact R.sub b x e
  · have nb : b ≠ p := fun z => by rw [z] at h; exact absurd (h.symm.trans h0) (by simp)
    rw [out b nb]; exact R.keep b q h hn
  · have nb : b ≠ p := fun z => by rw [z] at h; exact h h0
    rw [out b nb]; exact R.dom b h
  · exact (R.slot i x h).grow (Same.refl _) fun a ha o q => by rw [out a (ne i a ha)]; exact q
  · rw [out a (ne i a ha)]; exact R.held i a ha
  · obtain ⟨z1, z2, z3⟩ := R.pin z (List.mem_cons_of_mem _ hz')
    exact ⟨by rw [out _ (hz z hz')]; exact z1, z2, z3⟩
theorem Rel.pinFree {p : Addr} (R : Rel K F σ H ρ vs ds) (hp : H p = none) : F.H0 p = none ∧ ∀ z ∈ F.Z, z.1 ≠ p := by
  obtain ⟨Hi, own, R⟩ := R
  exact ⟨R.no0 hp, fun z hz => ne_of_none (R.pin z hz).1 hp⟩
theorem Rel.pinAt {p : Addr} {o : HO} (R : Rel K (F.mk1 p o) σ H ρ vs ds) : H p = some o := by
  obtain ⟨Hi, own, R⟩ := R
  exact (R.pin (p, o) List.mem_cons_self).1
end

/-! ### targets -/
abbrev DG := D → Rho → (Rho → Prop) → Prop
abbrev DGs := List D → Rho → (Rho → Prop) → Prop
def Apart (js : List Nat) (σ σ' : L2.St) (ρ ρ' : Rho) : Prop := σ'.length = σ.length ∧ (∀ j, j ∉ js → σ'[j]? = σ[j]?) ∧ ρ'.length = ρ.length ∧ ∀ j, j ∉ js → ρ'[j]? = ρ[j]?
theorem Apart.refl {js : List Nat} {σ : L2.St} {ρ : Rho} : Apart js σ σ ρ ρ := ⟨rfl, fun _ _ => rfl, rfl, fun _ _ => rfl⟩
theorem Apart.trans {js ks : List Nat} {σ σ1 σ2 : L2.St} {ρ ρ1 ρ2 : Rho} (a : Apart js σ σ1 ρ ρ1) (b : Apart ks σ1 σ2 ρ1 ρ2) : Apart (js ++ ks) σ σ2 ρ ρ2 :=
  ⟨b.1.trans a.1, fun j h => (b.2.1 j fun z => h (List.mem_append_right _ z)).trans (a.2.1 j fun z => h (List.mem_append_left _ z)), b.2.2.1.trans a.2.2.1, fun j h => (b.2.2.2 j fun z => h (List.mem_append_right _ z)).trans (a.2.2.2 j fun z => h (List.mem_append_left _ z))⟩
structure SG (K : PySem.W.Frag) (js : List Nat) (g : TG) (dg : DG) : Prop where
  mono : ∀ d ρ P P', (∀ r, P r → P' r) → dg d ρ P → dg d ρ P'
  run : ∀ F σ H ρ vs ds x d Q, Rel K F σ H ρ (x :: vs) (d :: ds) → dg d ρ (fun r => ∀ σ' H', Rel K F σ' H' r vs ds → Apart js σ σ' ρ r → Q σ' H') → g x σ H Q
structure SGs (K : PySem.W.Frag) (js : List Nat) (g : TGs) (dg : DGs) : Prop where
  mono : ∀ d ρ P P', (∀ r, P r → P' r) → dg d ρ P → dg d ρ P'
  run : ∀ F σ H ρ vs ds xs es Q, xs.length = es.length → Rel K F σ H ρ (xs ++ vs) (es ++ ds) → dg es ρ (fun r => ∀ σ' H', Rel K F σ' H' r vs ds → Apart js σ σ' ρ r → Q σ' H') → g xs σ H Q
section
variable {K : PySem.W.Frag}
def dgName (i : Nat) : DG := fun d ρ P => i < ρ.length ∧ P (ρ.set i (.sh d))
theorem sg_name (i : Nat) : SG K [i] (gName i) (dgName i) := ⟨fun d ρ P P' h q => ⟨q.1, h _ q.2⟩, fun F σ H ρ vs ds x d Q R q =>
  q.2 _ _ (R.store q.1) ⟨List.length_set .., fun j h => List.getElem?_set_ne (fun e => h (by rw [e]; simp)), List.length_set .., fun j h => List.getElem?_set_ne (fun e => h (by rw [e]; simp))⟩⟩
def dgNil : DGs := fun es ρ P => es = [] ∧ P ρ
def dgCons (g : DG) (gs : DGs) : DGs := fun es ρ P => ∃ d r, es = d :: r ∧ g d ρ fun ρ1 => gs r ρ1 P
theorem sgs_nil : SGs K [] gNil dgNil := ⟨fun d ρ P P' h q => ⟨q.1, h _ q.2⟩, fun F σ H ρ vs ds xs es Q e R q => by
  obtain ⟨e1, q⟩ := q
  subst e1
  obtain rfl := len_nil e
  exact ⟨rfl, q _ _ R .refl⟩⟩
theorem sgs_cons {js ks : List Nat} {g : TG} {dg : DG} {gs : TGs} {dgs : DGs} (s : SG K js g dg) (ss : SGs K ks gs dgs) : SGs K (js ++ ks) (gCons g gs) (dgCons dg dgs) := by
  refine ⟨fun es ρ P P' h ⟨d, r, e, q⟩ => ⟨d, r, e, s.mono _ _ _ _ (fun _ q => ss.mono _ _ _ _ h q) q⟩, fun F σ H ρ vs ds xs es Q e R q => ?_⟩
  obtain ⟨d, r, e1, q⟩ := q
  subst e1
  obtain ⟨x, xr, rfl, e2⟩ := len_cons e
  refine ⟨x, xr, rfl, ?_⟩
  refine s.run F σ H ρ (xr ++ vs) (r ++ ds) x d _ R (s.mono _ _ _ _ (fun ρ1 q σ1 H1 R1 A1 => ?_) q)
  exact ss.run F σ1 H1 ρ1 vs ds xr r Q e2 R1 (ss.mono _ _ _ _ (fun ρ2 q σ2 H2 R2 A2 => q σ2 H2 R2 (A1.trans A2)) q)
def dgTup (n : Nat) (gs : DGs) : DG := fun d ρ P => ∃ es, d = .tuple es ∧ es.length = n ∧ gs es ρ P
theorem sg_tup {js : List Nat} {n : Nat} {gs : TGs} {dgs : DGs} (ss : SGs K js gs dgs) : SG K js (gTup K n gs) (dgTup n dgs) := by
  refine ⟨fun d ρ P P' h ⟨es, e, el, q⟩ => ⟨es, e, el, ss.mono _ _ _ _ h q⟩, fun F σ H ρ vs ds x d Q R q => ?_⟩
  obtain ⟨es, e, el, q⟩ := q
  subst e
  obtain ⟨p, xs, rfl, e2, s, R1⟩ := R.asTup
  refine ⟨p, xs, rfl, s, e2.trans el, ?_⟩
  refine ss.run F σ H ρ vs ds xs es Q e2 (R1.swap fun _ h => ?_) q
  obtain ⟨h1, h2⟩ := dpAll_split e2 h
  cases h2 with
  | cons _ h2 => exact dpAll_app h1 h2
end

/-! ### what is walked -/
abbrev TDI := Rho → KL → Prop
/-- while ws stand for es, J walks the items -/
def Walks (K : PySem.W.Frag) (J : It) (items : List D) (ws : List V) (es : List D) : Prop :=
  ∀ F σ H ρ vs ds i, Rel K F σ H ρ (ws ++ vs) (es ++ ds) → (∀ d, items[i]? = some d → J.go i H ∧ ∀ x H', J.yld i H x H' → Rel K F σ H' ρ (x :: (ws ++ vs)) (d :: (es ++ ds))) ∧ (items.length ≤ i → J.stop i H)
structure SI (K : PySem.W.Frag) (wi : TI) (di : TDI) : Prop where
  mono : ∀ ρ P P', (∀ r d, P r d → P' r d) → di ρ P → di ρ P'
  run : ∀ F σ H ρ vs ds Q, Rel K F σ H ρ vs ds → di ρ (fun r items => ∀ J H1 ws es, ws.length = es.length → Walks K J items ws es → Rel K F σ H1 r (ws ++ vs) (es ++ ds) → Q J H1) → wi σ H Q
section
variable {K : PySem.W.Frag}
def iL (a : TD) : TDI := fun ρ P => a ρ fun r d => ∃ es, d = .list es ∧ P r es
def iT (a : TD) : TDI := fun ρ P => a ρ fun r d => ∃ es, d = .tuple es ∧ P r es
theorem walks_list {p : Addr} {es : List D} : Walks K (Itl K p) es [.ref p] [.list es] := by
  intro F σ H ρ vs ds i R
  obtain ⟨p', xs, e, e2, s, R1⟩ := Rel.asList (vs := vs) (ds := ds) R
  cases e
  refine ⟨fun d hd => ?_, fun h => ⟨xs, s, by rw [e2]; exact h⟩⟩
  obtain ⟨v, e3, R2⟩ := R1.pick e2 hd
  refine ⟨⟨xs, v, s, e3⟩, fun x H' hy => ?_⟩
  obtain ⟨rfl, hy⟩ := hy
  have := (hy xs s).symm.trans e3
  cases this
  exact R2
theorem walks_tup {p : Addr} {es : List D} : Walks K (Itt K p) es [.ref p] [.tuple es] := by
  intro F σ H ρ vs ds i R
  obtain ⟨p', xs, e, e2, s, R1⟩ := Rel.asTup (vs := vs) (ds := ds) R
  cases e
  refine ⟨fun d hd => ?_, fun h => ⟨xs, s, by rw [e2]; exact h⟩⟩
  obtain ⟨v, e3, R2⟩ := R1.pick e2 hd
  refine ⟨⟨xs, v, s, e3⟩, fun x H' hy => ?_⟩
  obtain ⟨rfl, hy⟩ := hy
  have := (hy xs s).symm.trans e3
  cases this
  exact R2
theorem si_list {ta : TE} {a : TD} (sa : SE K ta a) : SI K (iList K ta) (iL a) := by
  refine ⟨fun ρ P P' h q => sa.mono _ _ _ (fun _ d ⟨es, e, q⟩ => ⟨es, e, h _ _ q⟩) q, fun F σ H ρ vs ds Q R q => ?_⟩
  refine sa.run F σ H ρ vs ds _ R (sa.mono _ _ _ (fun r d q v H1 R1 => ?_) q)
  obtain ⟨es, e, q⟩ := q
  subst e
  obtain ⟨p, xs, rfl, e2, s, R2⟩ := R1.asList
  exact ⟨p, rfl, ⟨xs, s⟩, q _ _ [.ref p] [.list es] rfl walks_list R1⟩
theorem si_tup {ta : TE} {a : TD} (sa : SE K ta a) : SI K (iTup K ta) (iT a) := by
  refine ⟨fun ρ P P' h q => sa.mono _ _ _ (fun _ d ⟨es, e, q⟩ => ⟨es, e, h _ _ q⟩) q, fun F σ H ρ vs ds Q R q => ?_⟩
  refine sa.run F σ H ρ vs ds _ R (sa.mono _ _ _ (fun r d q v H1 R1 => ?_) q)
  obtain ⟨es, e, q⟩ := q
  subst e
  obtain ⟨p, xs, rfl, e2, s, R2⟩ := R1.asTup
  exact ⟨p, rfl, ⟨xs, s⟩, q _ _ [.ref p] [.tuple es] rfl walks_tup R1⟩
def rngD (lo : Int) (n : Nat) : List D := (List.range n).map fun (k : Nat) => PyData.int (lo + (k : Int))
theorem walks_rng {lo : Int} {n : Nat} : Walks K (Itr lo n) (rngD lo n) [] [] := by
  intro F σ H ρ vs ds i R
  refine ⟨fun d hd => ?_, fun h => ?_⟩
  · unfold rngD at hd
    rw [List.getElem?_map] at hd
    have hi : i < n := by
      cases e : (List.range n)[i]? with
      | none => rw [e] at hd; cases hd
      | some k => have := (List.getElem?_eq_some_iff.mp e).1; rwa [List.length_range] at this
    rw [List.getElem?_range hi] at hd
    cases hd
    refine ⟨hi, fun x H' hy => ?_⟩
    obtain ⟨rfl, rfl⟩ := hy
    exact R.push (v := .int (lo + i)) rfl
  · unfold rngD at h
    rw [List.length_map, List.length_range] at h
    exact h
def iR1 (t : TDA) : TDI := fun ρ P => t ρ fun r es => ∃ j : Int, es = [.int j] ∧ -(2 ^ 62) ≤ j ∧ j < 2 ^ 62 ∧ P r (rngD 0 j.toNat)
def iR2 (t : TDA) : TDI := fun ρ P => t ρ fun r es => ∃ i j : Int, es = [.int i, .int j] ∧ (-(2 ^ 62) ≤ i ∧ i < 2 ^ 62 ∧ -(2 ^ 62) ≤ j ∧ j < 2 ^ 62) ∧ P r (rngD i (j - i).toNat)
theorem si_rng1 {ta : TA} {t : TDA} (sa : SA K ta t) : SI K (iRng1 ta) (iR1 t) := by
  refine ⟨fun ρ P P' h q => sa.mono _ _ _ (fun _ d ⟨j, e, h1, h2, q⟩ => ⟨j, e, h1, h2, h _ _ q⟩) q, fun F σ H ρ vs ds Q R q => ?_⟩
  refine sa.run F σ H ρ vs ds _ R (sa.mono _ _ _ (fun r es q xs H1 e R1 => ?_) q)
  obtain ⟨j, e1, h1, h2, q⟩ := q
  subst e1
  obtain ⟨x, xr, rfl, e2⟩ := len_cons e
  obtain rfl := len_nil e2
  obtain rfl := Rel.int R1
  exact ⟨j, rfl, h1, h2, q _ _ [] [] rfl walks_rng R1.drop⟩
theorem si_rng2 {ta : TA} {t : TDA} (sa : SA K ta t) : SI K (iRng2 ta) (iR2 t) := by
  refine ⟨fun ρ P P' h q => sa.mono _ _ _ (fun _ d ⟨i, j, e, h1, q⟩ => ⟨i, j, e, h1, h _ _ q⟩) q, fun F σ H ρ vs ds Q R q => ?_⟩
  refine sa.run F σ H ρ vs ds _ R (sa.mono _ _ _ (fun r es q xs H1 e R1 => ?_) q)
  obtain ⟨i, j, e1, h1, q⟩ := q
  subst e1
  obtain ⟨x, xr, rfl, e2⟩ := len_cons e
  obtain ⟨y, yr, rfl, e3⟩ := len_cons e2
  obtain rfl := len_nil e3
  have ex := Rel.int R1
  have ey := Rel.int (Rel.drop R1)
  subst ex ey
  exact ⟨i, j, rfl, h1, q _ _ [] [] rfl walks_rng (Rel.drop (Rel.drop R1))⟩

/-! ### list comprehensions -/
def compW (f : D → Rho → (Rho → Option D → Prop) → Prop) (js : List Nat) : List D → Rho → List D → KL → Prop
  | [], ρ, acc, P => P ρ acc
  | d :: r, ρ, acc, P => f d ρ fun ρ1 o => match o with
    | none => compW f js r (wipeR ρ1 js) acc P
    | some y => compW f js r (wipeR ρ1 js) (acc ++ [y]) P
def compF (dg : DG) (dt : TDT) (de : TD) : D → Rho → (Rho → Option D → Prop) → Prop := fun d r k => dg d r fun r1 => dt r1 fun r2 b => if b = true then de r2 (fun r3 y => k r3 (some y)) else k r2 none
def dLc (di : TDI) (dg : DG) (dt : TDT) (de : TD) (js : List Nat) : TDA := fun ρ P => di ρ fun ρ0 items => items.length ≤ sizeLine ∧ (∀ j ∈ js, ρ0[j]? = some .no) ∧ compW (compF dg dt de) js items ρ0 [] P
theorem compW_mono {f : D → Rho → (Rho → Option D → Prop) → Prop} (hf : ∀ d ρ k k', (∀ r o, k r o → k' r o) → f d ρ k → f d ρ k') {js : List Nat} : ∀ {items : List D} {ρ : Rho} {acc : List D} {P P' : KL}, (∀ r d, P r d → P' r d) → compW f js items ρ acc P → compW f js items ρ acc P'
  | [], _, _, _, _, h, q => h _ _ q
  | d :: r, ρ, acc, P, P', h, q => by
    unfold compW at q ⊢
    refine hf _ _ _ _ (fun r1 o q => ?_) q
    cases o with
    | none => exact compW_mono hf h q
    | some y => exact compW_mono hf h q
theorem compF_mono {js : List Nat} {g : TG} {dg : DG} {tt : TT} {dt : TDT} {te : TE} {de : TD} (sg : SG K js g dg) (st : ST K tt dt) (se : SE K te de) : ∀ d ρ k k', (∀ r o, k r o → k' r o) → compF dg dt de d ρ k → compF dg dt de d ρ k' := by
  intro d ρ k k' h q
  refine sg.mono _ _ _ _ (fun r1 q => st.mono _ _ _ (fun r2 b q => ?_) q) q
  cases b with
  | true => exact se.mono _ _ _ (fun r3 y q => h _ _ q) q
  | false => exact h _ _ q
theorem swapFront {H : Hp} {y : V} {d : D} {ws acc vs : List V} {es ys ds : List D} (e1 : ws.length = es.length) (e2 : acc.length = ys.length) (h : DpAll K H (y :: (ws ++ (acc ++ vs))) (d :: (es ++ (ys ++ ds)))) :
    DpAll K H (ws ++ ((acc ++ [y]) ++ vs)) (es ++ ((ys ++ [d]) ++ ds)) := by
  cases h with
  | cons a b =>
    obtain ⟨b1, b2⟩ := dpAll_split e1 b
    obtain ⟨b3, b4⟩ := dpAll_split e2 b2
    exact dpAll_app b1 (dpAll_app (dpAll_app b3 (.cons a .nil)) b4)
theorem sf_lc {js : List Nat} {wi : TI} {di : TDI} {g : TG} {dg : DG} {tt : TT} {dt : TDT} {te : TE} {de : TD} {jg : List Nat} (si : SI K wi di) (sg : SG K jg g dg) (st : ST K tt dt) (se : SE K te de) (hj : ∀ j ∈ jg, j ∈ js := by decide) : SF K (tLc wi g tt te js) (dLc di dg dt de js) := by
  refine ⟨fun ρ P P' h q => si.mono _ _ _ (fun r items ⟨q1, q2, q3⟩ => ⟨q1, q2, compW_mono (compF_mono sg st se) h q3⟩) q, fun F σ H ρ vs ds Q R q => ?_⟩
  refine si.run F σ H ρ vs ds _ R (si.mono _ _ _ (fun ρ0 items q J H1 ws es ew hw R1 => ?_) q)
  obtain ⟨q1, q2, q3⟩ := q
  intro Dp hD
  obtain ⟨f0, fz⟩ := R1.pinFree hD
  have hno : ∀ {ρ : Rho}, (∀ j ∈ js, ρ[j]? = some .no) → wipeR ρ js = ρ := fun {ρ} h => by
    refine List.ext_getElem? fun j => ?_
    by_cases hj : j ∈ js
    · rw [h j hj]
      cases e : (wipeR ρ js)[j]? with
      | none =>
        have h1 := List.getElem?_eq_none_iff.mp e
        rw [wipeR_len] at h1
        have h2 := (List.getElem?_eq_some_iff.mp (h j hj)).1
        omega
      | some x => rw [wipeR_in hj e]
    · exact wipeR_out hj
  refine ⟨fun i m H => ∃ ρ1 acc ys, i + m = items.length ∧ acc.length = ys.length ∧ ys.length ≤ i ∧ (∀ j x, j ∈ js → ρ1[j]? = some x → x = .no) ∧ Rel K (F.mk1 Dp (.lst acc)) (L2.wipe σ js) H ρ1 (ws ++ (acc ++ vs)) (es ++ (ys ++ ds)) ∧
      compW (compF dg dt de) js (items.drop i) ρ1 ys (fun r es => ∀ xs H' p, xs.length = es.length → Rel K F σ H' r (xs ++ vs) (es ++ ds) → H' p = none → Q (.ref p) (upd H' p (.lst xs))), ⟨items.length, ρ0, [], [], Nat.zero_add _, rfl, Nat.le_refl _, fun j x hj e => ?_, ?_, q3⟩, fun i m H2 hW => ?_⟩
  · rw [q2 j hj] at e; cases e; rfl
  · have R2 := (R1.pinNew (o := .lst []) hD).wipe (js := js)
    rw [hno q2] at R2
    exact R2
  · obtain ⟨ρ1, acc, ys, em, el, eli, hn, R2, q4⟩ := hW
    by_cases hi : i < items.length
    · -- one more
      right
      have hd : items[i]? = some items[i] := List.getElem?_eq_getElem hi
      rw [List.drop_eq_getElem_cons hi] at q4
      unfold compW at q4
      obtain ⟨hgo, hy⟩ := (hw (F.mk1 Dp (.lst acc)) (L2.wipe σ js) H2 ρ1 (acc ++ vs) (ys ++ ds) i R2).1 _ hd
      refine ⟨hgo, fun H => ∃ ρ1 acc ys, (i + 1) + (m - 1) = items.length ∧ acc.length = ys.length ∧ ys.length ≤ i + 1 ∧ (∀ j x, j ∈ js → ρ1[j]? = some x → x = .no) ∧ Rel K (F.mk1 Dp (.lst acc)) (L2.wipe σ js) H ρ1 (ws ++ (acc ++ vs)) (es ++ (ys ++ ds)) ∧
        compW (compF dg dt de) js (items.drop (i + 1)) ρ1 ys (fun r es => ∀ xs H' p, xs.length = es.length → Rel K F σ H' r (xs ++ vs) (es ++ ds) → H' p = none → Q (.ref p) (upd H' p (.lst xs))), fun H' h' => ⟨m - 1, by omega, h'⟩, fun x H' hx => ?_⟩
      have R3 := hy x H' hx
      refine sg.run (F.mk1 Dp (.lst acc)) _ H' ρ1 _ _ x _ _ R3 (sg.mono _ _ _ _ (fun r1 q σ2 H3 R4 A => ?_) q4)
      have ew2 : L2.wipe σ2 js = L2.wipe σ js := by
        have e1 : L2.wipe σ2 js = L2.wipe (L2.wipe σ js) js := wipe_eq A.1 fun j hjn => A.2.1 j fun z => hjn (hj j z)
        rw [e1]
        exact wipe_eq (wipe_length ..) fun j hjn => wipe_out hjn
      refine ⟨ew2, st.run (F.mk1 Dp (.lst acc)) σ2 H3 r1 _ _ _ R4 (st.mono _ _ _ (fun r2 b q H4 R5 => ?_) q)⟩
      cases b with
      | false =>
        refine ⟨wipeR r2 js, acc, ys, by omega, el, by omega, fun j x hj e => wipeR_in hj e, ?_, q⟩
        have R6 := R5.wipe (js := js)
        rw [ew2] at R6
        exact R6
      | true =>
        refine se.run (F.mk1 Dp (.lst acc)) σ2 H4 r2 _ _ _ R5 (se.mono _ _ _ (fun r3 y q yv H5 R6 => ?_) q)
        refine ⟨acc, R6.pinAt, by rw [el]; omega, wipeR r3 js, acc ++ [yv], ys ++ [y], by omega, by rw [List.length_append, List.length_append, el]; rfl, by rw [List.length_append]; show ys.length + 1 ≤ i + 1; omega, fun j x hj e => wipeR_in hj e, ?_, q⟩
        have R7 := (R6.repin (o' := .lst (acc ++ [yv])) f0 fz).wipe (js := js)
        rw [ew2] at R7
        exact R7.swap fun _ h => swapFront ew el h
    · -- the end
      left
      have ei : items.drop i = [] := List.drop_eq_nil_iff.mpr (by omega)
      rw [ei] at q4
      obtain ⟨_, hs⟩ := hw (F.mk1 Dp (.lst acc)) (L2.wipe σ js) H2 ρ1 (acc ++ vs) (ys ++ ds) i R2
      refine ⟨hs (by omega), ?_⟩
      obtain ⟨u1, u2, u3⟩ := R2.unpin f0 fz
      rw [u2]
      refine q4 acc _ Dp el ?_ u1
      refine (u3.dropN ew).resig (wipe_length ..).symm fun j x e => ?_
      by_cases hjs : j ∈ js
      · exact .inl (hn j x hjs e)
      · exact .inr (wipe_out hjs).symm
end
end LD

/-! LD5: statements, loops, lists that a slot owns. -/
namespace LD
open PySem PySem.Spec L2
structure DE where
  nx : Rho → Prop
  rt : Rho → D → Prop
  bk : Rho → Prop := fun _ => False
  ct : Rho → Prop := fun _ => False
  rm : Rho → Prop := fun _ => False
abbrev TDS := DE → Rho → Prop
structure DE.Le (a b : DE) : Prop where
  nx : ∀ ρ, a.nx ρ → b.nx ρ
  rt : ∀ ρ d, a.rt ρ d → b.rt ρ d
  bk : ∀ ρ, a.bk ρ → b.bk ρ
  ct : ∀ ρ, a.ct ρ → b.ct ρ
  rm : ∀ ρ, a.rm ρ → b.rm ρ
structure Glue (K : PySem.W.Frag) (F : Fx) (vs : List V) (ds : List D) (E : Ends) (dn : DE) : Prop where
  nx : ∀ σ H ρ, Rel K F σ H ρ vs ds → dn.nx ρ → E.nx σ H
  rt : ∀ σ H ρ v d, Rel K F σ H ρ (v :: vs) (d :: ds) → dn.rt ρ d → E.rt v H
  bk : ∀ σ H ρ, Rel K F σ H ρ vs ds → dn.bk ρ → E.bk σ H
  ct : ∀ σ H ρ, Rel K F σ H ρ vs ds → dn.ct ρ → E.ct σ H
  rm : ∀ σ H ρ a l ns b, Rel K F σ H ρ vs ds → a ≠ l → H a = none → H l = none → DealOk ns b → dn.rm ρ → E.rt (.ref a) (upd (upd H l (.lst (ns.map V.int))) a (.lst [.ref l, .int b]))
structure SS (K : PySem.W.Frag) (ts : TS) (t : TDS) : Prop where
  mono : ∀ a b ρ, DE.Le a b → t a ρ → t b ρ
  run : ∀ F σ H ρ vs ds E dn, Glue K F vs ds E dn → Rel K F σ H ρ vs ds → t dn ρ → ts E σ H
section
variable {K : PySem.W.Frag} {ts us : TS} {t u : TDS} {te : TE} {e : TD}
def dNext : TDS := fun dn ρ => dn.nx ρ
theorem ss_nil : SS K tNext dNext := ⟨fun a b ρ h q => h.nx _ q, fun F σ H ρ vs ds E dn G R q => G.nx _ _ _ R q⟩
def dSeq (t u : TDS) : TDS := fun dn ρ => t { dn with nx := u dn } ρ
theorem ss_cons (s : SS K ts t) (s' : SS K us u) : SS K (tSeq ts us) (dSeq t u) := ⟨fun a b ρ h q => s.mono { a with nx := u a } { b with nx := u b } _ ⟨fun ρ q => s'.mono _ _ _ h q, h.rt, h.bk, h.ct, h.rm⟩ q, fun F σ H ρ vs ds E dn G R q =>
  s.run F σ H ρ vs ds { E with nx := us E } { dn with nx := u dn } ⟨fun σ H ρ R q => s'.run F σ H ρ vs ds E dn G R q, G.rt, G.bk, G.ct, G.rm⟩ R q⟩
def dBreak : TDS := fun dn ρ => dn.bk ρ
def dCont : TDS := fun dn ρ => dn.ct ρ
theorem ss_break : SS K tBreak dBreak := ⟨fun a b ρ h q => h.bk _ q, fun F σ H ρ vs ds E dn G R q => G.bk _ _ _ R q⟩
theorem ss_cont : SS K tCont dCont := ⟨fun a b ρ h q => h.ct _ q, fun F σ H ρ vs ds E dn G R q => G.ct _ _ _ R q⟩
def dRet (e : TD) : TDS := fun dn ρ => e ρ fun r d => dn.rt r d
theorem ss_ret (s : SE K te e) : SS K (tRet te) (dRet e) := ⟨fun a b ρ h q => s.mono _ _ _ (fun _ _ q => h.rt _ _ q) q, fun F σ H ρ vs ds E dn G R q =>
  s.run F σ H ρ vs ds _ R (s.mono _ _ _ (fun r d q v H' R' => G.rt _ _ _ _ _ R' q) q)⟩
def dDrop (e : TD) : TDS := fun dn ρ => e ρ fun r _ => dn.nx r
theorem ss_drop (s : SE K te e) : SS K (tDrop te) (dDrop e) := ⟨fun a b ρ h q => s.mono _ _ _ (fun _ _ q => h.nx _ q) q, fun F σ H ρ vs ds E dn G R q =>
  s.run F σ H ρ vs ds _ R (s.mono _ _ _ (fun r d q v H' R' => G.nx _ _ _ R'.drop q) q)⟩
def dIfS (c : TDT) (t u : TDS) : TDS := fun dn ρ => c ρ fun r b => if b = true then t dn r else u dn r
theorem ss_if {tc : TT} {c : TDT} (sc : ST K tc c) (s : SS K ts t) (s' : SS K us u) : SS K (tIfS tc ts us) (dIfS c t u) := by
  refine ⟨fun a b ρ h q => sc.mono _ _ _ (fun r k q => ?_) q, fun F σ H ρ vs ds E dn G R q => sc.run F σ H ρ vs ds _ R (sc.mono _ _ _ (fun r k q H1 R1 => ?_) q)⟩
  · cases k with
    | true => exact s.mono _ _ _ h q
    | false => exact s'.mono _ _ _ h q
  · cases k with
    | true => exact s.run F σ H1 r vs ds E dn G R1 q
    | false => exact s'.run F σ H1 r vs ds E dn G R1 q
/-- target = value, the value shared -/
def dAsg (e : TD) (g : DG) : TDS := fun dn ρ => e ρ fun r d => g d r dn.nx
theorem ss_asg {js : List Nat} {g : TG} {dg : DG} (s : SE K te e) (sg : SG K js g dg) : SS K (tAsg te g) (dAsg e dg) := ⟨fun a b ρ h q => s.mono _ _ _ (fun r d q => sg.mono _ _ _ _ h.nx q) q, fun F σ H ρ vs ds E dn G R q =>
  s.run F σ H ρ vs ds _ R (s.mono _ _ _ (fun r d q v H' R' => sg.run F σ H' r vs ds v d _ R' (sg.mono _ _ _ _ (fun r q σ2 H2 R2 _ => G.nx _ _ _ R2 q) q)) q)⟩
/-- name = a list made new, kept in this slot alone -/
def dOwn (e : TDA) (i : Nat) : TDS := fun dn ρ => e ρ fun r es => i < r.length ∧ dn.nx (r.set i (.ls es))
theorem ss_own {i : Nat} {e : TDA} (s : SF K te e) : SS K (tAsg te (gName i)) (dOwn e i) := ⟨fun a b ρ h q => s.mono _ _ _ (fun r d q => ⟨q.1, h.nx _ q.2⟩) q, fun F σ H ρ vs ds E dn G R q =>
  s.run F σ H ρ vs ds _ R (s.mono _ _ _ (fun r es q xs H' p el R' hp => G.nx _ _ _ (R'.keepOwn el hp q.1) q.2) q)⟩
/-- a, b = x, y -/
def dPar (i j : Nat) (t : TDA) : TDS := fun dn ρ => t ρ fun r es => ∃ d e, es = [d, e] ∧ i < r.length ∧ j < r.length ∧ dn.nx ((r.set i (.sh d)).set j (.sh e))
theorem ss_par {i j : Nat} {ta : TA} {a : TDA} (s : SA K ta a) : SS K (tPar i j ta) (dPar i j a) := ⟨fun a b ρ h q => s.mono _ _ _ (fun r es ⟨d, e, e1, h1, h2, q⟩ => ⟨d, e, e1, h1, h2, h.nx _ q⟩) q, fun F σ H ρ vs ds E dn G R q =>
  s.run F σ H ρ vs ds _ R (s.mono _ _ _ (fun r es q xs H' el R' => by
    obtain ⟨d, e, e1, h1, h2, q⟩ := q
    subst e1
    obtain ⟨x, xr, rfl, e2⟩ := len_cons el
    obtain ⟨y, yr, rfl, e3⟩ := len_cons e2
    obtain rfl := len_nil e3
    refine ⟨x, y, rfl, G.nx _ _ _ ?_ q⟩
    have R2 : Rel K F σ H' r (x :: y :: vs) (d :: e :: ds) := R'
    exact (R2.store h1).store (by rw [List.length_set]; exact h2)) q)⟩
/-- the list of slot i will not change any more; slot i is forgotten -/
def dFrz (i : Nat) (t : TDS) : TDS := fun dn ρ => ∃ es, ρ[i]? = some (.ls es) ∧ t dn (ρ.set i (.sh (.list es)))
theorem ss_frz (i : Nat) (s : SS K ts t) : SS K ts (dFrz i t) := ⟨fun a b ρ h ⟨es, e, q⟩ => ⟨es, e, s.mono _ _ _ h q⟩, fun F σ H ρ vs ds E dn G R ⟨es, e, q⟩ => s.run F σ H _ vs ds E dn G (R.freeze e) q⟩
def dFgt (js : List Nat) (t : TDS) : TDS := fun dn ρ => t dn (wipeR ρ js)
theorem ss_fgt (js : List Nat) (s : SS K ts t) : SS K ts (dFgt js t) := ⟨fun a b ρ h q => s.mono _ _ _ h q, fun F σ H ρ vs ds E dn G R q => by
  refine s.run F σ H _ vs ds E dn G ((R.wipe (js := js)).resig (wipe_length ..).symm fun j x e => ?_) q
  by_cases hj : j ∈ js
  · exact .inl (wipeR_in hj e)
  · exact .inr (wipe_out hj).symm⟩
/-! loops -/
theorem Rel.dropMid {F : Fx} {σ : L2.St} {H : Hp} {ρ : Rho} {vs ws : List V} {ds es : List D} {v : V} {d : D} (R : Rel K F σ H ρ (v :: (ws ++ vs)) (d :: (es ++ ds))) (e : ws.length = es.length) : Rel K F σ H ρ (v :: vs) (d :: ds) := R.swap fun _ h => by
  cases h with
  | cons a b => exact .cons a (dpAll_split e b).2
def dFor (di : TDI) (dg : DG) (tb : TDS) : TDS := fun dn ρ => di ρ fun ρ0 items => ∃ I : Nat → Rho → Prop, I 0 ρ0 ∧ (∀ i d r, items[i]? = some d → I i r → dg d r fun r1 => tb { nx := I (i + 1), rt := dn.rt, bk := dn.nx, ct := I (i + 1), rm := dn.rm } r1) ∧ ∀ r, I items.length r → dn.nx r
theorem ss_for {js : List Nat} {wi : TI} {di : TDI} {g : TG} {dg : DG} (si : SI K wi di) (sg : SG K js g dg) (s : SS K ts t) : SS K (tFor wi g ts) (dFor di dg t) := by
  refine ⟨fun a b ρ h q => si.mono _ _ _ (fun r items ⟨I, q1, q2, q3⟩ => ⟨I, q1, fun i d r e hI => sg.mono _ _ _ _ (fun r q => s.mono { nx := I (i + 1), rt := a.rt, bk := a.nx, ct := I (i + 1), rm := a.rm } { nx := I (i + 1), rt := b.rt, bk := b.nx, ct := I (i + 1), rm := b.rm } _ ⟨fun _ z => z, h.rt, h.nx, fun _ z => z, h.rm⟩ q) (q2 i d r e hI), fun r z => h.nx _ (q3 r z)⟩) q, fun F σ H ρ vs ds E dn G R q => ?_⟩
  refine si.run F σ H ρ vs ds _ R (si.mono _ _ _ (fun ρ0 items q J H1 ws es ew hw R1 => ?_) q)
  obtain ⟨I, q1, q2, q3⟩ := q
  refine ⟨fun i m σ H => ∃ r, i + m = items.length ∧ Rel K F σ H r (ws ++ vs) (es ++ ds) ∧ I i r, ⟨items.length, ρ0, Nat.zero_add _, R1, q1⟩, fun i m σ H hW => ?_⟩
  obtain ⟨r, em, R2, hI⟩ := hW
  by_cases hi : i < items.length
  · right
    have hd : items[i]? = some items[i] := List.getElem?_eq_getElem hi
    obtain ⟨hgo, hy⟩ := (hw F σ H r vs ds i R2).1 _ hd
    refine ⟨hgo, fun σ H => ∃ r, Rel K F σ H r (ws ++ vs) (es ++ ds) ∧ I (i + 1) r, fun σ' H' ⟨r, R3, h3⟩ => ⟨m - 1, by omega, r, by omega, R3, h3⟩, fun x H' hx => ?_⟩
    have R3 := hy x H' hx
    refine sg.run F σ H' r (ws ++ vs) (es ++ ds) x _ _ R3 (sg.mono _ _ _ _ (fun r1 q σ2 H2 R4 _ => ?_) (q2 i _ r hd hI))
    refine s.run F σ2 H2 r1 (ws ++ vs) (es ++ ds) _ { nx := I (i + 1), rt := dn.rt, bk := dn.nx, ct := I (i + 1), rm := dn.rm } ⟨fun σ H ρ R q => ⟨ρ, R, q⟩, fun σ H ρ v d R q => G.rt _ _ _ _ _ (R.dropMid ew) q, fun σ H ρ R q => G.nx _ _ _ (R.dropN ew) q, fun σ H ρ R q => ⟨ρ, R, q⟩, fun σ H ρ a l ns b R n h1 h2 ok q => G.rm _ _ _ _ _ _ _ (R.dropN ew) n h1 h2 ok q⟩ R4 q
  · left
    have ei : i = items.length := by omega
    refine ⟨(hw F σ H r vs ds i R2).2 (by omega), G.nx _ _ _ (R2.dropN ew) (q3 r (ei ▸ hI))⟩
def dWhile (c : TDT) (tb : TDS) : TDS := fun dn ρ => ∃ (I : Rho → Prop) (μ : Rho → Nat), I ρ ∧ ∀ r, I r → c r fun r1 b => if b = true then tb { nx := fun r2 => I r2 ∧ μ r2 < μ r, rt := dn.rt, bk := dn.nx, ct := fun r2 => I r2 ∧ μ r2 < μ r, rm := dn.rm } r1 else dn.nx r1
theorem ss_while {tc : TT} {c : TDT} (sc : ST K tc c) (s : SS K ts t) : SS K (tWhile tc ts) (dWhile c t) := by
  refine ⟨fun a b ρ h ⟨I, μ, q1, q2⟩ => ⟨I, μ, q1, fun r hI => sc.mono _ _ _ (fun r1 k q => ?_) (q2 r hI)⟩, fun F σ H ρ vs ds E dn G R q => ?_⟩
  · cases k with
    | true => exact s.mono { nx := fun r2 => I r2 ∧ μ r2 < μ r, rt := a.rt, bk := a.nx, ct := fun r2 => I r2 ∧ μ r2 < μ r, rm := a.rm } { nx := fun r2 => I r2 ∧ μ r2 < μ r, rt := b.rt, bk := b.nx, ct := fun r2 => I r2 ∧ μ r2 < μ r, rm := b.rm } _ ⟨fun _ z => z, h.rt, h.nx, fun _ z => z, h.rm⟩ q
    | false => exact h.nx _ q
  · obtain ⟨I, μ, q1, q2⟩ := q
    refine ⟨fun m σ H => ∃ r, m = μ r ∧ Rel K F σ H r vs ds ∧ I r, ⟨μ ρ, ρ, rfl, R, q1⟩, fun m σ H hW => ?_⟩
    obtain ⟨r, em, R1, hI⟩ := hW
    refine sc.run F σ H r vs ds _ R1 (sc.mono _ _ _ (fun r1 b q H1 R2 => ?_) (q2 r hI))
    cases b with
    | false => exact G.nx _ _ _ R2 q
    | true =>
      refine ⟨fun σ' H' => ∃ r2, Rel K F σ' H' r2 vs ds ∧ I r2 ∧ μ r2 < μ r, fun σ' H' ⟨r2, R3, h1, h2⟩ => ⟨μ r2, by rw [em]; exact h2, r2, rfl, R3, h1⟩, ?_⟩
      exact s.run F σ H1 r1 vs ds _ { nx := fun r2 => I r2 ∧ μ r2 < μ r, rt := dn.rt, bk := dn.nx, ct := fun r2 => I r2 ∧ μ r2 < μ r, rm := dn.rm } ⟨fun σ H ρ R q => ⟨ρ, R, q.1, q.2⟩, G.rt, G.nx, fun σ H ρ R q => ⟨ρ, R, q.1, q.2⟩, G.rm⟩ R2 q
/-! lists that a slot owns -/
theorem Rel.ownAt {F : Fx} {σ : L2.St} {H : Hp} {ρ : Rho} {vs : List V} {ds es : List D} {i : Nat} (R : Rel K F σ H ρ vs ds) (h : ρ[i]? = some (.ls es)) : ∃ p xs, σ[i]? = some (some (.ref p)) ∧ H p = some (.lst xs) ∧ xs.length = es.length ∧ Dp K H (.ref p) (.list es) := by
  obtain ⟨Hi, own, R⟩ := R
  obtain ⟨p, xs, e, eo, hp, q⟩ := R.slot i _ h
  have e' : σ[i]? = some (some (.ref p)) := by
    cases z : σ[i]? with
    | none => rw [z] at e; cases e
    | some y => rw [z] at e; exact congrArg some e
  exact ⟨p, xs, e', hp, dpAll_len q, .lst (.inl (.inl hp)) (dpAll_mono R.sub _ _ q)⟩
/-- what stands in slot i's own list is turned: ys for fs, of what was there or is at hand -/
theorem Rel.turn {F : Fx} {σ : L2.St} {H : Hp} {ρ : Rho} {vs ws : List V} {ds es fs gs : List D} {i : Nat} {p : Addr} {xs ys : List V} (R : Rel K F σ H ρ vs ds) (h : ρ[i]? = some (.ls es)) (hs : σ[i]? = some (some (.ref p))) (hp : H p = some (.lst xs))
    (hy : ∀ Hi, DpAll K Hi xs es → DpAll K Hi vs ds → DpAll K Hi ys fs ∧ DpAll K Hi ws gs) : Rel K F σ (upd H p (.lst ys)) (ρ.set i (.ls fs)) ws gs := by
  obtain ⟨Hi, own, R⟩ := R
  obtain ⟨p', xs', e, eo, hp', q⟩ := R.slot i _ h
  have e2 : p' = p := by rw [hs] at e; cases e; rfl
  subst e2
  rw [hp] at hp'
  cases hp'
  have hi : i < ρ.length := (List.getElem?_eq_some_iff.mp h).1
  obtain ⟨y1, y2⟩ := hy Hi q R.tmp
  have np : Hi p' = none := R.free i p' (by rw [eo]; simp)
  have no : ∀ j, j ≠ i → ∀ a ∈ own j, a ≠ p' := fun j hj a ha z => R.sep j i hj a ha (by rw [eo, z]; simp)
  refine ⟨Hi, own, ⟨R.base, fun b x z => ?_, R.new, fun b o z hn => ?_, fun b z => ?_, by rw [List.length_set]; exact R.len, fun j x z => ?_, R.free, fun j a ha => ?_, R.nown, R.sep, fun j es' z => ?_, fun z hz => ?_, y2⟩⟩
  · rw [upd_ne (fun w => by rw [w, np] at z; cases z)]; exact R.sub b x z
  · have nb : b ≠ p' := fun w => by
      have := R.nls i es h p' (by rw [eo]; simp)
      rw [w, this] at z; cases z
    rw [upd_ne nb]; exact R.keep b o z hn
  · by_cases hb : b = p'
    · rw [hb, upd_same]; simp
    · rw [upd_ne hb]; exact R.dom b z
  · by_cases hj : j = i
    · subst hj
      rw [List.getElem?_set_self hi] at z
      cases z
      exact ⟨p', ys, e, eo, upd_same, y1⟩
    · rw [List.getElem?_set_ne (Ne.symm hj)] at z
      exact (R.slot j x z).grow (Same.refl _) fun a ha o w => by rw [upd_ne (no j hj a ha)]; exact w
  · by_cases hap : a = p'
    · rw [hap, upd_same]; simp
    · rw [upd_ne hap]; exact R.held j a ha
  · by_cases hj : j = i
    · subst hj
      exact R.nls j es h
    · rw [List.getElem?_set_ne (Ne.symm hj)] at z
      exact R.nls j es' z
  · obtain ⟨z1, z2, z3⟩ := R.pin z hz
    have nz : z.1 ≠ p' := fun w => z3 i (by rw [eo, w]; simp)
    exact ⟨by rw [upd_ne nz]; exact z1, z2, z3⟩
/-- len of it -/
def dLenO (i : Nat) : TD := fun ρ P => ∃ es, ρ[i]? = some (.ls es) ∧ P ρ (.int es.length)
theorem se_lenO (i : Nat) : SE K (tCB (fun xs H Q => ∃ p ys, xs = [.ref p] ∧ (SqL K H p ys ∨ SqT K H p ys) ∧ Q (.int ys.length) H) (tCons (tVar i) tNil)) (dLenO i) := ⟨fun ρ P P' h ⟨es, e, q⟩ => ⟨es, e, h _ _ q⟩, fun F σ H ρ vs ds Q R ⟨es, e, q⟩ => by
  obtain ⟨p, xs, e1, hp, el, _⟩ := R.ownAt e
  refine ⟨.ref p, e1, p, xs, rfl, .inl (.inl (.inl hp)), ?_⟩
  rw [el]
  exact q _ _ (R.push (v := .int es.length) rfl)⟩
/-- it stands at the left of an operator that looks at it alone -/
structure SOv (K : PySem.W.Frag) (r : R2) (o : OD) : Prop where
  mono : ∀ a b P P', (∀ d, P d → P' d) → o a b P → o a b P'
  run : ∀ F σ H ρ vs ds x y a b Q, Dp K H x a → Rel K F σ H ρ (y :: vs) (b :: ds) → o a b (fun d => ∀ v H', Rel K F σ H' ρ (v :: vs) (d :: ds) → Q v H') → r x y H Q
theorem sov_eqD : SOv K (rEqD K) oEq := ⟨fun a b P P' h ⟨e1, e2, q⟩ => ⟨e1, e2, h _ q⟩, fun F σ H ρ vs ds x y a b Q hx R ⟨e1, e2, q⟩ =>
  ⟨a, b, hx, R.dp, e1, e2, q _ _ (R.drop.push (v := .bl (PyData.eqv a b)) rfl)⟩⟩
theorem sov_neD : SOv K (rNeD K) oNe := ⟨fun a b P P' h ⟨e1, e2, q⟩ => ⟨e1, e2, h _ q⟩, fun F σ H ρ vs ds x y a b Q hx R ⟨e1, e2, q⟩ =>
  ⟨a, b, hx, R.dp, e1, e2, q _ _ (R.drop.push (v := .bl (!PyData.eqv a b)) rfl)⟩⟩
def dOpO (o : OD) (i : Nat) (b : TD) : TD := fun ρ P => (∃ es, ρ[i]? = some (.ls es)) ∧ b ρ fun r y => ∃ es, r[i]? = some (.ls es) ∧ o (.list es) y (P r)
theorem se_opO {r : R2} {o : OD} {tb : TE} {b : TD} (i : Nat) (so : SOv K r o) (sb : SE K tb b) : SE K (tOp r (tVar i) tb) (dOpO o i b) := by
  refine ⟨fun ρ P P' h ⟨q0, q⟩ => ⟨q0, sb.mono _ _ _ (fun r y ⟨es, e, q⟩ => ⟨es, e, so.mono _ _ _ _ (h _) q⟩) q⟩, fun F σ H ρ vs ds Q R q => ?_⟩
  obtain ⟨⟨es0, e0⟩, q⟩ := q
  obtain ⟨p, xs, e1, hp, el, _⟩ := R.ownAt e0
  refine ⟨.ref p, e1, sb.run F σ H ρ vs ds _ R (sb.mono _ _ _ (fun r y q v H1 R1 => ?_) q)⟩
  obtain ⟨es, e, q⟩ := q
  obtain ⟨p2, xs2, e2, hp2, el2, hd⟩ := R1.ownAt e
  rw [e1] at e2
  cases e2
  exact so.run F σ H1 r vs ds _ v _ y Q hd R1 q
/-- an item of it -/
def dIxO (i : Nat) (b : TD) : TD := fun ρ P => (∃ es, ρ[i]? = some (.ls es)) ∧ b ρ fun r y => ∃ es k d, r[i]? = some (.ls es) ∧ y = .int k ∧ atI es k = some d ∧ P r d
theorem se_ixO {tb : TE} {b : TD} (i : Nat) (sb : SE K tb b) : SE K (tOp (rIxL K) (tVar i) tb) (dIxO i b) := by
  refine ⟨fun ρ P P' h ⟨q0, q⟩ => ⟨q0, sb.mono _ _ _ (fun r y ⟨es, k, d, e, e1, e2, q⟩ => ⟨es, k, d, e, e1, e2, h _ _ q⟩) q⟩, fun F σ H ρ vs ds Q R q => ?_⟩
  obtain ⟨⟨es0, e0⟩, q⟩ := q
  obtain ⟨p, xs, e1, hp, el, _⟩ := R.ownAt e0
  refine ⟨.ref p, e1, sb.run F σ H ρ vs ds _ R (sb.mono _ _ _ (fun r y q v H1 R1 => ?_) q)⟩
  obtain ⟨es, k, d, e, ey, ea, q⟩ := q
  subst ey
  obtain rfl := R1.int
  obtain ⟨Hi, own, R2⟩ := R1.drop
  obtain ⟨p2, xs2, e2, eo, hp2, q2⟩ := R2.slot i _ e
  have e3 : p2 = p := by rw [e1] at e2; cases e2; rfl
  subst e3
  have R3 : Rel K F σ H1 r (xs2 ++ vs) (es ++ ds) := ⟨Hi, own, R2.tmpTo (dpAll_app q2 R2.tmp)⟩
  obtain ⟨v, e4, R4⟩ := atI_pick (dpAll_len q2) R3 ea
  exact ⟨p2, xs2, k, v, rfl, rfl, .inl (.inl hp2), e4, q _ _ R4⟩
/-- name.append(e) -/
def dApp (i : Nat) (b : TD) : TDS := fun dn ρ => (∃ es, ρ[i]? = some (.ls es)) ∧ b ρ fun r d => ∃ es, r[i]? = some (.ls es) ∧ es.length < sizeLine ∧ dn.nx (r.set i (.ls (es ++ [d])))
theorem ss_app {tb : TE} {b : TD} (i : Nat) (sb : SE K tb b) : SS K (tDrop (tBM K "list" rAppend (tVar i) (tCons tb tNil))) (dApp i b) := by
  refine ⟨fun a b ρ h ⟨q0, q⟩ => ⟨q0, sb.mono _ _ _ (fun r y ⟨es, e, e1, q⟩ => ⟨es, e, e1, h.nx _ q⟩) q⟩, fun F σ H ρ vs ds E dn G R q => ?_⟩
  obtain ⟨⟨es0, e0⟩, q⟩ := q
  obtain ⟨p, xs, e1, hp, el, _⟩ := R.ownAt e0
  refine ⟨.ref p, e1, .inl ⟨rfl, xs, .inl (.inl hp)⟩, sb.run F σ H ρ vs ds _ R (sb.mono _ _ _ (fun r y q v H1 R1 => ?_) q)⟩
  obtain ⟨es, e, ez, q⟩ := q
  obtain ⟨p2, xs2, e2, hp2, el2, hd⟩ := R1.ownAt e
  rw [e1] at e2
  cases e2
  refine ⟨p, xs2, v, rfl, rfl, hp2, by rw [el2]; exact ez, G.nx _ _ _ (R1.turn e e1 hp2 fun Hi h1 h2 => ?_) q⟩
  cases h2 with
  | cons a b => exact ⟨dpAll_app h1 (.cons a .nil), b⟩
/-- name[k] = e -/
theorem dpAll_set {H : Hp} {d : D} {v : V} (hv : Dp K H v d) : ∀ {es : List D} {xs : List V} (j : Nat), DpAll K H xs es → DpAll K H (xs.set j v) (es.set j d)
  | [], _, j, h => by cases h; exact .nil
  | e :: es, _, 0, h => by cases h with | cons a b => exact .cons hv b
  | e :: es, _, j + 1, h => by cases h with | cons a b => exact .cons a (dpAll_set hv j b)
def dSetI (i : Nat) (b k : TD) : TDS := fun dn ρ => b ρ fun r d => (∃ es, r[i]? = some (.ls es)) ∧ k r fun r2 z => ∃ es n j, r2[i]? = some (.ls es) ∧ z = .int n ∧ ixN es.length n = some j ∧ dn.nx (r2.set i (.ls (es.set j d)))
theorem ss_setI {tb tk : TE} {b k : TD} (i : Nat) (sb : SE K tb b) (sk : SE K tk k) : SS K (tAsg tb (gSub (tVar i) tk rSetL)) (dSetI i b k) := by
  refine ⟨fun a b ρ h q => sb.mono _ _ _ (fun r y ⟨q0, q⟩ => ⟨q0, sk.mono _ _ _ (fun r2 z ⟨es, n, j, e, e1, e2, q⟩ => ⟨es, n, j, e, e1, e2, h.nx _ q⟩) q⟩) q, fun F σ H ρ vs ds E dn G R q => ?_⟩
  refine sb.run F σ H ρ vs ds _ R (sb.mono _ _ _ (fun r d q v H1 R1 => ?_) q)
  obtain ⟨⟨es0, e0⟩, q⟩ := q
  obtain ⟨p, xs, e1, hp, el, _⟩ := R1.ownAt e0
  refine ⟨.ref p, e1, sk.run F σ H1 r _ _ _ R1 (sk.mono _ _ _ (fun r2 z q w H2 R2 => ?_) q)⟩
  obtain ⟨es, n, j, e, ez, ej, q⟩ := q
  subst ez
  obtain rfl := R2.int
  obtain ⟨p2, xs2, e2, hp2, el2, hd⟩ := R2.ownAt e
  rw [e1] at e2
  cases e2
  refine ⟨p, xs2, n, j, rfl, rfl, hp2, by rw [el2]; exact ej, G.nx _ _ _ (R2.drop.turn e e1 hp2 fun Hi h1 h2 => ?_) q⟩
  cases h2 with
  | cons a b => exact ⟨dpAll_set a j h1, b⟩
/-- name.pop(k) -/
theorem dpAll_erase {H : Hp} : ∀ {es : List D} {xs : List V} (j : Nat), DpAll K H xs es → DpAll K H (xs.eraseIdx j) (es.eraseIdx j)
  | [], _, j, h => by cases h; exact .nil
  | e :: es, _, 0, h => by cases h with | cons a b => exact b
  | e :: es, _, j + 1, h => by cases h with | cons a b => exact .cons a (dpAll_erase j b)
def dPopI (i : Nat) (k : TD) : TD := fun ρ P => (∃ es, ρ[i]? = some (.ls es)) ∧ k ρ fun r z => ∃ es n j d, r[i]? = some (.ls es) ∧ z = .int n ∧ (-(2 ^ 63) ≤ n ∧ n < 2 ^ 63) ∧ seqIndex? n es.length = some j ∧ es[j]? = some d ∧ P (r.set i (.ls (es.eraseIdx j))) d
theorem se_popI {tk : TE} {k : TD} (i : Nat) (sk : SE K tk k) : SE K (tBM K "list" rPopAt (tVar i) (tCons tk tNil)) (dPopI i k) := by
  refine ⟨fun ρ P P' h ⟨q0, q⟩ => ⟨q0, sk.mono _ _ _ (fun r z ⟨es, n, j, d, e, e1, e2, e3, e4, q⟩ => ⟨es, n, j, d, e, e1, e2, e3, e4, h _ _ q⟩) q⟩, fun F σ H ρ vs ds Q R q => ?_⟩
  obtain ⟨⟨es0, e0⟩, q⟩ := q
  obtain ⟨p, xs, e1, hp, el, _⟩ := R.ownAt e0
  refine ⟨.ref p, e1, .inl ⟨rfl, xs, .inl (.inl hp)⟩, sk.run F σ H ρ vs ds _ R (sk.mono _ _ _ (fun r z q w H1 R1 => ?_) q)⟩
  obtain ⟨es, n, j, d, e, ez, en, ej, ed, q⟩ := q
  subst ez
  obtain rfl := R1.int
  obtain ⟨Hi, own, R2⟩ := R1.drop
  obtain ⟨p2, xs2, e2, eo, hp2, q2⟩ := R2.slot i _ e
  have e3 : p2 = p := by rw [e1] at e2; cases e2; rfl
  subst e3
  obtain ⟨v, hv, hd⟩ := dpAll_at q2 ed
  have R3 : Rel K F σ H1 r (v :: vs) (d :: ds) := ⟨Hi, own, R2.tmpTo (.cons hd R2.tmp)⟩
  refine ⟨p2, xs2, n, j, v, rfl, rfl, hp2, en.1, en.2, by rw [dpAll_len q2]; exact ej, hv, q _ _ (R3.turn e e1 hp2 fun Hi h1 h2 => ⟨dpAll_erase j h1, h2⟩)⟩
end
end LD

/-! LD6: what a def promises over data; its calls; its entry. -/
namespace LD
open PySem PySem.Spec L2
/-- what has come between: nothing tracked is lost, what was laid is new -/
def Fresh (Hi Hi' H : Hp) : Prop := ∀ b, Hi' b ≠ none → Hi b ≠ none ∨ H b = none
/-- a def of data alone -/
def spD (K : PySem.W.Frag) (g : CD) : Sp := fun vs H Q _ => ∃ Hi ds, Same Hi H ∧ DpAll K Hi vs ds ∧ g ds fun d => ∀ v H' Hi', Same Hi Hi' → Same Hi' H' → Same H H' → Fresh Hi Hi' H → Dp K Hi' v d → Q v H'
/-- a def that draws: the source first -/
def spW (K : PySem.W.Frag) (g : CD) : Sp := fun vs H Q _ => ∃ Hi a l vs' ds, vs = .ref a :: vs' ∧ a ≠ l ∧ Same Hi H ∧ Hi a = none ∧ Hi l = none ∧ DealAt H a l ∧ DpAll K Hi vs' ds ∧
  g ds fun d => ∀ v H' Hi', Same Hi Hi' → Same Hi' H' → (∀ c o, H c = some o → c ≠ a → c ≠ l → H' c = some o) → (∀ c, H c ≠ none → H' c ≠ none) → Fresh Hi Hi' H → DealAt H' a l → Dp K Hi' v d → Q v H'
/-- a def that makes a source -/
def spM (K : PySem.W.Frag) (g : List D → Prop) : Sp := fun vs H Q _ => ∃ Hi ds, Same Hi H ∧ DpAll K Hi vs ds ∧ g ds ∧
  ∀ a l ns b H', a ≠ l → H' a = none → H' l = none → Same H H' → DealOk ns b → Q (.ref a) (upd (upd H' l (.lst (ns.map V.int))) a (.lst [.ref l, .int b]))
section
variable {K : PySem.W.Frag} {F : Fx} {σ : L2.St} {H H' : Hp} {ρ : Rho} {vs ws xs : List V} {ds es : List D}
/-- behind a call that only adds -/
theorem RelI.after {Hi Hi' : Hp} {own : Nat → List Addr} (R : RelI K F σ H ρ vs ds Hi own) (h1 : Same Hi Hi') (h2 : Same Hi' H') (h3 : Same H H') (h4 : Fresh Hi Hi' H) (h : DpAll K Hi' ws es) : RelI K F σ H' ρ ws es Hi' own := by
  have dom : ∀ b, H b ≠ none → H' b ≠ none := fun b hb => by
    cases q : H b with
    | none => exact absurd q hb
    | some o => rw [h3 b o q]; simp
  refine ⟨R.base.trans h1, h2, fun b hb => ?_, fun b o e hn => h3 b o (R.keep b o e hn), fun b e => dom b (R.dom b e), R.len, fun i x e => (R.slot i x e).grow h1 fun a ha o q => h3 a o q, fun i a ha => ?_, fun i a ha => dom a (R.held i a ha), R.nown, R.sep, R.nls, fun z hz => ?_, h⟩
  · rcases h4 b hb with z | z
    · exact R.new b z
    · exact .inr (R.no0 z)
  · cases q : Hi' a with
    | none => rfl
    | some o =>
      rcases h4 a (by rw [q]; simp) with z | z
      · exact absurd (R.free i a ha) z
      · exact absurd z (R.held i a ha)
  · obtain ⟨z1, z2, z3⟩ := R.pin z hz
    refine ⟨h3 _ _ z1, ?_, z3⟩
    cases q : Hi' z.1 with
    | none => rfl
    | some o =>
      rcases h4 z.1 (by rw [q]; simp) with w | w
      · exact absurd z2 w
      · rw [z1] at w; cases w
theorem se_call {g : CD} {ta : TA} {t : TDA} {E : XK} (hg : ∀ es P P', (∀ d, P d → P' d) → g es P → g es P') (s : SA K ta t) : SE K (tCall (spD K g) [] E ta) (dCall g t) := by
  refine ⟨fun ρ P P' h q => s.mono _ _ _ (fun _ es q => hg _ _ _ (h _) q) q, fun F σ H ρ vs ds Q R q => s.run F σ H ρ vs ds _ R (s.mono _ _ _ (fun r es q xs H1 e R1 => ?_) q)⟩
  show spD K g (xs ++ []) H1 Q E
  rw [List.append_nil]
  obtain ⟨Hi, own, R2⟩ := R1
  obtain ⟨t1, t2⟩ := dpAll_split e R2.tmp
  exact ⟨Hi, es, R2.sub, t1, hg _ _ _ (fun d q v H' Hi' h1 h2 h3 h4 h5 => q v H' ⟨Hi', own, R2.after h1 h2 h3 h4 (.cons h5 (dpAll_mono h1 _ _ t2))⟩) q⟩
/-- .. with the source in slot i first -/
def dCallW (i : Nat) (g : CD) (t : TDA) : TD := fun ρ P => (∃ a l, ρ[i]? = some (.dl a l)) ∧ t ρ fun r es => (∃ a l, r[i]? = some (.dl a l)) ∧ g es (P r)
theorem Rel.dealAt {i : Nat} {a l : Addr} (R : Rel K F σ H ρ vs ds) (h : ρ[i]? = some (.dl a l)) : σ[i]? = some (some (.ref a)) := by
  obtain ⟨Hi, own, R⟩ := R
  obtain ⟨e, _⟩ := R.slot i _ h
  cases z : σ[i]? with
  | none => rw [z] at e; cases e
  | some y => rw [z] at e; exact congrArg some e
theorem se_callW {i : Nat} {g : CD} {ta : TA} {t : TDA} {E : XK} (hg : ∀ es P P', (∀ d, P d → P' d) → g es P → g es P') (s : SA K ta t) : SE K (tCall (spW K g) [] E (tCons (tVar i) ta)) (dCallW i g t) := by
  refine ⟨fun ρ P P' h q => ⟨q.1, s.mono _ _ _ (fun _ es q => ⟨q.1, hg _ _ _ (h _) q.2⟩) q.2⟩, fun F σ H ρ vs ds Q R q => ?_⟩
  obtain ⟨⟨a, l, e0⟩, q⟩ := q
  have s0 := R.dealAt e0
  refine ⟨.ref a, s0, s.run F σ H ρ vs ds _ R (s.mono _ _ _ (fun r es q xs H1 e R1 => ?_) q)⟩
  show spW K g (V.ref a :: xs ++ []) H1 Q E
  rw [List.append_nil]
  obtain ⟨⟨a', l', e1⟩, q⟩ := q
  have s1 := R1.dealAt e1
  rw [s0] at s1
  cases s1
  obtain ⟨Hi, own, R2⟩ := R1
  obtain ⟨t1, t2⟩ := dpAll_split e R2.tmp
  obtain ⟨_, eo, nal, da⟩ := R2.slot i _ e1
  have ia : a ∈ own i := by rw [eo]; simp
  have il : l' ∈ own i := by rw [eo]; simp
  refine ⟨Hi, a, l', xs, es, rfl, nal, R2.sub, R2.free i a ia, R2.free i l' il, da, t1, hg _ _ _ (fun d q v H' Hi' h1 h2 h3 h3' h4 hda h5 => q v H' ⟨Hi', own, ?_⟩) q⟩
  have notA : ∀ {c : Addr}, F.H0 c ≠ none → c ∉ F.P → c ≠ a ∧ c ≠ l' := fun {c} hc hp => ⟨fun z => by
    rcases R2.nown i a ia with w | w
    · exact hc (by rw [z]; exact w)
    · exact hp (by rw [z]; exact w), fun z => by
    rcases R2.nown i l' il with w | w
    · exact hc (by rw [z]; exact w)
    · exact hp (by rw [z]; exact w)⟩
  refine ⟨R2.base.trans h1, h2, fun b hb => ?_, fun b o z hn => ?_, fun b z => h3' b (R2.dom b z), R2.len, fun j x z => ?_, fun j c hc => ?_, fun j c hc => h3' c (R2.held j c hc), R2.nown, R2.sep, R2.nls, fun z hz => ?_, .cons h5 (dpAll_mono h1 _ _ t2)⟩
  · rcases h4 b hb with z | z
    · exact R2.new b z
    · exact .inr (R2.no0 z)
  · obtain ⟨n1, n2⟩ := notA (c := b) (by rw [z]; simp) hn
    exact h3 b o (R2.keep b o z hn) n1 n2
  · by_cases hj : j = i
    · subst hj
      rw [e1] at z
      cases z
      obtain ⟨g1, g2, g3, _⟩ := R2.slot j _ e1
      exact ⟨g1, g2, g3, hda⟩
    · exact (R2.slot j x z).grow h1 fun c hc o w => h3 c o w (fun y => R2.sep j i hj c hc (by rw [y]; exact ia)) (fun y => R2.sep j i hj c hc (by rw [y]; exact il))
  · cases w : Hi' c with
    | none => rfl
    | some o =>
      rcases h4 c (by rw [w]; simp) with z | z
      · exact absurd (R2.free j c hc) z
      · exact absurd z (R2.held j c hc)
  · obtain ⟨z1, z2, z3⟩ := R2.pin z hz
    refine ⟨h3 _ _ z1 (fun y => z3 i (by rw [y]; exact ia)) (fun y => z3 i (by rw [y]; exact il)), ?_, z3⟩
    cases w : Hi' z.1 with
    | none => rfl
    | some o =>
      rcases h4 z.1 (by rw [w]; simp) with y | y
      · exact absurd z2 y
      · rw [z1] at y; cases y
/-- name = a new source -/
def dMk (g : List D → Prop) (t : TDA) (i : Nat) : TDS := fun dn ρ => t ρ fun r es => i < r.length ∧ g es ∧ ∀ a l, dn.nx (r.set i (.dl a l))
theorem ss_mk {i : Nat} {g : List D → Prop} {ta : TA} {t : TDA} {E : XK} (s : SA K ta t) : SS K (tAsg (tCall (spM K g) [] E ta) (gName i)) (dMk g t i) := by
  refine ⟨fun a b ρ h q => s.mono _ _ _ (fun r es q => ⟨q.1, q.2.1, fun a l => h.nx _ (q.2.2 a l)⟩) q, fun F σ H ρ vs ds En dn G R q => s.run F σ H ρ vs ds _ R (s.mono _ _ _ (fun r es q xs H1 e R1 => ?_) q)⟩
  show spM K g (xs ++ []) H1 _ E
  rw [List.append_nil]
  obtain ⟨hi, q0, q⟩ := q
  obtain ⟨Hi, own, R2⟩ := R1
  obtain ⟨t1, t2⟩ := dpAll_split e R2.tmp
  refine ⟨Hi, es, R2.sub, t1, q0, fun a l ns b H' nal ha hl hs ok => G.nx _ _ _ ?_ (q a l)⟩
  have fr : ∀ {c : Addr}, H' c = none → H1 c = none := fun {c} hc => hs.free hc
  have ne : ∀ {c p : Addr} {o : HO}, H1 c = some o → H' p = none → c ≠ p := fun {c p o} h1 h2 => ne_of_none h1 (fr h2)
  have hH : ∀ c o, H1 c = some o → (upd (upd H' l (.lst (ns.map V.int))) a (.lst [.ref l, .int b])) c = some o := fun c o h => by
    rw [upd_ne (ne h ha), upd_ne (ne h hl)]; exact hs _ _ h
  have dom : ∀ c, H1 c ≠ none → (upd (upd H' l (.lst (ns.map V.int))) a (.lst [.ref l, .int b])) c ≠ none := fun c hc => by
    cases w : H1 c with
    | none => exact absurd w hc
    | some o => rw [hH c o w]; simp
  have no : ∀ {j : Nat} {c : Addr}, c ∈ own j → c ≠ a ∧ c ≠ l := fun {j c} hc => ⟨fun z => R2.held j c hc (by rw [z]; exact fr ha), fun z => R2.held j c hc (by rw [z]; exact fr hl)⟩
  refine ⟨Hi, fun j => if j = i then [a, l] else own j, ⟨R2.base, fun c o h => hH c o (R2.sub c o h), R2.new, fun c o h hn => hH c o (R2.keep c o h hn), fun c h => dom c (R2.dom c h), by rw [List.length_set, List.length_set]; exact R2.len, fun j x z => ?_, fun j c hc => ?_, fun j c hc => ?_, fun j c hc => ?_, fun j k hjk c hc hk => ?_, fun j es' z c hc => ?_, fun z hz => ?_, t2⟩⟩
  · by_cases hj : j = i
    · subst hj
      rw [List.getElem?_set_self hi] at z
      cases z
      rw [List.getElem?_set_self (by rw [R2.len]; exact hi), if_pos rfl]
      exact ⟨rfl, rfl, nal, ns, b, ok, upd_same, by rw [upd_ne (Ne.symm nal), upd_same]⟩
    · rw [List.getElem?_set_ne (Ne.symm hj)] at z ⊢
      rw [if_neg hj]
      exact (R2.slot j x z).grow (Same.refl _) fun c hc o w => hH c o w
  · by_cases hj : j = i
    · rw [if_pos hj] at hc
      rcases List.mem_cons.mp hc with rfl | hc
      · exact R2.noSub (fr ha)
      · obtain rfl : c = l := by simpa using hc
        exact R2.noSub (fr hl)
    · rw [if_neg hj] at hc; exact R2.free j c hc
  · by_cases hj : j = i
    · rw [if_pos hj] at hc
      rcases List.mem_cons.mp hc with rfl | hc
      · rw [upd_same]; simp
      · obtain rfl : c = l := by simpa using hc
        rw [upd_ne (Ne.symm nal), upd_same]; simp
    · rw [if_neg hj] at hc; exact dom c (R2.held j c hc)
  · by_cases hj : j = i
    · rw [if_pos hj] at hc
      rcases List.mem_cons.mp hc with rfl | hc
      · exact .inl (R2.no0 (fr ha))
      · obtain rfl : c = l := by simpa using hc
        exact .inl (R2.no0 (fr hl))
    · rw [if_neg hj] at hc; exact R2.nown j c hc
  · by_cases hj : j = i
    · rw [if_pos hj] at hc
      rw [if_neg (fun z => hjk (hj.trans z.symm))] at hk
      rcases List.mem_cons.mp hc with z | hc
      · exact (no hk).1 z
      · exact (no hk).2 (by simpa using hc)
    · rw [if_neg hj] at hc
      by_cases hki : k = i
      · rw [if_pos hki] at hk
        rcases List.mem_cons.mp hk with z | hk
        · exact (no hc).1 z
        · exact (no hc).2 (by simpa using hk)
      · rw [if_neg hki] at hk; exact R2.sep j k hjk c hc hk
  · by_cases hj : j = i
    · subst hj
      rw [List.getElem?_set_self hi] at z
      cases z
    · rw [if_neg hj] at hc
      rw [List.getElem?_set_ne (Ne.symm hj)] at z
      exact R2.nls j es' z c hc
  · obtain ⟨z1, z2, z3⟩ := R2.pin z hz
    refine ⟨hH _ _ z1, z2, fun j hj => ?_⟩
    by_cases hji : j = i
    · rw [if_pos hji] at hj
      rcases List.mem_cons.mp hj with w | w
      · exact ne z1 ha w
      · exact ne z1 hl (by simpa using w)
    · rw [if_neg hji] at hj; exact z3 j hj
/-! ### the entry of a def -/
theorem start_sh {N : List Str} {Hi : Hp} : ∀ {ds : List D} {vs : List V} {n : Nat} {i : Nat} {x : DV}, DpAll K Hi vs ds → (ds.map DV.sh ++ List.replicate n DV.no)[i]? = some x → x = .no ∨ ∃ d v, x = .sh d ∧ (vs.map some ++ List.replicate n none)[i]? = some (some v) ∧ Dp K Hi v d
  | [], _, n, i, x, h, e => by
    cases h
    left
    have := List.mem_of_getElem? e
    exact (List.mem_replicate.mp (by simpa using this)).2
  | d :: ds, _, n, 0, x, h, e => by
    cases h with
    | cons a b =>
      cases e
      exact .inr ⟨d, _, rfl, rfl, a⟩
  | d :: ds, _, n, i + 1, x, h, e => by
    cases h with
    | cons a b => exact start_sh (N := N) (i := i) b e
def rho0 (ds : List D) (n : Nat) : Rho := ds.map DV.sh ++ List.replicate n DV.no
theorem run_D {N : List Str} {ts : TS} {t : TDS} {Hi : Hp} {Q : VK} {P : D → Prop} (s : SS K ts t) (h1 : Same Hi H) (h2 : DpAll K Hi vs ds) (hq : ∀ d, P d → ∀ v H' Hi', Same Hi Hi' → Same Hi' H' → Same H H' → Fresh Hi Hi' H → Dp K Hi' v d → Q v H')
    (ht : t { nx := fun _ => P .none, rt := fun _ d => P d } (rho0 ds (N.length - ds.length))) : ts { nx := fun _ H' => Q .non H', rt := Q } (start N vs) H := by
  have el := dpAll_len h2
  have back : ∀ σ' H' ρ' v d, Rel K ⟨Hi, H, [], []⟩ σ' H' ρ' [v] [d] → P d → Q v H' := fun σ' H' ρ' v d R p => by
    obtain ⟨Hi', own, R⟩ := R
    have q := R.tmp
    cases q with
    | cons a _ => exact hq d p v H' Hi' R.base R.sub (fun b o e => R.keep b o e (by simp)) (fun b hb => R.new b hb) a
  refine s.run ⟨Hi, H, [], []⟩ (start N vs) H (rho0 ds (N.length - ds.length)) [] [] { nx := fun _ H' => Q .non H', rt := Q } { nx := fun _ => P .none, rt := fun _ d => P d } ⟨fun σ' H' ρ' R p => back σ' H' ρ' .non .none (R.push (v := .non) rfl) p, fun σ' H' ρ' v d R p => back σ' H' ρ' v d R p, fun _ _ _ _ z => z.elim, fun _ _ _ _ z => z.elim, fun _ _ _ _ _ _ _ _ _ _ _ _ z => z.elim⟩ ⟨Hi, fun _ => [], ?_⟩ ht
  refine ⟨Same.refl _, h1, fun b hb => .inl hb, fun b o e _ => e, fun b e => e, ?_, fun i x e => ?_, fun i a ha => (by cases ha), fun i a ha => (by cases ha), fun i a ha => (by cases ha), fun i j _ a ha => (by cases ha), fun i es e a ha => (by cases ha), fun z hz => (by cases hz), DpAll.nil⟩
  · unfold L2.start rho0
    rw [List.length_append, List.length_append, List.length_map, List.length_map, List.length_replicate, List.length_replicate, el]
  · unfold rho0 at e
    rcases start_sh (N := N) h2 e with z | ⟨d, v, z, e2, q⟩
    · rw [z]; trivial
    · rw [z]
      refine ⟨v, ?_, q⟩
      unfold L2.start
      rw [el, e2]
      rfl
theorem run_W {N : List Str} {ts : TS} {t : TDS} {Hi : Hp} {a l : Addr} {Q : VK} {P : D → Prop} (s : SS K ts t) (nal : a ≠ l) (h1 : Same Hi H) (ha : Hi a = none) (hl : Hi l = none) (hd : DealAt H a l) (h2 : DpAll K Hi vs ds)
    (hq : ∀ d, P d → ∀ v H' Hi', Same Hi Hi' → Same Hi' H' → (∀ c o, H c = some o → c ≠ a → c ≠ l → H' c = some o) → (∀ c, H c ≠ none → H' c ≠ none) → Fresh Hi Hi' H → DealAt H' a l → Dp K Hi' v d → Q v H')
    (hN : 1 + ds.length ≤ N.length) (ht : t { nx := fun r => r[0]? = some (.dl a l) ∧ P .none, rt := fun r d => r[0]? = some (.dl a l) ∧ P d } (.dl a l :: rho0 ds (N.length - 1 - ds.length))) : ts { nx := fun _ H' => Q .non H', rt := Q } (start N (.ref a :: vs)) H := by
  have el := dpAll_len h2
  have back : ∀ σ' H' ρ' v d, Rel K ⟨Hi, H, [a, l], []⟩ σ' H' ρ' [v] [d] → ρ'[0]? = some (.dl a l) ∧ P d → Q v H' := fun σ' H' ρ' v d R ⟨e, p⟩ => by
    obtain ⟨Hi', own, R⟩ := R
    obtain ⟨_, _, _, da⟩ := R.slot 0 _ e
    have q := R.tmp
    cases q with
    | cons x _ => exact hq d p v H' Hi' R.base R.sub (fun c o e n1 n2 => R.keep c o e (by simp [n1, n2])) R.dom (fun b hb => R.new b hb) da x
  refine s.run ⟨Hi, H, [a, l], []⟩ (start N (.ref a :: vs)) H (.dl a l :: rho0 ds (N.length - 1 - ds.length)) [] [] { nx := fun _ H' => Q .non H', rt := Q } { nx := fun r => r[0]? = some (.dl a l) ∧ P .none, rt := fun r d => r[0]? = some (.dl a l) ∧ P d } ⟨fun σ' H' ρ' R p => back σ' H' ρ' .non .none (R.push (v := .non) rfl) p, fun σ' H' ρ' v d R p => back σ' H' ρ' v d R p, fun _ _ _ _ z => z.elim, fun _ _ _ _ z => z.elim, fun _ _ _ _ _ _ _ _ _ _ _ _ z => z.elim⟩ ⟨Hi, fun j => if j = 0 then [a, l] else [], ?_⟩ ht
  have hda := hd
  obtain ⟨ns, b, _, g1, g2⟩ := hda
  refine ⟨Same.refl _, h1, fun b hb => .inl hb, fun b o e _ => e, fun b e => e, ?_, fun i x e => ?_, fun i c hc => ?_, fun i c hc => ?_, fun i c hc => ?_, fun i j hij c hc hk => ?_, fun i es e c hc => ?_, fun z hz => (by cases hz), DpAll.nil⟩
  · unfold L2.start rho0
    simp only [List.length_append, List.length_map, List.length_cons, List.length_replicate]
    omega
  · cases i with
    | zero =>
      cases e
      exact ⟨rfl, rfl, nal, hd⟩
    | succ i =>
      unfold rho0 at e
      rcases start_sh (N := N) h2 e with z | ⟨d, v, z, e2, q⟩
      · rw [z]; trivial
      · rw [z]
        refine ⟨v, ?_, q⟩
        unfold L2.start
        have en : N.length - (V.ref a :: vs).length = N.length - 1 - ds.length := by rw [List.length_cons, el]; omega
        rw [en]
        show ((vs.map some ++ _)[i]?).join = _
        rw [e2]
        rfl
  · by_cases hi : i = 0
    · rw [if_pos hi] at hc
      rcases List.mem_cons.mp hc with rfl | hc
      · exact ha
      · obtain rfl : c = l := by simpa using hc
        exact hl
    · rw [if_neg hi] at hc; cases hc
  · by_cases hi : i = 0
    · rw [if_pos hi] at hc
      rcases List.mem_cons.mp hc with rfl | hc
      · rw [g1]; simp
      · obtain rfl : c = l := by simpa using hc
        rw [g2]; simp
    · rw [if_neg hi] at hc; cases hc
  · by_cases hi : i = 0
    · rw [if_pos hi] at hc; exact .inr hc
    · rw [if_neg hi] at hc; cases hc
  · by_cases hi : i = 0
    · rw [if_neg (fun z => hij (hi.trans z.symm))] at hk; cases hk
    · rw [if_neg hi] at hc; cases hc
  · by_cases hi : i = 0
    · rw [hi] at e; cases e
    · rw [if_neg hi] at hc; cases hc
end
end LD

/-! LD7: more operators and built-in functions: repr, isinstance, + of lists and tuples, chains of comparisons, keywords alone. -/
namespace LD
open PySem PySem.Spec L2
/-! ### rules of the layer below -/
def rCatL (K : PySem.W.Frag) : R2 := fun x y H Q => ∃ a b xs ys, x = .ref a ∧ y = .ref b ∧ SqL K H a xs ∧ SqL K H b ys ∧ xs.length + ys.length ≤ sizeLine ∧ ∀ p, H p = none → Q (.ref p) (upd H p (.lst (xs ++ ys)))
def rReprS : List V → Hp → VK → Prop := fun xs H Q => (∃ i, xs = [.int i] ∧ i.natAbs.log2 < 1920 ∧ Q (.str (PyData.shown (.int i))) H) ∨ ∃ b, xs = [.bl b] ∧ Q (.str (PyData.shown (.bool b))) H
def rReprD (K : PySem.W.Frag) : List V → Hp → VK → Prop := fun xs H Q => ∃ v d, xs = [v] ∧ Dp K H v d ∧ d.showable = true ∧ d.hasDict = false ∧ d.depth ≤ 60 ∧ d.shown.length ≤ sizeLine ∧ Q (.str d.shown) H
section
variable {X : Cx}
theorem op_catL : OpR X (binaryOp .Add) (rCatL X.K) := by
  intro pins s σ H x y v u Q I rx ry h
  obtain ⟨a, b, xs, ys, rfl, rfl, ha, hb, hz, q⟩ := h
  cases rx
  cases ry
  obtain ⟨i1, r1, p1, z1⟩ := I.list ha
  obtain ⟨i2, r2, p2, z2⟩ := I.list hb
  obtain ⟨m, F⟩ := I.fr
  have rr := r1.append r2
  have hl := rr.length
  rw [List.length_append, List.length_append] at hl
  obtain ⟨o1, n1, g1, c1, d1, q1⟩ := p1
  obtain ⟨o2, n2, g2, c2, d2, q2⟩ := p2
  obtain ⟨k1, u1, w1, sl1⟩ := o1
  obtain ⟨k2, u2, w2, sl2⟩ := o2
  simp only at c1 d1 q1 c2 d2 q2
  subst c1 d1 q1 c2 d2 q2
  have hz' : i1.toArray.size + i2.toArray.size ≤ sizeLine := by
    rw [List.size_toArray, List.size_toArray]
    omega
  refine concat_meets ⟨_, g1, rfl⟩ ⟨_, g2, rfl⟩
    noFill_list_add seq_list_add
    PySem.F.slot_list_add PySem.F.entry_list_add
    (PySem.F.args_list_add_2 _ _)
    (PyProof.Rows.list_addW a b i1.toArray i2.toArray n1 n2 none none sl1 sl2 hz') ⟨g1, g2, ?_⟩
  have ea : i1.toArray ++ i2.toArray = (i1 ++ i2).toArray := by simp
  rw [ea]
  exact ⟨.ref _, _, I.lnew (t' := s.toks) rr (by rw [List.length_append]; omega), rfl, q _ I.fresh⟩
theorem call_reprS : CallR X (.builtin "repr") rReprS := by
  intro pins s σ H xs us Q I r h
  rcases h with ⟨i, rfl, hz, q⟩ | ⟨b, rfl, q⟩
  · obtain ⟨u, rfl, t, rfl⟩ := vals1 r
    exact PySem.P.repr_of_int hz ⟨.str _, H, I.tok _, ⟨_, rfl⟩, q⟩
  · obtain ⟨u, rfl, ru⟩ := vals1 r
    cases ru
    exact PySem.P.repr_of_bool ⟨.str _, H, I.tok _, ⟨_, rfl⟩, q⟩
theorem call_reprD (hg : X.A.guards = some []) (hu : X.A.units + 64 < cLine) : CallR X (.builtin "repr") (rReprD X.K) := by
  intro pins s σ H xs us Q I r h
  obtain ⟨v, d, rfl, hd, hs, hn, hdp, hsz, q⟩ := h
  obtain ⟨u, rfl, ru⟩ := vals1 r
  have hR := Dp.reads I d v u hd ru
  cases hd with
  | non => cases ru; exact PySem.P.repr_of_none ⟨.str _, H, I.tok _, ⟨_, rfl⟩, q⟩
  | bl b => cases ru; exact PySem.P.repr_of_bool ⟨.str _, H, I.tok _, ⟨_, rfl⟩, q⟩
  | int i => obtain ⟨t, rfl⟩ := ru; exact PySem.P.repr_of_int (of_decide_eq_true hs) ⟨.str _, H, I.tok _, ⟨_, rfl⟩, q⟩
  | str x => obtain ⟨t, rfl⟩ := ru; exact PySem.P.repr_of_str ⟨.str _, H, I.tok _, ⟨_, rfl⟩, q⟩ hsz
  | lst a b =>
    cases ru
    obtain ⟨as, rd⟩ := hR
    exact repr_of_reads' rd hs (fun e => by rw [hn] at e; cases e) hg (by omega) (fun _ _ e => e) (fun h' u tk hk => ⟨.str _, H, I.kept (t' := tk) hk, ⟨u, rfl⟩, q⟩) hsz
  | tup a b =>
    cases ru
    obtain ⟨as, rd⟩ := hR
    exact repr_of_reads' rd hs (fun e => by rw [hn] at e; cases e) hg (by omega) (fun _ _ e => e) (fun h' u tk hk => ⟨.str _, H, I.kept (t' := tk) hk, ⟨u, rfl⟩, q⟩) hsz
variable {CX : CXT} {k : Nat} {f : Addr} {fd : FuncData} {ps ks : List Str} {sp : Sp} {E : XK} {x : Str} {p pos : Pos} {kws : List Keyword} {tk : TA} {g : List Value → List Value → List Value} {gV : List V → List V → List V}
/-- f(k = v, ..) -/
theorem pe_callK0 (F : FnOk X.prog X.w X.K X.mg X.base CX k f fd ps sp) (hr : Room k X.A) (hg : Gl X x) (hm : X.mg x = some (.ref f)) (hk : PySem.W.keepIn X.K (.ref f) = true) (hb : KBinds X.K fd ps ks g gV) (hx : Passes CX X E) (hkw : PK X kws tk)
    (hall : (backToKw pos (keywordEach kws X.env)).all (·.1.isSome) = true := by rfl) (hks : (backToKw pos (keywordEach kws X.env)).filterMap (·.1) = ks := by rfl) (hdb : (x == ("__debug__" : Str)) = false := by decide)
    (hpl : ((backTo pos (starEach [] X.env)).any (·.1) || (backToKw pos (keywordEach kws X.env)).any (·.1.isNone)) = false := by rfl) : PE X (.Call (.Name x p) [] kws pos) (tCallK sp gV E tNil tk) := by
  refine ⟨fun pins s σ H Q I h => wpAny_Call_Name_kw (ld_glob I hg hm ?_ hdb)⟩
  refine PySem.W.callWith_KW0 (h₀ := X.base) I.ok.mod.kin hk hall (thn (hkw.run pos pins s σ H _ I h) fun ws s2 ⟨zs, H2, I2, rz, q2⟩ => ⟨I2.kIn, ?_⟩) hpl
  rw [hks]
  exact run_fnk (us := []) F hr hb hx I2 .nil rz q2
end
/-! ### over data -/
section
variable {K : PySem.W.Frag} {ta tb tc te : TE} {a b c e : TD}
def cReprS : CD := fun es P => (∃ i : Int, es = [.int i] ∧ i.natAbs.log2 < 1920 ∧ P (.str (PyData.shown (.int i)))) ∨ ∃ b, es = [.bool b] ∧ P (.str (PyData.shown (.bool b)))
theorem sc_reprS : SC K rReprS cReprS := by
  refine ⟨fun a P P' h q => ?_, fun F σ H ρ vs ds xs es Q e R q => ?_⟩
  · rcases q with ⟨i, e, z, q⟩ | ⟨b, e, q⟩
    · exact .inl ⟨i, e, z, h _ q⟩
    · exact .inr ⟨b, e, h _ q⟩
  · rcases q with ⟨i, e1, z, q⟩ | ⟨b, e1, q⟩
    · subst e1
      obtain ⟨x, r, rfl, e2⟩ := len_cons e
      obtain rfl := len_nil e2
      obtain rfl := Rel.int R
      exact .inl ⟨i, rfl, z, q _ _ (Rel.push (v := .str (PyData.shown (.int i))) R.drop rfl)⟩
    · subst e1
      obtain ⟨x, r, rfl, e2⟩ := len_cons e
      obtain rfl := len_nil e2
      obtain rfl := Rel.bl R
      exact .inr ⟨b, rfl, q _ _ (Rel.push (v := .str (PyData.shown (.bool b))) R.drop rfl)⟩
def cReprD : CD := fun es P => ∃ d : D, es = [d] ∧ d.showable = true ∧ d.hasDict = false ∧ d.depth ≤ 60 ∧ d.shown.length ≤ sizeLine ∧ P (.str d.shown)
theorem sc_reprD : SC K (rReprD K) cReprD := by
  refine ⟨fun a P P' h ⟨d, e, h1, h2, h3, h4, q⟩ => ⟨d, e, h1, h2, h3, h4, h _ q⟩, fun F σ H ρ vs ds xs es Q e R ⟨d, e1, h1, h2, h3, h4, q⟩ => ?_⟩
  subst e1
  obtain ⟨x, r, rfl, e2⟩ := len_cons e
  obtain rfl := len_nil e2
  exact ⟨x, d, rfl, Rel.dp R, h1, h2, h3, h4, q _ _ (Rel.push (v := .str d.shown) (Rel.drop R) rfl)⟩
/-! isinstance -/
def typD : D → String
  | .none => "NoneType" | .bool _ => "bool" | .int _ => "int" | .str _ => "str" | .list _ => "list" | .tuple _ => "tuple" | .dict _ => "dict"
theorem tyx_of {H : Hp} {v : V} {d : D} (h : Dp K H v d) : TyX K H v (.type (typD d)) := by
  cases h with
  | non => exact .base .non
  | bl b => exact .base (.bl b)
  | int i => exact .base (.int i)
  | str x => exact .base (.str x)
  | lst s _ =>
    rcases s with (s | ⟨o, s⟩) | ⟨o, its, n, s, c, _⟩
    · exact .base (.lst s)
    · exact .base (.frz s)
    · exact .kList s c
  | tup s _ =>
    rcases s with (s | ⟨o, s⟩) | ⟨o, its, n, s, c, _⟩
    · exact .base (.tup s)
    · exact .fTuple s
    · exact .kTuple s c
/-- x is an instance of the class of this name -/
structure IsiD (K : PySem.W.Frag) (n : String) (f : D → Bool) : Prop where
  ok : ∀ d, PySem.W.kitOne K (.type (typD d)) (.type n) = some (f d)
def dIsi (f : D → Bool) (a : TD) : TD := fun ρ P => a ρ fun r d => P r (.bool (f d))
theorem se_isi {n : String} {f : D → Bool} (k : IsiD K n f) (s : SE K te e) : SE K (tCB (rIsi K) (tCons te (tCons (tC (.ty n)) tNil))) (dIsi f e) := ⟨fun ρ P P' h q => s.mono _ _ _ (fun _ d q => h _ _ q) q, fun F σ H ρ vs ds Q R q =>
  s.run F σ H ρ vs ds _ R (s.mono _ _ _ (fun r d q v H1 R1 => ⟨v, .ty n, _, _, f d, rfl, .ty n, tyx_of R1.dp, k.ok d, q _ _ (Rel.push (v := .bl (f d)) R1.drop rfl)⟩) q)⟩
def dIsiT (f : D → Bool) (a : TD) : TD := dIsi f a
/-- + -/
def dCatL (a b : TD) : TDA := fun ρ P => a ρ fun r1 x => b r1 fun r2 y => ∃ es fs, x = .list es ∧ y = .list fs ∧ es.length + fs.length ≤ sizeLine ∧ P r2 (es ++ fs)
theorem sf_catL (sa : SE K ta a) (sb : SE K tb b) : SF K (tOp (rCatL K) ta tb) (dCatL a b) := by
  refine ⟨fun ρ P P' h q => sa.mono _ _ _ (fun _ x q => sb.mono _ _ _ (fun _ y ⟨es, fs, e1, e2, z, q⟩ => ⟨es, fs, e1, e2, z, h _ _ q⟩) q) q, fun F σ H ρ vs ds Q R q => ?_⟩
  refine sa.run F σ H ρ vs ds _ R (sa.mono _ _ _ (fun r1 x q1 v H1 R1 => ?_) q)
  refine sb.run F σ H1 r1 _ _ _ R1 (sb.mono _ _ _ (fun r2 y q2 u H2 R2 => ?_) q1)
  obtain ⟨es, fs, e1, e2, z, q3⟩ := q2
  subst e1 e2
  obtain ⟨Hi, own, R5⟩ := R2
  have t := R5.tmp
  cases t with
  | cons t2 t =>
    cases t with
    | cons t1 t =>
      cases t1 with
      | lst w1 g1 =>
        cases t2 with
        | lst w2 g2 =>
          have g3 := dpAll_app g1 g2
          exact ⟨_, _, _, _, rfl, rfl, R5.sub.seq w1, R5.sub.seq w2, by rw [dpAll_len g1, dpAll_len g2]; exact z, fun p hp => q3 _ _ p (dpAll_len g3) ⟨Hi, own, R5.tmpTo (dpAll_app g3 t)⟩ hp⟩
end
end LD

/-! LD8: chains of comparisons, keywords, + of tuples, returns of a new source; short words for a whole def. -/
namespace LD
open PySem PySem.Spec L2
section
variable {K : PySem.W.Frag} {ta tb tc te : TE} {a b c e : TD}
def dChain (o o' : OD) (a b c : TD) : TD := fun ρ P => a ρ fun r1 x => b r1 fun r2 y => o x y fun z => ∃ k, z = .bool k ∧ if k = true then c r2 (fun r3 w => o' y w (P r3)) else P r2 (.bool false)
theorem se_chain {r r' : R2} {o o' : OD} (so : SO K r o) (so' : SO K r' o') (sa : SE K ta a) (sb : SE K tb b) (sc : SE K tc c) : SE K (tChain r r' ta tb tc) (dChain o o' a b c) := by
  refine ⟨fun ρ P P' h q => sa.mono _ _ _ (fun _ x q => sb.mono _ _ _ (fun _ y q => so.mono _ _ _ _ (fun z q => ?_) q) q) q, fun F σ H ρ vs ds Q R q => ?_⟩
  · obtain ⟨k, e, q⟩ := q
    refine ⟨k, e, ?_⟩
    cases k with
    | true => exact sc.mono _ _ _ (fun _ w q => so'.mono _ _ _ _ (h _) q) q
    | false => exact h _ _ q
  · refine sa.run F σ H ρ vs ds _ R (sa.mono _ _ _ (fun r1 x q v H1 R1 => ?_) q)
    refine sb.run F σ H1 r1 _ _ _ R1 (sb.mono _ _ _ (fun r2 y q u H2 R2 => ?_) q)
    refine so.run F σ H2 r2 (u :: vs) (y :: ds) v u x y _ (R2.swap fun _ h => ?_) (so.mono _ _ _ _ (fun z q w H3 R3 => ?_) q)
    · cases h with
      | cons h1 h => cases h with | cons h2 h => exact .cons h1 (.cons h2 (.cons h1 h))
    · obtain ⟨k, e, q⟩ := q
      subst e
      refine ⟨k, R3.bl, ?_⟩
      cases k with
      | true =>
        refine sc.run F σ H3 r2 _ _ _ R3.drop (sc.mono _ _ _ (fun r3 w q w' H4 R4 => ?_) q)
        exact so'.run F σ H4 r3 vs ds u w' y w Q R4 q
      | false => exact q _ _ (R3.drop.drop.push (v := .bl false) rfl)
/-- + of tuples -/
def oCatT : OD := fun a b P => ∃ es fs, a = .tuple es ∧ b = .tuple fs ∧ es.length + fs.length ≤ sizeLine ∧ P (.tuple (es ++ fs))
theorem so_catT : SO K (rCatA K) oCatT := by
  refine ⟨fun a b P P' h ⟨es, fs, e1, e2, z, q⟩ => ⟨es, fs, e1, e2, z, h _ q⟩, fun F σ H ρ vs ds x y a b Q R q => ?_⟩
  obtain ⟨es, fs, e1, e2, z, q⟩ := q
  subst e1 e2
  obtain ⟨Hi, own, R5⟩ := R
  have t := R5.tmp
  cases t with
  | cons t2 t =>
    cases t with
    | cons t1 t =>
      cases t1 with
      | tup w1 g1 =>
        cases t2 with
        | tup w2 g2 =>
          have g3 := dpAll_app g1 g2
          have l1 := dpAll_len g1
          have l2 := dpAll_len g2
          refine ⟨_, _, _, _, rfl, rfl, sqT_mono R5.sub w1, sqT_mono R5.sub w2, by rw [l1, l2]; exact z, fun h => ?_, fun _ h => ?_, fun _ _ p hp => ?_⟩
          · rw [h] at l1
            have e : es = [] := List.length_eq_zero_iff.mp l1.symm
            subst e
            exact q _ _ ⟨Hi, own, R5.tmpTo (.cons (.tup w2 g2) t)⟩
          · rw [h] at l2
            have e : fs = [] := List.length_eq_zero_iff.mp l2.symm
            subst e
            rw [List.append_nil] at q
            exact q _ _ ⟨Hi, own, R5.tmpTo (.cons (.tup w1 g1) t)⟩
          · exact q _ _ (Rel.tup ⟨Hi, own, R5.tmpTo (dpAll_app g3 t)⟩ (dpAll_len g3) hp)
/-! keywords -/
def ordP {α : Type} (n m : Nat) (o : List Nat) (xs zs : List α) : List α := if xs.length = n ∧ zs.length = m then o.filterMap fun i => (xs ++ zs)[i]? else []
theorem dpAll_pick {H : Hp} {es : List D} {xs : List V} (h : DpAll K H xs es) : ∀ o : List Nat, DpAll K H (o.filterMap fun i => xs[i]?) (o.filterMap fun i => es[i]?)
  | [] => .nil
  | i :: o => by
    have hl := dpAll_len h
    cases he : es[i]? with
    | none =>
      have hx : xs[i]? = none := by
        have := List.getElem?_eq_none_iff.mp he
        exact List.getElem?_eq_none_iff.mpr (by omega)
      rw [List.filterMap_cons_none hx, List.filterMap_cons_none he]
      exact dpAll_pick h o
    | some d =>
      obtain ⟨v, hv, q⟩ := dpAll_at h he
      rw [List.filterMap_cons_some hv, List.filterMap_cons_some he]
      exact .cons q (dpAll_pick h o)
theorem vals_pick {xs : List V} {us : List Value} (h : Vals xs us) : ∀ o : List Nat, Vals (o.filterMap fun i => xs[i]?) (o.filterMap fun i => us[i]?)
  | [] => .nil
  | i :: o => by
    cases he : xs[i]? with
    | none =>
      rw [List.filterMap_cons_none he, List.filterMap_cons_none (h.none_of he)]
      exact vals_pick h o
    | some d =>
      obtain ⟨v, hv, q⟩ := h.get he
      rw [List.filterMap_cons_some he, List.filterMap_cons_some hv]
      exact .cons q (vals_pick h o)
theorem dpAll_ord {H : Hp} {es fs : List D} {xs zs : List V} (h : DpAll K H xs es) (k : DpAll K H zs fs) (n m : Nat) (o : List Nat) : DpAll K H (ordP n m o xs zs) (ordP n m o es fs) := by
  unfold ordP
  rw [dpAll_len h, dpAll_len k]
  split
  · exact dpAll_pick (dpAll_app h k) o
  · exact .nil
theorem vals_ord {xs zs : List V} {us ws : List Value} (h : Vals xs us) (k : Vals zs ws) (n m : Nat) (o : List Nat) : Vals (ordP n m o xs zs) (ordP n m o us ws) := by
  unfold ordP
  rw [h.length, k.length]
  split
  · exact vals_pick (h.append k) o
  · exact .nil
/-- how a call with n arguments by place and the keywords ks binds -/
theorem kb_mk {x qual : Str} {st : Stmt} {f : Addr} {fd : FuncData} {ps ks : List Str} {n m : Nat} {o : List Nat} (F : Fun K x qual st f fd) (hp : ps ≠ [])
    (h : ∀ (kV doc pm : Value) (an : Option Addr) (cdv ct : Value) (us ws : List Value), us.length = n → ws.length = m → bindArgs (PySem.W.fnOf x qual (defArgs st) (defBody st) (defScope st) .none kV doc pm an cdv ct) ⟨us, ks.zip ws⟩ = pure (ps.zip (ordP n m o us ws))) : KBinds K fd ps ks (ordP n m o) (ordP n m o) := by
  obtain ⟨oc, od, kV, doc, pm, an, cdv, ct, osl, rfl, lk, hcd⟩ := F.ex
  refine ⟨fun s us ws hK hl => .of_eq (h _ _ _ _ _ _ us ws ?_ ?_), fun r k => vals_ord r k n m o⟩
  all_goals
    by_cases hc : us.length = n ∧ ws.length = m
    · first | exact hc.1 | exact hc.2
    · unfold ordP at hl
      rw [if_neg hc] at hl
      exact absurd (List.length_eq_zero_iff.mp hl.symm) hp
def dCallK (n m : Nat) (o : List Nat) (g : CD) (t tk : TDA) : TD := fun ρ P => t ρ fun r es => tk r fun r2 fs => g (ordP n m o es fs) (P r2)
theorem se_callK {n m : Nat} {o : List Nat} {g : CD} {ta tk : TA} {t u : TDA} {E : XK} (hg : ∀ es P P', (∀ d, P d → P' d) → g es P → g es P') (s : SA K ta t) (s' : SA K tk u) : SE K (tCallK (spD K g) (ordP n m o) E ta tk) (dCallK n m o g t u) := by
  refine ⟨fun ρ P P' h q => s.mono _ _ _ (fun _ es q => s'.mono _ _ _ (fun _ fs q => hg _ _ _ (h _) q) q) q, fun F σ H ρ vs ds Q R q => s.run F σ H ρ vs ds _ R (s.mono _ _ _ (fun r es q xs H1 e R1 => ?_) q)⟩
  refine s'.run F σ H1 r _ _ _ R1 (s'.mono _ _ _ (fun r2 fs q zs H2 e2 R2 => ?_) q)
  obtain ⟨Hi, own, R3⟩ := R2
  obtain ⟨t1, t2⟩ := dpAll_split e2 R3.tmp
  obtain ⟨t3, t4⟩ := dpAll_split e t2
  exact ⟨Hi, ordP n m o es fs, R3.sub, dpAll_ord t3 t1 n m o, hg _ _ _ (fun d q v H' Hi' h1 h2 h3 h4 h5 => q v H' ⟨Hi', own, R3.after h1 h2 h3 h4 (.cons h5 (dpAll_mono h1 _ _ t4))⟩) q⟩
/-! return [great numbers, a mixed number] -/
def dRetM (t : TDA) (e : TD) : TDS := fun dn ρ => t ρ fun r es => e r fun r2 d => ∃ ns b, es = ns.map PyData.int ∧ d = .int b ∧ DealOk ns b ∧ dn.rm r2
theorem ss_retM {tf : TE} {t : TDA} (sf : SF K tf t) (se : SE K te e) : SS K (tRet (tLst (tCons tf (tCons te tNil)))) (dRetM t e) := by
  refine ⟨fun a b ρ h q => sf.mono _ _ _ (fun _ es q => se.mono _ _ _ (fun _ d ⟨ns, k, e1, e2, ok, q⟩ => ⟨ns, k, e1, e2, ok, h.rm _ q⟩) q) q, fun F σ H ρ vs ds E dn G R q => ?_⟩
  refine sf.run F σ H ρ vs ds _ R (sf.mono _ _ _ (fun r es q xs H1 p el R1 hp => ?_) q)
  have f0 := R1.pinFree hp
  refine se.run (F.mk1 p (.lst xs)) σ _ r _ _ _ (R1.pinNew hp) (se.mono _ _ _ (fun r2 d q4 v H2 R2 => ?_) q)
  obtain ⟨ns, b, e1, e2, ok, q5⟩ := q4
  subst e1 e2
  obtain rfl := R2.int
  refine ⟨by show 2 ≤ sizeLine; decide, fun p2 hp2 => ?_⟩
  obtain ⟨u1, u2, u3⟩ := R2.unpin f0.1 f0.2
  have ex : xs = ns.map V.int := ints_of (K := K) ns xs (dpAll_split el u3.drop.dpAll).1
  have n2 : p2 ≠ p := fun z => by rw [z, R2.pinAt] at hp2; cases hp2
  have h3 : (hide H2 p) p2 = none := by unfold hide; rw [if_neg n2]; exact hp2
  rw [u2, ex]
  exact G.rm _ _ _ p2 p ns b (u3.drop.dropN el) n2 h3 u1 ok q5
/-- the entry of a def that makes a source -/
theorem run_M {N : List Str} {ts : TS} {t : TDS} {Hi H : Hp} {vs : List V} {ds : List D} {Q : VK} (s : SS K ts t) (h1 : Same Hi H) (h2 : DpAll K Hi vs ds)
    (hq : ∀ a l ns b H', a ≠ l → H' a = none → H' l = none → Same H H' → DealOk ns b → Q (.ref a) (upd (upd H' l (.lst (ns.map V.int))) a (.lst [.ref l, .int b])))
    (ht : t { nx := fun _ => False, rt := fun _ _ => False, rm := fun _ => True } (rho0 ds (N.length - ds.length))) : ts { nx := fun _ H' => Q .non H', rt := Q } (L2.start N vs) H := by
  have el := dpAll_len h2
  refine s.run ⟨Hi, H, [], []⟩ (L2.start N vs) H (rho0 ds (N.length - ds.length)) [] [] { nx := fun _ H' => Q .non H', rt := Q } { nx := fun _ => False, rt := fun _ _ => False, rm := fun _ => True } ⟨fun _ _ _ _ z => z.elim, fun _ _ _ _ _ _ z => z.elim, fun _ _ _ _ z => z.elim, fun _ _ _ _ z => z.elim, fun σ' H' ρ' a l ns b R n ha hl ok _ => ?_⟩ ⟨Hi, fun _ => [], ?_⟩ ht
  · obtain ⟨Hi', own, R⟩ := R
    exact hq a l ns b H' n ha hl (fun b o e => R.keep b o e (by simp)) ok
  · refine ⟨Same.refl _, h1, fun b hb => .inl hb, fun b o e _ => e, fun b e => e, ?_, fun i x e => ?_, fun i a ha => (by cases ha), fun i a ha => (by cases ha), fun i a ha => (by cases ha), fun i j _ a ha => (by cases ha), fun i es e a ha => (by cases ha), fun z hz => (by cases hz), DpAll.nil⟩
    · unfold L2.start rho0
      rw [List.length_append, List.length_append, List.length_map, List.length_map, List.length_replicate, List.length_replicate, el]
    · unfold rho0 at e
      rcases start_sh (N := N) h2 e with z | ⟨d, v, z, e2, q⟩
      · rw [z]; trivial
      · rw [z]
        refine ⟨v, ?_, q⟩
        unfold L2.start
        rw [el, e2]
        rfl
end
/-! ### a whole def -/
section
variable {P : Program} {w : World} {K : PySem.W.Frag} {mg : Str → Option Value} {base : Heap}
theorem ok_D {x qual : Str} {st : Stmt} {f : Addr} {fd : FuncData} {N ps : List Str} {k : Nat} {g : CD} (F : Fun K x qual st f fd) (S : FnScope N ps (defScope st)) (hl : ∀ ds P, g ds P → ds.length = ps.length)
    (hbody : ∀ (cdv : Value) (A : Around) (outer : List Env) (s : Shared) (H : Hp) (E : XK), Room k (A.deeper (PyProof.Rows.envOfC qual (defScope st) s.heap.objs.size f cdv)) →
      ∃ ts t, PSs (cxOf CX0 P w K mg base N qual (defScope st) f cdv A outer s H E).nox (defBody st) ts ∧ SS K ts t ∧ ∀ ds Pd, g ds Pd → t { nx := fun _ => Pd .none, rt := fun _ d => Pd d } (rho0 ds (N.length - ds.length))) : FnOk P w K mg base CX0 (k + 1) f fd ps (spD K g) := by
  refine F.ok S (fun vs H Q E h => ?_) (fun cdv A outer s H vs Q E hr h => ?_)
  · obtain ⟨Hi, ds, _, h2, hg⟩ := h
    rw [dpAll_len h2]
    exact hl _ _ hg
  · obtain ⟨ts, t, h1, h2, h3⟩ := hbody cdv A outer s H E hr
    obtain ⟨Hi, ds, e1, e2, hg⟩ := h
    exact ⟨ts, h1, run_D h2 e1 e2 (fun d q => q) (h3 ds _ hg)⟩
theorem ok_W {x qual : Str} {st : Stmt} {f : Addr} {fd : FuncData} {N ps : List Str} {k : Nat} {g : CD} (F : Fun K x qual st f fd) (S : FnScope N ps (defScope st)) (hl : ∀ ds P, g ds P → 1 + ds.length = ps.length) (hN : ps.length ≤ N.length)
    (hbody : ∀ (cdv : Value) (A : Around) (outer : List Env) (s : Shared) (H : Hp) (E : XK), Room k (A.deeper (PyProof.Rows.envOfC qual (defScope st) s.heap.objs.size f cdv)) →
      ∃ ts t, PSs (cxOf CX0 P w K mg base N qual (defScope st) f cdv A outer s H E).nox (defBody st) ts ∧ SS K ts t ∧ ∀ a l ds Pd, g ds Pd → t { nx := fun r => r[0]? = some (.dl a l) ∧ Pd .none, rt := fun r d => r[0]? = some (.dl a l) ∧ Pd d } (.dl a l :: rho0 ds (N.length - 1 - ds.length))) : FnOk P w K mg base CX0 (k + 1) f fd ps (spW K g) := by
  refine F.ok S (fun vs H Q E h => ?_) (fun cdv A outer s H vs Q E hr h => ?_)
  · obtain ⟨Hi, a, l, vs', ds, rfl, _, _, _, _, _, h2, hg⟩ := h
    rw [List.length_cons, dpAll_len h2, ← hl _ _ hg]
    omega
  · obtain ⟨ts, t, h1, h2, h3⟩ := hbody cdv A outer s H E hr
    obtain ⟨Hi, a, l, vs', ds, rfl, n, e1, ea, el, ed, e2, hg⟩ := h
    exact ⟨ts, h1, run_W h2 n e1 ea el ed e2 (fun d q => q) (by rw [hl _ _ hg]; exact hN) (h3 a l ds _ hg)⟩
theorem ok_M {x qual : Str} {st : Stmt} {f : Addr} {fd : FuncData} {N ps : List Str} {k : Nat} {g : List D → Prop} (F : Fun K x qual st f fd) (S : FnScope N ps (defScope st)) (hl : ∀ ds, g ds → ds.length = ps.length)
    (hbody : ∀ (cdv : Value) (A : Around) (outer : List Env) (s : Shared) (H : Hp) (E : XK), Room k (A.deeper (PyProof.Rows.envOfC qual (defScope st) s.heap.objs.size f cdv)) →
      ∃ ts t, PSs (cxOf CX0 P w K mg base N qual (defScope st) f cdv A outer s H E).nox (defBody st) ts ∧ SS K ts t ∧ ∀ ds, g ds → t { nx := fun _ => False, rt := fun _ _ => False, rm := fun _ => True } (rho0 ds (N.length - ds.length))) : FnOk P w K mg base CX0 (k + 1) f fd ps (spM K g) := by
  refine F.ok S (fun vs H Q E h => ?_) (fun cdv A outer s H vs Q E hr h => ?_)
  · obtain ⟨Hi, ds, _, h2, hg, _⟩ := h
    rw [dpAll_len h2]
    exact hl _ hg
  · obtain ⟨ts, t, h1, h2, h3⟩ := hbody cdv A outer s H E hr
    obtain ⟨Hi, ds, e1, e2, hg, hq⟩ := h
    exact ⟨ts, h1, run_M h2 e1 e2 hq (h3 ds hg)⟩
end
end LD

/-! LD9: defs by name, with keywords too. -/
namespace LD
open PySem PySem.Spec L2
theorem st_yes {K : PySem.W.Frag} : ST K tYes (fun ρ P => P ρ true) := ⟨fun ρ P P' h q => h _ _ q, fun F σ H ρ vs ds Q R q => q H R⟩
theorem bools_of {K : PySem.W.Frag} {H : Hp} : ∀ (ns : List Bool) (vs : List V), DpAll K H vs (ns.map PyData.bool) → vs = ns.map V.bl
  | [], _, h => by cases h; rfl
  | n :: ns, _, h => by
    cases h with
    | cons a b =>
      cases a
      rw [bools_of ns _ b]
      rfl
def cAll : CD := fun es P => ∃ bs : List Bool, es = [.list (bs.map PyData.bool)] ∧ P (.bool (bs.all id))
def cAny : CD := fun es P => ∃ bs : List Bool, es = [.list (bs.map PyData.bool)] ∧ P (.bool (bs.any id))
def cSum : CD := fun es P => ∃ ns : List Int, es = [.list (ns.map PyData.int)] ∧ P (.int ns.sum)
theorem sc_all {K : PySem.W.Frag} : SC K (rAll K) cAll := ⟨fun a P P' h ⟨bs, e, q⟩ => ⟨bs, e, h _ q⟩, fun F σ H ρ vs ds xs es Q e R ⟨bs, h, q⟩ => by
  subst h
  obtain ⟨x, r, rfl, e1⟩ := len_cons e
  obtain rfl := len_nil e1
  obtain ⟨p, ys, rfl, e2, s, R1⟩ := Rel.asList R
  have ey := bools_of (K := K) bs ys (dpAll_split e2 R1.dpAll).1
  subst ey
  exact ⟨p, bs, rfl, s, q _ _ (Rel.push (v := .bl (bs.all id)) (Rel.drop R) rfl)⟩⟩
theorem sc_any {K : PySem.W.Frag} : SC K (rAny K) cAny := ⟨fun a P P' h ⟨bs, e, q⟩ => ⟨bs, e, h _ q⟩, fun F σ H ρ vs ds xs es Q e R ⟨bs, h, q⟩ => by
  subst h
  obtain ⟨x, r, rfl, e1⟩ := len_cons e
  obtain rfl := len_nil e1
  obtain ⟨p, ys, rfl, e2, s, R1⟩ := Rel.asList R
  have ey := bools_of (K := K) bs ys (dpAll_split e2 R1.dpAll).1
  subst ey
  exact ⟨p, bs, rfl, s, q _ _ (Rel.push (v := .bl (bs.any id)) (Rel.drop R) rfl)⟩⟩
theorem sc_sum {K : PySem.W.Frag} : SC K (rSum K) cSum := ⟨fun a P P' h ⟨bs, e, q⟩ => ⟨bs, e, h _ q⟩, fun F σ H ρ vs ds xs es Q e R ⟨bs, h, q⟩ => by
  subst h
  obtain ⟨x, r, rfl, e1⟩ := len_cons e
  obtain rfl := len_nil e1
  obtain ⟨p, ys, rfl, e2, s, R1⟩ := Rel.asList R
  have ey := ints_of (K := K) bs ys (dpAll_split e2 R1.dpAll).1
  subst ey
  exact ⟨p, bs, rfl, s, q _ _ (Rel.push (v := .int bs.sum) (Rel.drop R) rfl)⟩⟩
structure CalK (P : Program) (w : World) (K : PySem.W.Frag) (mg : Str → Option Value) (base : Heap) (k : Nat) (x : Str) (ks : List Str) (n m : Nat) (o : List Nat) (sp : Sp) : Prop where
  ex : ∃ (f : Addr) (fd : FuncData) (ps : List Str), FnOk P w K mg base CX0 k f fd ps sp ∧ mg x = some (.ref f) ∧ PySem.W.keepIn K (.ref f) = true ∧ KBinds K fd ps ks (ordP n m o) (ordP n m o)
section
variable {X : Cx} {k j n m : Nat} {o : List Nat} {ks : List Str} {sp : Sp} {x : Str} {p pos : Pos} {e : Expr} {es : List Expr} {kws : List Keyword} {t tk : TA}
theorem pe_cK0 (c : CalK X.prog X.w X.K X.mg X.base k x ks n m o sp) (hr : Room j X.A) (hk : k ≤ j) (hg : Gl X x) (hkw : PK X kws tk)
    (hall : (backToKw pos (keywordEach kws X.env)).all (·.1.isSome) = true := by rfl) (hks : (backToKw pos (keywordEach kws X.env)).filterMap (·.1) = ks := by rfl) (hdb : (x == ("__debug__" : Str)) = false := by decide)
    (hpl : ((backTo pos (starEach [] X.env)).any (·.1) || (backToKw pos (keywordEach kws X.env)).any (·.1.isNone)) = false := by rfl) : PE X (.Call (.Name x p) [] kws pos) (tCallK sp (ordP n m o) E0 tNil tk) := by
  obtain ⟨f, fd, ps, F, hm, kp, b⟩ := c.ex
  exact pe_callK0 F (hr.mono hk) hg hm kp b pass0 hkw hall hks hdb hpl
end
section
variable {P : Program} {w : World} {K : PySem.W.Frag} {mg : Str → Option Value} {base : Heap} {k : Nat} {x : Str} {f : Addr} {fd : FuncData} {ps : List Str} {sp : Sp}
theorem cal_of (F : FnOk P w K mg base CX0 k f fd ps sp) (g : mg x = some (.ref f)) (kp : PySem.W.keepIn K (.ref f) = true) (b : Binds K fd ps []) : C8.Cal P w K mg base k x sp [] := ⟨⟨f, fd, ps, [], F, g, kp, b, .nil⟩⟩
theorem calK_of {ks : List Str} {n m : Nat} {o : List Nat} (F : FnOk P w K mg base CX0 k f fd ps sp) (g : mg x = some (.ref f)) (kp : PySem.W.keepIn K (.ref f) = true) (b : KBinds K fd ps ks (ordP n m o) (ordP n m o)) : CalK P w K mg base k x ks n m o sp := ⟨⟨f, fd, ps, F, g, kp, b⟩⟩
end
end LD

/-! LD10: comprehensions told as lists; small facts for readings. -/
namespace LD
open PySem PySem.Spec L2
/-- one statement after another, by what holds between them -/
def dSeqM (t u : TDS) : TDS := fun dn ρ => ∃ J : Rho → Prop, t { dn with nx := J } ρ ∧ ∀ r, J r → u dn r
theorem ss_consM {K : PySem.W.Frag} {ts us : TS} {t u : TDS} (s : SS K ts t) (s' : SS K us u) : SS K (tSeq ts us) (dSeqM t u) := ⟨fun a b ρ h ⟨J, q, q'⟩ => ⟨J, s.mono { a with nx := J } { b with nx := J } _ ⟨fun _ z => z, h.rt, h.bk, h.ct, h.rm⟩ q, fun r z => s'.mono _ _ _ h (q' r z)⟩, fun F σ H ρ vs ds E dn G R ⟨J, q, q'⟩ =>
  s.run F σ H ρ vs ds { E with nx := us E } { dn with nx := J } ⟨fun σ H ρ R z => s'.run F σ H ρ vs ds E dn G R (q' ρ z), G.rt, G.bk, G.ct, G.rm⟩ R q⟩
theorem compW_det {f : D → Rho → (Rho → Option D → Prop) → Prop} {js : List Nat} {ρ : Rho} (h : D → Option D) : ∀ {items acc : List D} {P : KL}, (∀ d ∈ items, ∀ k : Rho → Option D → Prop, (∀ r, wipeR r js = ρ → k r (h d)) → f d ρ k) → P ρ (acc ++ items.filterMap h) → compW f js items ρ acc P
  | [], acc, P, _, q => by
    rw [List.filterMap_nil, List.append_nil] at q
    exact q
  | d :: r, acc, P, hf, q => by
    unfold compW
    refine hf d List.mem_cons_self _ fun r1 e => ?_
    cases hd : h d with
    | none =>
      rw [List.filterMap_cons_none hd] at q
      show compW f js r (wipeR r1 js) acc P
      rw [e]
      exact compW_det h (fun d hd => hf d (List.mem_cons_of_mem _ hd)) q
    | some y =>
      rw [List.filterMap_cons_some hd] at q
      show compW f js r (wipeR r1 js) (acc ++ [y]) P
      rw [e]
      refine compW_det h (fun d hd => hf d (List.mem_cons_of_mem _ hd)) ?_
      rw [List.append_assoc]
      exact q
theorem compW_any {f : D → Rho → (Rho → Option D → Prop) → Prop} {js : List Nat} {ρ : Rho} (Pr : D → Prop) : ∀ {items acc : List D} {P : KL}, (∀ d ∈ items, ∀ k : Rho → Option D → Prop, (∀ r y, wipeR r js = ρ → Pr y → k r (some y)) → f d ρ k) → (∀ y ∈ acc, Pr y) →
    (∀ ys : List D, ys.length = acc.length + items.length → (∀ y ∈ ys, Pr y) → P ρ ys) → compW f js items ρ acc P
  | [], acc, P, _, ha, q => q acc rfl ha
  | d :: r, acc, P, hf, ha, q => by
    unfold compW
    refine hf d List.mem_cons_self _ fun r1 y e hy => ?_
    show compW f js r (wipeR r1 js) (acc ++ [y]) P
    rw [e]
    refine compW_any Pr (fun d hd => hf d (List.mem_cons_of_mem _ hd)) (fun z hz => ?_) fun ys hl hy => q ys ?_ hy
    · rcases List.mem_append.mp hz with hz | hz
      · exact ha z hz
      · have : z = y := by simpa using hz
        rw [this]; exact hy
    · rw [hl, List.length_append, List.length_cons]
      show acc.length + 1 + r.length = acc.length + (r.length + 1)
      omega
theorem isi_of {K : PySem.W.Frag} {n : String} {f : String → Bool} (h : ∀ s ∈ ["NoneType", "bool", "int", "str", "list", "tuple", "dict"], kitB s n = some (f s)) : IsiD K n fun d => f (typD d) := ⟨fun d => kit_ty (h _ (by cases d <;> simp [typD]))⟩
def oInt (F : Int → Option D) : D → Option D
  | .int k => F k
  | _ => none
theorem fm_oInt (F : Int → Option D) : ∀ ns : List Int, (ns.map PyData.int).filterMap (oInt F) = ns.filterMap F
  | [] => rfl
  | x :: xs => by
    rw [List.map_cons]
    cases h : F x with
    | none => rw [List.filterMap_cons_none (show oInt F (.int x) = none from h), List.filterMap_cons_none h, fm_oInt F xs]
    | some y => rw [List.filterMap_cons_some (show oInt F (.int x) = some y from h), List.filterMap_cons_some h, fm_oInt F xs]
theorem fm_some (g : Int → Int) : ∀ ns : List Int, ns.filterMap (fun k => some (PyData.int (g k))) = (ns.map g).map PyData.int
  | [] => rfl
  | x :: xs => by
    rw [List.map_cons, List.map_cons, ← fm_some g xs]
    exact List.filterMap_cons_some (f := fun k => some (PyData.int (g k))) rfl
theorem fm_if (p : Int → Bool) : ∀ ns : List Int, ns.filterMap (fun k => if p k = true then some (PyData.int k) else none) = (ns.filter p).map PyData.int
  | [] => rfl
  | x :: xs => by
    cases h : p x with
    | true => rw [List.filter_cons_of_pos h, List.map_cons, ← fm_if p xs, List.filterMap_cons_some (b := PyData.int x) (by rw [if_pos h])]
    | false => rw [List.filter_cons_of_neg (by rw [h]; decide), ← fm_if p xs, List.filterMap_cons_none (by rw [if_neg (by rw [h]; decide)])]
theorem mem_int {ns : List Int} {d : D} (h : d ∈ ns.map PyData.int) : ∃ n, d = .int n ∧ n ∈ ns := by
  obtain ⟨n, hn, rfl⟩ := List.mem_map.mp h
  exact ⟨n, rfl, hn⟩
theorem ifT {c : Bool} {A B : Prop} (h : c = true) (x : A) : if c = true then A else B := by
  rw [if_pos h]
  exact x
theorem ifF {c : Bool} {A B : Prop} (h : c = false) (x : B) : if c = true then A else B := by
  rw [h]
  exact iteF x
theorem sh_int (i : Int) : SeqAt.shaped (.int i) = true := rfl
theorem eqv_int (i j : Int) : PyData.eqv (.int i) (.int j) = decide (i = j) := by
  simp only [PyData.eqv]
  by_cases h : i = j
  · rw [h]; simp
  · simp [h]
theorem mem_rngD {lo : Int} {n : Nat} {d : D} (h : d ∈ rngD lo n) : ∃ k : Int, d = .int k ∧ lo ≤ k ∧ k < lo + n := by
  unfold rngD at h
  obtain ⟨k, hk, rfl⟩ := List.mem_map.mp h
  have := List.mem_range.mp hk
  exact ⟨_, rfl, by omega, by omega⟩
theorem rngD_len (lo : Int) (n : Nat) : (rngD lo n).length = n := by unfold rngD; rw [List.length_map, List.length_range]
theorem rngD_at {lo : Int} {n i : Nat} {d : D} (h : (rngD lo n)[i]? = some d) : d = .int (lo + i) ∧ i < n := by
  unfold rngD at h
  rw [List.getElem?_map] at h
  have hi : i < n := by
    cases e : (List.range n)[i]? with
    | none => rw [e] at h; cases h
    | some k => have := (List.getElem?_eq_some_iff.mp e).1; rwa [List.length_range] at this
  rw [List.getElem?_range hi] at h
  cases h
  exact ⟨rfl, hi⟩
end LD

namespace K01
open PySem PySem.Spec L2 LD
def topS (i : Nat) : Stmt := PySem.Challenge.pw_listpicks_k01_fields_and_elements.main.body.getD i (.Pass ⟨0, 0, 0, 0⟩)
abbrev s_is_integer : Stmt := topS 1
abbrev N_is_integer : List Str := ["value"]
theorem sc_is_integer : FnScope N_is_integer ["value"] (defScope s_is_integer) := ⟨rfl, rfl, rfl, by decide +kernel, rfl, by decide +kernel, by decide +kernel⟩
abbrev s_is_field : Stmt := topS 4
abbrev N_is_field : List Str := ["value", "k"]
theorem sc_is_field : FnScope N_is_field ["value"] (defScope s_is_field) := ⟨rfl, rfl, rfl, by decide +kernel, rfl, by decide +kernel, by decide +kernel⟩
abbrev s_element : Stmt := topS 5
abbrev N_element : List Str := ["p", "number"]
theorem sc_element : FnScope N_element ["p", "number"] (defScope s_element) := ⟨rfl, rfl, rfl, by decide +kernel, rfl, by decide +kernel, by decide +kernel⟩
abbrev s_inverse : Stmt := topS 6
abbrev N_inverse : List Str := ["p", "one", "left", "before", "found", "found_before", "many"]
theorem sc_inverse : FnScope N_inverse ["p", "one"] (defScope s_inverse) := ⟨rfl, rfl, rfl, by decide +kernel, rfl, by decide +kernel, by decide +kernel⟩
abbrev s_law_draw : Stmt := topS 8
abbrev N_law_draw : List Str := ["script", "salt", "cells", "blend", "cell"]
theorem sc_law_draw : FnScope N_law_draw ["script", "salt"] (defScope s_law_draw) := ⟨rfl, rfl, rfl, by decide +kernel, rfl, by decide +kernel, by decide +kernel⟩
abbrev s_law_any : Stmt := topS 9
abbrev N_law_any : List Str := ["deal", "bound", "rest"]
theorem sc_law_any : FnScope N_law_any ["deal", "bound"] (defScope s_law_any) := ⟨rfl, rfl, rfl, by decide +kernel, rfl, by decide +kernel, by decide +kernel⟩
abbrev s_law_of : Stmt := topS 10
abbrev N_law_of : List Str := ["deal", "some"]
theorem sc_law_of : FnScope N_law_of ["deal", "some"] (defScope s_law_of) := ⟨rfl, rfl, rfl, by decide +kernel, rfl, by decide +kernel, by decide +kernel⟩
abbrev s_law : Stmt := topS 12
abbrev N_law : List Str := ["script", "deal", "value", "p", "turn", "one", "prime", "number", "due", "found"]
theorem sc_law : FnScope N_law ["script"] (defScope s_law) := ⟨rfl, rfl, rfl, by decide +kernel, rfl, by decide +kernel, by decide +kernel⟩

/-! ### what each def is worth -/
def isIntD : D → Bool
  | .int _ => true
  | _ => false
def isIntB (d : D) : Bool := typD d == "int" || typD d == "bool"
def isBoolD (d : D) : Bool := typD d == "bool"
def cs1 (ds : List D) (f : D → (D → Prop) → Prop) (P : D → Prop) : Prop := ∃ d, ds = [d] ∧ f d P
def g_is_integer : CD := fun ds P => ∃ d, ds = [d] ∧ P (.bool (isIntD d))
theorem g_is_integer_mono : ∀ es P P', (∀ d, P d → P' d) → g_is_integer es P → g_is_integer es P' := fun es P P' h ⟨d, e, q⟩ => ⟨d, e, h _ q⟩
def notD (F : Int → Bool) : D → Bool
  | .int k => !F k
  | _ => true
def fieldI (i : Int) : Bool := decide (i ≤ 101) && (decide (i = 0) || (decide (1 < i) && ((rngD 2 (i - 2).toNat).all (notD fun k => decide (i % k = 0)))))
def fieldD : D → Bool
  | .int i => fieldI i
  | _ => false
def g_is_field : CD := fun ds P => ∃ d, ds = [d] ∧ SeqAt.shaped d = true ∧ P (.bool (fieldD d))
theorem g_is_field_mono : ∀ es P P', (∀ d, P d → P' d) → g_is_field es P → g_is_field es P' := fun es P P' h ⟨d, e, s, q⟩ => ⟨d, e, s, h _ q⟩
def g_element : CD := fun ds P => ∃ p i : Int, ds = [.int p, .int i] ∧ 0 ≤ p ∧ P (.int (if p = 0 then i else i % p))
theorem g_element_mono : ∀ es P P', (∀ d, P d → P' d) → g_element es P → g_element es P' := fun es P P' h ⟨p, i, e, s, q⟩ => ⟨p, i, e, s, h _ q⟩
def primes : List Int := [2, 3, 5, 7, 11, 13, 31, 97, 101]
def g_inverse : CD := fun ds P => ∃ p o : Int, ds = [.int p, .int o] ∧ p ∈ primes ∧ 1 ≤ o ∧ o < p ∧ ∀ x : Int, 0 < x → x < p → (x * o) % p = 1 → P (.int x)
theorem g_inverse_mono : ∀ es P P', (∀ d, P d → P' d) → g_inverse es P → g_inverse es P' := fun es P P' h ⟨p, o, e, h1, h2, h3, q⟩ => ⟨p, o, e, h1, h2, h3, fun x a b c => h _ (q x a b c)⟩
def g_any : CD := fun ds P => ∃ m : Int, ds = [.int m] ∧ 0 < m ∧ m.natAbs.log2 < 9000 ∧ ∀ x, 0 ≤ x → x < m → P (.int x)
theorem g_any_mono : ∀ es P P', (∀ d, P d → P' d) → g_any es P → g_any es P' := fun es P P' h ⟨m, e, h1, h2, q⟩ => ⟨m, e, h1, h2, fun x a b => h _ (q x a b)⟩
def g_of : CD := fun ds P => ∃ es : List D, ds = [.list es] ∧ es ≠ [] ∧ es.length ≤ 1000000 ∧ ∀ d ∈ es, P d
theorem g_of_mono : ∀ es P P', (∀ d, P d → P' d) → g_of es P → g_of es P' := fun es P P' h ⟨m, e, h1, h2, q⟩ => ⟨m, e, h1, h2, fun x a => h _ (q x a)⟩
def g_draw : List D → Prop := fun ds => ∃ (ns : List Int) (s : Int), ds = [.list (ns.map PyData.int), .int s] ∧ ns.length ≤ 63 ∧ 0 ≤ s ∧ s < 1000
def g_law : CD := fun ds P => ∃ ns : List Int, ds = [.list (ns.map PyData.int)] ∧ ns.length ≤ 63 ∧ P (.bool true)
/-- what stands ready: the built-in names, the module's number -/
structure Tx (K : PySem.W.Frag) (mg : Str → Option Value) : Prop where
  b_isinstance : mg "isinstance" = none
  b_int : mg "int" = none
  b_bool : mg "bool" = none
  b_all : mg "all" = none
  b_range : mg "range" = none
  b_abs : mg "abs" = none
  b_len : mg "len" = none
  b_repr : mg "repr" = none
  c_GREATEST_FIELD : ∃ u, mg "GREATEST_FIELD" = some u ∧ RelV (.int 101) u
section
variable {P : Program} {w : World} {K : PySem.W.Frag} {mg : Str → Option Value} {base : Heap}
theorem i_int : IsiD K "int" isIntB := isi_of (f := fun s => s == "int" || s == "bool") (by decide +kernel)
theorem i_bool : IsiD K "bool" isBoolD := isi_of (f := fun s => s == "bool") (by decide +kernel)
structure T1 (K : PySem.W.Frag) (mg : Str → Option Value) : Prop extends Tx K mg where
  i_int : IsiD K "int" isIntB
  i_bool : IsiD K "bool" isBoolD
theorem ok_is_integer {f : Addr} {fd : FuncData} (F : Fun K "is_integer" "is_integer" s_is_integer f fd) (T : T1 K mg) : FnOk P w K mg base CX0 1 f fd ["value"] (spD K g_is_integer) := by
  refine ok_D F sc_is_integer (fun ds P ⟨d, e, _⟩ => by rw [e]; rfl) (fun cdv A outer s H E hr => ⟨_, _, (pss_one (ps_ret (pe_and (pe_callB call_isi (by rfl) T.b_isinstance (by decide +kernel) (pa_cons (pv 0) (pa_cons (pe_bltn (v := .ty "int") (u := .type "int") (by rfl) T.b_int (by decide +kernel) rfl) pa_nil))) (pe_one (pe_not (pe_callB call_isi (by rfl) T.b_isinstance (by decide +kernel) (pa_cons (pv 0) (pa_cons (pe_bltn (v := .ty "bool") (u := .type "bool") (by rfl) T.b_bool (by decide +kernel) rfl) pa_nil)))))))), (ss_ret (se_andV (se_isi (T.i_int) (se_var 0)) (se_notV (se_isi (T.i_bool) (se_var 0))))), fun ds Pd h => ?_⟩)
  obtain ⟨d, rfl, q⟩ := h
  refine ⟨d, rfl, isIntB d, rfl, ?_⟩
  cases d with
  | bool b =>
    rw [if_pos (show isIntB (.bool b) = true by rfl)]
    refine ⟨_, rfl, _, rfl, ?_⟩
    rw [show isBoolD (.bool b) = true by rfl]
    exact q
  | int i =>
    rw [if_pos (show isIntB (.int i) = true by rfl)]
    refine ⟨_, rfl, _, rfl, ?_⟩
    rw [show isBoolD (.int i) = false by rfl]
    exact q
  | none => exact q
  | str x => exact q
  | list x => exact q
  | tuple x => exact q
  | dict x => exact q
theorem ok_element {f : Addr} {fd : FuncData} (F : Fun K "element" "element" s_element f fd) (T : T1 K mg) : FnOk P w K mg base CX0 1 f fd ["p", "number"] (spD K g_element) := by
  refine ok_D F sc_element (fun ds P ⟨p, i, e, _⟩ => by rw [e]; rfl) (fun cdv A outer s H E hr => ⟨_, _, (pss_cons (ps_if (pt_cmpR (op_eqD hr.units) (pv 0) pe_int (nomark _)) (pss_one (ps_ret (pv 1))) pss_nil)
      (pss_one (ps_ret (pe_op op_mod (pv 1) (pv 0))))), (ss_cons (ss_if (st_test (se_op so_eqD (se_var 0) se_c)) (ss_ret (se_var 1)) ss_nil)
      (ss_ret (se_op so_rI (se_var 1) (se_var 0)))), fun ds Pd h => ?_⟩)
  obtain ⟨p, i, rfl, hp, q⟩ := h
  refine ⟨_, rfl, rfl, rfl, _, rfl, ?_⟩
  show if PyData.eqv (.int p) (.int 0) = true then _ else _
  rw [eqv_int]
  by_cases h0 : p = 0
  · rw [if_pos h0] at q
    rw [if_pos (decide_eq_true h0)]
    exact ⟨_, rfl, q⟩
  · rw [if_neg h0] at q
    rw [if_neg (by rw [decide_eq_false h0]; decide)]
    exact ⟨_, rfl, _, rfl, _, _, rfl, rfl, by omega, q⟩
structure T2 (P : Program) (w : World) (K : PySem.W.Frag) (mg : Str → Option Value) (base : Heap) : Prop extends T1 K mg where
  d_is_integer : C8.Cal P w K mg base 1 "is_integer" (spD K g_is_integer) []
  d_law_any : C8.Cal P w K mg base 1 "_law_any" (spW K g_any) []
theorem fm_map {α β γ : Type} {g : α → β} {h : β → Option γ} {k : α → γ} (hk : ∀ x, h (g x) = some (k x)) : ∀ xs : List α, (xs.map g).filterMap h = xs.map k
  | [] => rfl
  | x :: xs => by rw [List.map_cons, List.filterMap_cons_some (hk x), fm_map hk xs, List.map_cons]
theorem rng_bools {lo : Int} {n : Nat} {F : Int → Bool} : (rngD lo n).filterMap (fun d => match d with | .int k => some (PyData.bool (F k)) | _ => none) = ((rngD lo n).map fun d => match d with | .int k => F k | _ => true).map PyData.bool := by
  unfold rngD
  refine (fm_map (g := fun k : Nat => PyData.int (lo + (k : Int))) (k := fun x : Nat => PyData.bool (F (lo + x))) (fun x => rfl) _).trans ?_
  rw [List.map_map, List.map_map]
  rfl
theorem rng_all {lo : Int} {n : Nat} {F : Int → Bool} : ((rngD lo n).map fun d => match d with | .int k => F k | _ => true).all id = (rngD lo n).all fun d => match d with | .int k => F k | _ => true := by
  rw [List.all_map]
  rfl
theorem ok_is_field {f : Addr} {fd : FuncData} (F : Fun K "is_field" "is_field" s_is_field f fd) (T : T2 P w K mg base) : FnOk P w K mg base CX0 2 f fd ["value"] (spD K g_is_field) := by
  refine ok_D F sc_is_field (fun ds P ⟨d, e, _⟩ => by rw [e]; rfl) (fun cdv A outer s H E hr => ⟨_, _, (pss_cons (ps_if (PW.pt (pw_or (pt_not (pt_val (C8.pe_c T.d_is_integer hr (by decide) (by rfl) (pa_cons (pv 0) pa_nil)))) (pw_or1 (pt_cmpR op_gt (pv 0) (C8.pe_gc (v := .int 101) (by rfl) T.c_GREATEST_FIELD) (nomark _))))) (pss_one (ps_ret pe_bl)) pss_nil)
      (pss_one (ps_ret (pe_or (pe_cmpR (op_eqD hr.units) (pv 0) pe_int (nomark _)) (pe_one (pe_and (pe_cmpR op_gt (pv 0) pe_int (nomark _)) (pe_one (pe_callB (cr_all rfl) (by rfl) T.b_all (by decide +kernel) (pa_cons (pe_lc (own := [("k", 1)]) (g := (gName 1)) (tt := tYes) rfl sc_is_field.nd (pi_range2 (by rfl) T.b_range (pa_cons pe_int (pa_cons (pv 0) pa_nil))) (blkOk_by (N := N_is_field) (sc := defScope s_is_field) (own := [("k", 1)]) (by decide +kernel)) (fun _ _ _ _ _ => (pg_name (i := 1) sc_is_field.nd rfl (by first | exact Or.inl rfl | exact Or.inr rfl))) (fun _ _ _ _ _ => pts_nil) (fun _ _ _ _ _ => (pe_cmpR (op_neD hr.units) (pe_op op_mod (pv 0) (pv 1)) pe_int (nomark _)))) pa_nil))))))))), (ss_cons (ss_if (st_or (st_not (st_b (se_call g_is_integer_mono (sa_cons (se_var 0) sa_nil)))) (st_test (se_op so_rI0 (se_var 0) (se_c (v := .int 101))))) (ss_ret se_c) ss_nil)
      (ss_ret (se_orV (se_op so_eqD (se_var 0) se_c) (se_andV (se_op so_rI0 (se_var 0) se_c) (se_cb sc_all (sa_cons (se_sh (sf_lc (js := [1]) (si_rng2 (sa_cons se_c (sa_cons (se_var 0) sa_nil))) (sg_name 1) st_yes (se_op so_neD (se_op so_rI (se_var 0) (se_var 1)) se_c))) sa_nil)))))), fun ds Pd h => ?_⟩)
  obtain ⟨d, rfl, hs, q⟩ := h
  refine ⟨_, rfl, d, rfl, _, rfl, ?_⟩
  cases d with
  | int i =>
    refine ⟨_, rfl, _, _, rfl, rfl, _, rfl, ?_⟩
    by_cases h101 : 101 < i
    · refine ifT (decide_eq_true h101) ?_
      have e : fieldD (.int i) = false := by
        show fieldI i = false
        unfold fieldI
        rw [decide_eq_false (show ¬ i ≤ 101 by omega)]
        rfl
      rw [e] at q
      exact q
    · refine ifF (decide_eq_false h101) ?_
      refine ⟨_, rfl, rfl, rfl, _, rfl, ?_⟩
      by_cases h0 : i = 0
      · refine ifT ((eqv_int _ _).trans (decide_eq_true h0)) ?_
        subst h0
        exact q
      · refine ifF ((eqv_int _ _).trans (decide_eq_false h0)) ?_
        refine ⟨_, rfl, _, _, rfl, rfl, _, rfl, ?_⟩
        by_cases h1 : 1 < i
        · refine ifT (decide_eq_true h1) ?_
          refine ⟨_, rfl, 2, i, rfl, by omega, ?_⟩
          refine ⟨by rw [rngD_len, sizeLine_eq]; omega, fun j hj => by
            obtain rfl : j = 1 := by simpa using hj
            rfl, ?_⟩
          refine compW_det (fun d => match d with | .int k => some (PyData.bool (!decide (i % k = 0))) | _ => none) (fun d hd k hk => ?_) ?_
          · obtain ⟨z, rfl, z1, _⟩ := mem_rngD hd
            refine ⟨(by show 1 < 2; decide), _, rfl, _, rfl, i, z, rfl, rfl, by show (0 : Int) < z; omega, rfl, rfl, ?_⟩
            have hz : k ((rho0 [PyData.int i] (N_is_field.length - [PyData.int i].length)).set 1 (.sh (.int z))) (some (.bool (!decide (i % z = 0)))) := hk _ rfl
            rw [← eqv_int] at hz
            exact hz
          · rw [List.nil_append, rng_bools]
            refine ⟨_, rfl, ?_⟩
            rw [rng_all]
            have e : fieldD (.int i) = ((rngD 2 (i - 2).toNat).all fun d => match d with | .int k => !decide (i % k = 0) | _ => true) := by
              show fieldI i = _
              unfold fieldI
              rw [decide_eq_true (show i ≤ 101 by omega), decide_eq_false h0, decide_eq_true h1]
              rfl
            rw [e] at q
            exact q
        · refine ifF (decide_eq_false h1) ?_
          have e : fieldD (.int i) = false := by
            show fieldI i = false
            unfold fieldI
            rw [decide_eq_true (show i ≤ 101 by omega), decide_eq_false h0, decide_eq_false h1]
            rfl
          rw [e] at q
          exact q
  | none => exact q
  | bool b => exact q
  | str x => exact q
  | list x => exact q
  | tuple x => exact q
  | dict x => exact q
theorem ok_law_of {f : Addr} {fd : FuncData} (F : Fun K "_law_of" "_law_of" s_law_of f fd) (T : T2 P w K mg base) : FnOk P w K mg base CX0 2 f fd ["deal", "some"] (spW K g_of) := by
  refine ok_W F sc_law_of (fun ds P ⟨es, e, _⟩ => by rw [e]; rfl) (by decide) (fun cdv A outer s H E hr => ⟨_, _, (pss_one (ps_ret (pe_ix ix_list (pv 1) (C8.pe_c T.d_law_any hr (by decide) (by rfl) (pa_cons (pv 0) (pa_cons (pe_callB call_len_seq (by rfl) T.b_len (by decide +kernel) (pa_cons (pv 1) pa_nil)) pa_nil))) (fun _ _ => rfl)))), (ss_ret (se_op so_ixL (se_var 1) (se_callW (i := 0) g_any_mono (sa_cons (se_cb sc_len (sa_cons (se_var 1) sa_nil)) sa_nil)))), fun a l ds Pd h => ?_⟩)
  obtain ⟨es, rfl, hne, hl, q⟩ := h
  have pos : 0 < es.length := List.length_pos_iff.mpr hne
  refine ⟨_, rfl, ⟨a, l, rfl⟩, _, rfl, es, .inl rfl, ⟨a, l, rfl⟩, es.length, rfl, by omega, ?_, fun x x0 x1 => ?_⟩
  · have : (es.length : Int).natAbs < 2 ^ 20 := by omega
    exact Nat.lt_trans (PySem.Flt.log2_lt_of (by decide) this) (by decide)
  · have hx : x.toNat < es.length := by omega
    refine ⟨es, x, es[x.toNat], rfl, rfl, ?_, rfl, q _ (List.getElem_mem hx)⟩
    have e := atI_nat (xs := es) (j := x.toNat) (List.getElem?_eq_getElem hx)
    rw [Int.toNat_of_nonneg x0] at e
    exact e
theorem cut48 (ns : List Int) : ∃ ms : List Int, cutD (ns.map PyData.int) none (some 48) = ms.map PyData.int ∧ ms.length ≤ 48 := by
  refine ⟨ns.take 48, ?_, List.length_take_le ..⟩
  unfold cutD
  rw [HT.sIx_none, List.drop_zero, Nat.sub_zero, List.length_map, List.map_take]
  rw [show HT.sIx ns.length ns.length (some 48) = min 48 ns.length from HT.sIx_nat ns.length ns.length 48]
  by_cases h : 48 ≤ ns.length
  · rw [Nat.min_eq_left h]
  · rw [Nat.min_eq_right (by omega), List.take_of_length_le (by rw [List.length_map]; omega), List.take_of_length_le (by rw [List.length_map]; omega)]
theorem ok_law_draw {f : Addr} {fd : FuncData} (F : Fun K "_law_draw" "_law_draw" s_law_draw f fd) (T : T2 P w K mg base) : FnOk P w K mg base CX0 1 f fd ["script", "salt"] (spM K g_draw) := by
  refine ok_M F sc_law_draw (fun ds ⟨ns, s, e, _⟩ => by rw [e]; rfl) (fun cdv A outer s H E hr => ⟨_, _, (pss_cons (ps_setLc (i := 2) (own := [("cell", 4)]) (g := (gName 4)) (tt := tYes) rfl sc_law_draw.nd rfl rfl (sw_true rfl rfl rfl (by decide +kernel)) (pi_list (pe_slice sl_list (pv 0) po_none (po_some pe_int))) (blkOk_by (N := N_law_draw) (sc := defScope s_law_draw) (own := [("cell", 4)]) (by decide +kernel)) (fun _ _ _ _ _ => (pg_name (i := 4) sc_law_draw.nd rfl (by first | exact Or.inl rfl | exact Or.inr rfl))) (fun _ _ _ _ _ => pts_nil) (fun _ _ _ _ _ => (pe_callB call_abs (by rfl) T.b_abs (by decide +kernel) (pa_cons (pe_callTy call_int1 (by rfl) T.b_int (by decide +kernel) (pa_cons (pv 4) pa_nil)) pa_nil))))
      (pss_cons (ps_set (i := 3) sc_law_draw.nd rfl (by first | exact Or.inl rfl | exact Or.inr rfl) (pe_op op_add pe_int (pe_op op_mulW pe_int (pv 1))))
      (pss_cons (ps_for PassesOwn.never rfl (pi_list (pv 2)) (pg_name (i := 4) sc_law_draw.nd rfl (by first | exact Or.inl rfl | exact Or.inr rfl)) (pss_one (ps_set (i := 3) sc_law_draw.nd rfl (by first | exact Or.inl rfl | exact Or.inr rfl) (pe_op op_mod (pe_callTy call_int1 (by rfl) T.b_int (by decide +kernel) (pa_cons (pe_op op_add (pe_op op_add (pe_op op_mulW (pv 3) pe_int) (pe_op op_mod (pv 4) pe_int)) pe_int) pa_nil)) pe_int))))
      (pss_one (ps_ret (pe_lst (pa_cons (pe_revL (pe_lc (own := [("cell", 4)]) (g := (gName 4)) (tt := _) rfl sc_law_draw.nd (pi_list (pv 2)) (blkOk_by (N := N_law_draw) (sc := defScope s_law_draw) (own := [("cell", 4)]) (by decide +kernel)) (fun _ _ _ _ _ => (pg_name (i := 4) sc_law_draw.nd rfl (by first | exact Or.inl rfl | exact Or.inr rfl))) (fun _ _ _ _ _ => (pts_one (pt_cmpR op_ge (pv 4) (pe_op op_pow pe_int pe_int) (nomark _)))) (fun _ _ _ _ _ => (pv 4)))) (pa_cons (pv 3) pa_nil)))))))), (ss_cons (ss_fgt [4] (ss_asg (se_sh (sf_lc (js := [4]) (si_list (se_sh (sf_slL (se_var 0) sop_none (sop_some se_c)))) (sg_name 4) st_yes (se_cb sc_abs (sa_cons (se_cb sc_int (sa_cons (se_var 4) sa_nil)) sa_nil)))) (sg_name 2)))
      (ss_cons (ss_asg (se_op so_rI0 se_c (se_op so_rI se_c (se_var 1))) (sg_name 3))
      (ss_cons (ss_for (si_list (se_var 2)) (sg_name 4) (ss_asg (se_op so_rI (se_cb sc_int (sa_cons (se_op so_rI0 (se_op so_rI0 (se_op so_rI (se_var 3) se_c) (se_op so_rI (se_var 4) se_c)) se_c) sa_nil)) se_c) (sg_name 3)))
      (ss_fgt [4] (ss_retM (sf_revL (se_sh (sf_lc (js := [4]) (si_list (se_var 2)) (sg_name 4) (st_test (se_op so_rI0 (se_var 4) (se_op so_rI se_c se_c))) (se_var 4)))) (se_var 3)))))), fun ds h => ?_⟩)
  obtain ⟨ns, s, rfl, hl, s0, s1⟩ := h
  obtain ⟨ms, em, hm⟩ := cut48 ns
  have hms : ∀ k ∈ ms.map (fun k : Int => if k < 0 then -k else k), 0 ≤ k := fun k hk => by
    obtain ⟨z, _, rfl⟩ := List.mem_map.mp hk
    show 0 ≤ if z < 0 then -z else z
    split <;> omega
  refine ⟨_, rfl, _, rfl, _, rfl, _, congrArg PyData.list em, ?_⟩
  refine ⟨by rw [List.length_map, sizeLine_eq]; omega, fun j hj => by
    obtain rfl : j = 4 := by simpa using hj
    rfl, ?_⟩
  refine compW_det (oInt fun k => some (PyData.int (if k < 0 then -k else k))) (fun d hd k hk => ?_) ?_
  · obtain ⟨z, rfl, _⟩ := mem_int hd
    refine ⟨(by show 4 < 5; decide), _, rfl, z, rfl, z, rfl, ?_⟩
    exact hk _ rfl
  rw [List.nil_append, fm_oInt, fm_some]
  refine ⟨(by show 2 < 5; decide), ?_⟩
  -- blend = 7919 + 104729 * salt
  refine ⟨_, rfl, _, _, rfl, rfl, ?_, _, _, rfl, rfl, (by show 3 < 5; decide), ?_⟩
  · show CMulW _ _
    exact wide_mul (a := 20) (b := 20) (by omega) (by omega) (by decide) (by decide) (by decide)
  -- for cell in cells
  refine ⟨_, rfl, _, rfl, fun i r => ∃ (b : Int) (x : DV), r = [.sh (.list (ns.map PyData.int)), .sh (.int s), .sh (.list ((ms.map fun k => if k < 0 then -k else k).map PyData.int)), .sh (.int b), x] ∧ 0 ≤ b ∧ b < 2147483647, ⟨_, _, rfl, by show (0 : Int) ≤ 7919 + 104729 * s; omega, by show 7919 + 104729 * s < (2147483647 : Int); omega⟩, fun i d r hd hI => ?_, fun r hI => ?_⟩
  · obtain ⟨b, x, rfl, b0, b2⟩ := hI
    obtain ⟨z, rfl, _⟩ := mem_int (List.mem_of_getElem? hd)
    refine ⟨(by show 4 < 5; decide), _, rfl, _, _, rfl, rfl, ?_, _, rfl, _, _, rfl, rfl, (by show (0 : Int) < 2147483549; decide), _, _, rfl, rfl, _, _, rfl, rfl, _, rfl, _, _, rfl, rfl, (by show (0 : Int) < 2147483647; decide), (by show 3 < 5; decide), ?_⟩
    · show CMulW b 48271
      have hb : b.natAbs < 2 ^ 40 := by omega
      exact wide_mul (a := 40) (b := 20) hb (by decide) (by decide) (by decide) (by decide)
    · exact ⟨_, _, rfl, Int.emod_nonneg _ (by decide), Int.emod_lt_of_pos _ (by decide)⟩
  · obtain ⟨b, x, rfl, b0, b2⟩ := hI
    refine ⟨_, rfl, _, rfl, ?_⟩
    generalize hcs : ms.map (fun k : Int => if k < 0 then -k else k) = cs at *
    have hcl : cs.length ≤ 48 := by rw [← hcs, List.length_map]; exact hm
    refine ⟨by rw [List.length_map, sizeLine_eq]; omega, fun j hj => by
      obtain rfl : j = 4 := by simpa using hj
      rfl, ?_⟩
    refine compW_det (oInt fun k => if decide ((10 : Int) ^ 18 ≤ k) = true then some (PyData.int k) else none) (fun d hd k hk => ?_) ?_
    · obtain ⟨z, rfl, _⟩ := mem_int hd
      refine ⟨(by show 4 < 5; decide), _, rfl, _, _, rfl, rfl, ⟨by decide, by decide, by decide⟩, _, _, rfl, rfl, _, rfl, ?_⟩
      by_cases h : (10 : Int) ^ 18 ≤ z
      · refine ifT (decide_eq_true h) ⟨_, rfl, ?_⟩
        have := hk ([.sh (.list (ns.map PyData.int)), .sh (.int s), .sh (.list (cs.map PyData.int)), .sh (.int b), .sh (.int z)]) rfl
        rw [show oInt (fun k => if decide ((10 : Int) ^ 18 ≤ k) = true then some (PyData.int k) else none) (.int z) = some (.int z) from if_pos (decide_eq_true h)] at this
        exact this
      · refine ifF (decide_eq_false h) ?_
        have := hk ([.sh (.list (ns.map PyData.int)), .sh (.int s), .sh (.list (cs.map PyData.int)), .sh (.int b), .sh (.int z)]) rfl
        rw [show oInt (fun k => if decide ((10 : Int) ^ 18 ≤ k) = true then some (PyData.int k) else none) (.int z) = none from if_neg (by rw [decide_eq_false h]; decide)] at this
        exact this
    · rw [List.nil_append, fm_oInt, fm_if]
      refine ⟨_, rfl, _, rfl, (cs.filter fun k => decide ((10 : Int) ^ 18 ≤ k)).reverse, b, by rw [List.map_reverse], rfl, ⟨fun n hn => ?_, ?_, b0, b2⟩, trivial⟩
      · exact hms n (List.mem_filter.mp (List.mem_reverse.mp hn)).1
      · rw [List.length_reverse]
        exact Nat.le_trans (List.length_filter_le ..) hcl
/-! ### the source of draws, on the heap -/
structure DX (H H' : Hp) (a l : Addr) (ns : List Int) (b : Int) : Prop where
  keep : ∀ c o, H c = some o → c ≠ a → c ≠ l → H' c = some o
  dom : ∀ c, H c ≠ none → H' c ≠ none
  nal : a ≠ l
  at_a : H' a = some (.lst [.ref l, .int b])
  at_l : H' l = some (.lst (ns.map V.int))
theorem DX.new {H H' : Hp} {a l p : Addr} {o : HO} {ns : List Int} {b : Int} (d : DX H H' a l ns b) (hp : H' p = none) : DX H (upd H' p o) a l ns b :=
  ⟨fun c x e n1 n2 => same_upd hp c x (d.keep c x e n1 n2), fun c e => by
    cases q : H' c with
    | none => exact absurd q (d.dom c e)
    | some x => rw [same_upd hp c x q]; simp, d.nal, same_upd hp _ _ d.at_a, same_upd hp _ _ d.at_l⟩
theorem DX.setL {H H' : Hp} {a l : Addr} {ns ms : List Int} {b : Int} (d : DX H H' a l ns b) : DX H (upd H' l (.lst (ms.map V.int))) a l ms b :=
  ⟨fun c x e n1 n2 => by rw [upd_ne n2]; exact d.keep c x e n1 n2, fun c e => by
    by_cases hc : c = l
    · rw [hc, upd_same]; simp
    · rw [upd_ne hc]; exact d.dom c e, d.nal, by rw [upd_ne d.nal]; exact d.at_a, upd_same⟩
theorem DX.setA {H H' : Hp} {a l : Addr} {ns : List Int} {b c : Int} (d : DX H H' a l ns b) : DX H (upd H' a (.lst [.ref l, .int c])) a l ns c :=
  ⟨fun c x e n1 n2 => by rw [upd_ne n1]; exact d.keep c x e n1 n2, fun c e => by
    by_cases hc : c = a
    · rw [hc, upd_same]; simp
    · rw [upd_ne hc]; exact d.dom c e, d.nal, upd_same, by rw [upd_ne (Ne.symm d.nal)]; exact d.at_l⟩
theorem canLay_ints : ∀ ns : List Int, PyData.canLayAll0 (ns.map PyData.int) = true
  | [] => rfl
  | n :: ns => by
    rw [List.map_cons]
    simp only [PyData.canLayAll0, PyData.canLay0, canLay_ints ns, Bool.and_self]
theorem depth_ints : ∀ ns : List Int, PyData.depthAll (ns.map PyData.int) = 0
  | [] => rfl
  | n :: ns => by
    rw [List.map_cons]
    simp only [PyData.depthAll, PyData.depth, depth_ints ns, Nat.max_self]
theorem sh_ints (ns : List Int) : SeqAt.shaped (.list (ns.map PyData.int)) = true := by
  unfold SeqAt.shaped
  simp only [PyData.canLay0, PyData.depth, canLay_ints, depth_ints]
  rfl
theorem eqv_nil (ns : List Int) : PyData.eqv (.list (ns.map PyData.int)) (.list []) = ns.isEmpty := by
  cases ns with
  | nil => simp [PyData.eqv, PyData.eqvAll]
  | cons x xs => simp [PyData.eqv, PyData.eqvAll]
theorem snoc_or (ns : List Int) : ns = [] ∨ ∃ ms z, ns = ms ++ [z] := by
  cases ns with
  | nil => exact .inl rfl
  | cons x xs => exact .inr ⟨(x :: xs).dropLast, (x :: xs).getLast (List.cons_ne_nil _ _), (List.dropLast_concat_getLast _).symm⟩
theorem ok_law_any {f : Addr} {fd : FuncData} (F : Fun K "_law_any" "_law_any" s_law_any f fd) (T : T1 K mg) : FnOk P w K mg base CX0 1 f fd ["deal", "bound"] (spW K g_any) := by
  refine F.ok sc_law_any (fun vs H Q E h => ?_) (fun cdv A outer s H vs Q E hr h => ?_)
  · obtain ⟨Hi, a, l, vs', ds, rfl, _, _, _, _, _, h2, m, e, _⟩ := h
    subst e
    rw [List.length_cons, dpAll_len h2]
    rfl
  · obtain ⟨Hi, a, l, vs', ds, rfl, nal, hs, ha, hl, ⟨ns, b, ok, ea, el⟩, hv, m, e, m0, m1, q⟩ := h
    subst e
    have ev : vs' = [.int m] := ints_of (K := K) [m] vs' hv
    subst ev
    have ps : Int → Prop := fun _ => True
    refine ⟨_, pss_cons (ps_while PassesOwn.never (PW.pt (pw_and (pt_cmpR (op_neD hr.units) (pe_ix ix_list (pv 0) pe_int (fun _ _ => rfl)) (pe_lst pa_nil) (nomark _)) (pw_and1 (pt_cmpR (op_eqD hr.units) (pe_ix ix_list (pe_ix ix_list (pv 0) pe_int (fun _ _ => rfl)) (pe_un un_neg pe_int) (fun _ _ => rfl)) pe_int (nomark _)))))
        (pss_one (ps_expr (pe_bm0 PySem.F.plainAttrs_list PySem.F.slot_list_pop PySem.F.type_list_pop mt_pop (pe_ix ix_list (pv 0) pe_int (fun _ _ => rfl))))))
      (pss_cons (ps_if (pt_cmpR (op_neD hr.units) (pe_ix ix_list (pv 0) pe_int (fun _ _ => rfl)) (pe_lst pa_nil) (nomark _))
        (pss_cons (ps_set (i := 2) sc_law_any.nd rfl (by first | exact Or.inl rfl | exact Or.inr rfl) (pe_callTy call_int1 (by rfl) T.b_int (by decide +kernel) (pa_cons (pe_bm0 PySem.F.plainAttrs_list PySem.F.slot_list_pop PySem.F.type_list_pop mt_pop (pe_ix ix_list (pv 0) pe_int (fun _ _ => rfl))) pa_nil)))
        (pss_cons (ps_expr (pe_bm PySem.F.plainAttrs_list PySem.F.slot_list_append PySem.F.type_list_append mt_append (pe_ix ix_list (pv 0) pe_int (fun _ _ => rfl)) (pa_cons (pe_op op_fdivW (pv 2) (pv 1)) pa_nil)))
        (pss_one (ps_ret (pe_op op_mod (pv 2) (pv 1)))))) pss_nil)
      (pss_cons (ps_asg (pe_op op_mod (pe_callTy call_int1 (by rfl) T.b_int (by decide +kernel) (pa_cons (pe_op op_add (pe_op op_mulW (pe_ix ix_list (pv 0) pe_int (fun _ _ => rfl)) pe_int) pe_int) pa_nil)) pe_int) (pg_sub (pv 0) pe_int set_list))
      (pss_one (ps_ret (pe_op op_mod (pe_callTy call_int1 (by rfl) T.b_int (by decide +kernel) (pa_cons (pe_op op_fdivW (pe_ix ix_list (pv 0) pe_int (fun _ _ => rfl)) pe_int) pa_nil)) (pv 1)))))), ?_⟩
    -- what is wanted at a return
    have fin : ∀ (x : Int) (H' : Hp) (ns' : List Int) (b' : Int), 0 ≤ x → x < m → DX H H' a l ns' b' → DealOk ns' b' → Q (.int x) H' := fun x H' ns' b' x0 x1 d k =>
      q x x0 x1 (.int x) H' Hi (Same.refl _) (fun c o e => d.keep c o (hs c o e) (fun z => by rw [z, ha] at e; cases e) (fun z => by rw [z, hl] at e; cases e)) d.keep d.dom (fun c hc => .inl hc) ⟨ns', b', k, d.at_a, d.at_l⟩ (.int x)
    have at0 : ∀ {H' : Hp} {ns' : List Int} {b' : Int}, atI [V.ref l, .int b'] 0 = some (.ref l) := rfl
    have dpl : ∀ {H' : Hp} {ns' : List Int} {b' : Int}, DX H H' a l ns' b' → Dp K H' (.ref l) (.list (ns'.map PyData.int)) := fun d => .lst (.inl (.inl d.at_l)) (dpAll_ints _)
    have tst : ∀ (Q2 : Bool → Hp → Prop) (H' : Hp) (ns' : List Int), DX H H' a l ns' b → (∀ b2 H2, DX H H2 a l ns' b → (b2 = true → ∃ ms, ns' = ms ++ [0]) → Q2 b2 H2) →
        (tAnd (tTest (tOp (rNeD K) (tOp (rIxL K) (tVar 0) (tC (.int 0))) (tLst tNil))) (tTest (tOp (rEqD K) (tOp (rIxL K) (tOp (rIxL K) (tVar 0) (tC (.int 0))) (tUn (rU fun i => .int (-i)) (tC (.int 1)))) (tC (.int 0))))) [some (.ref a), some (.int m), none] H' Q2 := by
      intro Q2 H' ns' d k
      refine ⟨.ref a, rfl, a, _, 0, .ref l, rfl, rfl, SqL.of d.at_a, rfl, Nat.zero_le _, fun p hp => ?_⟩
      have d1 : DX H (upd H' p (.lst [])) a l ns' b := d.new hp
      refine ⟨_, .list [], dpl d1, .lst (.inl (.inl upd_same)) .nil, sh_ints _, rfl, _, rfl, ?_⟩
      rcases snoc_or ns' with e | ⟨ms, z, e⟩
      · subst e
        exact ifF (by rw [eqv_nil]; rfl) (k false _ d1 fun h => by cases h)
      · subst e
        refine ifT (by rw [eqv_nil]; simp) ?_
        refine ⟨.ref a, rfl, a, _, 0, .ref l, rfl, rfl, SqL.of d1.at_a, rfl, 1, rfl, l, _, -1, .int z, rfl, rfl, SqL.of d1.at_l, (by rw [List.map_append]; exact atI_last _ _), .int z, .int 0, .int z, .int 0, rfl, rfl, _, rfl, k _ _ d1 fun h => ⟨ms, ?_⟩⟩
        rw [eqv_int] at h
        rw [of_decide_eq_true h]
    refine ⟨fun k σ H' => σ = [some (.ref a), some (.int m), none] ∧ ∃ ns', k = ns'.length ∧ DX H H' a l ns' b ∧ DealOk ns' b, ⟨ns.length, rfl, ns, rfl, ⟨fun c o e _ _ => e, fun c e => e, nal, ea, el⟩, ok⟩, fun k σ H' hW => ?_⟩
    obtain ⟨rfl, ns', rfl, d, k'⟩ := hW
    refine tst _ H' ns' d fun b2 H2 d2 hb => ?_
    cases b2 with
    | true =>
      obtain ⟨ms, rfl⟩ := hb rfl
      refine ⟨fun σ' H' => σ' = [some (.ref a), some (.int m), none] ∧ DX H H' a l ms b ∧ DealOk ms b, fun σ' H' h' => ⟨ms.length, by rw [List.length_append]; exact Nat.lt_succ_self _, h'.1, ms, rfl, h'.2⟩, ?_⟩
      refine ⟨.ref a, rfl, a, _, 0, .ref l, rfl, rfl, SqL.of d2.at_a, rfl, .inl ⟨rfl, _, SqL.of d2.at_l⟩, l, _, .int 0, rfl, rfl, d2.at_l, by simp, rfl, ?_, ⟨fun n hn => k'.pos n (List.mem_append_left _ hn), ?_, k'.lo, k'.hi⟩⟩
      · rw [List.map_append, List.map_singleton, List.dropLast_concat]
        exact d2.setL
      · have := k'.few
        rw [List.length_append] at this
        exact Nat.le_of_succ_le this
    | false =>
      -- if deal[0] != []
      refine ⟨.ref a, rfl, a, _, 0, .ref l, rfl, rfl, SqL.of d2.at_a, rfl, Nat.zero_le _, fun p hp => ?_⟩
      have d3 : DX H (upd H2 p (.lst [])) a l ns' b := d2.new hp
      refine ⟨_, .list [], dpl d3, .lst (.inl (.inl upd_same)) .nil, sh_ints _, rfl, _, rfl, ?_⟩
      rcases snoc_or ns' with e | ⟨ms, z, e⟩
      · subst e
        refine ifF (by rw [eqv_nil]; rfl) ?_
        have hb : b.natAbs < 2 ^ 40 := by
          have h1 := k'.lo
          have h2 := k'.hi
          omega
        refine ⟨.ref a, rfl, a, _, 1, .int b, rfl, rfl, SqL.of d3.at_a, rfl, b, 40693, rfl, rfl, wide_mul (a := 40) (b := 20) hb (by decide) (by decide) (by decide) (by decide), _, _, rfl, rfl, .inl ⟨_, rfl, _, _, rfl, rfl, (by show (0 : Int) < 2147483647; decide), .ref a, rfl, a, _, 1, 1, rfl, rfl, d3.at_a, rfl, ?_⟩⟩
        have d4 := d3.setA (c := (b * 40693 + 71) % 2147483647)
        refine ⟨.ref a, rfl, a, _, 1, .int ((b * 40693 + 71) % 2147483647), rfl, rfl, SqL.of d4.at_a, rfl, _, _, rfl, rfl, ⟨by decide, by decide⟩, .inl ⟨_, rfl, .int m, rfl, _, _, rfl, rfl, m0, ?_⟩⟩
        exact fin _ _ [] _ (Int.emod_nonneg _ (by omega)) (Int.emod_lt_of_pos _ m0) d4 ⟨fun _ h => (by cases h), by decide, Int.emod_nonneg _ (by decide), Int.emod_lt_of_pos _ (by decide)⟩
      · subst e
        refine ifT (by rw [eqv_nil]; simp) ?_
        have hz : 0 ≤ z := k'.pos z (List.mem_append_right _ (by simp))
        refine ⟨.ref a, rfl, a, _, 0, .ref l, rfl, rfl, SqL.of d3.at_a, rfl, .inl ⟨rfl, _, SqL.of d3.at_l⟩, l, _, .int z, rfl, rfl, d3.at_l, by simp, .inl ⟨z, rfl, ?_⟩⟩
        rw [List.map_append, List.map_singleton, List.dropLast_concat]
        have d4 : DX H _ a l ms b := d3.setL
        refine ⟨.ref a, rfl, a, _, 0, .ref l, rfl, rfl, SqL.of d4.at_a, rfl, .inl ⟨rfl, _, SqL.of d4.at_l⟩, .int z, rfl, .int m, rfl, z, m, rfl, rfl, ⟨m0, m1⟩, l, _, .int (z / m), rfl, rfl, d4.at_l, ?_, .int z, rfl, .int m, rfl, z, m, rfl, rfl, m0, ?_⟩
        · have := k'.few
          rw [List.length_append] at this
          rw [List.length_map, sizeLine_eq]
          omega
        · have d5 := d4.setL (ms := ms ++ [z / m])
          rw [List.map_append, List.map_singleton] at d5
          refine fin _ _ (ms ++ [z / m]) b (Int.emod_nonneg _ (by omega)) (Int.emod_lt_of_pos _ m0) ?_ ⟨fun n hn => ?_, by rw [List.length_append]; have := k'.few; rw [List.length_append] at this; exact this, k'.lo, k'.hi⟩
          · exact d5
          · rcases List.mem_append.mp hn with hn | hn
            · exact k'.pos n (List.mem_append_left _ hn)
            · obtain rfl : n = z / m := by simpa using hn
              exact Int.ediv_nonneg hz (Int.le_of_lt m0)
/-! ### Euclid's steps -/
def runOk (p o : Int) : Nat → Int → Int → Int → Int → Bool
  | 0, _, _, _, _ => false
  | n + 1, l, b, f, g => if decide (1 < l) = true then
      decide (l < 1000) && (decide (-1000000 < b ∧ b < 1000000) && (decide (-1000000 < f ∧ f < 1000000) && (decide (-1000000 < g ∧ g < 1000000) && (decide (-1000000 < b / l ∧ b / l < 1000000) && (decide (0 ≤ b - b / l * l) && (decide (b - b / l * l < l) && runOk p o n (b - b / l * l) l (g - b / l * f) f))))))
    else decide (0 < f % p) && decide ((f % p * o) % p = 1)
theorem run_all : (primes.all fun p => (List.range p.toNat).all fun k => k == 0 || runOk p k 14 k p 1 0) = true := by decide +kernel
theorem run_of {p o : Int} (hp : p ∈ primes) (h1 : 1 ≤ o) (h2 : o < p) : runOk p o 14 o p 1 0 = true := by
  have h := List.all_eq_true.mp run_all p hp
  have h3 := List.all_eq_true.mp h o.toNat (List.mem_range.mpr (by omega))
  rw [Bool.or_eq_true] at h3
  have e : ((o.toNat : Nat) : Int) = o := Int.toNat_of_nonneg (by omega)
  rcases h3 with h3 | h3
  · have := beq_iff_eq.mp h3
    omega
  · rw [e] at h3
    exact h3
theorem prime_pos {p : Int} (h : p ∈ primes) : 2 ≤ p ∧ p ≤ 101 := by
  simp only [primes, List.mem_cons, List.not_mem_nil, or_false] at h
  omega
def leftOf (r : Rho) : Nat := match r[2]? with
  | some (DV.sh (PyData.int l)) => l.toNat
  | _ => 0
theorem ok_inverse {f : Addr} {fd : FuncData} (F : Fun K "inverse" "inverse" s_inverse f fd) (T : T1 K mg) : FnOk P w K mg base CX0 1 f fd ["p", "one"] (spD K g_inverse) := by
  refine ok_D F sc_inverse (fun ds P ⟨p, o, e, _⟩ => by rw [e]; rfl) (fun cdv A outer s H E hr => ⟨_, _, (pss_cons (ps_par (i := 2) (j := 3) rfl sc_inverse.nd rfl rfl (by decide) rfl rfl (pa_cons (pv 1) (pa_cons (pv 0) pa_nil)) (by rfl))
      (pss_cons (ps_asg (pe_tup (pa_cons pe_int (pa_cons pe_int pa_nil))) (pg_tup rfl (pgs_cons (pg_name (i := 4) sc_inverse.nd rfl (by first | exact Or.inl rfl | exact Or.inr rfl)) (pgs_cons (pg_name (i := 5) sc_inverse.nd rfl (by first | exact Or.inl rfl | exact Or.inr rfl)) pgs_nil))))
      (pss_cons (ps_while PassesOwn.never (pt_cmpR op_gt (pv 2) pe_int (nomark _)) (pss_cons (ps_set (i := 6) sc_inverse.nd rfl (by first | exact Or.inl rfl | exact Or.inr rfl) (pe_op op_fdivW (pv 3) (pv 2)))
      (pss_cons (ps_par (i := 3) (j := 2) rfl sc_inverse.nd rfl rfl (by decide) rfl rfl (pa_cons (pv 2) (pa_cons (pe_op op_sub (pv 3) (pe_op op_mulW (pv 6) (pv 2))) pa_nil)) (by rfl))
      (pss_one (ps_par (i := 5) (j := 4) rfl sc_inverse.nd rfl rfl (by decide) rfl rfl (pa_cons (pv 4) (pa_cons (pe_op op_sub (pv 5) (pe_op op_mulW (pv 6) (pv 4))) pa_nil)) (by rfl))))))
      (pss_one (ps_ret (pe_op op_mod (pv 4) (pv 0))))))), (ss_cons (ss_par (i := 2) (j := 3) (sa_cons (se_var 1) (sa_cons (se_var 0) sa_nil)))
      (ss_cons (ss_asg (se_tup (sa_cons se_c (sa_cons se_c sa_nil))) (sg_tup (sgs_cons (sg_name 4) (sgs_cons (sg_name 5) sgs_nil))))
      (ss_cons (ss_while (st_test (se_op so_rI0 (se_var 2) se_c)) (ss_cons (ss_asg (se_op so_rI (se_var 3) (se_var 2)) (sg_name 6))
      (ss_cons (ss_par (i := 3) (j := 2) (sa_cons (se_var 2) (sa_cons (se_op so_rI0 (se_var 3) (se_op so_rI (se_var 6) (se_var 2))) sa_nil)))
      (ss_par (i := 5) (j := 4) (sa_cons (se_var 4) (sa_cons (se_op so_rI0 (se_var 5) (se_op so_rI (se_var 6) (se_var 4))) sa_nil))))))
      (ss_ret (se_op so_rI (se_var 4) (se_var 0)))))), fun ds Pd h => ?_⟩)
  obtain ⟨p, o, rfl, hp, h1, h2, q⟩ := h
  have pp := prime_pos hp
  refine ⟨_, rfl, _, rfl, _, _, rfl, (by show 2 < 7; decide), (by show 3 < 7; decide), ?_⟩
  refine ⟨(by show 2 ≤ sizeLine; decide), _, rfl, rfl, _, _, rfl, ⟨(by show 4 < 7; decide), _, _, rfl, (by show 5 < 7; decide), rfl, ?_⟩⟩
  refine ⟨fun r => ∃ (n : Nat) (l b f g : Int) (x : DV), r = [.sh (.int p), .sh (.int o), .sh (.int l), .sh (.int b), .sh (.int f), .sh (.int g), x] ∧ runOk p o n l b f g = true, leftOf, ⟨14, o, p, 1, 0, _, rfl, run_of hp h1 h2⟩, fun r hI => ?_⟩
  obtain ⟨n, l, b, f, g, x, rfl, hk⟩ := hI
  refine ⟨_, rfl, _, _, rfl, rfl, _, rfl, ?_⟩
  cases n with
  | zero => exact absurd hk (by simp [runOk])
  | succ n =>
    unfold runOk at hk
    by_cases hl : 1 < l
    · rw [if_pos (decide_eq_true hl)] at hk
      simp only [Bool.and_eq_true, decide_eq_true_eq] at hk
      obtain ⟨k1, ⟨k2, k2'⟩, ⟨k3, k3'⟩, ⟨k4, k4'⟩, ⟨k5, k5'⟩, k6, k7, k8⟩ := hk
      refine ifT (decide_eq_true hl) ?_
      have w : ∀ {i j : Int}, -1000000 < i → i < 1000000 → -1000000 < j → j < 1000000 → CMulW i j := fun a1 a2 a3 a4 => wide_mul (a := 30) (b := 30) (by omega) (by omega) (by decide) (by decide) (by decide)
      refine ⟨_, rfl, _, rfl, b, l, rfl, rfl, wide_div (b := 30) (by omega) (by omega) (by decide) (by decide), (by show 6 < 7; decide), ?_⟩
      refine ⟨_, rfl, _, rfl, _, rfl, _, rfl, _, _, rfl, rfl, w k5 k5' (by omega) (by omega), _, _, rfl, rfl, _, _, rfl, (by show 3 < 7; decide), (by show 2 < 7; decide), ?_⟩
      refine ⟨_, rfl, _, rfl, _, rfl, _, rfl, _, _, rfl, rfl, w k5 k5' k3 k3', _, _, rfl, rfl, _, _, rfl, (by show 5 < 7; decide), (by show 4 < 7; decide), ?_⟩
      refine ⟨⟨n, _, _, _, _, _, rfl, k8⟩, ?_⟩
      show (b - b / l * l).toNat < l.toNat
      omega
    · rw [if_neg (by rw [decide_eq_false hl]; decide)] at hk
      simp only [Bool.and_eq_true, decide_eq_true_eq] at hk
      refine ifF (decide_eq_false hl) ?_
      refine ⟨_, rfl, _, rfl, f, p, rfl, rfl, by show (0 : Int) < p; omega, ?_⟩
      exact q _ hk.1 (Int.emod_lt_of_pos _ (by omega)) hk.2
structure T3 (P : Program) (w : World) (K : PySem.W.Frag) (mg : Str → Option Value) (base : Heap) : Prop extends T2 P w K mg base where
  d_law_draw : C8.Cal P w K mg base 1 "_law_draw" (spM K g_draw) []
  d_law_of : C8.Cal P w K mg base 2 "_law_of" (spW K g_of) []
  d_is_field : C8.Cal P w K mg base 2 "is_field" (spD K g_is_field) []
  k_is_field : CalK P w K mg base 2 "is_field" ["value"] 0 1 [0] (spD K g_is_field)
  d_element : C8.Cal P w K mg base 1 "element" (spD K g_element) []
  k_element : CalK P w K mg base 1 "element" ["number", "p"] 0 2 [1, 0] (spD K g_element)
  k_inverse : CalK P w K mg base 1 "inverse" ["one", "p"] 0 2 [1, 0] (spD K g_inverse)
def rngI (lo : Int) (n : Nat) : List Int := (List.range n).map fun (k : Nat) => lo + (k : Int)
theorem rngD_I (lo : Int) (n : Nat) : rngD lo n = (rngI lo n).map PyData.int := by
  unfold rngD rngI
  rw [List.map_map]
  rfl
theorem all_not (F : Int → Bool) : ∀ xs : List Int, (xs.map PyData.int).all (notD F) = (xs.filter F).isEmpty
  | [] => rfl
  | x :: xs => by
    rw [List.map_cons, List.all_cons, all_not F xs]
    show ((!F x) && _) = _
    cases h : F x with
    | true => rw [List.filter_cons_of_pos h]; rfl
    | false => rw [List.filter_cons_of_neg (by rw [h]; decide)]; rfl
theorem field_is {v : Int} (h0 : 0 ≤ v) : fieldI v = (decide (v = 0) || (if 1 < v then ((rngI 2 (v - 2).toNat).filter fun k => decide (v % k = 0)).isEmpty else false) && decide (v ≤ 101)) := by
  unfold fieldI
  rw [rngD_I, all_not]
  by_cases h1 : v = 0
  · subst h1; rfl
  · rw [decide_eq_false h1]
    by_cases h2 : 1 < v
    · rw [decide_eq_true h2, if_pos h2]
      cases decide (v ≤ 101) <;> simp
    · rw [decide_eq_false h2, if_neg h2]
      simp
theorem small_log {n : Int} (h1 : -(2 ^ 200) < n) (h2 : n < 2 ^ 200) : n.natAbs.log2 < 1920 := Nat.lt_trans (PySem.Flt.log2_lt_of (k := 200) (by decide) (by omega)) (by decide)
set_option maxHeartbeats 2000000 in
theorem ok_law {f : Addr} {fd : FuncData} (F : Fun K "law" "law" s_law f fd) (T : T3 P w K mg base) : FnOk P w K mg base CX0 3 f fd ["script"] (spD K g_law) := by
  refine ok_D F sc_law (fun ds P ⟨ns, e, _⟩ => by rw [e]; rfl) (fun cdv A outer s H E hr => ⟨_, _, (pss_cons (ps_set (i := 1) sc_law.nd rfl (by first | exact Or.inl rfl | exact Or.inr rfl) (C8.pe_c T.d_law_draw hr (by decide) (by rfl) (pa_cons (pv 0) (pa_cons pe_int pa_nil))))
      (pss_cons (ps_for PassesOwn.never rfl (pi_list (pe_op op_catL (pe_lc (own := [("turn", 4)]) (g := (gName 4)) (tt := tYes) rfl sc_law.nd (pi_range1 (by rfl) T.b_range (pa_cons pe_int pa_nil)) (blkOk_by (N := N_law) (sc := defScope s_law) (own := [("turn", 4)]) (by decide +kernel)) (fun _ _ _ _ _ => (pg_name (i := 4) sc_law.nd rfl (by first | exact Or.inl rfl | exact Or.inr rfl))) (fun _ _ _ _ _ => pts_nil) (fun _ _ _ _ _ => (C8.pe_c T.d_law_any hr (by decide) (by rfl) (pa_cons (pv 1) (pa_cons pe_int pa_nil))))) (pe_lst (pa_cons pe_int (pa_cons pe_int (pa_cons pe_int (pa_cons pe_int (pa_cons pe_int (pa_cons pe_int pa_nil))))))))) (pg_name (i := 2) sc_law.nd rfl (by first | exact Or.inl rfl | exact Or.inr rfl)) (pss_cons (ps_set (i := 6) sc_law.nd rfl (by first | exact Or.inl rfl | exact Or.inr rfl) (pe_and (pe_cmpR op_gt (pv 2) pe_int (nomark _)) (pe_one (pe_cmpR (op_eqD hr.units) (pe_lc (own := [("one", 5)]) (g := (gName 5)) (tt := _) rfl sc_law.nd (pi_range2 (by rfl) T.b_range (pa_cons pe_int (pa_cons (pv 2) pa_nil))) (blkOk_by (N := N_law) (sc := defScope s_law) (own := [("one", 5)]) (by decide +kernel)) (fun _ _ _ _ _ => (pg_name (i := 5) sc_law.nd rfl (by first | exact Or.inl rfl | exact Or.inr rfl))) (fun _ _ _ _ _ => (pts_one (pt_cmpR (op_eqD hr.units) (pe_op op_mod (pe_callTy call_int1 (by rfl) T.b_int (by decide +kernel) (pa_cons (pv 2) pa_nil)) (pv 5)) pe_int (nomark _)))) (fun _ _ _ _ _ => (pv 5))) (pe_lst pa_nil) (nomark _)))))
      (pss_one (ps_if (pt_cmpR op_ne (pe_callB call_reprS (by rfl) T.b_repr (by decide +kernel) (pa_cons (pe_cK0 T.k_is_field hr (by decide) (by rfl) (pk_cons (pv 2) pk_nil)) pa_nil)) (pe_callB call_reprS (by rfl) T.b_repr (by decide +kernel) (pa_cons (pe_or (pe_cmpR (op_eqD hr.units) (pv 2) pe_int (nomark _)) (pe_one (pe_and (pv 6) (pe_one (pe_cmpR op_le (pv 2) pe_int (nomark _)))))) pa_nil)) (nomark _)) (pss_one (ps_ret pe_bl)) pss_nil))))
      (pss_cons (ps_if (pt_cmpR op_notBl (C8.pe_c T.d_is_field hr (by decide) (by rfl) (pa_cons (C8.pe_c T.d_law_of hr (by decide) (by rfl) (pa_cons (pv 1) (pa_cons (pe_lst (pa_cons pe_non (pa_cons pe_bl (pa_cons pe_bl (pa_cons (pe_un un_neg pe_int) (pa_cons (pe_un un_neg pe_int) (pa_cons pe_str (pa_cons (pe_tup (pa_cons pe_int pa_nil)) (pa_cons (pe_lst (pa_cons pe_int pa_nil)) (pa_cons pe_int (pa_cons (pe_op op_pow pe_int pe_int) pa_nil))))))))))) pa_nil))) pa_nil)) pe_bl (nomark _)) (pss_one (ps_ret pe_bl)) pss_nil)
      (pss_cons (ps_set (i := 3) sc_law.nd rfl (by first | exact Or.inl rfl | exact Or.inr rfl) (C8.pe_c T.d_law_of hr (by decide) (by rfl) (pa_cons (pv 1) (pa_cons (pe_lst (pa_cons pe_int (pa_cons pe_int (pa_cons pe_int (pa_cons pe_int (pa_cons pe_int (pa_cons pe_int (pa_cons pe_int (pa_cons pe_int (pa_cons pe_int pa_nil)))))))))) pa_nil))))
      (pss_cons (ps_for PassesOwn.never rfl (pi_range1 (by rfl) T.b_range (pa_cons pe_int pa_nil)) (pg_name (i := 4) sc_law.nd rfl (by first | exact Or.inl rfl | exact Or.inr rfl)) (pss_cons (ps_set (i := 7) sc_law.nd rfl (by first | exact Or.inl rfl | exact Or.inr rfl) (pe_op op_sub (C8.pe_c T.d_law_any hr (by decide) (by rfl) (pa_cons (pv 1) (pa_cons (pe_op op_pow pe_int pe_int) pa_nil))) (C8.pe_c T.d_law_any hr (by decide) (by rfl) (pa_cons (pv 1) (pa_cons (pe_op op_pow pe_int pe_int) pa_nil)))))
      (pss_cons (ps_set (i := 8) sc_law.nd rfl (by first | exact Or.inl rfl | exact Or.inr rfl) (pe_op op_sub (pv 7) (pe_op op_mulW (pe_op op_fdivW (pv 7) (pv 3)) (pv 3))))
      (pss_one (ps_if (PW.pt (pw_or (pt_cmpR op_ne (pe_callB call_reprS (by rfl) T.b_repr (by decide +kernel) (pa_cons (pe_cK0 T.k_element hr (by decide) (by rfl) (pk_cons (pv 7) (pk_cons (pv 3) pk_nil))) pa_nil)) (pe_callB call_reprS (by rfl) T.b_repr (by decide +kernel) (pa_cons (pv 8) pa_nil)) (nomark _)) (pw_or1 (pt_cmpR op_ne (pe_callB call_reprS (by rfl) T.b_repr (by decide +kernel) (pa_cons (C8.pe_c T.d_element hr (by decide) (by rfl) (pa_cons pe_int (pa_cons (pv 7) pa_nil))) pa_nil)) (pe_callB call_reprS (by rfl) T.b_repr (by decide +kernel) (pa_cons (pv 7) pa_nil)) (nomark _))))) (pss_one (ps_ret pe_bl)) pss_nil)))))
      (pss_cons (ps_for PassesOwn.never rfl (pi_range2 (by rfl) T.b_range (pa_cons pe_int (pa_cons (pv 3) pa_nil))) (pg_name (i := 5) sc_law.nd rfl (by first | exact Or.inl rfl | exact Or.inr rfl)) (pss_cons (ps_set (i := 9) sc_law.nd rfl (by first | exact Or.inl rfl | exact Or.inr rfl) (pe_cK0 T.k_inverse hr (by decide) (by rfl) (pk_cons (pv 5) (pk_cons (pv 3) pk_nil))))
      (pss_one (ps_if (PW.pt (pw_or (pt_not (pt_val (pe_callB call_isi (by rfl) T.b_isinstance (by decide +kernel) (pa_cons (pv 9) (pa_cons (pe_bltn (v := .ty "int") (u := .type "int") (by rfl) T.b_int (by decide +kernel) rfl) pa_nil))))) (pw_or (pt_val (pe_callB call_isi (by rfl) T.b_isinstance (by decide +kernel) (pa_cons (pv 9) (pa_cons (pe_bltn (v := .ty "bool") (u := .type "bool") (by rfl) T.b_bool (by decide +kernel) rfl) pa_nil)))) (pw_or (pt_not (pt_chain op_lt op_lt pe_int (pv 9) (pv 3))) (pw_or1 (pt_cmpR (op_neD hr.units) (pe_op op_mod (pe_callTy call_int1 (by rfl) T.b_int (by decide +kernel) (pa_cons (pe_op op_mulW (pv 9) (pv 5)) pa_nil)) (pv 3)) pe_int (nomark _))))))) (pss_one (ps_ret pe_bl)) pss_nil))))
      (pss_one (ps_ret pe_bl)))))))), (ss_cons (ss_mk (i := 1) (sa_cons (se_var 0) (sa_cons se_c sa_nil)))
      (ss_cons (ss_fgt [4] (ss_for (si_list (se_sh (sf_catL (se_sh (sf_lc (js := [4]) (si_rng1 (sa_cons se_c sa_nil)) (sg_name 4) st_yes (se_callW (i := 1) g_any_mono (sa_cons se_c sa_nil)))) (se_sh (sf_lst (sa_cons se_c (sa_cons se_c (sa_cons se_c (sa_cons se_c (sa_cons se_c (sa_cons se_c sa_nil))))))))))) (sg_name 2) (ss_consM (ss_fgt [5] (ss_asg (se_andV (se_op so_rI0 (se_var 2) se_c) (se_op so_eqD (se_sh (sf_lc (js := [5]) (si_rng2 (sa_cons se_c (sa_cons (se_var 2) sa_nil))) (sg_name 5) (st_test (se_op so_eqD (se_op so_rI (se_cb sc_int (sa_cons (se_var 2) sa_nil)) (se_var 5)) se_c)) (se_var 5))) (se_sh (sf_lst sa_nil)))) (sg_name 6)))
      (ss_if (st_test (se_op so_neS (se_cb sc_reprS (sa_cons (se_callK g_is_field_mono sa_nil (sa_cons (se_var 2) sa_nil)) sa_nil)) (se_cb sc_reprS (sa_cons (se_orV (se_op so_eqD (se_var 2) se_c) (se_andV (se_var 6) (se_op so_rI0 (se_var 2) se_c))) sa_nil)))) (ss_ret se_c) ss_nil))))
      (ss_cons (ss_if (st_test (se_op so_notB (se_call g_is_field_mono (sa_cons (se_callW (i := 1) g_of_mono (sa_cons (se_sh (sf_lst (sa_cons se_c (sa_cons se_c (sa_cons se_c (sa_cons (se_un su_rU se_c) (sa_cons (se_un su_rU se_c) (sa_cons se_c (sa_cons (se_tup (sa_cons se_c sa_nil)) (sa_cons (se_sh (sf_lst (sa_cons se_c sa_nil))) (sa_cons se_c (sa_cons (se_op so_rI se_c se_c) sa_nil)))))))))))) sa_nil)) sa_nil)) se_c)) (ss_ret se_c) ss_nil)
      (ss_cons (ss_asg (se_callW (i := 1) g_of_mono (sa_cons (se_sh (sf_lst (sa_cons se_c (sa_cons se_c (sa_cons se_c (sa_cons se_c (sa_cons se_c (sa_cons se_c (sa_cons se_c (sa_cons se_c (sa_cons se_c sa_nil))))))))))) sa_nil)) (sg_name 3))
      (ss_cons (ss_for (si_rng1 (sa_cons se_c sa_nil)) (sg_name 4) (ss_cons (ss_asg (se_op so_rI0 (se_callW (i := 1) g_any_mono (sa_cons (se_op so_rI se_c se_c) sa_nil)) (se_callW (i := 1) g_any_mono (sa_cons (se_op so_rI se_c se_c) sa_nil))) (sg_name 7))
      (ss_cons (ss_asg (se_op so_rI0 (se_var 7) (se_op so_rI (se_op so_rI (se_var 7) (se_var 3)) (se_var 3))) (sg_name 8))
      (ss_if (st_or (st_test (se_op so_neS (se_cb sc_reprS (sa_cons (se_callK g_element_mono sa_nil (sa_cons (se_var 7) (sa_cons (se_var 3) sa_nil))) sa_nil)) (se_cb sc_reprS (sa_cons (se_var 8) sa_nil)))) (st_test (se_op so_neS (se_cb sc_reprS (sa_cons (se_call g_element_mono (sa_cons se_c (sa_cons (se_var 7) sa_nil))) sa_nil)) (se_cb sc_reprS (sa_cons (se_var 7) sa_nil))))) (ss_ret se_c) ss_nil))))
      (ss_cons (ss_for (si_rng2 (sa_cons se_c (sa_cons (se_var 3) sa_nil))) (sg_name 5) (ss_cons (ss_asg (se_callK g_inverse_mono sa_nil (sa_cons (se_var 5) (sa_cons (se_var 3) sa_nil))) (sg_name 9))
      (ss_if (st_or (st_not (st_b (se_isi (T.i_int) (se_var 9)))) (st_or (st_b (se_isi (T.i_bool) (se_var 9))) (st_or (st_not (st_test (se_chain so_rI0 so_rI0 se_c (se_var 9) (se_var 3)))) (st_test (se_op so_neD (se_op so_rI (se_cb sc_int (sa_cons (se_op so_rI (se_var 9) (se_var 5)) sa_nil)) (se_var 3)) se_c))))) (ss_ret se_c) ss_nil)))
      (ss_ret se_c))))))), fun ds Pd h => ?_⟩)
  obtain ⟨ns, rfl, hl, q⟩ := h
  generalize hS : PyData.list (ns.map PyData.int) = S
  refine ⟨_, rfl, (by show 1 < 10; decide), ⟨ns, 1, by rw [← hS]; rfl, hl, by decide, by decide⟩, fun a l => ?_⟩
  -- for value in ..
  refine ⟨8, rfl, by decide, by decide, by rw [rngD_len, sizeLine_eq]; decide, fun j hj => by
    obtain rfl : j = 4 := by simpa using hj
    rfl, ?_⟩
  refine compW_any (fun d => ∃ i : Int, d = .int i ∧ 0 ≤ i ∧ i < 111) (fun d hd k hk => ?_) (fun y hy => by cases hy) (fun ys hyl hy => ?_)
  · obtain ⟨z, rfl, _⟩ := mem_rngD hd
    refine ⟨(by show 4 < 10; decide), ifT rfl ⟨⟨a, l, rfl⟩, ⟨a, l, rfl⟩, 111, rfl, by decide, by decide, fun x x0 x1 => ?_⟩⟩
    exact hk [.sh S, .dl a l, .no, .no, .sh (.int z), .no, .no, .no, .no, .no] _ rfl ⟨x, rfl, x0, x1⟩
  refine ⟨(by show 6 ≤ sizeLine; decide), ys, _, rfl, rfl, ?_, _, rfl, ?_⟩
  · rw [hyl, rngD_len, sizeLine_eq]
    decide
  refine ⟨fun i r => ∃ x2 x6 : DV, r = [.sh S, .dl a l, x2, .no, .no, .no, x6, .no, .no, .no], ⟨_, _, rfl⟩, fun i d r hd hI => ?_, fun r hI => ?_⟩
  · obtain ⟨x2, x6, rfl⟩ := hI
    obtain ⟨v, rfl, v0, v1⟩ : ∃ v : Int, d = .int v ∧ 0 ≤ v ∧ v < 111 := by
      rcases List.mem_append.mp (List.mem_of_getElem? hd) with h | h
      · exact hy d h
      · simp only [List.mem_cons, List.not_mem_nil, or_false] at h
        rcases h with rfl | rfl | rfl | rfl | rfl | rfl
        · exact ⟨0, rfl, by decide, by decide⟩
        · exact ⟨1, rfl, by decide, by decide⟩
        · exact ⟨2, rfl, by decide, by decide⟩
        · exact ⟨97, rfl, by decide, by decide⟩
        · exact ⟨101, rfl, by decide, by decide⟩
        · exact ⟨103, rfl, by decide, by decide⟩
    refine ⟨(by show 2 < 10; decide), fun r => ∃ pr : Bool, r = [.sh S, .dl a l, .sh (.int v), .no, .no, .no, .sh (.bool pr), .no, .no, .no] ∧ fieldI v = (decide (v = 0) || pr && decide (v ≤ 101)), ?_, fun r hJ => ?_⟩
    · refine ⟨_, rfl, _, _, rfl, rfl, _, rfl, ?_⟩
      by_cases h2 : 1 < v
      · refine ifT (decide_eq_true h2) ⟨_, rfl, 2, v, rfl, by omega, ?_⟩
        refine ⟨by rw [rngD_len, sizeLine_eq]; omega, fun j hj => by
          obtain rfl : j = 5 := by simpa using hj
          rfl, ?_⟩
        refine compW_det (oInt fun k => if decide (v % k = 0) = true then some (PyData.int k) else none) (fun d hd k hk => ?_) ?_
        · obtain ⟨z, rfl, z1, _⟩ := mem_rngD hd
          have hz := hk [.sh S, .dl a l, .sh (.int v), .no, .no, .sh (.int z), x6, .no, .no, .no] rfl
          refine ⟨(by show 5 < 10; decide), _, rfl, _, rfl, _, rfl, v, z, rfl, rfl, (by show (0 : Int) < z; omega), rfl, rfl, _, rfl, ?_⟩
          by_cases hvz : v % z = 0
          · refine ifT ((eqv_int _ _).trans (decide_eq_true hvz)) ⟨_, rfl, ?_⟩
            rw [show oInt (fun k => if decide (v % k = 0) = true then some (PyData.int k) else none) (.int z) = some (.int z) from if_pos (decide_eq_true hvz)] at hz
            exact hz
          · refine ifF ((eqv_int _ _).trans (decide_eq_false hvz)) ?_
            rw [show oInt (fun k => if decide (v % k = 0) = true then some (PyData.int k) else none) (.int z) = none from if_neg (by rw [decide_eq_false hvz]; decide)] at hz
            exact hz
        · rw [List.nil_append, rngD_I, fm_oInt, fm_if (fun k => decide (v % k = 0))]
          refine ⟨Nat.zero_le _, sh_ints _, rfl, (by show 6 < 10; decide), _, rfl, ?_⟩
          rw [field_is v0, if_pos h2, ← eqv_nil]
      · exact ifF (decide_eq_false h2) ⟨(by show 6 < 10; decide), false, rfl, by rw [field_is v0, if_neg h2]⟩
    · obtain ⟨pr, rfl, hp⟩ := hJ
      refine ⟨_, rfl, .int v, rfl, rfl, .inr ⟨_, rfl, ?_⟩⟩
      have same : ∀ {b : Bool}, fieldI v = b → (!decide (PyData.shown (.bool (fieldD (.int v))) = PyData.shown (.bool b))) = false := fun {b} e => by
        rw [show fieldD (.int v) = b from e]
        simp
      refine ⟨_, rfl, rfl, rfl, _, rfl, ?_⟩
      by_cases h0 : v = 0
      · refine ifT ((eqv_int _ _).trans (decide_eq_true h0)) (.inr ⟨_, rfl, _, _, rfl, rfl, _, rfl, ifF (same ?_) ⟨_, _, rfl⟩⟩)
        rw [hp, decide_eq_true h0]
        rfl
      · refine ifF ((eqv_int _ _).trans (decide_eq_false h0)) ⟨_, rfl, pr, rfl, ?_⟩
        rw [decide_eq_false h0] at hp
        cases pr with
        | true => exact ifT rfl ⟨_, rfl, _, _, rfl, rfl, .inr ⟨_, rfl, _, _, rfl, rfl, _, rfl, ifF (same hp) ⟨_, _, rfl⟩⟩⟩
        | false => exact ifF rfl (.inr ⟨_, rfl, _, _, rfl, rfl, _, rfl, ifF (same hp) ⟨_, _, rfl⟩⟩)
  · obtain ⟨x2, x6, rfl⟩ := hI
    -- if is_field(..) is not False
    have mix : ∀ d ∈ ([.none, .bool true, .bool false, .int (-2), .int (-3), .str (PySem.Str.ofString "5"), .tuple [.int 5], .list [.int 5], .int 109, .int (10 ^ 20)] : List D), SeqAt.shaped d = true ∧ fieldD d = false := by
      intro d hd
      simp only [List.mem_cons, List.not_mem_nil, or_false] at hd
      rcases hd with rfl | rfl | rfl | rfl | rfl | rfl | rfl | rfl | rfl | rfl <;> exact ⟨by decide +kernel, by decide +kernel⟩
    refine ⟨⟨a, l, rfl⟩, _, rfl, _, rfl, (by show 1 ≤ sizeLine; decide), (by show 1 ≤ sizeLine; decide), _, _, rfl, rfl, ⟨by decide, by decide, by decide⟩, (by show 10 ≤ sizeLine; decide), ⟨a, l, rfl⟩, _, rfl, List.cons_ne_nil _ _, (by show 10 ≤ 1000000; decide), fun d hd => ?_⟩
    obtain ⟨m1, m2⟩ := mix d hd
    refine ⟨d, rfl, m1, ?_⟩
    rw [m2]
    refine ⟨_, _, rfl, rfl, _, rfl, ifF rfl ?_⟩
    -- p
    refine ⟨⟨a, l, rfl⟩, (by show 9 ≤ sizeLine; decide), ⟨a, l, rfl⟩, _, rfl, List.cons_ne_nil _ _, (by show 9 ≤ 1000000; decide), fun d hd => ?_⟩
    obtain ⟨p, rfl, hp⟩ := mem_int (ns := primes) hd
    have pp := prime_pos hp
    refine ⟨(by show 3 < 10; decide), ?_⟩
    -- for turn in range(6)
    refine ⟨6, rfl, by decide, by decide, fun i r => ∃ x4 x7 x8 : DV, r = [.sh S, .dl a l, x2, .sh (.int p), x4, .no, x6, x7, x8, .no], ⟨_, _, _, rfl⟩, fun i d r hd hI => ?_, fun r hI => ?_⟩
    · obtain ⟨x4, x7, x8, rfl⟩ := hI
      refine ⟨(by show 4 < 10; decide), ⟨a, l, rfl⟩, 10, 30, rfl, rfl, ⟨by decide, by decide, by decide⟩, ⟨a, l, rfl⟩, (10 ^ 30 : Int), rfl, by decide, by decide, fun x x0 x1 => ?_⟩
      refine ⟨⟨a, l, rfl⟩, 10, 30, rfl, rfl, ⟨by decide, by decide, by decide⟩, ⟨a, l, rfl⟩, (10 ^ 30 : Int), rfl, by decide, by decide, fun y y0 y1 => ?_⟩
      refine ⟨x, y, rfl, rfl, (by show 7 < 10; decide), ?_⟩
      have n1 : -(10 ^ 30) < x - y := by omega
      have n2 : x - y < 10 ^ 30 := by omega
      show (fun r => _) ([.sh S, .dl a l, x2, .sh (.int p), .sh d, .no, x6, .sh (.int (x - y)), x8, .no])
      generalize x - y = n at n1 n2
      have dv : -(10 ^ 30) ≤ n / p ∧ n / p ≤ 10 ^ 30 := by
        have hp' := hp
        simp only [primes, List.mem_cons, List.not_mem_nil, or_false] at hp'
        rcases hp' with rfl | rfl | rfl | rfl | rfl | rfl | rfl | rfl | rfl <;> omega
      have due : n % p = n - n / p * p := by
        rw [Int.emod_def, Int.mul_comm]
      have mlt : -(2 ^ 200) < n - n / p * p ∧ n - n / p * p < 2 ^ 200 := by
        rw [← due]
        have h1 := Int.emod_nonneg n (show p ≠ 0 by omega)
        have h2 := Int.emod_lt_of_pos n (show 0 < p by omega)
        omega
      refine ⟨_, rfl, _, rfl, _, rfl, _, _, rfl, rfl, wide_div (b := 30) (by omega) (by omega) (by decide) (by decide), _, rfl, _, _, rfl, rfl, wide_mul (a := 120) (b := 30) (by omega) (by omega) (by decide) (by decide) (by decide), _, _, rfl, rfl, (by show 8 < 10; decide), ?_⟩
      refine ⟨_, rfl, _, rfl, p, n, rfl, by omega, .inl ⟨_, rfl, ?_, _, rfl, .inl ⟨_, rfl, small_log mlt.1 mlt.2, _, _, rfl, rfl, _, rfl, ifF ?_ ?_⟩⟩⟩
      · rw [if_neg (show p ≠ 0 by omega), due]
        exact small_log mlt.1 mlt.2
      · rw [if_neg (show p ≠ 0 by omega), due]
        simp
      · refine ⟨_, rfl, 0, n, rfl, by decide, .inl ⟨_, rfl, small_log (by rw [if_pos rfl]; omega) (by rw [if_pos rfl]; omega), _, rfl, .inl ⟨_, rfl, small_log (by omega) (by omega), _, _, rfl, rfl, _, rfl, ifF (by rw [if_pos rfl]; simp) ⟨_, _, _, rfl⟩⟩⟩⟩
    · obtain ⟨x4, x7, x8, rfl⟩ := hI
      -- for one in range(1, p)
      refine ⟨_, rfl, 1, p, rfl, by omega, fun i r => ∃ x5 x9 : DV, r = [.sh S, .dl a l, x2, .sh (.int p), x4, x5, x6, x7, x8, x9], ⟨_, _, rfl⟩, fun i d r hd hI => ?_, fun r hI => ?_⟩
      · obtain ⟨x5, x9, rfl⟩ := hI
        obtain ⟨rfl, hi⟩ := rngD_at hd
        refine ⟨(by show 5 < 10; decide), _, rfl, _, rfl, p, 1 + i, rfl, hp, by omega, by omega, fun x x0 x1 h1 => ?_⟩
        refine ⟨(by show 9 < 10; decide), _, rfl, _, rfl, ifF rfl ⟨_, rfl, _, rfl, ifF rfl ⟨_, rfl, _, _, rfl, rfl, _, rfl, ifT (decide_eq_true x0) ⟨_, rfl, _, _, rfl, rfl, _, rfl, ifF (by rw [decide_eq_true x1]; rfl) ?_⟩⟩⟩⟩
        refine ⟨_, rfl, _, rfl, _, _, rfl, rfl, wide_mul (a := 30) (b := 30) (by omega) (by omega) (by decide) (by decide) (by decide), _, rfl, _, rfl, _, _, rfl, rfl, (by show (0 : Int) < p; omega), rfl, rfl, _, rfl, ifF ?_ ⟨_, _, rfl⟩⟩
        show (!PyData.eqv (.int (x * (1 + i) % p)) (.int 1)) = false
        rw [eqv_int, decide_eq_true h1]
        rfl
      · obtain ⟨x5, x9, rfl⟩ := hI
        exact q
end
/-! ### what the top has written; the end -/
theorem all_mk {l : PySem.W.OpenLaw} {w : World} {K : PySem.W.Frag} {h : Heap} {mg : Str → Option Value} {fa f0 f1 f2 f3 f4 f5 f6 f7 : Addr} (X : K.In h) (G : h.Ns mainGlobals mg) (hfa : mg "law" = some (.ref fa))
    {od0 an0 od1 an1 od2 an2 od3 an3 od4 an4 od5 an5 od6 an6 od7 an7 : Option Addr} {sl0 sl1 sl2 sl3 sl4 sl5 sl6 sl7 : Array (Option Value)} {oc0 kV0 dc0 pm0 cd0 ct0 oc1 kV1 dc1 pm1 cd1 ct1 oc2 kV2 dc2 pm2 cd2 ct2 oc3 kV3 dc3 pm3 cd3 ct3 oc4 kV4 dc4 pm4 cd4 ct4 oc5 kV5 dc5 pm5 cd5 ct5 oc6 kV6 dc6 pm6 cd6 ct6 oc7 kV7 dc7 pm7 cd7 ct7 : Value} {t_GREATEST_FIELD : Tok}
    (a0 : PySem.W.nsIn K mainGlobals "is_integer" = some (some (.ref f0))) (l0 : K.lookup f0 = some ⟨oc0, od0, .func (PySem.W.fnOf "is_integer" "is_integer" (defArgs s_is_integer) (defBody s_is_integer) (defScope s_is_integer) .none kV0 dc0 pm0 an0 cd0 ct0), sl0⟩) (c0 : PySem.W.codeIn K cd0 "is_integer" = true) (k0 : PySem.W.keepIn K (.ref f0) = true)
    (a1 : PySem.W.nsIn K mainGlobals "is_field" = some (some (.ref f1))) (l1 : K.lookup f1 = some ⟨oc1, od1, .func (PySem.W.fnOf "is_field" "is_field" (defArgs s_is_field) (defBody s_is_field) (defScope s_is_field) .none kV1 dc1 pm1 an1 cd1 ct1), sl1⟩) (c1 : PySem.W.codeIn K cd1 "is_field" = true) (k1 : PySem.W.keepIn K (.ref f1) = true)
    (a2 : PySem.W.nsIn K mainGlobals "element" = some (some (.ref f2))) (l2 : K.lookup f2 = some ⟨oc2, od2, .func (PySem.W.fnOf "element" "element" (defArgs s_element) (defBody s_element) (defScope s_element) .none kV2 dc2 pm2 an2 cd2 ct2), sl2⟩) (c2 : PySem.W.codeIn K cd2 "element" = true) (k2 : PySem.W.keepIn K (.ref f2) = true)
    (a3 : PySem.W.nsIn K mainGlobals "inverse" = some (some (.ref f3))) (l3 : K.lookup f3 = some ⟨oc3, od3, .func (PySem.W.fnOf "inverse" "inverse" (defArgs s_inverse) (defBody s_inverse) (defScope s_inverse) .none kV3 dc3 pm3 an3 cd3 ct3), sl3⟩) (c3 : PySem.W.codeIn K cd3 "inverse" = true) (k3 : PySem.W.keepIn K (.ref f3) = true)
    (a4 : PySem.W.nsIn K mainGlobals "_law_draw" = some (some (.ref f4))) (l4 : K.lookup f4 = some ⟨oc4, od4, .func (PySem.W.fnOf "_law_draw" "_law_draw" (defArgs s_law_draw) (defBody s_law_draw) (defScope s_law_draw) .none kV4 dc4 pm4 an4 cd4 ct4), sl4⟩) (c4 : PySem.W.codeIn K cd4 "_law_draw" = true) (k4 : PySem.W.keepIn K (.ref f4) = true)
    (a5 : PySem.W.nsIn K mainGlobals "_law_any" = some (some (.ref f5))) (l5 : K.lookup f5 = some ⟨oc5, od5, .func (PySem.W.fnOf "_law_any" "_law_any" (defArgs s_law_any) (defBody s_law_any) (defScope s_law_any) .none kV5 dc5 pm5 an5 cd5 ct5), sl5⟩) (c5 : PySem.W.codeIn K cd5 "_law_any" = true) (k5 : PySem.W.keepIn K (.ref f5) = true)
    (a6 : PySem.W.nsIn K mainGlobals "_law_of" = some (some (.ref f6))) (l6 : K.lookup f6 = some ⟨oc6, od6, .func (PySem.W.fnOf "_law_of" "_law_of" (defArgs s_law_of) (defBody s_law_of) (defScope s_law_of) .none kV6 dc6 pm6 an6 cd6 ct6), sl6⟩) (c6 : PySem.W.codeIn K cd6 "_law_of" = true) (k6 : PySem.W.keepIn K (.ref f6) = true)
    (a7 : PySem.W.nsIn K mainGlobals "law" = some (some (.ref f7))) (l7 : K.lookup f7 = some ⟨oc7, od7, .func (PySem.W.fnOf "law" "law" (defArgs s_law) (defBody s_law) (defScope s_law) .none kV7 dc7 pm7 an7 cd7 ct7), sl7⟩) (c7 : PySem.W.codeIn K cd7 "law" = true) (k7 : PySem.W.keepIn K (.ref f7) = true)
    (z_isinstance : PySem.W.nsIn K mainGlobals "isinstance" = some none)
    (z_int : PySem.W.nsIn K mainGlobals "int" = some none)
    (z_bool : PySem.W.nsIn K mainGlobals "bool" = some none)
    (z_all : PySem.W.nsIn K mainGlobals "all" = some none)
    (z_range : PySem.W.nsIn K mainGlobals "range" = some none)
    (z_abs : PySem.W.nsIn K mainGlobals "abs" = some none)
    (z_len : PySem.W.nsIn K mainGlobals "len" = some none)
    (z_repr : PySem.W.nsIn K mainGlobals "repr" = some none)
    (g_GREATEST_FIELD : PySem.W.nsIn K mainGlobals "GREATEST_FIELD" = some (some (.int 101 t_GREATEST_FIELD)))
    : ∃ fd : FuncData, (∀ (s : Shared) (v : Value), BindsTo s fd ⟨[v], []⟩ [("script", v)]) ∧ ∀ base : Heap, K.In base → base.Ns mainGlobals mg → FnOk l.prog w K mg base CX0 3 fa fd ["script"] (spD K g_law) := by
  have e := hfa.symm.trans (PySem.W.mg_of X G a7)
  cases e
  have F0 := fun_mk (st := s_is_integer) l0 c0 k0
  have b0 := F0.binds (ps := ["value"]) fun _ _ _ _ _ _ us hl => match us, hl with | [_], _ => rfl
  have m0 := PySem.W.mg_of X G a0
  have F1 := fun_mk (st := s_is_field) l1 c1 k1
  have b1 := F1.binds (ps := ["value"]) fun _ _ _ _ _ _ us hl => match us, hl with | [_], _ => rfl
  have m1 := PySem.W.mg_of X G a1
  have F2 := fun_mk (st := s_element) l2 c2 k2
  have b2 := F2.binds (ps := ["p", "number"]) fun _ _ _ _ _ _ us hl => match us, hl with | [_, _], _ => rfl
  have m2 := PySem.W.mg_of X G a2
  have F3 := fun_mk (st := s_inverse) l3 c3 k3
  have b3 := F3.binds (ps := ["p", "one"]) fun _ _ _ _ _ _ us hl => match us, hl with | [_, _], _ => rfl
  have m3 := PySem.W.mg_of X G a3
  have F4 := fun_mk (st := s_law_draw) l4 c4 k4
  have b4 := F4.binds (ps := ["script", "salt"]) fun _ _ _ _ _ _ us hl => match us, hl with | [_, _], _ => rfl
  have m4 := PySem.W.mg_of X G a4
  have F5 := fun_mk (st := s_law_any) l5 c5 k5
  have b5 := F5.binds (ps := ["deal", "bound"]) fun _ _ _ _ _ _ us hl => match us, hl with | [_, _], _ => rfl
  have m5 := PySem.W.mg_of X G a5
  have F6 := fun_mk (st := s_law_of) l6 c6 k6
  have b6 := F6.binds (ps := ["deal", "some"]) fun _ _ _ _ _ _ us hl => match us, hl with | [_, _], _ => rfl
  have m6 := PySem.W.mg_of X G a6
  have F7 := fun_mk (st := s_law) l7 c7 k7
  refine ⟨PySem.W.fnOf "law" "law" (defArgs s_law) (defBody s_law) (defScope s_law) .none kV7 dc7 pm7 an7 cd7 ct7, fun s v => .of_eq rfl, fun base _ _ => ?_⟩
  have T1' : T1 K mg := { b_isinstance := PySem.W.mg_none_of X G z_isinstance, b_int := PySem.W.mg_none_of X G z_int, b_bool := PySem.W.mg_none_of X G z_bool, b_all := PySem.W.mg_none_of X G z_all, b_range := PySem.W.mg_none_of X G z_range, b_abs := PySem.W.mg_none_of X G z_abs, b_len := PySem.W.mg_none_of X G z_len, b_repr := PySem.W.mg_none_of X G z_repr, c_GREATEST_FIELD := ⟨_, PySem.W.mg_of X G g_GREATEST_FIELD, _, rfl⟩, i_int := i_int, i_bool := i_bool }
  have o0 : FnOk l.prog w K mg base CX0 1 f0 _ ["value"] (spD K g_is_integer) := ok_is_integer F0 T1'
  have o5 : FnOk l.prog w K mg base CX0 1 f5 _ ["deal", "bound"] (spW K g_any) := ok_law_any F5 T1'
  have T2' : T2 l.prog w K mg base := { toT1 := T1', d_is_integer := cal_of o0 m0 F0.kp b0, d_law_any := cal_of o5 m5 F5.kp b5 }
  have o1 : FnOk l.prog w K mg base CX0 2 f1 _ ["value"] (spD K g_is_field) := ok_is_field F1 T2'
  have o2 : FnOk l.prog w K mg base CX0 1 f2 _ ["p", "number"] (spD K g_element) := ok_element F2 T1'
  have o3 : FnOk l.prog w K mg base CX0 1 f3 _ ["p", "one"] (spD K g_inverse) := ok_inverse F3 T1'
  have o4 : FnOk l.prog w K mg base CX0 1 f4 _ ["script", "salt"] (spM K g_draw) := ok_law_draw F4 T2'
  have o6 : FnOk l.prog w K mg base CX0 2 f6 _ ["deal", "some"] (spW K g_of) := ok_law_of F6 T2'
  have kb1 := kb_mk (n := 0) (m := 1) (o := [0]) (ps := ["value"]) (ks := ["value"]) F1 (by decide) fun _ _ _ _ _ _ us ws hu hw => match us, ws, hu, hw with | [], [_], _, _ => rfl
  have kb2 := kb_mk (n := 0) (m := 2) (o := [1, 0]) (ps := ["p", "number"]) (ks := ["number", "p"]) F2 (by decide) fun _ _ _ _ _ _ us ws hu hw => match us, ws, hu, hw with | [], [_, _], _, _ => rfl
  have kb3 := kb_mk (n := 0) (m := 2) (o := [1, 0]) (ps := ["p", "one"]) (ks := ["one", "p"]) F3 (by decide) fun _ _ _ _ _ _ us ws hu hw => match us, ws, hu, hw with | [], [_, _], _, _ => rfl
  exact ok_law F7 { toT2 := T2', d_law_draw := cal_of o4 m4 F4.kp b4, d_law_of := cal_of o6 m6 F6.kp b6, d_is_field := cal_of o1 m1 F1.kp b1, k_is_field := calK_of o1 m1 F1.kp kb1, d_element := cal_of o2 m2 F2.kp b2, k_element := calK_of o2 m2 F2.kp kb2, k_inverse := calK_of o3 m3 F3.kp kb3 }
end K01
open PySem PySem.W PyProof.Rows
set_option maxRecDepth 100000 in
set_option maxHeartbeats 0 in
theorem PySem.Challenge.cw_listpicks_k01_fields_and_elements_holds : PySem.Challenge.rw_listpicks_k01_fields_and_elements.Holds := by
  w_on; o_law; k_head; (case hw => w_witness2)
  k_fill
  refine L2.walk_of (l := PySem.Challenge.rw_listpicks_k01_fields_and_elements) (n := 63) (k := 3) (x := "script") (CX := fun _ => L2.CX0) (sp := fun w => LD.spD _ K01.g_law) rfl (by decide) rfl ⟨rfl, by decide, by decide⟩ (fun w h Y => PySem.W.kIn_of Y) ?F (fun w H a ns hl _ hS => ⟨H, [.list (ns.map PyData.int)], L2.Same.refl _, .cons (.lst hS (LD.dpAll_ints ns)) .nil, ns, rfl, hl, fun v H2 Hi _ _ _ _ hv => by cases hv; rfl⟩) (fun _ _ _ _ _ h => h)
  case F =>
    intro w mg fa h KX G hmg
    refine' K01.all_mk KX G hmg ?a0 ?l0 ?c0 ?k0 ?a1 ?l1 ?c1 ?k1 ?a2 ?l2 ?c2 ?k2 ?a3 ?l3 ?c3 ?k3 ?a4 ?l4 ?c4 ?k4 ?a5 ?l5 ?c5 ?k5 ?a6 ?l6 ?c6 ?k6 ?a7 ?l7 ?c7 ?k7 ?z_isinstance ?z_int ?z_bool ?z_all ?z_range ?z_abs ?z_len ?z_repr ?g_GREATEST_FIELD
    (case a0 => k_is)
    (case l0 => k_is)
    (case c0 => k_is)
    (case k0 => k_is)
    (case a1 => k_is)
    (case l1 => k_is)
    (case c1 => k_is)
    (case k1 => k_is)
    (case a2 => k_is)
    (case l2 => k_is)
    (case c2 => k_is)
    (case k2 => k_is)
    (case a3 => k_is)
    (case l3 => k_is)
    (case c3 => k_is)
    (case k3 => k_is)
    (case a4 => k_is)
    (case l4 => k_is)
    (case c4 => k_is)
    (case k4 => k_is)
    (case a5 => k_is)
    (case l5 => k_is)
    (case c5 => k_is)
    (case k5 => k_is)
    (case a6 => k_is)
    (case l6 => k_is)
    (case c6 => k_is)
    (case k6 => k_is)
    (case a7 => k_is)
    (case l7 => k_is)
    (case c7 => k_is)
    (case k7 => k_is)
    (case z_isinstance => k_is)
    (case z_int => k_is)
    (case z_bool => k_is)
    (case z_all => k_is)
    (case z_range => k_is)
    (case z_abs => k_is)
    (case z_len => k_is)
    (case z_repr => k_is)
    (case g_GREATEST_FIELD => k_is)
