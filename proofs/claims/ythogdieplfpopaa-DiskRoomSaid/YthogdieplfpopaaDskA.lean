/-
  What is proved here: plain words: a disk as lists (the reference's reading), what each call makes of it; what was made sure stays. · plain words: as long as nothing is removed, and nothing renamed, all files together have no more bytes than there is room for, behind any crash. · plain words: the power goes off at just the operation that was said; a file that is renamed is what it was.
  Conditions: as they say.
-/
import Derived.Test.YthogdieplfpopaaBase
namespace Go.Proofs.Ythogdieplfpopaa
open Go.RowKit
set_option linter.unusedVariables false
set_option linter.unusedSimpArgs false

/-- A name that stands for the file of a number. -/
structure Dn where
  n : ByteArray
  f : Nat
/-- A pending operation: kind 1 a write, 2 a making, 3 a renaming, 4 a removing. -/
structure Do where
  k : Nat
  f : Nat
  p : Nat
  b : List Int
  fr : ByteArray
  to : ByteArray
/-- A disk. -/
structure Dk where
  room : Int
  is : List (List Int)
  su : List (List Int)
  l : List Dn
  s : List Dn
  wait : List Do
  off : Bool
  cut : Int
def dk0 (room : Int) : Dk := ⟨if room < 0 then 0 else room, [], [], [], [], [], false, 0⟩
def findD : List Dn → ByteArray → Option Nat
  | [], _ => none
  | d :: r, x => if d.n = x then some d.f else findD r x
def withoutD (l : List Dn) (x : ByteArray) : List Dn := l.filter fun d => decide (d.n ≠ x)
def withD (l : List Dn) (x : ByteArray) (f : Nat) : List Dn := withoutD l x ++ [⟨x, f⟩]
def namesD (l : List Dn) (o : Do) : List Dn :=
  if o.k = 2 then withD l o.to o.f
  else if o.k = 4 then withoutD l o.fr
  else match findD l o.fr with
    | none => l
    | some f => withD (withoutD l o.fr) o.to f
def laidD (s : List Int) (p : Nat) (b : List Int) : List Int := (s ++ List.replicate (p - s.length) 0).take p ++ (b ++ s.drop (p + b.length))
def sizesD (is : List (List Int)) : List Dn → Int
  | [] => 0
  | d :: r => (is.getD d.f []).length + sizesD is r
def usedD (d : Dk) : Int := sizesD d.is d.l
def waitD (d : Dk) (o : Do) : Dk :=
  if o.k = 1 then { d with wait := d.wait ++ [o], is := d.is.set o.f (laidD (d.is.getD o.f []) o.p o.b) }
  else { d with wait := d.wait ++ [o], l := namesD d.l o }
/-- What is pending, and chosen, is done to what is sure. -/
def settleD (c : Nat → Do → Bool) : Nat → List Do → Dk → Dk
  | _, [], d => d
  | i, o :: r, d =>
    if c i o = true then
      (if o.k = 1 then settleD c (i + 1) r { d with su := d.su.set o.f (laidD (d.su.getD o.f []) o.p o.b) }
       else settleD c (i + 1) r { d with s := namesD d.s o })
    else settleD c (i + 1) r { d with wait := d.wait ++ [o] }
def settledD (d : Dk) (c : Nat → Do → Bool) : Dk := settleD c 0 d.wait { d with wait := [] }
/-- The operation at which the power goes? -/
def powerD (d : Dk) : Dk := if d.cut = 0 then d else { d with cut := d.cut - 1, off := decide (d.cut - 1 = 0) }
def lostD (d : Dk) : Bool := decide (d.cut ≠ 0) && decide (d.cut - 1 = 0)
def errD (d : Dk) (k : Nat) (a b : ByteArray) (p : Int) (body : List Int) : Int :=
  if d.off = true then 23
  else if k = 1 then (if a = .empty then 1 else if (findD d.l a).isSome = true then 21 else 0)
  else if k = 2 then (match findD d.l a with
    | none => 20
    | some f => if p < 0 ∨ ((d.is.getD f []).length : Int) < p then 1
      else if ((d.is.getD f []).length : Int) < p + body.length ∧ d.room - usedD d < p + body.length - (d.is.getD f []).length then 22 else 0)
  else if k = 3 ∨ k = 5 then (if (findD d.l a).isSome = true then 0 else 20)
  else if k = 4 then (if (findD d.l a).isSome = true then (if b = .empty then 1 else 0) else 20)
  else 0
def doneD (d : Dk) (k : Nat) (a b : ByteArray) (p : Nat) (body : List Int) : Dk :=
  if k = 1 then waitD { d with is := d.is ++ [[]], su := d.su ++ [[]] } ⟨2, d.is.length, 0, [], .empty, a⟩
  else if k = 2 then waitD d ⟨1, (findD d.l a).getD 0, p, body, .empty, .empty⟩
  else if k = 3 then settledD d (fun _ o => decide (o.k = 1) && decide (o.f = (findD d.l a).getD 0))
  else if k = 4 then waitD d ⟨3, 0, 0, [], a, b⟩
  else if k = 5 then waitD d ⟨4, 0, 0, [], a, .empty⟩
  else settledD d (fun _ o => decide (o.k ≠ 1))
def doD (d : Dk) (k : Nat) (a b : ByteArray) (p : Int) (body : List Int) : Dk × Int :=
  if errD d k a b p body ≠ 0 then (d, errD d k a b p body)
  else if lostD d = true then (powerD d, 23)
  else (doneD (powerD d) k a b p.toNat body, 0)
def cutD (d : Dk) (n : Int) : Dk := if d.off = true then d else { d with cut := if 0 < n then n else 0 }
def crashD (d : Dk) (keep : List Bool) : Dk :=
  let e := settledD d (fun i _ => keep.getD i false)
  { e with wait := [], off := false, cut := 0, l := e.s, is := e.su }
def readD (d : Dk) (x : ByteArray) : List Int × Int :=
  if d.off = true then ([], 23) else match findD d.l x with
    | none => ([], 20)
    | some f => (d.is.getD f [], 0)
/-! ### names -/
theorem find_cons {d : Dn} {r : List Dn} {x : ByteArray} : findD (d :: r) x = if d.n = x then some d.f else findD r x := by rw [findD]
theorem find_without {l : List Dn} {x y : ByteArray} : findD (withoutD l x) y = if y = x then none else findD l y := by
  unfold withoutD
  induction l with
  | nil => simp [findD]
  | cons d r ih =>
    by_cases h : d.n = x
    · rw [List.filter_cons_of_neg (by simp [h]), ih]
      by_cases e : y = x
      · rw [if_pos e, if_pos e]
      · rw [if_neg e, if_neg e, find_cons, if_neg (fun e2 => e (by rw [← e2, h]))]
    · rw [List.filter_cons_of_pos (by simp [h]), find_cons, find_cons, ih]
      by_cases e : d.n = y
      · rw [if_pos e, if_pos e, if_neg (fun e2 => h (by rw [e, e2]))]
      · rw [if_neg e, if_neg e]
theorem find_app {l r : List Dn} {x : ByteArray} : findD (l ++ r) x = match findD l x with
    | none => findD r x
    | some f => some f := by
  induction l with
  | nil => rfl
  | cons d l ih =>
    rw [List.cons_append, find_cons, find_cons]
    by_cases h : d.n = x
    · rw [if_pos h, if_pos h]
    · rw [if_neg h, if_neg h]; exact ih
theorem find_with {l : List Dn} {x y : ByteArray} {f : Nat} : findD (withD l x f) y = if y = x then some f else findD l y := by
  unfold withD
  rw [find_app, find_without]
  by_cases e : y = x
  · rw [if_pos e, if_pos e, e]; simp [findD]
  · rw [if_neg e, if_neg e]
    have : ¬ x = y := fun h => e h.symm
    cases findD l y <;> simp [findD, this]
/-! ### what was made sure -/
/-- The name x stands for file g, no other one does, in a list. -/
def Holds (l : List Dn) (x : ByteArray) (g : Nat) : Prop := findD l x = some g ∧ ∀ y, y ≠ x → findD l y ≠ some g
/-- An operation that leaves name x and file g alone. -/
def Aside (o : Do) (x : ByteArray) (g : Nat) : Prop := (o.k = 1 → o.f ≠ g) ∧ (o.k ≠ 1 → o.fr ≠ x ∧ o.to ≠ x) ∧ (o.k = 2 → o.f ≠ g)
theorem Holds.names {l : List Dn} {x : ByteArray} {g : Nat} {o : Do} (h : Holds l x g) (ha : Aside o x g) (hk : o.k ≠ 1) : Holds (namesD l o) x g := by
  obtain ⟨h1, h2⟩ := h
  obtain ⟨a1, a2, a3⟩ := ha
  obtain ⟨b1, b2⟩ := a2 hk
  unfold namesD
  by_cases e2 : o.k = 2
  · rw [if_pos e2]
    refine ⟨by rw [find_with, if_neg (fun e => b2 e.symm)]; exact h1, fun y hy => ?_⟩
    rw [find_with]
    by_cases e : y = o.to
    · rw [if_pos e]; intro e3; injection e3 with e3; exact a3 e2 e3
    · rw [if_neg e]; exact h2 y hy
  rw [if_neg e2]
  by_cases e4 : o.k = 4
  · rw [if_pos e4]
    refine ⟨by rw [find_without, if_neg (fun e => b1 e.symm)]; exact h1, fun y hy => ?_⟩
    rw [find_without]
    by_cases e : y = o.fr
    · rw [if_pos e]; intro e3; cases e3
    · rw [if_neg e]; exact h2 y hy
  rw [if_neg e4]
  cases hf : findD l o.fr with
  | none => exact ⟨h1, h2⟩
  | some f =>
    have hfg : f ≠ g := fun e => h2 o.fr b1 (by rw [hf, e])
    refine ⟨by rw [find_with, if_neg (fun e => b2 e.symm), find_without, if_neg (fun e => b1 e.symm)]; exact h1, fun y hy => ?_⟩
    rw [find_with]
    by_cases e : y = o.to
    · rw [if_pos e]; intro e3; injection e3 with e3; exact hfg e3
    · rw [if_neg e, find_without]
      by_cases e5 : y = o.fr
      · rw [if_pos e5]; intro e3; cases e3
      · rw [if_neg e5]; exact h2 y hy
/-- A disk on which the bytes zs are sure under a name. -/
structure SureD (d : Dk) (x : ByteArray) (g : Nat) (zs : List Int) : Prop where
  il : Holds d.l x g
  isl : Holds d.s x g
  ii : d.is.getD g [] = zs
  isu : d.su.getD g [] = zs
  gi : g < d.is.length
  len : d.is.length = d.su.length
  wait : ∀ o ∈ d.wait, Aside o x g
theorem set_other {α : Type} {l : List (List α)} {i g : Nat} {v : List α} (h : i ≠ g) : (l.set i v).getD g [] = l.getD g [] := by
  rw [List.getD_eq_getElem?_getD, List.getD_eq_getElem?_getD, List.getElem?_set_ne h]
theorem SureD.settle {x : ByteArray} {g : Nat} {zs : List Int} {c : Nat → Do → Bool} : ∀ (w : List Do) (i : Nat) (d : Dk), SureD d x g zs → (∀ o ∈ w, Aside o x g) → SureD (settleD c i w d) x g zs
  | [], _, _, h, _ => h
  | o :: r, i, d, h, hw => by
    have ho := hw o (List.mem_cons_self ..)
    have hr : ∀ p ∈ r, Aside p x g := fun p hp => hw p (List.mem_cons_of_mem _ hp)
    unfold settleD
    by_cases hc : c i o = true
    · rw [if_pos hc]
      by_cases hk : o.k = 1
      · rw [if_pos hk]
        exact SureD.settle r (i + 1) _ ⟨h.il, h.isl, h.ii, by rw [set_other (ho.1 hk)]; exact h.isu, h.gi, by simp only [List.length_set]; exact h.len, h.wait⟩ hr
      · rw [if_neg hk]
        exact SureD.settle r (i + 1) _ ⟨h.il, h.isl.names ho hk, h.ii, h.isu, h.gi, h.len, h.wait⟩ hr
    · rw [if_neg hc]
      refine SureD.settle r (i + 1) _ ⟨h.il, h.isl, h.ii, h.isu, h.gi, h.len, fun p hp => ?_⟩ hr
      rcases List.mem_append.1 hp with hp | hp
      · exact h.wait p hp
      · rw [List.mem_singleton.1 hp]; exact ho
theorem SureD.settled {d : Dk} {x : ByteArray} {g : Nat} {zs : List Int} (h : SureD d x g zs) (c : Nat → Do → Bool) : SureD (settledD d c) x g zs :=
  SureD.settle d.wait 0 _ ⟨h.il, h.isl, h.ii, h.isu, h.gi, h.len, fun o ho => by cases ho⟩ h.wait
theorem SureD.waits {d : Dk} {x : ByteArray} {g : Nat} {zs : List Int} {o : Do} (h : SureD d x g zs) (ha : Aside o x g) : SureD (waitD d o) x g zs := by
  have hw : ∀ p ∈ d.wait ++ [o], Aside p x g := fun p hp => by
    rcases List.mem_append.1 hp with hp | hp
    · exact h.wait p hp
    · rw [List.mem_singleton.1 hp]; exact ha
  unfold waitD
  by_cases hk : o.k = 1
  · rw [if_pos hk]
    exact ⟨h.il, h.isl, by rw [set_other (ha.1 hk)]; exact h.ii, h.isu, by simp only [List.length_set]; exact h.gi, by simp only [List.length_set]; exact h.len, hw⟩
  · rw [if_neg hk]
    exact ⟨h.il.names ha hk, h.isl, h.ii, h.isu, h.gi, h.len, hw⟩
theorem SureD.power {d : Dk} {x : ByteArray} {g : Nat} {zs : List Int} (h : SureD d x g zs) : SureD (powerD d) x g zs := by
  unfold powerD
  split
  · exact h
  · exact ⟨h.il, h.isl, h.ii, h.isu, h.gi, h.len, h.wait⟩
theorem SureD.done {d : Dk} {x : ByteArray} {g : Nat} {zs : List Int} (h : SureD d x g zs) {k : Nat} {a b : ByteArray} {p : Nat} {body : List Int} (ha : a ≠ x) (hb : b ≠ x) (hx : x ≠ .empty) (hf : k = 2 → (findD d.l a).isSome = true) : SureD (doneD d k a b p body) x g zs := by
  unfold doneD
  by_cases e1 : k = 1
  · rw [if_pos e1]
    have h9 : SureD { d with is := d.is ++ [[]], su := d.su ++ [[]] } x g zs := by
      have hg := h.gi
      have hl := h.len
      refine ⟨h.il, h.isl, ?_, ?_, by simp only [List.length_append, List.length_singleton]; omega, by simp only [List.length_append, List.length_singleton]; omega, h.wait⟩
      · rw [List.getD_eq_getElem?_getD, List.getElem?_append_left hg, ← List.getD_eq_getElem?_getD]; exact h.ii
      · rw [List.getD_eq_getElem?_getD, List.getElem?_append_left (by omega), ← List.getD_eq_getElem?_getD]; exact h.isu
    exact h9.waits ⟨fun e => (by cases e), fun _ => ⟨hx.symm, ha⟩, fun _ => by have := h.gi; show d.is.length ≠ g; omega⟩
  rw [if_neg e1]
  by_cases e2 : k = 2
  · rw [if_pos e2]
    refine h.waits ⟨fun _ => ?_, fun e => absurd rfl e, fun e => (by cases e)⟩
    obtain ⟨f, hf'⟩ := Option.isSome_iff_exists.1 (hf e2)
    show (findD d.l a).getD 0 ≠ g
    rw [hf']
    intro e
    exact h.il.2 a ha (by rw [hf']; simpa using e)
  rw [if_neg e2]
  by_cases e3 : k = 3
  · rw [if_pos e3]; exact h.settled _
  rw [if_neg e3]
  by_cases e4 : k = 4
  · rw [if_pos e4]
    exact h.waits ⟨fun e => (by cases e), fun _ => ⟨ha, hb⟩, fun e => (by cases e)⟩
  rw [if_neg e4]
  by_cases e5 : k = 5
  · rw [if_pos e5]
    exact h.waits ⟨fun e => (by cases e), fun _ => ⟨ha, hx.symm⟩, fun e => (by cases e)⟩
  rw [if_neg e5]
  exact h.settled _
theorem power_l (d : Dk) : (powerD d).l = d.l := by unfold powerD; split <;> rfl
/-- Whatever is done to other names, what was made sure stays. -/
theorem SureD.does {d : Dk} {x : ByteArray} {g : Nat} {zs : List Int} (h : SureD d x g zs) (k : Nat) {a b : ByteArray} (p : Int) (body : List Int) (ha : a ≠ x) (hb : b ≠ x) (hx : x ≠ .empty) : SureD (doD d k a b p body).1 x g zs := by
  unfold doD
  by_cases h1 : errD d k a b p body ≠ 0
  · rw [if_pos h1]; exact h
  rw [if_neg h1]
  by_cases h2 : lostD d = true
  · rw [if_pos h2]; exact h.power
  rw [if_neg h2]
  refine h.power.done ha hb hx (fun e => ?_)
  rw [power_l]
  have h0 : errD d k a b p body = 0 := by omega
  unfold errD at h0
  by_cases h3 : d.off = true
  · rw [if_pos h3] at h0; cases h0
  rw [if_neg h3, if_neg (by omega), if_pos e] at h0
  cases hf : findD d.l a with
  | none => rw [hf] at h0; cases h0
  | some f => rfl
theorem SureD.cuts {d : Dk} {x : ByteArray} {g : Nat} {zs : List Int} (h : SureD d x g zs) (n : Int) : SureD (cutD d n) x g zs := by
  unfold cutD
  split
  · exact h
  · exact ⟨h.il, h.isl, h.ii, h.isu, h.gi, h.len, h.wait⟩
theorem SureD.crash {d : Dk} {x : ByteArray} {g : Nat} {zs : List Int} (h : SureD d x g zs) (keep : List Bool) : SureD (crashD d keep) x g zs := by
  have h2 := h.settled (fun i _ => keep.getD i false)
  unfold crashD
  exact ⟨h2.isl, h2.isl, h2.isu, h2.isu, by have := h2.gi; have := h2.len; show g < (settledD d _).su.length; omega, rfl, fun o ho => by cases ho⟩
theorem SureD.read {d : Dk} {x : ByteArray} {g : Nat} {zs : List Int} (h : SureD d x g zs) (ho : d.off = false) : readD d x = (zs, 0) := by
  unfold readD
  rw [if_neg (by rw [ho]; decide), h.il.1]
  simp only
  rw [h.ii]
end Go.Proofs.Ythogdieplfpopaa
namespace Go.Proofs.Ythogdieplfpopaa
open Go.RowKit
set_option linter.unusedVariables false
set_option linter.unusedSimpArgs false

theorem laid_lenR (s : List Int) (p : Nat) (b : List Int) : (laidD s p b).length = max (max s.length p) (p + b.length) := by
  unfold laidD
  simp only [List.length_append, List.length_take, List.length_drop, List.length_replicate]
  omega
/-- The names that are pending to be made, in their order. -/
def makesD (w : List Do) : List Dn := (w.filter fun o => decide (o.k ≠ 1)).map fun o => ⟨o.to, o.f⟩
/-- A disk of which nothing was removed or renamed since the last crash. -/
structure RoomD (d : Dk) : Prop where
  kinds : ∀ o ∈ d.wait, o.k = 1 ∨ o.k = 2
  names : d.l = d.s ++ makesD d.wait
  nodup : (d.l.map (·.n)).Nodup
  fnod : (d.l.map (·.f)).Nodup
  lt : ∀ q ∈ d.l, q.f < d.is.length
  len : d.is.length = d.su.length
  le : ∀ f, (d.su.getD f []).length ≤ (d.is.getD f []).length
  wr : ∀ o ∈ d.wait, o.k = 1 → o.p + o.b.length ≤ (d.is.getD o.f []).length ∧ o.p ≤ (d.is.getD o.f []).length
  used : usedD d ≤ d.room
  r0 : 0 ≤ d.room
theorem sizes_app (is : List (List Int)) : ∀ l r : List Dn, sizesD is (l ++ r) = sizesD is l + sizesD is r
  | [], r => by simp [sizesD]
  | d :: l, r => by
    rw [List.cons_append, sizesD, sizesD, sizes_app is l r]; omega
theorem sizes_nonneg (is : List (List Int)) : ∀ l : List Dn, 0 ≤ sizesD is l
  | [] => by simp [sizesD]
  | d :: l => by
    have := sizes_nonneg is l
    rw [sizesD]; omega
theorem sizes_mono {is js : List (List Int)} : ∀ (l : List Dn), (∀ q ∈ l, (is.getD q.f []).length ≤ (js.getD q.f []).length) → sizesD is l ≤ sizesD js l
  | [], _ => by simp [sizesD]
  | d :: l, h => by
    have h1 := h d (List.mem_cons_self ..)
    have h2 := sizes_mono l (fun q hq => h q (List.mem_cons_of_mem _ hq))
    rw [sizesD, sizesD]; omega
theorem sizes_sub (is : List (List Int)) {l r : List Dn} (h : l.Sublist r) : sizesD is l ≤ sizesD is r := by
  induction h with
  | slnil => exact Int.le_refl _
  | cons a _ ih => rw [sizesD]; omega
  | cons_cons a _ ih => rw [sizesD, sizesD]; omega
theorem without_none {l : List Dn} {x : ByteArray} (h : x ∉ l.map (·.n)) : withoutD l x = l := by
  unfold withoutD
  rw [List.filter_eq_self]
  intro d hd
  rw [decide_eq_true_eq]
  intro e
  exact h (List.mem_map.2 ⟨d, hd, e⟩)
/-- What a crash makes of names and bytes, if only makings and writes are pending. -/
theorem settle_room {c : Nat → Do → Bool} : ∀ (w : List Do) (i : Nat) (d : Dk) (J : List (List Int)) (L : List Dn), (∀ o ∈ w, o.k = 1 ∨ o.k = 2) → ((d.s ++ makesD w).map (·.n)).Nodup → (d.s ++ makesD w).Sublist L →
    (∀ f, (d.su.getD f []).length ≤ (J.getD f []).length) → (∀ o ∈ w, o.k = 1 → o.p + o.b.length ≤ (J.getD o.f []).length ∧ o.p ≤ (J.getD o.f []).length) →
    (settleD c i w d).s.Sublist L ∧ (∀ f, ((settleD c i w d).su.getD f []).length ≤ (J.getD f []).length) ∧ (settleD c i w d).su.length = d.su.length ∧ (settleD c i w d).room = d.room
  | [], i, d, J, L, _, _, hs, hl, _ => ⟨by rw [show makesD [] = [] from rfl, List.append_nil] at hs; exact hs, hl, rfl, rfl⟩
  | o :: r, i, d, J, L, hk, hn, hs, hl, hw => by
    have hk' : ∀ q ∈ r, q.k = 1 ∨ q.k = 2 := fun q hq => hk q (List.mem_cons_of_mem _ hq)
    have hw' : ∀ q ∈ r, q.k = 1 → q.p + q.b.length ≤ (J.getD q.f []).length ∧ q.p ≤ (J.getD q.f []).length := fun q hq => hw q (List.mem_cons_of_mem _ hq)
    unfold settleD
    rcases hk o (List.mem_cons_self ..) with e1 | e2
    · have hm : makesD (o :: r) = makesD r := by unfold makesD; rw [List.filter_cons_of_neg (by simp [e1])]
      rw [hm] at hn hs
      by_cases hc : c i o = true
      · rw [if_pos hc, if_pos e1]
        have := settle_room (c := c) r (i + 1) { d with su := d.su.set o.f (laidD (d.su.getD o.f []) o.p o.b) } J L hk' hn hs (fun f => by
          by_cases e : o.f = f
          · subst e
            obtain ⟨w1, w2⟩ := hw o (List.mem_cons_self ..) e1
            have h3 := hl o.f
            simp only
            by_cases hlt : o.f < d.su.length
            · rw [List.getD_eq_getElem?_getD, List.getElem?_set_self hlt, Option.getD_some, laid_lenR]; omega
            · rw [List.getD_eq_getElem?_getD, List.getElem?_eq_none (by rw [List.length_set]; omega)]; simp
          · simp only
            rw [set_other e]; exact hl f) hw'
        obtain ⟨a, b, q, r9⟩ := this
        exact ⟨a, b, by rw [q]; simp only [List.length_set], r9⟩
      · rw [if_neg hc]
        exact settle_room (c := c) r (i + 1) { d with wait := d.wait ++ [o] } J L hk' hn hs hl hw'
    · have hm : makesD (o :: r) = ⟨o.to, o.f⟩ :: makesD r := by unfold makesD; rw [List.filter_cons_of_pos (by simp [e2])]; rfl
      rw [hm] at hn hs
      have hns : o.to ∉ d.s.map (·.n) := by
        rw [List.map_append, List.map_cons] at hn
        have h8 := (List.nodup_append.1 hn).2.2
        intro hx
        exact h8 o.to hx o.to (List.mem_cons_self ..) rfl
      by_cases hc : c i o = true
      · rw [if_pos hc, if_neg (by omega)]
        have hnd : namesD d.s o = d.s ++ [⟨o.to, o.f⟩] := by
          unfold namesD
          rw [if_pos e2]
          unfold withD
          rw [without_none hns]
        exact settle_room (c := c) r (i + 1) { d with s := namesD d.s o } J L hk' (by simp only [hnd, List.append_assoc, List.singleton_append]; exact hn) (by simp only [hnd, List.append_assoc, List.singleton_append]; exact hs) hl hw'
      · rw [if_neg hc]
        have hsub : (d.s ++ makesD r).Sublist (d.s ++ ⟨o.to, o.f⟩ :: makesD r) := (List.Sublist.refl _).append (List.sublist_cons_self _ _)
        exact settle_room (c := c) r (i + 1) { d with wait := d.wait ++ [o] } J L hk' ((hsub.map _).nodup hn) (hsub.trans hs) hl hw'
theorem RoomD.crash {d : Dk} (h : RoomD d) (keep : List Bool) : RoomD (crashD d keep) ∧ (crashD d keep).room = d.room := by
  have hsub : (d.s ++ makesD d.wait).Sublist d.l := by rw [h.names]; exact List.Sublist.refl _
  obtain ⟨a, b, q, r⟩ := settle_room (c := fun i _ => keep.getD i false) d.wait 0 { d with wait := [] } d.is d.l h.kinds (by simp only; rw [← h.names]; exact h.nodup) hsub h.le h.wr
  refine ⟨⟨fun o ho => (by cases ho), (List.append_nil _).symm, (a.map _).nodup h.nodup, (a.map _).nodup h.fnod, fun x hx => ?_, rfl, fun f => Nat.le_refl _, fun o ho => (by cases ho), ?_, ?_⟩, r⟩
  · have := h.lt x (a.subset hx)
    show x.f < (settledD d _).su.length
    unfold settledD
    rw [q]
    have := h.len
    simp only; omega
  · show sizesD (settledD d _).su (settledD d _).s ≤ (settledD d _).room
    unfold settledD
    rw [r]
    have h1 := sizes_mono (is := (settleD (fun i _ => keep.getD i false) 0 d.wait { d with wait := [] }).su) (js := d.is) (settleD (fun i _ => keep.getD i false) 0 d.wait { d with wait := [] }).s (fun x _ => b x.f)
    have h2 := sizes_sub d.is a
    have h3 := h.used
    unfold usedD at h3
    simp only
    omega
  · show 0 ≤ (settledD d _).room
    unfold settledD
    rw [r]
    exact h.r0
theorem find_none {l : List Dn} {x : ByteArray} (h : findD l x = none) : x ∉ l.map (·.n) := by
  induction l with
  | nil => intro h; cases h
  | cons d r ih =>
    rw [find_cons] at h
    by_cases e : d.n = x
    · rw [if_pos e] at h; cases h
    · rw [if_neg e] at h
      intro hx
      rcases List.mem_cons.1 hx with hx | hx
      · exact e hx.symm
      · exact ih h hx
theorem find_memR {l : List Dn} {x : ByteArray} {f : Nat} (h : findD l x = some f) : (⟨x, f⟩ : Dn) ∈ l := by
  induction l with
  | nil => cases h
  | cons d r ih =>
    rw [find_cons] at h
    by_cases e : d.n = x
    · rw [if_pos e] at h
      injection h with h
      subst e h
      exact List.mem_cons_self ..
    · rw [if_neg e] at h
      exact List.mem_cons_of_mem _ (ih h)
theorem getD_snocR {l : List (List Int)} (f : Nat) : (l ++ [[]]).getD f [] = l.getD f [] := by
  rw [List.getD_eq_getElem?_getD, List.getD_eq_getElem?_getD]
  by_cases h : f < l.length
  · rw [List.getElem?_append_left h]
  · rw [List.getElem?_append_right (by omega), List.getElem?_eq_none (l := l) (by omega)]
    by_cases e : f - l.length = 0
    · rw [e]; rfl
    · rw [List.getElem?_eq_none (by simp; omega)]
theorem sizes_eq {is js : List (List Int)} : ∀ (l : List Dn), (∀ q ∈ l, is.getD q.f [] = js.getD q.f []) → sizesD is l = sizesD js l
  | [], _ => rfl
  | d :: l, h => by
    rw [sizesD, sizesD, h d (List.mem_cons_self ..), sizes_eq l (fun q hq => h q (List.mem_cons_of_mem _ hq))]
theorem makes_snoc (w : List Do) (o : Do) : makesD (w ++ [o]) = makesD w ++ (if o.k = 1 then [] else [⟨o.to, o.f⟩]) := by
  unfold makesD
  rw [List.filter_append, List.map_append]
  congr 1
  by_cases e : o.k = 1
  · rw [if_pos e, List.filter_cons_of_neg (by simp [e])]; rfl
  · rw [if_neg e, List.filter_cons_of_pos (by simp [e])]; rfl
theorem sizes_set {is : List (List Int)} {f : Nat} {v : List Int} (hf : f < is.length) : ∀ (l : List Dn), (l.map (·.f)).Nodup → (∃ q ∈ l, q.f = f) → sizesD (is.set f v) l = sizesD is l + (v.length : Int) - (is.getD f []).length
  | [], _, h => by obtain ⟨q, hq, _⟩ := h; cases hq
  | d :: l, hn, h => by
    rw [List.map_cons] at hn
    obtain ⟨h1, h2⟩ := List.nodup_cons.1 hn
    rw [sizesD, sizesD]
    by_cases e : d.f = f
    · have hl : sizesD (is.set f v) l = sizesD is l := sizes_eq l (fun q hq => set_other (fun e2 => h1 (List.mem_map.2 ⟨q, hq, by rw [← e2, e]⟩)))
      rw [hl, e]
      have hg : (is.set f v).getD f [] = v := by rw [List.getD_eq_getElem?_getD, List.getElem?_set_self hf]; rfl
      rw [hg]; omega
    · have hl := sizes_set hf (v := v) l h2 (by
        obtain ⟨q, hq, hqf⟩ := h
        rcases List.mem_cons.1 hq with rfl | hq
        · exact absurd hqf e
        · exact ⟨q, hq, hqf⟩)
      rw [hl, set_other (fun e2 => e e2.symm)]; omega
theorem RoomD.make {d : Dk} (h : RoomD d) {a b : ByteArray} {p : Nat} {body : List Int} (hf : findD d.l a = none) : RoomD (doneD d 1 a b p body) := by
  have hno := find_none hf
  have hl : namesD d.l ⟨2, d.is.length, 0, [], .empty, a⟩ = d.l ++ [⟨a, d.is.length⟩] := by
    unfold namesD
    rw [if_pos rfl]
    unfold withD
    rw [without_none hno]
  unfold doneD
  rw [if_pos rfl]
  unfold waitD
  rw [if_neg (show ¬ (2 : Nat) = 1 by decide)]
  simp only [hl]
  have hle := h.len
  refine ⟨fun o ho => ?_, ?_, ?_, ?_, fun q hq => ?_, by simp only [List.length_append, hle], fun f => ?_, fun o ho hk => ?_, ?_, h.r0⟩
  · rcases List.mem_append.1 ho with ho | ho
    · exact h.kinds o ho
    · rw [List.mem_singleton.1 ho]; exact .inr rfl
  · simp only
    rw [makes_snoc, if_neg (show ¬ (2 : Nat) = 1 by decide), h.names, List.append_assoc]
  · simp only
    rw [List.map_append, List.map_cons, List.map_nil]
    refine List.nodup_append.2 ⟨h.nodup, List.nodup_cons.2 ⟨fun e => (by cases e), List.nodup_nil⟩, fun x hx y hy e => ?_⟩
    rw [List.mem_singleton.1 hy] at e
    rw [e] at hx
    exact hno hx
  · simp only
    rw [List.map_append, List.map_cons, List.map_nil]
    refine List.nodup_append.2 ⟨h.fnod, List.nodup_cons.2 ⟨fun e => (by cases e), List.nodup_nil⟩, fun x hx y hy e => ?_⟩
    rw [List.mem_singleton.1 hy] at e
    obtain ⟨q, hq, hqx⟩ := List.mem_map.1 hx
    have h9 := h.lt q hq
    simp only at hqx e
    omega
  · simp only [List.length_append, List.length_singleton]
    rcases List.mem_append.1 hq with hq | hq
    · have := h.lt q hq; omega
    · rw [List.mem_singleton.1 hq]; exact Nat.lt_succ_self _
  · simp only [getD_snocR]; exact h.le f
  · simp only [getD_snocR]
    rcases List.mem_append.1 ho with ho | ho
    · exact h.wr o ho hk
    · rw [List.mem_singleton.1 ho] at hk; cases hk
  · unfold usedD
    simp only
    rw [sizes_app, sizes_eq (js := d.is) d.l (fun q _ => getD_snocR q.f)]
    have h1 := h.used
    unfold usedD at h1
    simp only [sizesD, getD_snocR]
    rw [List.getD_eq_getElem?_getD, List.getElem?_eq_none (Nat.le_refl _)]
    simp only [Option.getD_none, List.length_nil]
    omega
theorem RoomD.write {d : Dk} (h : RoomD d) {a b : ByteArray} {p f : Nat} {body : List Int} (hf : findD d.l a = some f) (hp : p ≤ (d.is.getD f []).length)
    (hr : ¬ (((d.is.getD f []).length : Int) < p + body.length ∧ d.room - usedD d < p + body.length - (d.is.getD f []).length)) : RoomD (doneD d 2 a b p body) := by
  have hm := find_memR hf
  have hlt : f < d.is.length := h.lt _ hm
  unfold doneD
  rw [if_neg (by decide), if_pos rfl, hf]
  unfold waitD
  rw [if_pos rfl]
  simp only [Option.getD_some]
  have hll := laid_lenR (d.is.getD f []) p body
  have hg : ∀ g, (d.is.getD g []).length ≤ ((d.is.set f (laidD (d.is.getD f []) p body)).getD g []).length := fun g => by
    by_cases e : f = g
    · subst e
      rw [List.getD_eq_getElem?_getD (l := d.is.set _ _), List.getElem?_set_self hlt, Option.getD_some, hll]; omega
    · rw [set_other e]; exact Nat.le_refl _
  refine ⟨fun o ho => ?_, ?_, h.nodup, h.fnod, fun q hq => by simp only [List.length_set]; exact h.lt q hq, by simp only [List.length_set]; exact h.len, fun g => Nat.le_trans (h.le g) (hg g), fun o ho hk => ?_, ?_, h.r0⟩
  · rcases List.mem_append.1 ho with ho | ho
    · exact h.kinds o ho
    · rw [List.mem_singleton.1 ho]; exact .inl rfl
  · simp only
    rw [makes_snoc, if_pos rfl, List.append_nil]; exact h.names
  · simp only
    rcases List.mem_append.1 ho with ho | ho
    · obtain ⟨w1, w2⟩ := h.wr o ho hk
      exact ⟨Nat.le_trans w1 (hg _), Nat.le_trans w2 (hg _)⟩
    · rw [List.mem_singleton.1 ho]
      simp only
      rw [List.getD_eq_getElem?_getD, List.getElem?_set_self hlt, Option.getD_some, hll]
      omega
  · unfold usedD
    simp only
    rw [sizes_set hlt d.l h.fnod ⟨_, hm, rfl⟩, hll]
    have h1 := h.used
    unfold usedD at h1 hr
    omega
/-- With power, and without a cut, what is made and written keeps to the room. -/
structure RoomC (d : Dk) : Prop where
  rd : RoomD d
  off : d.off = false
  cut : d.cut = 0
theorem RoomC.create {d : Dk} (h : RoomC d) (a b : ByteArray) (p : Int) (body : List Int) : RoomC (doD d 1 a b p body).1 ∧ (doD d 1 a b p body).2 ≠ 23 ∧ (doD d 1 a b p body).1.room = d.room := by
  have hpw : powerD d = d := by unfold powerD; rw [if_pos h.cut]
  have hls : lostD d = false := by unfold lostD; rw [h.cut]; rfl
  unfold doD
  by_cases h1 : errD d 1 a b p body ≠ 0
  · rw [if_pos h1]
    refine ⟨h, ?_, rfl⟩
    unfold errD
    rw [if_neg (by rw [h.off]; decide), if_pos rfl]
    repeat' split
    all_goals (simp only; decide)
  rw [if_neg h1, hls, if_neg (by decide), hpw]
  have h0 : errD d 1 a b p body = 0 := by omega
  unfold errD at h0
  rw [if_neg (by rw [h.off]; decide), if_pos rfl] at h0
  by_cases h2 : a = .empty
  · rw [if_pos h2] at h0; cases h0
  rw [if_neg h2] at h0
  cases hf : findD d.l a with
  | some f => rw [hf] at h0; cases h0
  | none =>
    refine ⟨⟨h.rd.make (b := b) (p := p.toNat) (body := body) hf, ?_, ?_⟩, (show (0 : Int) ≠ 23 by decide), ?_⟩ <;> (unfold doneD; rw [if_pos rfl]; unfold waitD; rw [if_neg (show ¬ (2 : Nat) = 1 by decide)])
    · exact h.off
    · exact h.cut
theorem RoomC.write {d : Dk} (h : RoomC d) (a b : ByteArray) (p : Int) (body : List Int) : RoomC (doD d 2 a b p body).1 ∧ (doD d 2 a b p body).2 ≠ 23 ∧ (doD d 2 a b p body).1.room = d.room := by
  have hpw : powerD d = d := by unfold powerD; rw [if_pos h.cut]
  have hls : lostD d = false := by unfold lostD; rw [h.cut]; rfl
  unfold doD
  by_cases h1 : errD d 2 a b p body ≠ 0
  · rw [if_pos h1]
    refine ⟨h, ?_, rfl⟩
    unfold errD
    rw [if_neg (by rw [h.off]; decide), if_neg (by decide), if_pos rfl]
    repeat' split
    all_goals (simp only; decide)
  rw [if_neg h1, hls, if_neg (by decide), hpw]
  have h0 : errD d 2 a b p body = 0 := by omega
  unfold errD at h0
  rw [if_neg (by rw [h.off]; decide), if_neg (by decide), if_pos rfl] at h0
  cases hf : findD d.l a with
  | none => rw [hf] at h0; cases h0
  | some f =>
    rw [hf] at h0
    simp only at h0
    by_cases h2 : p < 0 ∨ ((d.is.getD f []).length : Int) < p
    · rw [if_pos h2] at h0; cases h0
    rw [if_neg h2] at h0
    by_cases h3 : ((d.is.getD f []).length : Int) < p + body.length ∧ d.room - usedD d < p + body.length - (d.is.getD f []).length
    · rw [if_pos h3] at h0; cases h0
    obtain ⟨q, rfl⟩ := Int.eq_ofNat_of_zero_le (show 0 ≤ p by omega)
    refine ⟨⟨h.rd.write (b := b) hf (by omega) (by simpa using h3), ?_, ?_⟩, (show (0 : Int) ≠ 23 by decide), ?_⟩ <;> (unfold doneD; rw [if_neg (by decide), if_pos rfl]; unfold waitD; rw [if_pos rfl])
    · exact h.off
    · exact h.cut
theorem RoomC.crash {d : Dk} (h : RoomC d) (keep : List Bool) : RoomC (crashD d keep) ∧ (crashD d keep).room = d.room :=
  ⟨⟨(h.rd.crash keep).1, rfl, rfl⟩, (h.rd.crash keep).2⟩
theorem room_new (n : Int) : RoomC (dk0 n) := by
  refine ⟨⟨fun o ho => (by cases ho), rfl, List.nodup_nil, List.nodup_nil, fun q hq => (by cases hq), rfl, fun f => Nat.le_refl _, fun o ho => (by cases ho), ?_, ?_⟩, rfl, rfl⟩
  · unfold usedD dk0
    simp only [sizesD]
    split <;> omega
  · unfold dk0
    simp only
    split <;> omega
end Go.Proofs.Ythogdieplfpopaa
namespace Go.Proofs.Ythogdieplfpopaa
open Go.RowKit
set_option linter.unusedVariables false
set_option linter.unusedSimpArgs false

def riseD (i : Nat) : List Int := (List.range i).map fun (j : Nat) => ((j : Int) + 1)
theorem rise_len (i : Nat) : (riseD i).length = i := by simp [riseD]
theorem rise_succ (i : Nat) : riseD (i + 1) = riseD i ++ [(i : Int) + 1] := by simp [riseD, List.range_succ]
def cutsW (a : ByteArray) (i : Nat) : List Do := ⟨2, 0, 0, [], .empty, a⟩ :: (List.range i).map fun (j : Nat) => ⟨1, 0, j, [(j : Int) + 1], .empty, .empty⟩
theorem cutsW_len (a : ByteArray) (i : Nat) : (cutsW a i).length = i + 1 := by simp [cutsW]
theorem cutsW_succ (a : ByteArray) (i : Nat) : cutsW a (i + 1) = cutsW a i ++ [⟨1, 0, i, [(i : Int) + 1], .empty, .empty⟩] := by simp [cutsW, List.range_succ]
/-- Behind i writes of a byte each, the power to go at the operation number k. -/
def cutsD (a : ByteArray) (k i : Nat) (off : Bool) : Dk := ⟨100, [riseD i], [[]], [⟨a, 0⟩], [], cutsW a i, off, if off then 0 else (k : Int) - i⟩
theorem cuts_start {a : ByteArray} (ha : a ≠ .empty) {k : Nat} (hk : 1 ≤ k) (b : ByteArray) : doD (dk0 100) 1 a b 0 [] = (⟨100, [[]], [[]], [⟨a, 0⟩], [], cutsW a 0, false, 0⟩, 0) ∧ cutD ⟨100, [[]], [[]], [⟨a, 0⟩], [], cutsW a 0, false, 0⟩ k = cutsD a k 0 false := by
  refine ⟨?_, ?_⟩
  · unfold doD
    have h0 : errD (dk0 100) 1 a b 0 [] = 0 := by
      unfold errD
      rw [if_neg (show ¬ (dk0 100).off = true by decide), if_pos rfl, if_neg ha]
      rfl
    rw [h0, if_neg (by decide), if_neg (show ¬ lostD (dk0 100) = true by decide)]
    unfold doneD
    rw [if_pos rfl]
    unfold waitD
    rw [if_neg (show ¬ (2 : Nat) = 1 by decide)]
    rfl
  · unfold cutD cutsD
    rw [if_neg (show ¬ false = true by decide), if_pos (by omega)]
    simp [riseD]
theorem laid_end (s : List Int) (b : List Int) : laidD s s.length b = s ++ b := by
  unfold laidD
  rw [Nat.sub_self, List.replicate_zero, List.append_nil, List.take_length, List.drop_eq_nil_of_le (by omega), List.append_nil]
theorem cuts_used (a : ByteArray) (k i : Nat) (off : Bool) : usedD (cutsD a k i off) = i := by
  show ((riseD i).length : Int) + 0 = i
  rw [rise_len]; omega
theorem cuts_err {a : ByteArray} {k i : Nat} (hi : i < 100) : errD (cutsD a k i false) 2 a .empty i [(i : Int) + 1] = 0 := by
  unfold errD
  rw [if_neg (show ¬ (cutsD a k i false).off = true from (show ¬ false = true by decide)), if_neg (by decide), if_pos rfl]
  have hf : findD (cutsD a k i false).l a = some 0 := by show findD [⟨a, 0⟩] a = _; rw [find_cons, if_pos rfl]
  rw [hf]
  simp only
  have hl : ((cutsD a k i false).is.getD 0 []).length = i := rise_len i
  rw [hl, cuts_used, show (cutsD a k i false).room = 100 from rfl, if_neg (by omega), if_neg (show ¬ ((i : Int) < i + ([(i : Int) + 1] : List Int).length ∧ (100 : Int) - i < i + ([(i : Int) + 1] : List Int).length - i) by simp only [List.length_singleton]; omega)]
theorem cuts_step {a : ByteArray} {k i : Nat} (hi : i < 100) (hk : i + 1 < k) : doD (cutsD a k i false) 2 a .empty i [(i : Int) + 1] = (cutsD a k (i + 1) false, 0) := by
  unfold doD
  rw [cuts_err hi, if_neg (by decide)]
  have hl : lostD (cutsD a k i false) = false := by
    unfold lostD cutsD
    simp only [if_neg (show ¬ false = true by decide)]
    rw [decide_eq_false (show ¬ ((k : Int) - i - 1 = 0) by omega), Bool.and_false]
  rw [hl, if_neg (by decide)]
  have hp : powerD (cutsD a k i false) = ⟨100, [riseD i], [[]], [⟨a, 0⟩], [], cutsW a i, false, (k : Int) - i - 1⟩ := by
    unfold powerD cutsD
    simp only [if_neg (show ¬ false = true by decide)]
    rw [if_neg (by omega), decide_eq_false (show ¬ ((k : Int) - i - 1 = 0) by omega)]
  rw [hp]
  unfold doneD
  rw [if_neg (by decide), if_pos rfl]
  have hf : findD [⟨a, 0⟩] a = some 0 := by rw [find_cons, if_pos rfl]
  rw [show findD ((⟨100, [riseD i], [[]], [⟨a, 0⟩], [], cutsW a i, false, (k : Int) - i - 1⟩ : Dk).l) a = some 0 from hf]
  unfold waitD
  rw [if_pos rfl]
  have h9 : laidD (riseD i) i [(i : Int) + 1] = riseD (i + 1) := by
    have := laid_end (riseD i) [(i : Int) + 1]
    rw [rise_len] at this
    rw [this, rise_succ]
  simp only [Option.getD_some, Int.toNat_natCast]
  unfold cutsD
  rw [cutsW_succ, ← h9]
  simp only [if_neg (show ¬ false = true by decide), List.getD_cons_zero, List.set_cons_zero]
  rw [show (k : Int) - i - 1 = (k : Int) - ((i + 1 : Nat) : Int) by omega]
theorem cuts_off {a : ByteArray} {k i : Nat} (hi : i < 100) (hk : i + 1 = k) : doD (cutsD a k i false) 2 a .empty i [(i : Int) + 1] = (cutsD a k i true, 23) := by
  unfold doD
  rw [cuts_err hi, if_neg (by decide)]
  have hl : lostD (cutsD a k i false) = true := by
    unfold lostD cutsD
    simp only [if_neg (show ¬ false = true by decide)]
    rw [decide_eq_true (show ((k : Int) - i - 1 = 0) by omega), decide_eq_true (show ((k : Int) - i ≠ 0) by omega)]
    rfl
  rw [hl, if_pos rfl]
  unfold powerD cutsD
  simp only [if_neg (show ¬ false = true by decide)]
  rw [if_neg (by omega), decide_eq_true (show ((k : Int) - i - 1 = 0) by omega), show (k : Int) - i - 1 = 0 by omega]
  rfl
theorem off_does {d : Dk} (h : d.off = true) (k : Nat) (a b : ByteArray) (p : Int) (body : List Int) : doD d k a b p body = (d, 23) := by
  have : errD d k a b p body = 23 := by unfold errD; rw [if_pos h]
  unfold doD
  rw [this, if_pos (by decide)]
theorem cuts_crash {a : ByteArray} (ha : a ≠ .empty) {k i : Nat} {off : Bool} (b : ByteArray) : (crashD (cutsD a k i off) []).off = false ∧ usedD (crashD (cutsD a k i off) []) = 0 ∧ (crashD (cutsD a k i off) []).l = [] ∧ (doD (crashD (cutsD a k i off) []) 1 a b 0 []).2 = 0 := by
  have hs : ∀ (w : List Do) (i : Nat) (d : Dk), (settleD (fun i _ => ([] : List Bool).getD i false) i w d).s = d.s ∧ (settleD (fun i _ => ([] : List Bool).getD i false) i w d).su = d.su := by
    intro w
    induction w with
    | nil => intro i d; exact ⟨rfl, rfl⟩
    | cons o r ih =>
      intro i d
      unfold settleD
      rw [if_neg (by simp)]
      exact ih (i + 1) _
  obtain ⟨h1, h2⟩ := hs (cutsW a i) 0 { cutsD a k i off with wait := [] }
  have hl : (crashD (cutsD a k i off) []).l = [] := h1
  refine ⟨rfl, ?_, hl, ?_⟩
  · unfold usedD; rw [hl]; rfl
  · unfold doD
    have h0 : errD (crashD (cutsD a k i off) []) 1 a b 0 [] = 0 := by
      unfold errD
      rw [if_neg (show ¬ (crashD (cutsD a k i off) []).off = true from (show ¬ false = true by decide)), if_pos rfl, if_neg ha, hl]
      rfl
    rw [h0, if_neg (by decide), if_neg (show ¬ lostD (crashD (cutsD a k i off) []) = true from (show ¬ (decide ((0 : Int) ≠ 0) && decide ((0 : Int) - 1 = 0)) = true by decide))]
/-! ### two files -/
def twoD (a b : ByteArray) (x y : List Int) (w : List Do) : Dk := ⟨1000, [x, y], [[], []], [⟨a, 0⟩, ⟨b, 1⟩], [], w, false, 0⟩
section
variable {a b : ByteArray}
theorem two_a (ha : a ≠ .empty) (c : ByteArray) : doD (dk0 1000) 1 a c 0 [] = (⟨1000, [[]], [[]], [⟨a, 0⟩], [], [⟨2, 0, 0, [], .empty, a⟩], false, 0⟩, 0) := by
  unfold doD
  have h0 : errD (dk0 1000) 1 a c 0 [] = 0 := by
    unfold errD
    rw [if_neg (show ¬ (dk0 1000).off = true by decide), if_pos rfl, if_neg ha]
    rfl
  rw [h0, if_neg (by decide), if_neg (show ¬ lostD (dk0 1000) = true by decide)]
  unfold doneD
  rw [if_pos rfl]
  unfold waitD
  rw [if_neg (show ¬ (2 : Nat) = 1 by decide)]
  rfl
theorem two_b (hb : b ≠ .empty) (hab : a ≠ b) (c : ByteArray) (w : List Do) : doD ⟨1000, [[]], [[]], [⟨a, 0⟩], [], w, false, 0⟩ 1 b c 0 [] = (twoD a b [] [] (w ++ [⟨2, 1, 0, [], .empty, b⟩]), 0) := by
  have hf : findD [⟨a, 0⟩] b = none := by rw [find_cons, if_neg hab]; rfl
  unfold doD
  have h0 : errD ⟨1000, [[]], [[]], [⟨a, 0⟩], [], w, false, 0⟩ 1 b c 0 [] = 0 := by
    unfold errD
    rw [if_neg (show ¬ (⟨1000, [[]], [[]], [⟨a, 0⟩], [], w, false, 0⟩ : Dk).off = true from (show ¬ false = true by decide)), if_pos rfl, if_neg hb, show findD (⟨1000, [[]], [[]], [⟨a, 0⟩], [], w, false, 0⟩ : Dk).l b = none from hf]
    rfl
  rw [h0, if_neg (by decide), if_neg (show ¬ lostD ⟨1000, [[]], [[]], [⟨a, 0⟩], [], w, false, 0⟩ = true from (show ¬ (decide ((0 : Int) ≠ 0) && decide ((0 : Int) - 1 = 0)) = true by decide))]
  unfold doneD
  rw [if_pos rfl]
  unfold waitD
  rw [if_neg (show ¬ (2 : Nat) = 1 by decide)]
  have hn : namesD [⟨a, 0⟩] ⟨2, 1, 0, [], .empty, b⟩ = [⟨a, 0⟩, ⟨b, 1⟩] := by
    unfold namesD
    rw [if_pos rfl]
    unfold withD
    rw [without_none (by simpa using fun e => hab e.symm)]
    rfl
  unfold twoD
  rw [← hn]
  rfl
theorem two_find (hab : a ≠ b) : findD [⟨a, 0⟩, ⟨b, 1⟩] a = some 0 ∧ findD [⟨a, 0⟩, ⟨b, 1⟩] b = some 1 :=
  ⟨by rw [find_cons, if_pos rfl], by rw [find_cons, if_neg hab, find_cons, if_pos rfl]⟩
theorem laid_nil (z : List Int) : laidD [] 0 z = z := by have := laid_end [] z; simpa using this
theorem two_wa (hab : a ≠ b) {x : List Int} (hx : x.length ≤ 300) (c : ByteArray) (w : List Do) : doD (twoD a b [] [] w) 2 a c 0 x = (twoD a b x [] (w ++ [⟨1, 0, 0, x, .empty, .empty⟩]), 0) := by
  obtain ⟨f1, f2⟩ := two_find hab
  unfold doD
  have h0 : errD (twoD a b [] [] w) 2 a c 0 x = 0 := by
    unfold errD
    rw [if_neg (show ¬ (twoD a b [] [] w).off = true from (show ¬ false = true by decide)), if_neg (by decide), if_pos rfl, show findD (twoD a b [] [] w).l a = some 0 from f1]
    simp only
    have hu : usedD (twoD a b [] [] w) = 0 := rfl
    rw [hu, show ((twoD a b [] [] w).is.getD 0 []).length = 0 from rfl, show (twoD a b [] [] w).room = 1000 from rfl, if_neg (by decide), if_neg (by omega)]
  rw [h0, if_neg (by decide), if_neg (show ¬ lostD (twoD a b [] [] w) = true from (show ¬ (decide ((0 : Int) ≠ 0) && decide ((0 : Int) - 1 = 0)) = true by decide))]
  have hp : powerD (twoD a b [] [] w) = twoD a b [] [] w := rfl
  rw [hp]
  unfold doneD
  rw [if_neg (by decide), if_pos rfl, show findD (twoD a b [] [] w).l a = some 0 from f1]
  unfold waitD
  rw [if_pos rfl]
  unfold twoD
  simp only [Option.getD_some, Int.toNat_zero, List.getD_cons_zero, List.set_cons_zero, laid_nil]
theorem two_wb (hab : a ≠ b) {x y : List Int} (hx : x.length ≤ 300) (hy : y.length ≤ 300) (c : ByteArray) (w : List Do) : doD (twoD a b x [] w) 2 b c 0 y = (twoD a b x y (w ++ [⟨1, 1, 0, y, .empty, .empty⟩]), 0) := by
  obtain ⟨f1, f2⟩ := two_find hab
  unfold doD
  have h0 : errD (twoD a b x [] w) 2 b c 0 y = 0 := by
    unfold errD
    rw [if_neg (show ¬ (twoD a b x [] w).off = true from (show ¬ false = true by decide)), if_neg (by decide), if_pos rfl, show findD (twoD a b x [] w).l b = some 1 from f2]
    simp only
    have hu : usedD (twoD a b x [] w) = x.length := by show ((x.length : Int) + ((0 : Nat) + 0)) = x.length; omega
    rw [hu, show ((twoD a b x [] w).is.getD 1 []).length = 0 from rfl, show (twoD a b x [] w).room = 1000 from rfl, if_neg (by decide), if_neg (by omega)]
  rw [h0, if_neg (by decide), if_neg (show ¬ lostD (twoD a b x [] w) = true from (show ¬ (decide ((0 : Int) ≠ 0) && decide ((0 : Int) - 1 = 0)) = true by decide))]
  have hp : powerD (twoD a b x [] w) = twoD a b x [] w := rfl
  rw [hp]
  unfold doneD
  rw [if_neg (by decide), if_pos rfl, show findD (twoD a b x [] w).l b = some 1 from f2]
  unfold waitD
  rw [if_pos rfl]
  unfold twoD
  simp only [Option.getD_some, Int.toNat_zero, List.getD_cons_zero, List.getD_cons_succ, List.set_cons_zero, List.set_cons_succ, laid_nil]
/-- Renamed to itself. -/
theorem two_same (ha : a ≠ .empty) (hab : a ≠ b) (x y : List Int) (w : List Do) : doD (twoD a b x y w) 4 a a 0 [] = (⟨1000, [x, y], [[], []], [⟨b, 1⟩, ⟨a, 0⟩], [], w ++ [⟨3, 0, 0, [], a, a⟩], false, 0⟩, 0) := by
  obtain ⟨f1, f2⟩ := two_find hab
  unfold doD
  have h0 : errD (twoD a b x y w) 4 a a 0 [] = 0 := by
    unfold errD
    rw [if_neg (show ¬ (twoD a b x y w).off = true from (show ¬ false = true by decide)), if_neg (by decide), if_neg (by decide), if_neg (by decide), if_pos rfl, show findD (twoD a b x y w).l a = some 0 from f1, if_pos (show (some 0 : Option Nat).isSome = true from rfl), if_neg ha]
  rw [h0, if_neg (by decide), if_neg (show ¬ lostD (twoD a b x y w) = true from (show ¬ (decide ((0 : Int) ≠ 0) && decide ((0 : Int) - 1 = 0)) = true by decide))]
  have hp : powerD (twoD a b x y w) = twoD a b x y w := rfl
  rw [hp]
  unfold doneD
  rw [if_neg (by decide), if_neg (by decide), if_neg (by decide), if_pos rfl]
  unfold waitD
  rw [if_neg (show ¬ (3 : Nat) = 1 by decide)]
  have hn : namesD [⟨a, 0⟩, ⟨b, 1⟩] ⟨3, 0, 0, [], a, a⟩ = [⟨b, 1⟩, ⟨a, 0⟩] := by
    unfold namesD
    rw [if_neg (show ¬ (3 : Nat) = 2 by decide), if_neg (show ¬ (3 : Nat) = 4 by decide)]
    simp only
    rw [f1]
    simp only
    have hw : withoutD [⟨a, 0⟩, ⟨b, 1⟩] a = [⟨b, 1⟩] := by simp [withoutD, Ne.symm hab]
    unfold withD
    rw [hw, without_none (by simpa using hab)]
    rfl
  unfold twoD
  rw [← hn]
/-- Renamed to the other. -/
theorem two_over (hb : b ≠ .empty) (hab : a ≠ b) (x y : List Int) (w : List Do) : doD (twoD a b x y w) 4 a b 0 [] = (⟨1000, [x, y], [[], []], [⟨b, 0⟩], [], w ++ [⟨3, 0, 0, [], a, b⟩], false, 0⟩, 0) := by
  obtain ⟨f1, f2⟩ := two_find hab
  unfold doD
  have h0 : errD (twoD a b x y w) 4 a b 0 [] = 0 := by
    unfold errD
    rw [if_neg (show ¬ (twoD a b x y w).off = true from (show ¬ false = true by decide)), if_neg (by decide), if_neg (by decide), if_neg (by decide), if_pos rfl, show findD (twoD a b x y w).l a = some 0 from f1, if_pos (show (some 0 : Option Nat).isSome = true from rfl), if_neg hb]
  rw [h0, if_neg (by decide), if_neg (show ¬ lostD (twoD a b x y w) = true from (show ¬ (decide ((0 : Int) ≠ 0) && decide ((0 : Int) - 1 = 0)) = true by decide))]
  have hp : powerD (twoD a b x y w) = twoD a b x y w := rfl
  rw [hp]
  unfold doneD
  rw [if_neg (by decide), if_neg (by decide), if_neg (by decide), if_pos rfl]
  unfold waitD
  rw [if_neg (show ¬ (3 : Nat) = 1 by decide)]
  have hn : namesD [⟨a, 0⟩, ⟨b, 1⟩] ⟨3, 0, 0, [], a, b⟩ = [⟨b, 0⟩] := by
    unfold namesD
    rw [if_neg (show ¬ (3 : Nat) = 2 by decide), if_neg (show ¬ (3 : Nat) = 4 by decide)]
    simp only
    rw [f1]
    simp only
    have hw : withoutD [⟨a, 0⟩, ⟨b, 1⟩] a = [⟨b, 1⟩] := by simp [withoutD, Ne.symm hab]
    unfold withD
    rw [hw]
    simp [withoutD]
  unfold twoD
  rw [← hn]
/-- What is removed is gone. -/
theorem two_gone (x y : List Int) (w : List Do) : doD ⟨1000, [x, y], [[], []], [⟨b, 0⟩], [], w, false, 0⟩ 5 b .empty 0 [] = (⟨1000, [x, y], [[], []], [], [], w ++ [⟨4, 0, 0, [], b, .empty⟩], false, 0⟩, 0) := by
  have f1 : findD [⟨b, 0⟩] b = some 0 := by rw [find_cons, if_pos rfl]
  unfold doD
  have h0 : errD ⟨1000, [x, y], [[], []], [⟨b, 0⟩], [], w, false, 0⟩ 5 b .empty 0 [] = 0 := by
    unfold errD
    rw [if_neg (show ¬ (⟨1000, [x, y], [[], []], [⟨b, 0⟩], [], w, false, 0⟩ : Dk).off = true from (show ¬ false = true by decide)), if_neg (by decide), if_neg (by decide), if_pos (.inr rfl), show findD (⟨1000, [x, y], [[], []], [⟨b, 0⟩], [], w, false, 0⟩ : Dk).l b = some 0 from f1]
    rfl
  rw [h0, if_neg (by decide), if_neg (show ¬ lostD ⟨1000, [x, y], [[], []], [⟨b, 0⟩], [], w, false, 0⟩ = true from (show ¬ (decide ((0 : Int) ≠ 0) && decide ((0 : Int) - 1 = 0)) = true by decide))]
  have hp : powerD ⟨1000, [x, y], [[], []], [⟨b, 0⟩], [], w, false, 0⟩ = ⟨1000, [x, y], [[], []], [⟨b, 0⟩], [], w, false, 0⟩ := rfl
  rw [hp]
  unfold doneD
  rw [if_neg (by decide), if_neg (by decide), if_neg (by decide), if_neg (by decide), if_pos rfl]
  unfold waitD
  rw [if_neg (show ¬ (4 : Nat) = 1 by decide)]
  have hn : namesD [⟨b, 0⟩] ⟨4, 0, 0, [], b, .empty⟩ = [] := by
    unfold namesD
    rw [if_neg (show ¬ (4 : Nat) = 2 by decide), if_pos rfl]
    simp [withoutD]
  simp only [hn]
end
end Go.Proofs.Ythogdieplfpopaa
