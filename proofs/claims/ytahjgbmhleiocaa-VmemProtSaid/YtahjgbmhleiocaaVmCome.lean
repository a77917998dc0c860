/-
  What is proved here: an entry of memory's map that a range has come to. · plain words: the pages that a range has come to.
  Conditions: as they say.
-/
import Derived.Test.YtahjgbmhleiocaaVmMath
import Derived.Test.YtahjgbmhleiocaaVmHeap
import Derived.Maps.RangeWalk
namespace Go.Proofs.Ytahjgbmhleiocaa
open Go.RowKit Go.WideMaps Go.Maps
set_option linter.unusedVariables false
set_option linter.unusedSimpArgs false

def mkP : Option Nat → Value
  | none => .pointer none
  | some b => .pointer (some ⟨b, 0, none⟩)
theorem inv_ptr (v : Value) (y : DataW Unit × List MemPlace) (h : ptrR v = some y) : ∃ c, v = mkP c := by
  unfold ptrR at h
  split at h
  · exact ⟨none, rfl⟩
  · exact ⟨some _, rfl⟩
  · cases h
theorem key_inv {z : Int} {kl : Lit} (h : keyOf Try.prog 24 (.int .u64 z) = some kl) : kl = .int .u64 z ∧ 0 ≤ z ∧ z ≤ 18446744073709551615 := by
  simp [keyOf, Try.underlying24, mapKey] at h
  obtain ⟨h1, h2⟩ := h
  refine ⟨h2.symm, ?_⟩
  simp [Lit.wf, IntKind.min, IntKind.max, IntKind.signed, IntKind.bits] at h1
  omega
theorem entry_is {D : DataW Unit} {M : List Pg} {pb : Nat → Nat} (h : MapIs D M pb) {z : Int} {c : Option Nat} {kl : Lit} {y : DataW Unit × List MemPlace} (hk : keyOf Try.prog 24 (.int .u64 z) = some kl) (hv : ptrR (mkP c) = some y) (ha : ∀ zd, D.atKey kl zd = y.1) :
    ∃ p : Pg, z = p.a ∧ kl = keyU p.a ∧ findP M p.a = some p ∧ mkP c = .pointer (some ⟨pb p.a, 0, none⟩) := by
  obtain ⟨e, z0, z1⟩ := key_inv hk
  obtain ⟨x, rfl⟩ : ∃ x : Nat, z = x := ⟨z.toNat, by omega⟩
  subst e
  obtain ⟨h1, h2⟩ := h x
  have hh : Maps.has D (keyU x) = true := has_true_of_atKey ha
  rw [hh] at h1
  obtain ⟨p, hp⟩ := Option.isSome_iff_exists.1 h1.symm
  obtain ⟨_, e⟩ := findP_mem hp
  subst e
  refine ⟨p, rfl, rfl, hp, ?_⟩
  have := h2 p hp (.lit (.bool false))
  unfold keyU at this
  rw [ha] at this
  obtain ⟨y1, y2⟩ := y
  simp only at this
  subst this
  exact ptrR_inv_at hv
end Go.Proofs.Ytahjgbmhleiocaa
namespace Go.Proofs.Ytahjgbmhleiocaa
open Go.RowKit Go.WideMaps Go.Maps
set_option linter.unusedVariables false
set_option linter.unusedSimpArgs false

/-- The pages that have come. -/
def come (left : Lit → Bool) (M : List Pg) : List Pg := M.filter (fun p => !left (keyU p.a))
theorem come_sub (left : Lit → Bool) (M : List Pg) : (come left M).Sublist M := List.filter_sublist
theorem come_so {left : Lit → Bool} {M : List Pg} (h : (M.map (·.a)).Pairwise (· < ·)) : ((come left M).map (·.a)).Pairwise (· < ·) := h.sublist ((come_sub left M).map _)
theorem come_find (left : Lit → Bool) : ∀ (M : List Pg) (x : Nat), findP (come left M) x = if left (keyU x) = true then none else findP M x
  | [], x => by
    show none = _
    by_cases e : left (keyU x) = true
    · rw [if_pos e]
    · rw [if_neg e]; rfl
  | p :: r, x => by
    have ih := come_find left r x
    unfold come at *
    by_cases e : left (keyU p.a) = true
    · rw [List.filter_cons_of_neg (by rw [e]; decide), ih, findP_cons]
      by_cases e2 : p.a = x
      · rw [← e2, if_pos e, if_pos e]
      · rw [if_neg e2]
    · have ef : left (keyU p.a) = false := by simpa using e
      rw [List.filter_cons_of_pos (by rw [ef]; decide), findP_cons, findP_cons, ih]
      by_cases e2 : p.a = x
      · rw [if_pos e2, if_pos e2, ← e2, if_neg e]
      · rw [if_neg e2, if_neg e2]
theorem come_start {left : Lit → Bool} {M : List Pg} (h : ∀ p ∈ M, left (keyU p.a) = true) : come left M = [] := by
  unfold come
  rw [List.filter_eq_nil_iff]
  intro p hp
  rw [h p hp]; decide
theorem come_end {left : Lit → Bool} (h : ∀ k, left k = false) (M : List Pg) : come left M = M := by
  unfold come
  rw [List.filter_eq_self]
  intro p hp
  rw [h]; rfl
theorem key_same {x y : Nat} : (keyU x).sameKey (keyU y) = decide (x = y) := by
  by_cases h : x = y
  · subst h
    rw [WideAt.sameKey_self (isKeyU x)]; simp
  · rw [sameKey_ne (keyU_ne h)]; simp [h]
theorem come_step {left : Lit → Bool} {M : List Pg} {p : Pg} (hs : (M.map (·.a)).Pairwise (· < ·)) (hp : findP M p.a = some p) (hl : left (keyU p.a) = true) :
    findP (come left M) p.a = none ∧ insP (come left M) p = come (fun z => left z && !z.sameKey (keyU p.a)) M ∧ (come left M).length < M.length := by
  have hn : findP (come left M) p.a = none := by rw [come_find, if_pos hl]
  have he : insP (come left M) p = come (fun z => left z && !z.sameKey (keyU p.a)) M := by
    refine so_ext (ins_so (come_so hs) hn) (come_so hs) (fun x => ?_)
    rw [ins_find x hn, come_find, come_find]
    by_cases e : x = p.a
    · subst e
      have e1 : (keyU p.a).sameKey (keyU p.a) = true := by rw [key_same]; simp
      rw [if_pos rfl]
      simp only [e1, Bool.not_true, Bool.and_false, Bool.false_eq_true, if_false]
      exact hp.symm
    · have e1 : (keyU x).sameKey (keyU p.a) = false := by rw [key_same]; simp [e]
      rw [if_neg e]
      simp only [e1, Bool.not_false, Bool.and_true]
  refine ⟨hn, he, ?_⟩
  have h1 := (come_sub (fun z => left z && !z.sameKey (keyU p.a)) M).length_le
  rw [← he, ins_len] at h1
  exact h1
end Go.Proofs.Ytahjgbmhleiocaa
