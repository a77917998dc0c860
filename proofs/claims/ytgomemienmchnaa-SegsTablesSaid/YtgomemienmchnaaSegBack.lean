/-
  What is proved here: plain words: segments' bytes one behind the other, and that they are read as they were; rows of bytes of the call's own.
  Conditions: none.
-/
import Derived.Test.YtgomemienmchnaaSegTabs
import Derived.Test.YtgomemienmchnaaSegPut
namespace Go.Proofs.Ytgomemienmchnaa
open Go.RowKit
set_option linter.unusedVariables false

def flatE (L : List Sg) : List Int := L.flatMap encS
theorem flatE_len : ∀ L : List Sg, (flatE L).length = 56 * L.length
  | [] => rfl
  | s :: L => by
    have := flatE_len L
    unfold flatE at this ⊢
    rw [List.flatMap_cons, List.length_append, encS_len, this, List.length_cons]; omega
theorem flatE_bd (L : List Sg) : ∀ n ∈ flatE L, 0 ≤ n ∧ n ≤ 255 := by
  intro n hn
  obtain ⟨s, _, hs⟩ := List.mem_flatMap.1 hn
  exact encS_bd s n hs
theorem flatE_step {L : List Sg} {k : Nat} (h : k < L.length) : flatE (L.take (k + 1)) = flatE (L.take k) ++ encS (L.getD k sg0) := by
  rw [take_snoc h]
  unfold flatE
  rw [List.flatMap_append]; simp
theorem flatE_piece {L : List Sg} {k : Nat} (h : k < L.length) : piece (flatE L) (56 * k) 56 = encS (L.getD k sg0) := by
  have e : flatE L = flatE (L.take k) ++ (encS (L.getD k sg0) ++ flatE (L.drop (k + 1))) := by
    rw [← List.append_assoc, ← flatE_step h]
    unfold flatE
    rw [← List.flatMap_append, List.take_append_drop]
  rw [e]
  exact piece_at (by rw [flatE_len, List.length_take]; omega) (encS_len _)
theorem flatE_seg {L : List Sg} (hok : ∀ s ∈ L, s.Ok) {k : Nat} (h : k < L.length) : segAt (flatE L) k = L.getD k sg0 ∧ goodAt (flatE L) k := by
  have e := getS_enc (hok _ (getD_mem h)) []
  rw [List.append_nil] at e
  unfold goodAt segAt
  rw [flatE_piece h, e.1, e.2]
  exact ⟨rfl, rfl⟩
theorem flatE_tab {L : List Sg} (hok : ∀ s ∈ L, s.Ok) : tabS (flatE L) L.length = L ∧ goodT (flatE L) L.length = true := by
  refine ⟨?_, goodT_yes fun j hj => (flatE_seg hok hj).2⟩
  apply List.ext_getElem
  · rw [tabS_len]
  · intro i h1 h2
    have := (flatE_seg hok h2).1
    rw [List.getD_eq_getElem?_getD, List.getElem?_eq_getElem h2] at this
    simpa [tabS] using this
/-- Table of segments' bytes, behind anything. -/
theorem tabR_back {zs : List Int} {L : List Sg} (hok : ∀ s ∈ L, s.Ok) (hl : L.length ≤ 64) : tabR (zs ++ flatE L) zs.length L.length = (0, L) := by
  obtain ⟨h1, h2⟩ := flatE_tab hok
  have hp : piece (zs ++ flatE L) zs.length (56 * L.length) = flatE L := by
    have := piece_at (A := zs) (B := flatE L) (C := []) rfl (flatE_len L)
    rwa [List.append_nil] at this
  unfold tabR
  rw [if_neg (by omega), if_neg (by rw [List.length_append, flatE_len]; omega)]
  simp only [Int.toNat_natCast, hp, h1, h2, if_true]
theorem tabR_more {zs : List Int} {L : List Sg} (hl : L.length ≤ 64) : (tabR (zs ++ flatE L) zs.length ((L.length : Int) + 1)).1 = if L.length = 64 then 1 else 10 := by
  unfold tabR
  by_cases h : L.length = 64
  · rw [if_pos (by omega), if_pos h]
  · rw [if_neg (by omega), if_pos (by rw [List.length_append, flatE_len]; omega), if_neg h]
theorem own1_slice {w : World} {base n : Nat} {e : TypeId} {v : Value} {xs : List Value} (h : w.ownsRow base e 1 v n xs) : ∃ a c, v = .slice a n c ∧ n ≤ c ∧ (c : Int) ≤ 9223372036854775807 := by
  rcases h.2 with ⟨hv, e0⟩ | ⟨g, c, cur, hv, _, _, h1, h2, _⟩
  · exact ⟨none, 0, by rw [hv, e0], by omega, by omega⟩
  · exact ⟨_, _, hv, h1, by unfold maxLen at h2; omega⟩
end Go.Proofs.Ytgomemienmchnaa
