/-
  What is proved here: one word for all that Table may tell, of package segs and of its reference.
  Conditions: slices of at most 2^47 bytes.
-/
import Derived.Test.YtgomemienmchnaaSegTable
namespace Go.Proofs.Ytgomemienmchnaa
open Go.RowKit
set_option linter.unusedVariables false

/-- The error, and the segments. -/
def tabR (zs : List Int) (p n : Int) : Int × List Sg :=
  if n < 0 ∨ 64 < n then (1, [])
  else if (zs.length : Int) < p + 56 * n then (10, [])
  else if goodT (piece zs p.toNat (56 * n.toNat)) n.toNat = true then (0, tabS (piece zs p.toNat (56 * n.toNat)) n.toNat) else (11, [])
theorem tabR_ok {zs : List Int} (hb : ∀ x ∈ zs, 0 ≤ x ∧ x ≤ 255) {p n : Int} (p0 : 0 ≤ p) : (∀ s ∈ (tabR zs p n).2, s.Ok) ∧ (tabR zs p n).2.length ≤ 64 := by
  unfold tabR
  split
  · exact ⟨fun s hs => by simp at hs, by simp⟩
  · split
    · exact ⟨fun s hs => by simp at hs, by simp⟩
    · split
      · refine ⟨tabS_ok (piece_mem hb) (piece_len (by omega)), ?_⟩
        simp only [tabS_len]; omega
      · exact ⟨fun s hs => by simp at hs, by simp⟩
theorem tab_post {zs : List Int} {p n : Nat} {w w' : World} {r : Ending} (h0 : ¬ ((n : Int) < 0 ∨ 64 < (n : Int))) (h1 : ¬ (zs.length : Int) < (p : Int) + 56 * (n : Int)) (h : TabPost (piece zs p (56 * n)) n w.heap.size r w') :
    ∃ v, r = .returned (.tuple #[v, .int .i64 (tabR zs p n).1]) ∧ w'.ownsRow w.heap.size 25 7 v (tabR zs p n).2.length (flatS (tabR zs p n).2) := by
  obtain ⟨v, e, rfl, ⟨hg, rfl, ho⟩ | ⟨hg, rfl, rfl⟩⟩ := h
  all_goals
    unfold tabR
    rw [if_neg h0, if_neg h1]
    simp only [Int.toNat_natCast, hg]
  · exact ⟨v, rfl, by simpa [tabS_len] using ho⟩
  · exact ⟨_, rfl, World.ownsRow_nil _ _ _ _⟩
theorem stable_any (B : Nat) (a : Option Addr) (len cap : Nat) (zs : List Int) (p n : Int) (w : World) (hb : Bys w B a len zs) (hB : B ≤ w.heap.size) (hcap : len ≤ cap) (hcm : (cap : Int) ≤ 9223372036854775807) (hl : len ≤ 140737488355328) (p0 : 0 ≤ p) (p1 : p ≤ 18446744073709551615) :
    Calls Try.prog 16 #[.slice a len cap, .int .u64 p, .int .i64 n] w fun r w' => (∃ v, r = .returned (.tuple #[v, .int .i64 (tabR zs p n).1]) ∧ w'.ownsRow w.heap.size 25 7 v (tabR zs p n).2.length (flatS (tabR zs p n).2)) ∧ Below w.heap.size w w' := by
  have hz := hb.1
  by_cases h0 : n < 0 ∨ 64 < n
  · refine (stable_arg a len cap p n w h0).mono ?_
    rintro r w' ⟨rfl, h⟩
    unfold tabR
    rw [if_pos h0]
    exact ⟨⟨_, rfl, World.ownsRow_nil _ _ _ _⟩, h⟩
  · obtain ⟨n, rfl⟩ := Int.eq_ofNat_of_zero_le (show 0 ≤ n by omega)
    by_cases h1 : (zs.length : Int) < p + 56 * n
    · refine (stable_range a len cap p n w (by omega) (by omega) p0 p1 (by omega)).mono ?_
      rintro r w' ⟨rfl, h⟩
      unfold tabR
      rw [if_neg h0, if_pos h1]
      exact ⟨⟨_, rfl, World.ownsRow_nil _ _ _ _⟩, h⟩
    · obtain ⟨p, rfl⟩ := Int.eq_ofNat_of_zero_le p0
      refine (stable_fits B a len cap zs p n w hb hB hcap hcm hl (by omega) (by omega)).mono ?_
      rintro r w' ⟨ht, h⟩
      exact ⟨tab_post h0 h1 ht, h⟩
theorem rtable_any (B : Nat) (a : Option Addr) (len cap : Nat) (zs : List Int) (p n : Int) (w : World) (hb : Bys w B a len zs) (hB : B ≤ w.heap.size) (hl : len ≤ 140737488355328) (p0 : 0 ≤ p) (p1 : p ≤ 18446744073709551615) :
    Calls Try.prog 17 #[.slice a len cap, .int .u64 p, .int .i64 n] w fun r w' => (∃ v, r = .returned (.tuple #[v, .int .i64 (tabR zs p n).1]) ∧ w'.ownsRow w.heap.size 25 7 v (tabR zs p n).2.length (flatS (tabR zs p n).2)) ∧ Below w.heap.size w w' := by
  have hz := hb.1
  by_cases h0 : n < 0 ∨ 64 < n
  · refine (rtable_arg a len cap p n w h0).mono ?_
    rintro r w' ⟨rfl, h⟩
    unfold tabR
    rw [if_pos h0]
    exact ⟨⟨_, rfl, World.ownsRow_nil _ _ _ _⟩, h⟩
  · obtain ⟨n, rfl⟩ := Int.eq_ofNat_of_zero_le (show 0 ≤ n by omega)
    by_cases h1 : (zs.length : Int) < p + 56 * n
    · refine (rtable_range a len cap p n w (by omega) (by omega) p0 p1 (by omega)).mono ?_
      rintro r w' ⟨rfl, h⟩
      unfold tabR
      rw [if_neg h0, if_pos h1]
      exact ⟨⟨_, rfl, World.ownsRow_nil _ _ _ _⟩, h⟩
    · obtain ⟨p, rfl⟩ := Int.eq_ofNat_of_zero_le p0
      refine (rtable_fits B a len cap zs p n w hb hB hl (by omega) (by omega)).mono ?_
      rintro r w' ⟨ht, h⟩
      exact ⟨tab_post h0 h1 ht, h⟩
theorem getV_form {zs : List Int} : ∃ (s : Sg) (e : Int), getV zs = .tuple #[s.val, .int .i64 e] := by
  unfold getV
  split
  · exact ⟨_, _, rfl⟩
  · split <;> exact ⟨_, _, rfl⟩
end Go.Proofs.Ytgomemienmchnaa
