/-
  What is proved here: the table of one name.
  Conditions: none.
-/
import Derived.Test.YtncnmgmkmjikcaaNamRes
namespace Go.Proofs.Ytncnmgmkmjikcaa
open Go.RowKit
set_option linter.unusedVariables false

theorem nm_one_zero (s : ByteArray) : nm [s] 0 = s := rfl
theorem nm_one_le {s : ByteArray} {M : Nat} (h : s.size ≤ M) : ∀ i, (nm [s] i).size ≤ M
  | 0 => h
  | i + 1 => Nat.zero_le _
theorem clean_one {s : ByteArray} (h : NoZ (bs s)) : Clean [s] := by
  intro i hi
  have : i = 0 := by simp at hi; exact hi
  subst this
  exact h
theorem seen_one {s : ByteArray} (h : s ≠ .empty) : seenB [s] 0 (nm [s] 0) = false := by
  rw [Bool.eq_false_iff]
  intro hs
  rcases (seenB_iff _ _ _).1 hs with h1 | ⟨i, h1, _⟩
  · exact h h1
  · exact absurd h1 (Nat.not_lt_zero _)
theorem tab_one_len {s : ByteArray} (h : s ≠ .empty) : (tab [s] [s].length).length = s.size + 2 := by
  have h1 : seenB [s] 0 (nm [s] 0) = false := seen_one h
  show (tab [s] 1).length = _
  rw [tab_new h1, List.length_append, List.length_append, bs_len, nm_one_zero]
  simp [tab]; omega
theorem size_ne {s : ByteArray} (h : 0 < s.size) : s ≠ .empty := fun e => by rw [e] at h; exact absurd h (by decide)
theorem size_strOfNums (zs : List Int) : (strOfNums zs).size = zs.length := by rw [strOfNums_size]
/-- The place of one name. -/
theorem pos_one (s : ByteArray) : pos [s] 1 s = if s = .empty then 0 else 1 := by
  by_cases h : s = .empty
  · rw [if_pos h, h, pos_empty]
  · rw [if_neg h]
    have h1 : seenB [s] 0 (nm [s] 0) = false := seen_one h
    have := pos_new h1
    rw [nm_one_zero] at this
    rw [this]; rfl
/-- Build of a list of one name that the call lays, wherever it lies. -/
def GivesOne (f : Nat) (s : ByteArray) (R O : List Int) (er : Int) : Prop :=
  ∀ W : World, Calls Try.prog f #[.slice (some ⟨W.heap.size, 0, none⟩) 1 1] (W.alloc (.cells #[.string s] 9)) fun e W' =>
    ∃ ta tc pa pc, e = .returned (.tuple #[.slice ta R.length tc, .slice pa O.length pc, .int .i64 er]) ∧ W'.ownsRow (W.heap.size + 1) 5 1 (.slice ta R.length tc) R.length (R.map (Value.int .u8)) ∧
      W'.ownsRow (W.heap.size + 1) 23 1 (.slice pa O.length pc) O.length (O.map (Value.int .u64)) ∧ Below (W.heap.size + 1) (W.alloc (.cells #[.string s] 9)) W'
theorem one_strs (W : World) (s : ByteArray) : Strs (W.alloc (.cells #[.string s] 9)) (W.alloc (.cells #[.string s] 9)).heap.size (some ⟨W.heap.size, 0, none⟩) 1 [s] := by
  have := Strs.alloc_new W [s] 9
  have e : (W.alloc (.cells #[.string s] 9)).heap.size = W.heap.size + 1 := by simp
  rw [e]
  exact this
theorem build_one {s : ByteArray} {R O : List Int} {er : Int} (hs : s.size ≤ maxLen) (hr : Res [s] R O er) : GivesOne 15 s R O er := by
  intro W
  have h := build_gives 1 (L := [s]) (one_strs W s) (by decide) (nm_one_le hs) hr _ (Below.refl _ _)
  have e : (W.alloc (.cells #[.string s] 9)).heap.size = W.heap.size + 1 := by simp
  rw [e] at h
  exact h
theorem rbuild_one {s : ByteArray} {R O : List Int} {er : Int} (hs : s.size ≤ 1000000) (hr : Res [s] R O er) : GivesOne 16 s R O er := by
  intro W
  have h := rbuild_gives 1 (L := [s]) (one_strs W s) (by decide) (nm_one_le hs) hr _ (Below.refl _ _)
  have e : (W.alloc (.cells #[.string s] 9)).heap.size = W.heap.size + 1 := by simp
  rw [e] at h
  exact h
end Go.Proofs.Ytncnmgmkmjikcaa
