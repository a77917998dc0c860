/-
  What is proved here: plain facts on 'n and mask' of an int, and the widths table that two laws read.
  Conditions: none.
-/
import Derived.Test.YtjcjngmcjlffaaaOctAwake
namespace Go.Proofs.Ytjcjngmcjlffaaa
open Go.RowKit
set_option linter.unusedVariables false

/-- 'n and M' is one of 0 to M. -/
theorem i64_mask (n : Int) (M : Nat) (hM : M < 9223372036854775808) : ∃ m : Nat, m ≤ M ∧ bits .and .i64 n (M : Int) = (m : Int) := by
  have h2 : (BitVec.ofInt 64 (M : Int)).toNat = M := by
    rw [BitVec.ofInt_natCast, BitVec.toNat_ofNat]; exact Nat.mod_eq_of_lt (by omega)
  refine ⟨(BitVec.ofInt 64 n).toNat &&& M, Nat.and_le_right, ?_⟩
  show IntKind.i64.wrap ((BitVec.ofInt 64 n &&& BitVec.ofInt 64 (M : Int)).toNat : Int) = _
  rw [BitVec.toNat_and, h2]
  have : (BitVec.ofInt 64 n).toNat &&& M ≤ M := Nat.and_le_right
  rw [IntKind.wrap_i64]
  omega

/-- The table of widths, as the laws lay it: place j holds the width k. -/
def WidAt (j k : Nat) : Prop := (j = 0 ∧ k = 1) ∨ (j = 1 ∧ k = 2) ∨ (j = 2 ∧ k = 4) ∨ (j = 3 ∧ k = 8)
theorem widAt_of {j : Nat} (h : j ≤ 3) : ∃ k, WidAt j k := by
  have : j = 0 ∨ j = 1 ∨ j = 2 ∨ j = 3 := by omega
  rcases this with rfl | rfl | rfl | rfl
  · exact ⟨1, by simp [WidAt]⟩
  · exact ⟨2, by simp [WidAt]⟩
  · exact ⟨4, by simp [WidAt]⟩
  · exact ⟨8, by simp [WidAt]⟩
theorem WidAt.is {j k : Nat} (h : WidAt j k) : k = 1 ∨ k = 2 ∨ k = 4 ∨ k = 8 := by unfold WidAt at h; omega
theorem WidAt.lt {j k : Nat} (h : WidAt j k) : j < 4 ∧ 1 ≤ k ∧ k ≤ 8 := by unfold WidAt at h; omega
theorem WidAt.cell {j k : Nat} (h : WidAt j k) (w : World) (t : TypeId) : (w.alloc (.cells #[.int .i64 1, .int .i64 2, .int .i64 4, .int .i64 8] t)).cell? ⟨w.heap.size, j, none⟩ = some (.int .i64 (k : Int)) := by
  rw [World.cell?_alloc_at _ _ _ _ rfl]
  rcases h with ⟨rfl, rfl⟩ | ⟨rfl, rfl⟩ | ⟨rfl, rfl⟩ | ⟨rfl, rfl⟩ <;> rfl

/-- Cut of nothing at the end. -/
theorem cut_end (B : Nat) (a : Option Addr) (len cap : Nat) (zs : List Int) (w : World) (hb : Bys w B a len zs) (hB : B ≤ w.heap.size) (hcap : len ≤ cap) (hcm : (cap : Int) ≤ 9223372036854775807) (hl : len ≤ 140737488355328) :
    Calls Try.prog 16 #[.slice a len cap, .int .u64 len, .int .u64 0] w fun e w' =>
      e = .returned (.tuple #[.slice (some ⟨w.heap.size, 0, none⟩) 0 0, .int .i64 0]) ∧ Below w.heap.size w w' :=
  (cut_ok B a len cap zs len 0 w hb hB hcap hcm hl (Nat.le_refl _)).mono fun e w' ⟨h1, _, h3⟩ => ⟨h1, h3⟩
end Go.Proofs.Ytjcjngmcjlffaaa
