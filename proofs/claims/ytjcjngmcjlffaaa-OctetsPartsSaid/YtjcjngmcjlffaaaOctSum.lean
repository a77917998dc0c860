/-
  What is proved here: plain arithmetic on the number of a piece of bytes: a sum with a shifted part, in the walk's own forms; what a number modulo 256^n is as a mask.
  Conditions: none; nothing here speaks of the program.
-/
import Derived.Test.YtjcjngmcjlffaaaOctSets
namespace Go.Proofs.Ytjcjngmcjlffaaa
open Go.RowKit
set_option linter.unusedVariables false

theorem piece_add (zs : List Int) (p a b : Nat) : piece zs p (a + b) = piece zs p a ++ piece zs (p + a) b := by
  unfold piece
  rw [List.take_add, List.drop_drop]
theorem num_append : ∀ (l r : List Int), num (l ++ r) = num l + 256 ^ l.length * num r
  | [], r => by simp [num]
  | b :: l, r => by
    have := num_append l r
    simp only [List.cons_append, num, this, List.length_cons, Int.pow_succ]
    rw [Int.mul_add, Int.add_assoc]
    congr 2
    rw [← Int.mul_assoc, Int.mul_comm 256]
theorem num_piece_add {zs : List Int} {p a b : Nat} (h : p + a ≤ zs.length) : num (piece zs p (a + b)) = num (piece zs p a) + 256 ^ a * num (piece zs (p + a) b) := by
  rw [piece_add, num_append, piece_len h]

/-- A shifted part added on: the walk's own form. 's' is how many bits a byte's place counts (8 a place). -/
theorem add_step {x y : Int} {a b s : Nat} (hs : s = 8 * a) (hab : a + b ≤ 8) (h0 : 0 ≤ x) (h1 : x < 256 ^ a) (y0 : 0 ≤ y) (y1 : y < 256 ^ b) :
    IntKind.u64.wrap (y * 2 ^ s) = 256 ^ a * y ∧ IntKind.u64.wrap (x + IntKind.u64.wrap (y * 2 ^ s)) = x + 256 ^ a * y ∧ 0 ≤ 256 ^ a * y ∧ x + 256 ^ a * y ≤ 18446744073709551615 := by
  subst hs
  have hp : (2 : Int) ^ (8 * a) = 256 ^ a := by rw [Int.pow_mul]; rfl
  have hA : 0 < (256 : Int) ^ a := Int.pow_pos (by decide)
  have hAB : (256 : Int) ^ a * 256 ^ b ≤ 18446744073709551616 := by rw [← Int.pow_add]; exact pow_le8 hab
  have h2 : 256 ^ a * y ≤ 256 ^ a * (256 ^ b - 1) := Int.mul_le_mul_of_nonneg_left (by omega) (by omega)
  have h3 : 0 ≤ 256 ^ a * y := Int.mul_nonneg (by omega) y0
  rw [Int.mul_sub, Int.mul_one] at h2
  rw [hp, Int.mul_comm y]
  generalize (256 : Int) ^ a * y = P at *
  generalize (256 : Int) ^ a * 256 ^ b = Q at *
  generalize (256 : Int) ^ a = A at *
  have w1 : IntKind.u64.wrap P = P := by rw [IntKind.wrap_u64]; exact Int.emod_eq_of_lt h3 (by omega)
  refine ⟨w1, ?_, h3, by omega⟩
  rw [w1, IntKind.wrap_u64]; exact Int.emod_eq_of_lt (by omega) (by omega)

/-- x modulo 256^n as the laws spell it: 'x and (1 << 8n) - 1'. -/
theorem mask_num {x : Int} {n : Nat} (x0 : 0 ≤ x) (x1 : x ≤ 18446744073709551615) (hn : n = 1 ∨ n = 2 ∨ n = 4) :
    bits .and .u64 x (256 ^ n - 1) = x % 256 ^ n := by
  obtain ⟨y, rfl⟩ := Int.eq_ofNat_of_zero_le x0
  rcases hn with rfl | rfl | rfl
  · have e : Int.toNat ((256 : Int) ^ 1 - 1) = 2 ^ 8 - 1 := by decide
    rw [u64_and _ _ (by omega) (by omega) (by decide) (by decide), Int.toNat_natCast, e, Nat.and_two_pow_sub_one_eq_mod]; omega
  · have e : Int.toNat ((256 : Int) ^ 2 - 1) = 2 ^ 16 - 1 := by decide
    rw [u64_and _ _ (by omega) (by omega) (by decide) (by decide), Int.toNat_natCast, e, Nat.and_two_pow_sub_one_eq_mod]; omega
  · have e : Int.toNat ((256 : Int) ^ 4 - 1) = 2 ^ 32 - 1 := by decide
    rw [u64_and _ _ (by omega) (by omega) (by decide) (by decide), Int.toNat_natCast, e, Nat.and_two_pow_sub_one_eq_mod]; omega
end Go.Proofs.Ytjcjngmcjlffaaa
