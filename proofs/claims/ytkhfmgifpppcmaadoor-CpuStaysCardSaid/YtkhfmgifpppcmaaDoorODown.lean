/-
  What is proved here: plain words on powers of 2, and the walk's own forms of the masks that go with them. · Down of package octets.
  Conditions: as they say.
-/
import Derived.Test.YtkhfmgifpppcmaaDoorBase
import Derived.Test.YtkhfmgifpppcmaaDoorBaseP
namespace Go.Proofs.YtkhfmgifpppcmaaDoor
open Go.RowKit
set_option linter.unusedVariables false

/-- A power of 2 that is a uint64. -/
def IsP2 (a : Int) : Prop := ∃ k : Nat, k < 64 ∧ a = 2 ^ k

theorem nat_and_zero : ∀ (n a : Nat), a ≤ n → 0 < a → a &&& (a - 1) = 0 → ∃ k, a = 2 ^ k
  | 0, a, hn, h0, _ => absurd h0 (by omega)
  | n + 1, a, hn, h0, h => by
    have hd : a / 2 &&& (a - 1) / 2 = 0 := by rw [← Nat.and_div_two, h]
    by_cases he : a % 2 = 0
    · rw [show (a - 1) / 2 = a / 2 - 1 from by omega] at hd
      obtain ⟨k, hk⟩ := nat_and_zero n (a / 2) (by omega) (by omega) hd
      exact ⟨k + 1, by rw [Nat.pow_succ, ← hk]; omega⟩
    · rw [show (a - 1) / 2 = a / 2 from by omega, Nat.and_self] at hd
      exact ⟨0, by omega⟩

theorem nat_and_pow (k : Nat) : 2 ^ k &&& (2 ^ k - 1) = 0 := by
  rw [Nat.and_two_pow_sub_one_eq_mod, Nat.mod_self]

theorem nat_andNot_pow (x k : Nat) (hx : x < 2 ^ 64) (hk : k < 64) : x &&& (18446744073709551615 - (2 ^ k - 1)) = x / 2 ^ k * 2 ^ k := by
  have e : 18446744073709551615 - (2 ^ k - 1) = (2 ^ (64 - k) - 1) * 2 ^ k := by
    have h1 : 2 ^ (64 - k) * 2 ^ k = 2 ^ 64 := by rw [← Nat.pow_add]; congr 1; omega
    have h2 : 0 < 2 ^ k := Nat.pow_pos (by decide)
    rw [Nat.sub_mul, h1]
    have h3 : (2 : Nat) ^ 64 = 18446744073709551616 := by decide
    omega
  rw [e, ← Nat.shiftLeft_eq, ← Nat.shiftLeft_eq, ← Nat.shiftRight_eq_div_pow]
  apply Nat.eq_of_testBit_eq
  intro i
  rw [Nat.testBit_and, Nat.testBit_shiftLeft, Nat.testBit_shiftLeft, Nat.testBit_shiftRight, Nat.testBit_two_pow_sub_one]
  by_cases hki : k ≤ i
  · rw [show k + (i - k) = i from by omega]
    by_cases hi : i < 64
    · simp [hki, show i - k < 64 - k from by omega]
    · have : x.testBit i = false := Nat.testBit_lt_two_pow (Nat.lt_of_lt_of_le hx (Nat.pow_le_pow_right (by decide) (by omega)))
      simp [this]
  · simp [hki]

theorem pow2_bd {k : Nat} (h : k < 64) : 1 ≤ (2 : Int) ^ k ∧ (2 : Int) ^ k ≤ 9223372036854775808 := by
  have e : (2 : Int) ^ k = ((2 ^ k : Nat) : Int) := by rw [Int.natCast_pow]; rfl
  have h1 : 0 < 2 ^ k := Nat.pow_pos (by decide)
  have h2 : 2 ^ k ≤ 2 ^ 63 := Nat.pow_le_pow_right (by decide) (by omega)
  have h3 : (2 : Nat) ^ 63 = 9223372036854775808 := by decide
  rw [e]; omega

theorem toNat_pow2 (k : Nat) : ((2 : Int) ^ k).toNat = 2 ^ k := by
  have e : (2 : Int) ^ k = ((2 ^ k : Nat) : Int) := by rw [Int.natCast_pow]; rfl
  rw [e, Int.toNat_natCast]

/-- 'a and a-1' is 0 at a power of 2. -/
theorem and_p2 {a : Int} (h : IsP2 a) : bits .and .u64 a (a - 1) = 0 := by
  obtain ⟨k, hk, rfl⟩ := h
  have hb := pow2_bd hk
  rw [u64_and _ _ (by omega) (by omega) (by omega) (by omega), toNat_pow2, show ((2 : Int) ^ k - 1).toNat = 2 ^ k - 1 from by have := toNat_pow2 k; omega, nat_and_pow]
  rfl

/-- 'a and a-1' is not 0 elsewhere. -/
theorem and_not_p2 {a : Int} (h0 : 0 < a) (h1 : a ≤ 18446744073709551615) (h : ¬ IsP2 a) : bits .and .u64 a (a - 1) ≠ 0 := by
  rw [u64_and _ _ (by omega) (by omega) (by omega) (by omega)]
  intro e
  apply h
  obtain ⟨n, rfl⟩ := Int.eq_ofNat_of_zero_le (show 0 ≤ a by omega)
  rw [Int.toNat_natCast, show ((n : Int) - 1).toNat = n - 1 from by omega] at e
  obtain ⟨k, hk⟩ := nat_and_zero n n (Nat.le_refl _) (by omega) (by omega)
  refine ⟨k, ?_, by rw [hk, Int.natCast_pow]; rfl⟩
  rcases Nat.lt_or_ge k 64 with h64 | h64
  · exact h64
  · have h2 : 2 ^ 64 ≤ 2 ^ k := Nat.pow_le_pow_right (by decide) h64
    have h3 : (2 : Nat) ^ 64 = 18446744073709551616 := by decide
    omega

/-- 'x and not (a-1)' is the greatest multiple that is not above x. -/
theorem andNot_p2 {a x : Int} (h : IsP2 a) (x0 : 0 ≤ x) (x1 : x ≤ 18446744073709551615) : bits .andNot .u64 x (a - 1) = x / a * a := by
  obtain ⟨k, hk, rfl⟩ := h
  have hb := pow2_bd hk
  obtain ⟨n, rfl⟩ := Int.eq_ofNat_of_zero_le x0
  have h3 : (2 : Nat) ^ 64 = 18446744073709551616 := by decide
  rw [u64_andNot _ _ (by omega) (by omega) (by omega) (by omega), Int.toNat_natCast, show ((2 : Int) ^ k - 1).toNat = 2 ^ k - 1 from by have := toNat_pow2 k; omega, nat_andNot_pow n k (by omega) hk]
  rw [Int.natCast_mul, Int.natCast_ediv, Int.natCast_pow]
  rfl

/-- Of a power of 2: how the multiples lie below 2^64. -/
theorem mult_p2 {a x : Int} (h : IsP2 a) (x0 : 0 ≤ x) (x1 : x ≤ 18446744073709551615) :
    0 ≤ x / a * a ∧ x / a * a ≤ x ∧ x < x / a * a + a ∧ x / a * a + a ≤ 18446744073709551616 ∧ (x / a = 18446744073709551615 / a ↔ x / a * a + a = 18446744073709551616) ∧ (x % a = 0 ↔ x / a * a = x) ∧ (x / a + 1) * a = x / a * a + a ∧ 0 ≤ x / a ∧ x / a ≤ x := by
  obtain ⟨k, hk, rfl⟩ := h
  have hb := pow2_bd hk
  have hM : (2 : Int) ^ (64 - k) * 2 ^ k = 18446744073709551616 := by rw [← Int.pow_add, show 64 - k + k = 64 from by omega]; rfl
  have hMp : 0 < (2 : Int) ^ (64 - k) := Int.pow_pos (by decide)
  generalize (2 : Int) ^ (64 - k) = M at hM hMp
  generalize (2 : Int) ^ k = a at hb hM ⊢
  have hdm := Int.mul_ediv_add_emod x a
  have hm0 := Int.emod_nonneg x (show a ≠ 0 by omega)
  have hm1 := Int.emod_lt_of_pos x (show 0 < a by omega)
  have hq0 : 0 ≤ x / a := Int.ediv_nonneg x0 (by omega)
  have hqx : x / a ≤ x := Int.ediv_le_self _ x0
  have hlast : 18446744073709551615 / a = M - 1 := by
    rw [show (18446744073709551615 : Int) = (a - 1) + a * (M - 1) from by rw [Int.mul_sub, Int.mul_comm a M, hM]; omega, Int.add_mul_ediv_left _ _ (by omega), Int.ediv_eq_zero_of_lt (by omega) (by omega)]
    omega
  have hqM : x / a < M := by
    by_cases h : x / a < M
    · exact h
    · have := Int.mul_le_mul_of_nonneg_right (show M ≤ x / a by omega) (show 0 ≤ a by omega)
      rw [hM] at this
      rw [Int.mul_comm] at hdm
      omega
  rw [Int.mul_comm] at hdm
  rw [hlast, Int.add_mul, Int.one_mul]
  have hqa : (x / a + 1) * a ≤ M * a := Int.mul_le_mul_of_nonneg_right (by omega) (by omega)
  rw [Int.add_mul, Int.one_mul, hM] at hqa
  refine ⟨by have := Int.mul_nonneg hq0 (show 0 ≤ a by omega); omega, by omega, by omega, hqa, ⟨fun e => ?_, fun e => ?_⟩, ⟨fun e => by omega, fun e => by omega⟩, rfl, hq0, hqx⟩
  · rw [e, Int.sub_mul, Int.one_mul, hM]; omega
  · have e2 : (x / a + 1) * a = M * a := by rw [Int.add_mul, Int.one_mul, hM]; exact e
    have := Int.eq_of_mul_eq_mul_right (show a ≠ 0 by omega) e2
    omega

theorem p2_half {a : Int} (h : IsP2 a) (h1 : 1 < a) : a % 2 = 0 ∧ IsP2 (a / 2) := by
  obtain ⟨k, hk, rfl⟩ := h
  match k, hk, h1 with
  | 0, _, h1 => exact absurd h1 (by decide)
  | k + 1, hk, h1 =>
    rw [Int.pow_succ]
    exact ⟨by omega, k, by omega, by omega⟩

theorem p2_double {a : Int} (h : IsP2 (a / 2)) (he : a % 2 = 0) (h1 : a ≤ 18446744073709551615) : IsP2 a := by
  obtain ⟨k, hk, e⟩ := h
  refine ⟨k + 1, ?_, by rw [Int.pow_succ, ← e]; omega⟩
  rcases Nat.lt_or_ge (k + 1) 64 with h64 | h64
  · exact h64
  · obtain rfl : k = 63 := by omega
    have : (2 : Int) ^ 63 = 9223372036854775808 := by decide
    omega

theorem p2_one : IsP2 1 := ⟨0, by decide, rfl⟩

theorem p2_pos {a : Int} (h : IsP2 a) : 1 ≤ a ∧ a ≤ 9223372036854775808 := by
  obtain ⟨k, hk, rfl⟩ := h
  exact pow2_bd hk
end Go.Proofs.YtkhfmgifpppcmaaDoor
namespace Go.Proofs.YtkhfmgifpppcmaaDoor
open Go.RowKit
set_option linter.unusedVariables false

set_option maxHeartbeats 400000 in
theorem down_arg (x a : Int) (w : World) (a0 : 0 ≤ a) (a1 : a ≤ 18446744073709551615) (h : ¬ IsP2 a) :
    Calls Tryd.prog 28 #[.int .u64 x, .int .u64 a] w fun e w' => e = .returned (.tuple #[.int .u64 0, .int .i64 1]) ∧ w = w' := by
  by_cases hz : a = 0
  · subst hz
    clear h
    go_enter Tryd.func28, Tryd.ntmps28
    go_wp2
    go_ret2
    exact ⟨rfl, rfl⟩
  · have hzb : (a == 0) = false := by simpa using hz
    have hp : 0 < a := by omega
    have hn : (bits .and .u64 a (a - 1) != 0) = true := by simpa using and_not_p2 hp a1 h
    clear h hz
    go_enter Tryd.func28, Tryd.ntmps28
    go_wp2
    go_ret2
    exact ⟨rfl, rfl⟩

set_option maxHeartbeats 400000 in
theorem down_ok (x a : Int) (w : World) (x0 : 0 ≤ x) (x1 : x ≤ 18446744073709551615) (h : IsP2 a) :
    Calls Tryd.prog 28 #[.int .u64 x, .int .u64 a] w fun e w' => e = .returned (.tuple #[.int .u64 (x / a * a), .int .i64 0]) ∧ w = w' := by
  obtain ⟨p0, p1⟩ := p2_pos h
  have hzb : (a == 0) = false := by simp; omega
  have hn : (bits .and .u64 a (a - 1) != 0) = false := by simp [and_p2 h]
  have HA := Lib.hid (andNot_p2 h x0 x1)
  clear h
  go_enter Tryd.func28, Tryd.ntmps28
  go_wp2
  go_ret2
  exact ⟨ret_num HA.out, rfl⟩
end Go.Proofs.YtkhfmgifpppcmaaDoor
