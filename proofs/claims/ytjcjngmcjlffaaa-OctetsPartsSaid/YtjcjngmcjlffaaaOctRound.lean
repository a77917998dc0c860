/-
  What is proved here: Down and Up of package octets and of its reference return the greatest multiple that is not above x and the least that is not below it, or the error that the document names; Meet of both tells the same, turned round too.
  Conditions: none but that the arguments are values of their types.
-/
import Derived.Test.YtjcjngmcjlffaaaOctPlain
import Derived.Test.YtjcjngmcjlffaaaOctPow
import Derived.Deep.QuietTactic
import Derived.BigQuiet
namespace Go.Proofs.Ytjcjngmcjlffaaa
open Go.RowKit
set_option linter.unusedVariables false

set_option maxHeartbeats 400000 in
theorem power_yes (a : Int) (w : World) (h : IsP2 a) :
    Calls Try.prog 28 #[.int .u64 a] w fun e w' => e = .returned (.bool true) ∧ w = w' := by
  have hb := p2_pos h
  have H := Lib.hid h
  clear h
  go_enter Try.func28, Try.ntmps28
  go_wp2
  go_loop [0] (fun x => ∃ y : Int, IsP2 y ∧ x = .int .u64 y) (fun x => (intOf x).toNat)
  case atStart => exact ⟨a, H.out, rfl⟩
  case round =>
    obtain ⟨y, hy, rfl⟩ := hrel
    have hyb := p2_pos hy
    by_cases h1 : 1 < y
    · obtain ⟨he, hh⟩ := p2_half hy h1
      have HH := Lib.hid hh
      have heb : (y % 2 == 0) = true := by simpa using he
      obtain ⟨y0, y1⟩ := hyb
      clear hy hh he
      go_wp2
      go_round
      case rel => exact ⟨y / 2, HH.out, rfl⟩
      case measure => simp [intOf]; omega
    · obtain rfl : y = 1 := by omega
      clear hy hyb h1
      go_wp2
      go_ret
      exact ⟨rfl, rfl⟩

set_option maxHeartbeats 400000 in
theorem power_no (a : Int) (w : World) (h0 : 0 ≤ a) (h1 : a ≤ 18446744073709551615) (h : ¬ IsP2 a) :
    Calls Try.prog 28 #[.int .u64 a] w fun e w' => e = .returned (.bool false) ∧ w = w' := by
  have H := Lib.hid h
  clear h
  go_enter Try.func28, Try.ntmps28
  go_wp2
  go_loop [0] (fun x => ∃ y : Int, 0 ≤ y ∧ y ≤ 18446744073709551615 ∧ ¬ IsP2 y ∧ x = .int .u64 y) (fun x => (intOf x).toNat)
  case atStart => exact ⟨a, h0, h1, H.out, rfl⟩
  case round =>
    obtain ⟨y, y0, y1, hy, rfl⟩ := hrel
    have hn1 : (y == 1) = false := by
      by_cases e : y = 1
      · subst e; exact absurd p2_one hy
      · simpa using e
    have HN := Lib.hid hy
    clear hy
    by_cases h1 : 1 < y
    · by_cases he : y % 2 = 0
      · have heb : (y % 2 == 0) = true := by simpa using he
        have HE := Lib.hid he
        clear he
        go_wp2
        go_round
        case rel => exact ⟨y / 2, by omega, by omega, fun h => HN.out (p2_double h HE.out y1), rfl⟩
        case measure => simp [intOf]; omega
      · have heb : (y % 2 == 0) = false := by simpa using he
        clear he
        go_wp2
        go_ret
        exact ⟨rfl, rfl⟩
    · go_wp2
      go_ret
      exact ⟨rfl, rfl⟩

set_option maxHeartbeats 400000 in
theorem down_arg (x a : Int) (w : World) (a0 : 0 ≤ a) (a1 : a ≤ 18446744073709551615) (h : ¬ IsP2 a) :
    Calls Try.prog 20 #[.int .u64 x, .int .u64 a] w fun e w' => e = .returned (.tuple #[.int .u64 0, .int .i64 1]) ∧ w = w' := by
  by_cases hz : a = 0
  · subst hz
    clear h
    go_enter Try.func20, Try.ntmps20
    go_wp2
    go_ret2
    exact ⟨rfl, rfl⟩
  · have hzb : (a == 0) = false := by simpa using hz
    have hp : 0 < a := by omega
    have hn : (bits .and .u64 a (a - 1) != 0) = true := by simpa using and_not_p2 hp a1 h
    clear h hz
    go_enter Try.func20, Try.ntmps20
    go_wp2
    go_ret2
    exact ⟨rfl, rfl⟩

set_option maxHeartbeats 400000 in
theorem down_ok (x a : Int) (w : World) (x0 : 0 ≤ x) (x1 : x ≤ 18446744073709551615) (h : IsP2 a) :
    Calls Try.prog 20 #[.int .u64 x, .int .u64 a] w fun e w' => e = .returned (.tuple #[.int .u64 (x / a * a), .int .i64 0]) ∧ w = w' := by
  obtain ⟨p0, p1⟩ := p2_pos h
  have hzb : (a == 0) = false := by simp; omega
  have hn : (bits .and .u64 a (a - 1) != 0) = false := by simp [and_p2 h]
  have HA := Lib.hid (andNot_p2 h x0 x1)
  clear h
  go_enter Try.func20, Try.ntmps20
  go_wp2
  go_ret2
  exact ⟨ret_num HA.out, rfl⟩

set_option maxHeartbeats 400000 in
theorem rdown_arg (x a : Int) (w : World) (a0 : 0 ≤ a) (a1 : a ≤ 18446744073709551615) (h : ¬ IsP2 a) :
    Calls Try.prog 21 #[.int .u64 x, .int .u64 a] w fun e w' => e = .returned (.tuple #[.int .u64 0, .int .i64 1]) ∧ w = w' := by
  have H := Lib.hid h
  clear h
  go_enter Try.func21, Try.ntmps21
  go_wp2_with (go_at_call 28; refine (power_no _ _ a0 a1 H.out).mono ?_; rintro e w' ⟨rfl, rfl⟩)
  go_ret2
  exact ⟨rfl, rfl⟩

set_option maxHeartbeats 400000 in
theorem rdown_ok (x a : Int) (w : World) (x0 : 0 ≤ x) (x1 : x ≤ 18446744073709551615) (h : IsP2 a) :
    Calls Try.prog 21 #[.int .u64 x, .int .u64 a] w fun e w' => e = .returned (.tuple #[.int .u64 (x / a * a), .int .i64 0]) ∧ w = w' := by
  obtain ⟨p0, p1⟩ := p2_pos h
  obtain ⟨m0, m1, _, _, _, _, _, m2, m3⟩ := mult_p2 h x0 x1
  have H := Lib.hid h
  clear h
  go_enter Try.func21, Try.ntmps21
  go_wp2_with (go_at_call 28; refine (power_yes _ _ H.out).mono ?_; rintro e w' ⟨rfl, rfl⟩)
  go_ret2
  exact ⟨rfl, rfl⟩

set_option maxHeartbeats 400000 in
theorem up_arg (x a : Int) (w : World) (a0 : 0 ≤ a) (a1 : a ≤ 18446744073709551615) (h : ¬ IsP2 a) :
    Calls Try.prog 18 #[.int .u64 x, .int .u64 a] w fun e w' => e = .returned (.tuple #[.int .u64 0, .int .i64 1]) ∧ w = w' := by
  have H := Lib.hid h
  clear h
  go_enter Try.func18, Try.ntmps18
  go_wp2_with (go_at_call 20; refine (down_arg _ _ _ a0 a1 H.out).mono ?_; rintro e w' ⟨rfl, rfl⟩)
  go_ret2
  exact ⟨rfl, rfl⟩

set_option maxHeartbeats 400000 in
theorem up_same (x a : Int) (w : World) (x0 : 0 ≤ x) (x1 : x ≤ 18446744073709551615) (h : IsP2 a) (hx : x / a * a = x) :
    Calls Try.prog 18 #[.int .u64 x, .int .u64 a] w fun e w' => e = .returned (.tuple #[.int .u64 x, .int .i64 0]) ∧ w = w' := by
  have H := Lib.hid h
  have hb : (x / a * a == x) = true := by simpa using hx
  have HX := Lib.hid hx
  clear h hx
  go_enter Try.func18, Try.ntmps18
  go_wp2_with (go_at_call 20; refine (down_ok _ _ _ x0 x1 H.out).mono ?_; rintro e w' ⟨rfl, rfl⟩)
  go_ret2
  exact ⟨ret_num HX.out, rfl⟩

set_option maxHeartbeats 400000 in
theorem up_range (x a : Int) (w : World) (x0 : 0 ≤ x) (x1 : x ≤ 18446744073709551615) (h : IsP2 a) (hx : x / a * a ≠ x) (ht : x / a * a + a = 18446744073709551616) :
    Calls Try.prog 18 #[.int .u64 x, .int .u64 a] w fun e w' => e = .returned (.tuple #[.int .u64 0, .int .i64 10]) ∧ w = w' := by
  have H := Lib.hid h
  have hb : (x / a * a == x) = false := by simpa using hx
  have hw : IntKind.u64.wrap (x / a * a + a) = 0 := by rw [ht]; rfl
  clear h hx ht
  go_enter Try.func18, Try.ntmps18
  go_wp2_with (go_at_call 20; refine (down_ok _ _ _ x0 x1 H.out).mono ?_; rintro e w' ⟨rfl, rfl⟩)
  go_ret2
  exact ⟨rfl, rfl⟩

set_option maxHeartbeats 400000 in
theorem up_next (x a : Int) (w : World) (x0 : 0 ≤ x) (x1 : x ≤ 18446744073709551615) (h : IsP2 a) (hx : x / a * a ≠ x) (ht : x / a * a + a ≤ 18446744073709551615) :
    Calls Try.prog 18 #[.int .u64 x, .int .u64 a] w fun e w' => e = .returned (.tuple #[.int .u64 (x / a * a + a), .int .i64 0]) ∧ w = w' := by
  obtain ⟨p0, p1⟩ := p2_pos h
  obtain ⟨m0, m1, _, _, _, _, _, m2, m3⟩ := mult_p2 h x0 x1
  have H := Lib.hid h
  have hb : (x / a * a == x) = false := by simpa using hx
  have hn : (x / a * a + a == 0) = false := by simp; omega
  clear h hx
  go_enter Try.func18, Try.ntmps18
  go_wp2_with (go_at_call 20; refine (down_ok _ _ _ x0 x1 H.out).mono ?_; rintro e w' ⟨rfl, rfl⟩)
  go_ret2
  exact ⟨rfl, rfl⟩

set_option maxHeartbeats 400000 in
theorem rup_arg (x a : Int) (w : World) (a0 : 0 ≤ a) (a1 : a ≤ 18446744073709551615) (h : ¬ IsP2 a) :
    Calls Try.prog 19 #[.int .u64 x, .int .u64 a] w fun e w' => e = .returned (.tuple #[.int .u64 0, .int .i64 1]) ∧ ∃ n, w' = w.drewN n := by
  have H := Lib.hid h
  clear h
  go_enter Try.func19, Try.ntmps19
  go_wp2_with (go_at_call 28; refine (power_no _ _ a0 a1 H.out).mono ?_; rintro e w' ⟨rfl, rfl⟩)
  go_ret2
  exact ⟨rfl, 0, rfl⟩

set_option maxHeartbeats 400000 in
theorem rup_same (x a : Int) (w : World) (x0 : 0 ≤ x) (x1 : x ≤ 18446744073709551615) (h : IsP2 a) (hx : x / a * a = x) :
    Calls Try.prog 19 #[.int .u64 x, .int .u64 a] w fun e w' => e = .returned (.tuple #[.int .u64 x, .int .i64 0]) ∧ ∃ n, w' = w.drewN n := by
  obtain ⟨p0, p1⟩ := p2_pos h
  have hm : (x % a == 0) = true := by
    have := (mult_p2 h x0 x1).2.2.2.2.2.1.2 hx
    simpa using this
  have H := Lib.hid h
  clear h hx
  go_enter Try.func19, Try.ntmps19
  go_wp2_with (go_at_call 28; refine (power_yes _ _ H.out).mono ?_; rintro e w' ⟨rfl, rfl⟩)
  go_ret2
  exact ⟨rfl, 0, rfl⟩

set_option maxHeartbeats 400000 in
theorem rup_range (x a : Int) (w : World) (x0 : 0 ≤ x) (x1 : x ≤ 18446744073709551615) (h : IsP2 a) (hx : x / a * a ≠ x) (ht : x / a * a + a = 18446744073709551616) :
    Calls Try.prog 19 #[.int .u64 x, .int .u64 a] w fun e w' => e = .returned (.tuple #[.int .u64 0, .int .i64 10]) ∧ ∃ n, w' = w.drewN n := by
  obtain ⟨p0, p1⟩ := p2_pos h
  obtain ⟨m0, m1, _, _, mt, mm, _, m2, m3⟩ := mult_p2 h x0 x1
  have hm : (x % a == 0) = false := by
    have : x % a ≠ 0 := fun e => hx (mm.1 e)
    simpa using this
  have hq : (x / a == 18446744073709551615 / a) = true := by
    have := mt.2 ht
    simpa using this
  have H := Lib.hid h
  clear h hx ht mt mm
  go_enter Try.func19, Try.ntmps19
  go_wp2_with (go_at_call 28; refine (power_yes _ _ H.out).mono ?_; rintro e w' ⟨rfl, rfl⟩)
  go_quiet (fail)
  go_wp2
  go_ret2
  exact ⟨rfl, _, rfl⟩

set_option maxHeartbeats 400000 in
theorem rup_next (x a : Int) (w : World) (x0 : 0 ≤ x) (x1 : x ≤ 18446744073709551615) (h : IsP2 a) (hx : x / a * a ≠ x) (ht : x / a * a + a ≤ 18446744073709551615) :
    Calls Try.prog 19 #[.int .u64 x, .int .u64 a] w fun e w' => e = .returned (.tuple #[.int .u64 (x / a * a + a), .int .i64 0]) ∧ ∃ n, w' = w.drewN n := by
  obtain ⟨p0, p1⟩ := p2_pos h
  obtain ⟨m0, m1, _, _, mt, mm, ms, m2, m3⟩ := mult_p2 h x0 x1
  have hm : (x % a == 0) = false := by
    have : x % a ≠ 0 := fun e => hx (mm.1 e)
    simpa using this
  have hq : (x / a == 18446744073709551615 / a) = false := by
    have : x / a ≠ 18446744073709551615 / a := fun e => by have := mt.1 e; omega
    simpa using this
  have hq1 : x / a + 1 ≤ 18446744073709551615 := by
    rcases Int.lt_or_le (x / a) 18446744073709551615 with h1 | h1
    · omega
    · exfalso
      have := Int.mul_le_mul_of_nonneg_left p0 (show 0 ≤ x / a by omega)
      omega
  have s0 : 0 ≤ (x / a + 1) * a := by omega
  have s1 : (x / a + 1) * a ≤ 18446744073709551615 := by omega
  have HS := Lib.hid ms
  have H := Lib.hid h
  clear h hx mt mm ms
  go_enter Try.func19, Try.ntmps19
  go_wp2_with (go_at_call 28; refine (power_yes _ _ H.out).mono ?_; rintro e w' ⟨rfl, rfl⟩)
  go_quiet (fail)
  go_wp2
  go_ret2
  exact ⟨ret_num HS.out, _, rfl⟩

/-- Whether two spans meet. -/
def meetB (a m b n : Int) : Bool := if m = 0 ∨ n = 0 then false else if a ≤ b then decide (b - a < m) else decide (a - b < n)

theorem meetB_zero {a m b n : Int} (h : m = 0 ∨ n = 0) : meetB a m b n = false := by simp [meetB, h]
theorem meetB_le {a m b n : Int} (h : ¬ (m = 0 ∨ n = 0)) (hab : a ≤ b) : meetB a m b n = decide (b - a < m) := by simp [meetB, h, hab]
theorem meetB_gt {a m b n : Int} (h : ¬ (m = 0 ∨ n = 0)) (hab : b < a) : meetB a m b n = decide (a - b < n) := by simp [meetB, h, show ¬ a ≤ b by omega]
theorem meetB_turn (a m b n : Int) (m0 : 0 ≤ m) (n0 : 0 ≤ n) : meetB b n a m = meetB a m b n := by
  by_cases h : m = 0 ∨ n = 0
  · rw [meetB_zero h, meetB_zero (Or.symm h)]
  · have h' : ¬ (n = 0 ∨ m = 0) := fun e => h (Or.symm e)
    rcases Int.lt_trichotomy a b with hab | hab | hab
    · rw [meetB_le h (by omega), meetB_gt h' hab]
    · subst hab
      rw [meetB_le h (by omega), meetB_le h' (by omega)]
      have hm : m ≠ 0 := fun e => h (Or.inl e)
      have hn : n ≠ 0 := fun e => h (Or.inr e)
      simp; omega
    · rw [meetB_gt h hab, meetB_le h' (by omega)]

set_option maxHeartbeats 400000 in
theorem meet_any (a m b n : Int) (w : World) (a0 : 0 ≤ a) (a1 : a ≤ 18446744073709551615) (m0 : 0 ≤ m) (b0 : 0 ≤ b) (b1 : b ≤ 18446744073709551615) (n0 : 0 ≤ n) :
    Calls Try.prog 23 #[.int .u64 a, .int .u64 m, .int .u64 b, .int .u64 n] w fun e w' => e = .returned (.bool (meetB a m b n)) ∧ w = w' := by
  by_cases hm : m = 0
  · subst hm
    go_enter Try.func23, Try.ntmps23
    go_wp2
    go_ret
    exact ⟨ret_bool (meetB_zero (Or.inl rfl)).symm, rfl⟩
  · have hmb : (m == 0) = false := by simpa using hm
    by_cases hn : n = 0
    · subst hn
      clear hm
      go_enter Try.func23, Try.ntmps23
      go_wp2
      go_ret
      exact ⟨ret_bool (meetB_zero (Or.inr rfl)).symm, rfl⟩
    · have hnb : (n == 0) = false := by simpa using hn
      have H := Lib.hid (show ¬ (m = 0 ∨ n = 0) from fun e => e.elim hm hn)
      clear hm hn
      by_cases hab : a ≤ b
      · go_enter Try.func23, Try.ntmps23
        go_wp2
        go_ret
        exact ⟨ret_bool (meetB_le H.out hab).symm, rfl⟩
      · have hba : b < a := by omega
        go_enter Try.func23, Try.ntmps23
        go_wp2
        go_ret
        exact ⟨ret_bool (meetB_gt H.out hba).symm, rfl⟩

set_option maxHeartbeats 400000 in
theorem rmeet_any (a m b n : Int) (w : World) (a0 : 0 ≤ a) (a1 : a ≤ 18446744073709551615) (m0 : 0 ≤ m) (b0 : 0 ≤ b) (b1 : b ≤ 18446744073709551615) (n0 : 0 ≤ n) :
    Calls Try.prog 22 #[.int .u64 a, .int .u64 m, .int .u64 b, .int .u64 n] w fun e w' => e = .returned (.bool (meetB a m b n)) ∧ w = w' := by
  by_cases hm : m = 0
  · subst hm
    go_enter Try.func22, Try.ntmps22
    go_wp2
    go_ret
    exact ⟨ret_bool (meetB_zero (Or.inl rfl)).symm, rfl⟩
  · have hmb : (m == 0) = false := by simpa using hm
    by_cases hn : n = 0
    · subst hn
      clear hm
      go_enter Try.func22, Try.ntmps22
      go_wp2
      go_ret
      exact ⟨ret_bool (meetB_zero (Or.inr rfl)).symm, rfl⟩
    · have hnb : (n == 0) = false := by simpa using hn
      have H := Lib.hid (show ¬ (m = 0 ∨ n = 0) from fun e => e.elim hm hn)
      clear hm hn
      by_cases hab : a ≤ b
      · go_enter Try.func22, Try.ntmps22
        go_wp2
        go_ret
        exact ⟨ret_bool (meetB_le H.out hab).symm, rfl⟩
      · have hba : b < a := by omega
        go_enter Try.func22, Try.ntmps22
        go_wp2
        go_ret
        exact ⟨ret_bool (meetB_gt H.out hba).symm, rfl⟩
end Go.Proofs.Ytjcjngmcjlffaaa
