/-
  What is proved here: Up of package octets.
  Conditions: none but that the arguments are values of their types.
-/
import Derived.Test.YtkgakdlalmmdiaaODown
namespace Go.Proofs.Ytkgakdlalmmdiaa
open Go.RowKit
set_option linter.unusedVariables false

set_option maxHeartbeats 400000 in
theorem up_arg (x a : Int) (w : World) (a0 : 0 ≤ a) (a1 : a ≤ 18446744073709551615) (h : ¬ IsP2 a) :
    Calls Try.prog 40 #[.int .u64 x, .int .u64 a] w fun e w' => e = .returned (.tuple #[.int .u64 0, .int .i64 1]) ∧ w = w' := by
  have H := Lib.hid h
  clear h
  go_enter Try.func40, Try.ntmps40
  go_wp2_with (go_at_call 45; refine (down_arg _ _ _ a0 a1 H.out).mono ?_; rintro e w' ⟨rfl, rfl⟩)
  go_ret2
  exact ⟨rfl, rfl⟩

set_option maxHeartbeats 400000 in
theorem up_same (x a : Int) (w : World) (x0 : 0 ≤ x) (x1 : x ≤ 18446744073709551615) (h : IsP2 a) (hx : x / a * a = x) :
    Calls Try.prog 40 #[.int .u64 x, .int .u64 a] w fun e w' => e = .returned (.tuple #[.int .u64 x, .int .i64 0]) ∧ w = w' := by
  have H := Lib.hid h
  have hb : (x / a * a == x) = true := by simpa using hx
  have HX := Lib.hid hx
  clear h hx
  go_enter Try.func40, Try.ntmps40
  go_wp2_with (go_at_call 45; refine (down_ok _ _ _ x0 x1 H.out).mono ?_; rintro e w' ⟨rfl, rfl⟩)
  go_ret2
  exact ⟨ret_num HX.out, rfl⟩

set_option maxHeartbeats 400000 in
theorem up_range (x a : Int) (w : World) (x0 : 0 ≤ x) (x1 : x ≤ 18446744073709551615) (h : IsP2 a) (hx : x / a * a ≠ x) (ht : x / a * a + a = 18446744073709551616) :
    Calls Try.prog 40 #[.int .u64 x, .int .u64 a] w fun e w' => e = .returned (.tuple #[.int .u64 0, .int .i64 10]) ∧ w = w' := by
  have H := Lib.hid h
  have hb : (x / a * a == x) = false := by simpa using hx
  have hw : IntKind.u64.wrap (x / a * a + a) = 0 := by rw [ht]; rfl
  clear h hx ht
  go_enter Try.func40, Try.ntmps40
  go_wp2_with (go_at_call 45; refine (down_ok _ _ _ x0 x1 H.out).mono ?_; rintro e w' ⟨rfl, rfl⟩)
  go_ret2
  exact ⟨rfl, rfl⟩

set_option maxHeartbeats 400000 in
theorem up_next (x a : Int) (w : World) (x0 : 0 ≤ x) (x1 : x ≤ 18446744073709551615) (h : IsP2 a) (hx : x / a * a ≠ x) (ht : x / a * a + a ≤ 18446744073709551615) :
    Calls Try.prog 40 #[.int .u64 x, .int .u64 a] w fun e w' => e = .returned (.tuple #[.int .u64 (x / a * a + a), .int .i64 0]) ∧ w = w' := by
  obtain ⟨p0, p1⟩ := p2_pos h
  obtain ⟨m0, m1, _, _, _, _, _, m2, m3⟩ := mult_p2 h x0 x1
  have H := Lib.hid h
  have hb : (x / a * a == x) = false := by simpa using hx
  have hn : (x / a * a + a == 0) = false := by simp; omega
  clear h hx
  go_enter Try.func40, Try.ntmps40
  go_wp2_with (go_at_call 45; refine (down_ok _ _ _ x0 x1 H.out).mono ?_; rintro e w' ⟨rfl, rfl⟩)
  go_ret2
  exact ⟨rfl, rfl⟩
end Go.Proofs.Ytkgakdlalmmdiaa
