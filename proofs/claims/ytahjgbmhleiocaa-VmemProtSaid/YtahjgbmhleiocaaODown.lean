/-
  What is proved here: Down of package octets.
  Conditions: none but that the arguments are values of their types.
-/
import Derived.Test.YtahjgbmhleiocaaBaseP
import Derived.Test.YtahjgbmhleiocaaPow
namespace Go.Proofs.Ytahjgbmhleiocaa
open Go.RowKit
set_option linter.unusedVariables false

set_option maxHeartbeats 400000 in
theorem down_arg (x a : Int) (w : World) (a0 : 0 ≤ a) (a1 : a ≤ 18446744073709551615) (h : ¬ IsP2 a) :
    Calls Try.prog 50 #[.int .u64 x, .int .u64 a] w fun e w' => e = .returned (.tuple #[.int .u64 0, .int .i64 1]) ∧ w = w' := by
  by_cases hz : a = 0
  · subst hz
    clear h
    go_enter Try.func50, Try.ntmps50
    go_wp2
    go_ret2
    exact ⟨rfl, rfl⟩
  · have hzb : (a == 0) = false := by simpa using hz
    have hp : 0 < a := by omega
    have hn : (bits .and .u64 a (a - 1) != 0) = true := by simpa using and_not_p2 hp a1 h
    clear h hz
    go_enter Try.func50, Try.ntmps50
    go_wp2
    go_ret2
    exact ⟨rfl, rfl⟩

set_option maxHeartbeats 400000 in
theorem down_ok (x a : Int) (w : World) (x0 : 0 ≤ x) (x1 : x ≤ 18446744073709551615) (h : IsP2 a) :
    Calls Try.prog 50 #[.int .u64 x, .int .u64 a] w fun e w' => e = .returned (.tuple #[.int .u64 (x / a * a), .int .i64 0]) ∧ w = w' := by
  obtain ⟨p0, p1⟩ := p2_pos h
  have hzb : (a == 0) = false := by simp; omega
  have hn : (bits .and .u64 a (a - 1) != 0) = false := by simp [and_p2 h]
  have HA := Lib.hid (andNot_p2 h x0 x1)
  clear h
  go_enter Try.func50, Try.ntmps50
  go_wp2
  go_ret2
  exact ⟨ret_num HA.out, rfl⟩
end Go.Proofs.Ytahjgbmhleiocaa
