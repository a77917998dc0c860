/-
  What is proved here: Meet of package octets.
  Conditions: none but that the arguments are values of their types.
-/
import Derived.Test.YtahjgbmhleiocaaBaseP
import Derived.Test.YtahjgbmhleiocaaMeet
namespace Go.Proofs.Ytahjgbmhleiocaa
open Go.RowKit
set_option linter.unusedVariables false

set_option maxHeartbeats 400000 in
theorem meet_any (a m b n : Int) (w : World) (a0 : 0 ≤ a) (a1 : a ≤ 18446744073709551615) (m0 : 0 ≤ m) (b0 : 0 ≤ b) (b1 : b ≤ 18446744073709551615) (n0 : 0 ≤ n) :
    Calls Try.prog 36 #[.int .u64 a, .int .u64 m, .int .u64 b, .int .u64 n] w fun e w' => e = .returned (.bool (meetB a m b n)) ∧ w = w' := by
  by_cases hm : m = 0
  · subst hm
    go_enter Try.func36, Try.ntmps36
    go_wp2
    go_ret
    exact ⟨ret_bool (meetB_zero (Or.inl rfl)).symm, rfl⟩
  · have hmb : (m == 0) = false := by simpa using hm
    by_cases hn : n = 0
    · subst hn
      clear hm
      go_enter Try.func36, Try.ntmps36
      go_wp2
      go_ret
      exact ⟨ret_bool (meetB_zero (Or.inr rfl)).symm, rfl⟩
    · have hnb : (n == 0) = false := by simpa using hn
      have H := Lib.hid (show ¬ (m = 0 ∨ n = 0) from fun e => e.elim hm hn)
      clear hm hn
      by_cases hab : a ≤ b
      · go_enter Try.func36, Try.ntmps36
        go_wp2
        go_ret
        exact ⟨ret_bool (meetB_le H.out hab).symm, rfl⟩
      · have hba : b < a := by omega
        go_enter Try.func36, Try.ntmps36
        go_wp2
        go_ret
        exact ⟨ret_bool (meetB_gt H.out hba).symm, rfl⟩
end Go.Proofs.Ytahjgbmhleiocaa
