/-
  What is proved here: whether two spans meet. · Meet of package octets.
  Conditions: as they say.
-/
import Derived.Test.YtkhfmgifpppcmaaDoorBase
import Derived.Test.YtkhfmgifpppcmaaDoorBaseP
namespace Go.Proofs.YtkhfmgifpppcmaaDoor
open Go.RowKit
set_option linter.unusedVariables false

/-- Whether two spans meet. -/
def meetB (a m b n : Int) : Bool := if m = 0 ∨ n = 0 then false else if a ≤ b then decide (b - a < m) else decide (a - b < n)

theorem meetB_zero {a m b n : Int} (h : m = 0 ∨ n = 0) : meetB a m b n = false := by simp [meetB, h]

theorem meetB_le {a m b n : Int} (h : ¬ (m = 0 ∨ n = 0)) (hab : a ≤ b) : meetB a m b n = decide (b - a < m) := by simp [meetB, h, hab]

theorem meetB_gt {a m b n : Int} (h : ¬ (m = 0 ∨ n = 0)) (hab : b < a) : meetB a m b n = decide (a - b < n) := by simp [meetB, h, show ¬ a ≤ b by omega]

theorem meetB_turn (a m b n : Int) (m0 : 0 ≤ m) (n0 : 0 ≤ n) : meetB b n a m = meetB a m b n := by
  by_cases h : m = 0 ∨ n = 0
  · rw [meetB_zero h, meetB_zero (Or.symm h)]
  · have h' : ¬ (n = 0 ∨ m = 0) := fun e => h (Or.symm e)
    rcases Int.lt_trichotomy a b with hab | hab | hab
    · rw [meetB_le h (by omega), meetB_gt h' hab]
    · subst hab
      rw [meetB_le h (by omega), meetB_le h' (by omega)]
      have hm : m ≠ 0 := fun e => h (Or.inl e)
      have hn : n ≠ 0 := fun e => h (Or.inr e)
      simp; omega
    · rw [meetB_gt h hab, meetB_le h' (by omega)]
end Go.Proofs.YtkhfmgifpppcmaaDoor
namespace Go.Proofs.YtkhfmgifpppcmaaDoor
open Go.RowKit
set_option linter.unusedVariables false

set_option maxHeartbeats 400000 in
theorem meet_any (a m b n : Int) (w : World) (a0 : 0 ≤ a) (a1 : a ≤ 18446744073709551615) (m0 : 0 ≤ m) (b0 : 0 ≤ b) (b1 : b ≤ 18446744073709551615) (n0 : 0 ≤ n) :
    Calls Tryd.prog 13 #[.int .u64 a, .int .u64 m, .int .u64 b, .int .u64 n] w fun e w' => e = .returned (.bool (meetB a m b n)) ∧ w = w' := by
  by_cases hm : m = 0
  · subst hm
    go_enter Tryd.func13, Tryd.ntmps13
    go_wp2
    go_ret
    exact ⟨ret_bool (meetB_zero (Or.inl rfl)).symm, rfl⟩
  · have hmb : (m == 0) = false := by simpa using hm
    by_cases hn : n = 0
    · subst hn
      clear hm
      go_enter Tryd.func13, Tryd.ntmps13
      go_wp2
      go_ret
      exact ⟨ret_bool (meetB_zero (Or.inr rfl)).symm, rfl⟩
    · have hnb : (n == 0) = false := by simpa using hn
      have H := Lib.hid (show ¬ (m = 0 ∨ n = 0) from fun e => e.elim hm hn)
      clear hm hn
      by_cases hab : a ≤ b
      · go_enter Tryd.func13, Tryd.ntmps13
        go_wp2
        go_ret
        exact ⟨ret_bool (meetB_le H.out hab).symm, rfl⟩
      · have hba : b < a := by omega
        go_enter Tryd.func13, Tryd.ntmps13
        go_wp2
        go_ret
        exact ⟨ret_bool (meetB_gt H.out hba).symm, rfl⟩
end Go.Proofs.YtkhfmgifpppcmaaDoor
