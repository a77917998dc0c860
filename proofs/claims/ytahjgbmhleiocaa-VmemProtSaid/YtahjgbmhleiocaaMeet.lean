/-
  What is proved here: whether two spans meet.
  Conditions: none; nothing here speaks of the program.
-/
import Derived.Test.YtahjgbmhleiocaaBase
namespace Go.Proofs.Ytahjgbmhleiocaa
open Go.RowKit
set_option linter.unusedVariables false

/-- Whether two spans meet. -/
def meetB (a m b n : Int) : Bool := if m = 0 ∨ n = 0 then false else if a ≤ b then decide (b - a < m) else decide (a - b < n)

theorem meetB_zero {a m b n : Int} (h : m = 0 ∨ n = 0) : meetB a m b n = false := by simp [meetB, h]

theorem meetB_le {a m b n : Int} (h : ¬ (m = 0 ∨ n = 0)) (hab : a ≤ b) : meetB a m b n = decide (b - a < m) := by simp [meetB, h, hab]

theorem meetB_gt {a m b n : Int} (h : ¬ (m = 0 ∨ n = 0)) (hab : b < a) : meetB a m b n = decide (a - b < n) := by simp [meetB, h, show ¬ a ≤ b by omega]

theorem meetB_turn (a m b n : Int) (m0 : 0 ≤ m) (n0 : 0 ≤ n) : meetB b n a m = meetB a m b n := by
  by_cases h : m = 0 ∨ n = 0
  · rw [meetB_zero h, meetB_zero (Or.symm h)]
  · have h' : ¬ (n = 0 ∨ m = 0) := fun e => h (Or.symm e)
    rcases Int.lt_trichotomy a b with hab | hab | hab
    · rw [meetB_le h (by omega), meetB_gt h' hab]
    · subst hab
      rw [meetB_le h (by omega), meetB_le h' (by omega)]
      have hm : m ≠ 0 := fun e => h (Or.inl e)
      have hn : n ≠ 0 := fun e => h (Or.inr e)
      simp; omega
    · rw [meetB_gt h hab, meetB_le h' (by omega)]
end Go.Proofs.Ytahjgbmhleiocaa
