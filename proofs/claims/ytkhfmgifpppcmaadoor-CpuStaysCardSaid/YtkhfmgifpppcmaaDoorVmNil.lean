/-
  What is proved here: a nil memory's calls: find, findRange, access, load, Load, Fetch, Store, Unmap, Protect, Copy.
  Conditions: none.
-/
import Derived.Test.YtkhfmgifpppcmaaDoorVmProt
import Derived.Test.YtkhfmgifpppcmaaDoorVmSto
namespace Go.Proofs.YtkhfmgifpppcmaaDoor
open Go.RowKit Go.WideMaps Go.Maps
set_option linter.unusedVariables false
set_option linter.unusedSimpArgs false

theorem cmp_nn (w : World) : (binOp .eql 27 (.pointer none) (.pointer none)).run Tryd.prog w = .ok (.bool true) w := by kernel_rfl
set_option maxHeartbeats 1600000 in
theorem find_nil (w : World) (x n : Int) : Calls Tryd.prog 15 #[.pointer none, .int .u64 x, .int .u64 n] w fun r w' => r = .returned (.tuple #[.slice none 0 0, .int .i64 1]) ∧ w' = w := by
  have hq := cmp_nn w
  go_enter Tryd.func15, Tryd.ntmps15
  go_wp2
  go_ret2
  exact ⟨rfl, rfl⟩
set_option maxHeartbeats 6400000 in
theorem access_nil (w : World) (x n r : Int) : Calls Tryd.prog 37 #[.pointer none, .int .u64 x, .int .i64 n, .int .i64 r] w fun e w' => e = .returned (.tuple #[.slice none 0 0, .int .i64 1]) ∧ w' = w := by
  by_cases hw : isW n
  · have HF := Lib.hid (fun k : Int => find_nil w x k)
    unfold isW at hw
    rcases hw with rfl | rfl | rfl | rfl
    all_goals go_enter Tryd.func37, Tryd.ntmps37
    all_goals go_wp2_with fail
    all_goals refine (HF.out _).mono ?_
    all_goals rintro r1 w1 ⟨rfl, rfl⟩
    all_goals go_wp2
    all_goals go_ret2
    all_goals exact ⟨rfl, rfl⟩
  · unfold isW at hw
    have h1 : (n != 1) = true := by simp; omega
    have h2 : (n != 2) = true := by simp; omega
    have h4 : (n != 4) = true := by simp; omega
    have h8 : (n != 8) = true := by simp; omega
    clear hw
    go_enter Tryd.func37, Tryd.ntmps37
    go_wp2
    go_ret2
    exact ⟨rfl, rfl⟩
set_option maxHeartbeats 1600000 in
theorem load_nil (w : World) (x n r : Int) : Calls Tryd.prog 29 #[.pointer none, .int .u64 x, .int .i64 n, .int .i64 r] w fun e w' => e = .returned (.tuple #[.int .u64 0, .int .i64 1]) ∧ w' = w := by
  go_enter Tryd.func29, Tryd.ntmps29
  go_wp2_with fail
  refine (access_nil w x n r).mono ?_
  rintro r1 w1 ⟨rfl, rfl⟩
  go_wp2
  go_ret2
  exact ⟨rfl, rfl⟩
set_option maxHeartbeats 1600000 in
theorem Load_nil (w : World) (x n : Int) : Calls Tryd.prog 31 #[.pointer none, .int .u64 x, .int .i64 n] w fun e w' => e = .returned (.tuple #[.int .u64 0, .int .i64 1]) ∧ w' = w := by
  go_enter Tryd.func31, Tryd.ntmps31
  go_wp2_with fail
  refine (load_nil w x n _).mono ?_
  rintro r1 w1 ⟨rfl, rfl⟩
  go_wp2
  go_ret2
  exact ⟨rfl, rfl⟩
set_option maxHeartbeats 1600000 in
theorem Fetch_nil (w : World) (x : Nat) : Calls Tryd.prog 17 #[.pointer none, .int .u64 x] w fun e w' => e = .returned (.tuple #[.int .u64 0, .int .i64 1]) ∧ w' = w := by
  by_cases hm : (x : Int) % 8 = 0
  · go_enter Tryd.func17, Tryd.ntmps17
    go_wp2_with fail
    refine (load_nil w x 8 _).mono ?_
    rintro r1 w1 ⟨rfl, rfl⟩
    go_wp2
    go_ret2
    exact ⟨rfl, rfl⟩
  · go_enter Tryd.func17, Tryd.ntmps17
    go_wp2
    go_ret2
    exact ⟨rfl, rfl⟩
set_option maxHeartbeats 1600000 in
theorem Store_nil (w : World) (x n u : Int) : Calls Tryd.prog 32 #[.pointer none, .int .u64 x, .int .i64 n, .int .u64 u] w fun e w' => e = .returned (.int .i64 1) ∧ w' = w := by
  go_enter Tryd.func32, Tryd.ntmps32
  go_wp2_with fail
  refine (access_nil w x n _).mono ?_
  rintro r1 w1 ⟨rfl, rfl⟩
  go_wp2
  go_ret
  exact ⟨rfl, rfl⟩
end Go.Proofs.YtkhfmgifpppcmaaDoor
