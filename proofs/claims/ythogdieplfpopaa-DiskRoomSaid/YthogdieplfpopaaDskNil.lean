/-
  What is proved here: the calls on a disk that is none.
  Conditions: none.
-/
import Derived.Test.YthogdieplfpopaaDskM2
import Derived.Test.YthogdieplfpopaaDskNms
namespace Go.Proofs.Ythogdieplfpopaa
open Go.RowKit Go.WideMaps Go.Maps
set_option linter.unusedVariables false
set_option linter.unusedSimpArgs false

theorem nil_eq (w : World) : (binOp .eql 24 (.pointer none) (.pointer none)).run Try.prog w = .ok (.bool true) w := by kernel_rfl
theorem nil_neq (w : World) : (binOp .neq 24 (.pointer none) (.pointer none)).run Try.prog w = .ok (.bool false) w := by kernel_rfl
theorem ready_nil (w : World) : Calls Try.prog 55 #[.pointer none] w fun r w' => w' = w ∧ r = .returned (.int .i64 1) := by
  have hq := nil_eq w
  go_enter Try.func55, Try.ntmps55
  go_wp2
  go_ret
  exact ⟨rfl, rfl⟩
theorem operate_nil (w : World) (v1 v2 : Value) : Calls Try.prog 40 #[.pointer none, v1, v2] w fun r w' => w' = w ∧ r = .returned (.int .i64 1) := by
  have HR := Lib.hid (ready_nil w)
  go_enter Try.func40, Try.ntmps40
  go_wp2_with fail
  refine HR.out.mono ?_
  rintro r w' ⟨rfl, rfl⟩
  go_wp2
  go_ret
  exact ⟨rfl, rfl⟩
set_option maxHeartbeats 800000 in
theorem Create_nil (w : World) (x : ByteArray) : Calls Try.prog 14 #[.pointer none, .string x] w fun r w' => r = .returned (.int .i64 1) ∧ Below w.heap.size w w' := by
  have HO := Lib.hid operate_nil
  have HB : Hid (∀ w', w.grownBy w' none → Below w.heap.size w w') := Lib.hid (fun w' hg => (Below.refl _ _).grown hg (Nat.le_refl _) (fun _ h => by cases h))
  have HG := Lib.hid (gr_refl w)
  go_enter Try.func14, Try.ntmps14
  go_wp2_with fail
  refine (HO.out _ _ _).mono ?_
  rintro r w' ⟨rfl, rfl⟩
  go_wp2
  go_ret
  refine ⟨rfl, HB.out _ ?_⟩
  first
    | exact al_grown _ _ _ HG.out
    | exact al_grown _ _ _ (al_grown _ _ _ HG.out)
    | exact al_grown _ _ _ (al_grown _ _ _ (al_grown _ _ _ HG.out))
    | exact al_grown _ _ _ (al_grown _ _ _ (al_grown _ _ _ (al_grown _ _ _ HG.out)))
set_option maxHeartbeats 800000 in
theorem Remove_nil (w : World) (x : ByteArray) : Calls Try.prog 22 #[.pointer none, .string x] w fun r w' => r = .returned (.int .i64 1) ∧ Below w.heap.size w w' := by
  have HO := Lib.hid operate_nil
  have HB : Hid (∀ w', w.grownBy w' none → Below w.heap.size w w') := Lib.hid (fun w' hg => (Below.refl _ _).grown hg (Nat.le_refl _) (fun _ h => by cases h))
  have HG := Lib.hid (gr_refl w)
  go_enter Try.func22, Try.ntmps22
  go_wp2_with fail
  refine (HO.out _ _ _).mono ?_
  rintro r w' ⟨rfl, rfl⟩
  go_wp2
  go_ret
  refine ⟨rfl, HB.out _ ?_⟩
  first
    | exact al_grown _ _ _ HG.out
    | exact al_grown _ _ _ (al_grown _ _ _ HG.out)
    | exact al_grown _ _ _ (al_grown _ _ _ (al_grown _ _ _ HG.out))
    | exact al_grown _ _ _ (al_grown _ _ _ (al_grown _ _ _ (al_grown _ _ _ HG.out)))
set_option maxHeartbeats 800000 in
theorem Sync_nil (w : World) (x : ByteArray) : Calls Try.prog 16 #[.pointer none, .string x] w fun r w' => r = .returned (.int .i64 1) ∧ Below w.heap.size w w' := by
  have HO := Lib.hid operate_nil
  have HB : Hid (∀ w', w.grownBy w' none → Below w.heap.size w w') := Lib.hid (fun w' hg => (Below.refl _ _).grown hg (Nat.le_refl _) (fun _ h => by cases h))
  have HG := Lib.hid (gr_refl w)
  go_enter Try.func16, Try.ntmps16
  go_wp2_with fail
  refine (HO.out _ _ _).mono ?_
  rintro r w' ⟨rfl, rfl⟩
  go_wp2
  go_ret
  refine ⟨rfl, HB.out _ ?_⟩
  first
    | exact al_grown _ _ _ HG.out
    | exact al_grown _ _ _ (al_grown _ _ _ HG.out)
    | exact al_grown _ _ _ (al_grown _ _ _ (al_grown _ _ _ HG.out))
    | exact al_grown _ _ _ (al_grown _ _ _ (al_grown _ _ _ (al_grown _ _ _ HG.out)))
set_option maxHeartbeats 800000 in
theorem SyncNames_nil (w : World)  : Calls Try.prog 17 #[.pointer none] w fun r w' => r = .returned (.int .i64 1) ∧ Below w.heap.size w w' := by
  have HO := Lib.hid operate_nil
  have HB : Hid (∀ w', w.grownBy w' none → Below w.heap.size w w') := Lib.hid (fun w' hg => (Below.refl _ _).grown hg (Nat.le_refl _) (fun _ h => by cases h))
  have HG := Lib.hid (gr_refl w)
  go_enter Try.func17, Try.ntmps17
  go_wp2_with fail
  refine (HO.out _ _ _).mono ?_
  rintro r w' ⟨rfl, rfl⟩
  go_wp2
  go_ret
  refine ⟨rfl, HB.out _ ?_⟩
  first
    | exact al_grown _ _ _ HG.out
    | exact al_grown _ _ _ (al_grown _ _ _ HG.out)
    | exact al_grown _ _ _ (al_grown _ _ _ (al_grown _ _ _ HG.out))
    | exact al_grown _ _ _ (al_grown _ _ _ (al_grown _ _ _ (al_grown _ _ _ HG.out)))
set_option maxHeartbeats 800000 in
theorem Rename_nil (w : World) (x y : ByteArray) : Calls Try.prog 21 #[.pointer none, .string x, .string y] w fun r w' => r = .returned (.int .i64 1) ∧ Below w.heap.size w w' := by
  have HO := Lib.hid operate_nil
  have HB : Hid (∀ w', w.grownBy w' none → Below w.heap.size w w') := Lib.hid (fun w' hg => (Below.refl _ _).grown hg (Nat.le_refl _) (fun _ h => by cases h))
  have HG := Lib.hid (gr_refl w)
  go_enter Try.func21, Try.ntmps21
  go_wp2_with fail
  refine (HO.out _ _ _).mono ?_
  rintro r w' ⟨rfl, rfl⟩
  go_wp2
  go_ret
  refine ⟨rfl, HB.out _ ?_⟩
  first
    | exact al_grown _ _ _ HG.out
    | exact al_grown _ _ _ (al_grown _ _ _ HG.out)
    | exact al_grown _ _ _ (al_grown _ _ _ (al_grown _ _ _ HG.out))
    | exact al_grown _ _ _ (al_grown _ _ _ (al_grown _ _ _ (al_grown _ _ _ HG.out)))
set_option maxHeartbeats 800000 in
theorem Write_nil (w : World) (x : ByteArray) (p : Int) (a : Option Addr) (n c : Nat) : Calls Try.prog 15 #[.pointer none, .string x, .int .i64 p, .slice a n c] w fun r w' => r = .returned (.int .i64 1) ∧ Below w.heap.size w w' := by
  have HO := Lib.hid operate_nil
  have HB : Hid (∀ w', w.grownBy w' none → Below w.heap.size w w') := Lib.hid (fun w' hg => (Below.refl _ _).grown hg (Nat.le_refl _) (fun _ h => by cases h))
  have HG := Lib.hid (gr_refl w)
  go_enter Try.func15, Try.ntmps15
  go_wp2_with fail
  refine (HO.out _ _ _).mono ?_
  rintro r w' ⟨rfl, rfl⟩
  go_wp2
  go_ret
  refine ⟨rfl, HB.out _ ?_⟩
  first
    | exact al_grown _ _ _ HG.out
    | exact al_grown _ _ _ (al_grown _ _ _ HG.out)
    | exact al_grown _ _ _ (al_grown _ _ _ (al_grown _ _ _ HG.out))
    | exact al_grown _ _ _ (al_grown _ _ _ (al_grown _ _ _ (al_grown _ _ _ HG.out)))
set_option maxHeartbeats 800000 in
theorem Names_nil (w : World)  : Calls Try.prog 26 #[.pointer none] w fun r w' => w' = w ∧ r = .returned (.slice none 0 0) := by
  have hq := nil_eq w
  have hq2 := nil_neq w
  have HR := Lib.hid (ready_nil w)
  go_enter Try.func26, Try.ntmps26
  go_wp2
  go_ret
  exact ⟨rfl, rfl⟩
set_option maxHeartbeats 800000 in
theorem Used_nil (w : World)  : Calls Try.prog 24 #[.pointer none] w fun r w' => w' = w ∧ r = .returned (.int .i64 0) := by
  have hq := nil_eq w
  have hq2 := nil_neq w
  have HR := Lib.hid (ready_nil w)
  go_enter Try.func24, Try.ntmps24
  go_wp2
  go_ret
  exact ⟨rfl, rfl⟩
set_option maxHeartbeats 800000 in
theorem Pending_nil (w : World)  : Calls Try.prog 25 #[.pointer none] w fun r w' => w' = w ∧ r = .returned (.int .i64 0) := by
  have hq := nil_eq w
  have hq2 := nil_neq w
  have HR := Lib.hid (ready_nil w)
  go_enter Try.func25, Try.ntmps25
  go_wp2
  go_ret
  exact ⟨rfl, rfl⟩
set_option maxHeartbeats 800000 in
theorem Off_nil (w : World)  : Calls Try.prog 23 #[.pointer none] w fun r w' => w' = w ∧ r = .returned (.bool false) := by
  have hq := nil_eq w
  have hq2 := nil_neq w
  have HR := Lib.hid (ready_nil w)
  go_enter Try.func23, Try.ntmps23
  go_wp2
  go_ret
  exact ⟨rfl, rfl⟩
set_option maxHeartbeats 800000 in
theorem Crash_nil (w : World) (a : Option Addr) (n c : Nat) : Calls Try.prog 18 #[.pointer none, .slice a n c] w fun r w' => w' = w ∧ r = .returned (.tuple #[]) := by
  have hq := nil_eq w
  have hq2 := nil_neq w
  have HR := Lib.hid (ready_nil w)
  go_enter Try.func18, Try.ntmps18
  go_wp2
  refine bodyPost_ret (results_none rfl _ _ _) rfl ?_
  exact ⟨rfl, rfl⟩
set_option maxHeartbeats 800000 in
theorem Cut_nil (w : World) (p : Int) : Calls Try.prog 20 #[.pointer none, .int .i64 p] w fun r w' => w' = w ∧ r = .returned (.tuple #[]) := by
  have hq := nil_eq w
  have hq2 := nil_neq w
  have HR := Lib.hid (ready_nil w)
  go_enter Try.func20, Try.ntmps20
  go_wp2_with fail
  refine HR.out.mono ?_
  rintro r w' ⟨rfl, rfl⟩
  go_wp2
  go_end0
  exact ⟨rfl, rfl⟩
set_option maxHeartbeats 800000 in
theorem Read_nil (w : World) (x : ByteArray) : Calls Try.prog 19 #[.pointer none, .string x] w fun r w' => w' = w ∧ r = .returned (.tuple #[.slice none 0 0, .int .i64 1]) := by
  have hq := nil_eq w
  have hq2 := nil_neq w
  have HR := Lib.hid (ready_nil w)
  go_enter Try.func19, Try.ntmps19
  go_wp2_with fail
  refine HR.out.mono ?_
  rintro r w' ⟨rfl, rfl⟩
  go_wp2
  go_ret2
  exact ⟨rfl, rfl⟩
end Go.Proofs.Ythogdieplfpopaa
