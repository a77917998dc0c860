/-
  What is proved here: SymbolsPuts: any symbol's bytes, its bind, its kind and whether it stands for something are the reference's.
  Conditions: none of our own; the law's row says what its input is.
-/
import Derived.Test.YtpodnhieaboddaaRows
import Derived.Test.YtpodnhieaboddaaSymAwake
import Derived.Test.YtpodnhieaboddaaSymFrame
import Derived.Test.YtpodnhieaboddaaApp
import Derived.WalkKit
import Derived.ProofKit
import Derived.OpenShut
import Derived.ShutString
import Derived.ChangeOld
import Derived.Below
namespace Go.Proofs.Ytpodnhieaboddaa.symbolsPuts
open Go.ChangeShapes Go.WideShapes Go.ChangeAt Go.RowKit
open Go.ChangeMaps (open_string shut_string)
set_option linter.unusedVariables false

theorem own : ownKnob Try.prog.godebug = none := by kernel_rfl
theorem laidOut : laidOutB Try.prog = true := by kernel_rfl

theorem fr40 (y : Nat → Value) : frameOf 40 y = #[y 0, y 1, y 2, y 3, y 4, y 5, y 6, y 7, y 8, y 9, y 10, y 11, y 12, y 13, y 14, y 15, y 16, y 17, y 18, y 19, y 20, y 21, y 22, y 23, y 24, y 25, y 26, y 27, y 28, y 29, y 30, y 31, y 32, y 33, y 34, y 35, y 36, y 37, y 38, y 39] := rfl
set_option maxRecDepth 100000 in
set_option maxHeartbeats 1600000 in
theorem walk (a0 : Sy) (w : World) (w0 : a0.Ok) :
    Calls Try.prog 3 #[a0.val] w fun e w' => e = .returned (.bool true) ∧ Below w.heap.size w w' := by
  have HP := Lib.hid (fun w1 => sput_ok a0 w1 w0)
  have HRP : Hid (∀ w1, Calls Try.prog 10 #[a0.val] w1 fun r w' => (∃ u, r = .returned u ∧ Made (encY a0) u w') ∧ Below w1.heap.size w1 w') := Lib.hid (fun w1 => (rput6_ok a0 w1 w0).mono fun _ _ h => by
    obtain ⟨⟨u, rfl, ho⟩, hb⟩ := h
    rw [← encY_len a0] at ho
    exact ⟨⟨u, rfl, own_made ho (by rw [encY_len]; decide) (encY_bd w0)⟩, hb⟩)
  have HBI := Lib.hid (fun w1 => bind_any a0 w1 w0)
  have HKI := Lib.hid (fun w1 => kind_any a0 w1 w0)
  have HDE := Lib.hid (fun w1 => defined_any a0 w1 w0)
  obtain ⟨-, ⟨b0, b1⟩, -, ⟨d0, d1⟩, -, -⟩ := w0
  generalize encY a0 = zs at HP HRP
  obtain ⟨na, inf, ot, se, va, si⟩ := a0
  unfold Sy.val at *
  simp only at HP HRP HBI HKI HDE b0 b1 d0 d1 ⊢
  obtain ⟨bd, hbd⟩ : ∃ bd, decide (0 < se) = bd := ⟨_, rfl⟩
  rw [hbd] at HDE
  have HBD := Lib.hid hbd
  have hw1 : IntKind.i64.wrap inf = inf := by rw [IntKind.wrap_i64]; omega
  have hw2 : IntKind.i64.wrap (inf / 16) = inf / 16 := by rw [IntKind.wrap_i64]; omega
  have hw3 : IntKind.i64.wrap (inf % 16) = inf % 16 := by rw [IntKind.wrap_i64]; omega
  have hq1 : inf.tdiv 16 = inf / 16 := Int.tdiv_eq_ediv_of_nonneg b0
  have hq2 : inf.tmod 16 = inf % 16 := Int.tmod_eq_emod_of_nonneg b0
  have HW0 : Hid (Below w.heap.size w (w.alloc (.cells #[.int .u32 na, .int .u8 inf, .int .u8 ot, .int .u16 se, .int .u64 va, .int .u64 si] 26))) := Lib.hid ((Below.refl _ _).alloc (Nat.le_refl _) _)
  have HK : Hid (∀ w', Below (w.alloc (.cells #[.int .u32 na, .int .u8 inf, .int .u8 ot, .int .u16 se, .int .u64 va, .int .u64 si] 26)).heap.size (w.alloc (.cells #[.int .u32 na, .int .u8 inf, .int .u8 ot, .int .u16 se, .int .u64 va, .int .u64 si] 26)) w' → Blk w' w.heap.size #[.int .u32 na, .int .u8 inf, .int .u8 ot, .int .u16 se, .int .u64 va, .int .u64 si] 26) := Lib.hid (fun w' h => (Blk.new _ _ _).later h)
  obtain ⟨ST, hST⟩ : ∃ ST, strOfNums zs = ST := ⟨_, rfl⟩
  go_enter Try.func3, Try.ntmps3
  go_wp2_with fail
  refine (awake_any _).mono ?_
  rintro r v1 ⟨rfl, hb1⟩
  have HB1 := Lib.hid hb1
  have HBX : Hid (∀ w', Stays v1.drew w' → Blk w' w.heap.size #[.int .u32 na, .int .u8 inf, .int .u8 ot, .int .u16 se, .int .u64 va, .int .u64 si] 26) := Lib.hid (fun w' h => HK.out w' (HB1.out.drew.trans (Below.mono h HB1.out.size)))
  clear hb1
  go_wp2
  refine wp_region_facts (by kernel_rfl) Stays Stays.refl Stays.trans 40 rfl [7, 8, 9, 10, 11, 12, 13, 14, 15, 16, 17, 18, 19, 20, 21, 22, 23, 24, 25, 26, 27, 28, 29, 30, 31, 32, 33, 34, 35, 36, 37, 38, 39, 2] (factsOf [Is (.agg #[.int .u32 na, .int .u8 inf, .int .u8 ot, .int .u16 se, .int .u64 va, .int .u64 si]), Made zs, Is (.string ST), Is (.agg #[.int .u32 na, .int .u8 inf, .int .u8 ot, .int .u16 se, .int .u64 va, .int .u64 si]), Made zs, Is (.string ST), Is (.bool true), Is (.bool true), Is (.agg #[.int .u32 na, .int .u8 inf, .int .u8 ot, .int .u16 se, .int .u64 va, .int .u64 si]), Is (.int .i64 (inf / 16)), Is (.pointer (some ⟨w.heap.size, 1, none⟩)), Is (.int .u8 inf), Is (.int .i64 (inf)), Is (.int .i64 (inf / 16)), Is (.bool true), Is (.bool true), Is (.bool true), Is (.agg #[.int .u32 na, .int .u8 inf, .int .u8 ot, .int .u16 se, .int .u64 va, .int .u64 si]), Is (.int .i64 (inf % 16)), Is (.pointer (some ⟨w.heap.size, 1, none⟩)), Is (.int .u8 inf), Is (.int .i64 (inf)), Is (.int .i64 (inf % 16)), Is (.bool true), Is (.bool true), Is (.bool true), Is (.agg #[.int .u32 na, .int .u8 inf, .int .u8 ot, .int .u16 se, .int .u64 va, .int .u64 si]), Is (.bool bd), Is (.pointer (some ⟨w.heap.size, 3, none⟩)), Is (.int .u16 se), Is (.bool bd), Is (.bool true), Is (.bool true), Is (.bool true)]) (by kernel_rfl) (factsOf_mono (mono_cons (Is.mono _) (mono_cons (Made.mono _) (mono_cons (Is.mono _) (mono_cons (Is.mono _) (mono_cons (Made.mono _) (mono_cons (Is.mono _) (mono_cons (Is.mono _) (mono_cons (Is.mono _) (mono_cons (Is.mono _) (mono_cons (Is.mono _) (mono_cons (Is.mono _) (mono_cons (Is.mono _) (mono_cons (Is.mono _) (mono_cons (Is.mono _) (mono_cons (Is.mono _) (mono_cons (Is.mono _) (mono_cons (Is.mono _) (mono_cons (Is.mono _) (mono_cons (Is.mono _) (mono_cons (Is.mono _) (mono_cons (Is.mono _) (mono_cons (Is.mono _) (mono_cons (Is.mono _) (mono_cons (Is.mono _) (mono_cons (Is.mono _) (mono_cons (Is.mono _) (mono_cons (Is.mono _) (mono_cons (Is.mono _) (mono_cons (Is.mono _) (mono_cons (Is.mono _) (mono_cons (Is.mono _) (mono_cons (Is.mono _) (mono_cons (Is.mono _) (mono_cons (Is.mono _) mono_nil))))))))))))))))))))))))))))))))))) ?steps7 ?fin7
  case fin7 =>
    intro v w2 hb2 hF
    have hlast : v 33 = .bool true := hF 33 (by decide)
    have HBF : Hid (Below w.heap.size w w2) := Lib.hid (by
      have h1 := HW0.out.trans (HB1.out.mono HW0.out.size)
      exact h1.drew.trans (Below.mono hb2 h1.size))
    clear hb2 hF
    simp only [putAll, List.set_cons_succ, List.set_cons_zero, Nat.reduceAdd, hlast]
    go_wp2
    go_ret
    exact ⟨rfl, HBF.out⟩
  case steps7 =>
    refine ⟨?_, ?_, ?_, ?_, ?_, ?_, ?_, ?_, ?_, ?_, ?_, ?_, ?_, ?_, ?_, ?_, ?_, ?_, ?_, ?_, ?_, ?_, ?_, ?_, ?_, ?_, ?_, ?_, ?_, ?_, ?_, ?_, ?_, ?_, trivial⟩
    all_goals intro y w2 hb hy0 hp0
    all_goals have hy := Lib.hid hy0
    all_goals have hp := Lib.hid hp0
    all_goals have hst := Lib.hid hb
    all_goals clear hy0 hp0 hb
    · have e1 : y 1 = .pointer (some ⟨w.heap.size, 0, none⟩) := hy.out 1 (by decide)
      obtain ⟨c0, c1, c2, c3, c4, c5⟩ := Sy.cs (HBX.out _ hst.out)
      refine StepG.plain rfl fun K Q hK => ?_
      simp only [fr40] at hK ⊢
      rw [e1] at hK ⊢
      go_simp
      exact hK _ _ ⟨Stays.refl _, by first | rfl | simp [Is] | (simp [factsOf, Is]; done)⟩
    · have e1 : y 7 = .agg #[.int .u32 na, .int .u8 inf, .int .u8 ot, .int .u16 se, .int .u64 va, .int .u64 si] := hp.out 0 (by decide)
      refine StepG.plain rfl fun K Q hK => ?_
      simp only [fr40] at hK ⊢
      rw [e1] at hK ⊢
      go_simp
      go_at_call 9
      refine (HP.out _).mono ?_
      rintro r w3 ⟨⟨u, rfl, hm⟩, hb3⟩
      exact hK _ w3 ⟨hb3, hm⟩
    · obtain ⟨ug, uc, e1, -, -, hby⟩ : Made zs (y 8) w2 := hp.out 1 (by decide)
      have hcv := hby.conv uc
      rw [hST] at hcv
      refine StepG.plain rfl fun K Q hK => ?_
      simp only [fr40] at hK ⊢
      rw [e1] at hK ⊢
      go_simp
      exact hK _ _ ⟨Stays.refl _, by first | rfl | simp [Is] | (simp [factsOf, Is]; done)⟩
    · have e1 : y 1 = .pointer (some ⟨w.heap.size, 0, none⟩) := hy.out 1 (by decide)
      obtain ⟨c0, c1, c2, c3, c4, c5⟩ := Sy.cs (HBX.out _ hst.out)
      refine StepG.plain rfl fun K Q hK => ?_
      simp only [fr40] at hK ⊢
      rw [e1] at hK ⊢
      go_simp
      exact hK _ _ ⟨Stays.refl _, by first | rfl | simp [Is] | (simp [factsOf, Is]; done)⟩
    · have e1 : y 10 = .agg #[.int .u32 na, .int .u8 inf, .int .u8 ot, .int .u16 se, .int .u64 va, .int .u64 si] := hp.out 3 (by decide)
      refine StepG.plain rfl fun K Q hK => ?_
      simp only [fr40] at hK ⊢
      rw [e1] at hK ⊢
      go_simp
      go_at_call 10
      refine (HRP.out _).mono ?_
      rintro r w3 ⟨⟨u, rfl, hm⟩, hb3⟩
      exact hK _ w3 ⟨hb3, hm⟩
    · obtain ⟨ug, uc, e1, -, -, hby⟩ : Made zs (y 11) w2 := hp.out 4 (by decide)
      have hcv := hby.conv uc
      rw [hST] at hcv
      refine StepG.plain rfl fun K Q hK => ?_
      simp only [fr40] at hK ⊢
      rw [e1] at hK ⊢
      go_simp
      exact hK _ _ ⟨Stays.refl _, by first | rfl | simp [Is] | (simp [factsOf, Is]; done)⟩
    · have e1 : y 9 = .string ST := hp.out 2 (by decide)
      have e2 : y 12 = .string ST := hp.out 5 (by decide)
      refine StepG.plain rfl fun K Q hK => ?_
      simp only [fr40] at hK ⊢
      rw [e1, e2] at hK ⊢
      go_simp
      exact hK _ _ ⟨Stays.refl _, by first | rfl | simp [Is] | (simp [factsOf, Is]; done)⟩
    · have e1 : y 13 = .bool true := hp.out 6 (by decide)
      refine StepG.plain rfl fun K Q hK => ?_
      simp only [fr40] at hK ⊢
      rw [e1] at hK ⊢
      go_simp
      exact hK _ _ ⟨Stays.refl _, by first | rfl | simp [Is] | (simp [factsOf, Is]; done)⟩
    · have e1 : y 1 = .pointer (some ⟨w.heap.size, 0, none⟩) := hy.out 1 (by decide)
      obtain ⟨c0, c1, c2, c3, c4, c5⟩ := Sy.cs (HBX.out _ hst.out)
      refine StepG.yes (b := true) (t := 14) rfl rfl rfl (by decide) (hp.out 7 (by decide)) fun K Q hK => ?_
      simp only [fr40] at hK ⊢
      rw [e1] at hK ⊢
      go_simp
      exact hK _ _ ⟨Stays.refl _, by first | rfl | simp [Is] | (simp [factsOf, Is]; done)⟩
    · have e1 : y 15 = .agg #[.int .u32 na, .int .u8 inf, .int .u8 ot, .int .u16 se, .int .u64 va, .int .u64 si] := hp.out 8 (by decide)
      refine StepG.yes (b := true) (t := 14) rfl rfl rfl (by decide) (hp.out 7 (by decide)) fun K Q hK => ?_
      simp only [fr40] at hK ⊢
      rw [e1] at hK ⊢
      go_simp
      go_at_call 11
      refine (HBI.out _).mono ?_
      rintro r w3 ⟨rfl, hb3⟩
      exact hK _ w3 ⟨hb3, rfl⟩
    · have e1 : y 1 = .pointer (some ⟨w.heap.size, 0, none⟩) := hy.out 1 (by decide)
      refine StepG.yes (b := true) (t := 14) rfl rfl rfl (by decide) (hp.out 7 (by decide)) fun K Q hK => ?_
      simp only [fr40] at hK ⊢
      rw [e1] at hK ⊢
      go_simp
      exact hK _ _ ⟨Stays.refl _, by first | rfl | simp [Is] | (simp [factsOf, Is]; done)⟩
    · have e1 : y 17 = .pointer (some ⟨w.heap.size, 1, none⟩) := hp.out 10 (by decide)
      obtain ⟨c0, c1, c2, c3, c4, c5⟩ := Sy.cs (HBX.out _ hst.out)
      refine StepG.yes (b := true) (t := 14) rfl rfl rfl (by decide) (hp.out 7 (by decide)) fun K Q hK => ?_
      simp only [fr40] at hK ⊢
      rw [e1] at hK ⊢
      go_simp
      exact hK _ _ ⟨Stays.refl _, by first | rfl | simp [Is] | (simp [factsOf, Is]; done)⟩
    · have e1 : y 18 = .int .u8 inf := hp.out 11 (by decide)
      refine StepG.yes (b := true) (t := 14) rfl rfl rfl (by decide) (hp.out 7 (by decide)) fun K Q hK => ?_
      simp only [fr40] at hK ⊢
      rw [e1] at hK ⊢
      go_simp
      exact hK _ _ ⟨Stays.refl _, by first | rfl | simp [Is] | (simp [factsOf, Is]; done)⟩
    · have e1 : y 19 = .int .i64 (inf) := hp.out 12 (by decide)
      refine StepG.yes (b := true) (t := 14) rfl rfl rfl (by decide) (hp.out 7 (by decide)) fun K Q hK => ?_
      simp only [fr40] at hK ⊢
      rw [e1] at hK ⊢
      go_simp
      exact hK _ _ ⟨Stays.refl _, by first | rfl | simp [Is] | (simp [factsOf, Is]; done)⟩
    · have e1 : y 16 = .int .i64 (inf / 16) := hp.out 9 (by decide)
      have e2 : y 20 = .int .i64 (inf / 16) := hp.out 13 (by decide)
      refine StepG.yes (b := true) (t := 14) rfl rfl rfl (by decide) (hp.out 7 (by decide)) fun K Q hK => ?_
      simp only [fr40] at hK ⊢
      rw [e1, e2] at hK ⊢
      go_simp
      exact hK _ _ ⟨Stays.refl _, by first | rfl | simp [Is] | (simp [factsOf, Is]; done)⟩
    · have e1 : y 14 = .bool true := hp.out 7 (by decide)
      have e2 : y 21 = .bool true := hp.out 14 (by decide)
      refine StepG.plain rfl fun K Q hK => ?_
      simp only [fr40] at hK ⊢
      rw [e1, e2] at hK ⊢
      go_simp
      exact hK _ _ ⟨Stays.refl _, by first | rfl | simp [Is] | (simp [factsOf, Is]; done)⟩
    · have e1 : y 22 = .bool true := hp.out 15 (by decide)
      refine StepG.plain rfl fun K Q hK => ?_
      simp only [fr40] at hK ⊢
      rw [e1] at hK ⊢
      go_simp
      exact hK _ _ ⟨Stays.refl _, by first | rfl | simp [Is] | (simp [factsOf, Is]; done)⟩
    · have e1 : y 1 = .pointer (some ⟨w.heap.size, 0, none⟩) := hy.out 1 (by decide)
      obtain ⟨c0, c1, c2, c3, c4, c5⟩ := Sy.cs (HBX.out _ hst.out)
      refine StepG.yes (b := true) (t := 23) rfl rfl rfl (by decide) (hp.out 16 (by decide)) fun K Q hK => ?_
      simp only [fr40] at hK ⊢
      rw [e1] at hK ⊢
      go_simp
      exact hK _ _ ⟨Stays.refl _, by first | rfl | simp [Is] | (simp [factsOf, Is]; done)⟩
    · have e1 : y 24 = .agg #[.int .u32 na, .int .u8 inf, .int .u8 ot, .int .u16 se, .int .u64 va, .int .u64 si] := hp.out 17 (by decide)
      refine StepG.yes (b := true) (t := 23) rfl rfl rfl (by decide) (hp.out 16 (by decide)) fun K Q hK => ?_
      simp only [fr40] at hK ⊢
      rw [e1] at hK ⊢
      go_simp
      go_at_call 12
      refine (HKI.out _).mono ?_
      rintro r w3 ⟨rfl, hb3⟩
      exact hK _ w3 ⟨hb3, rfl⟩
    · have e1 : y 1 = .pointer (some ⟨w.heap.size, 0, none⟩) := hy.out 1 (by decide)
      refine StepG.yes (b := true) (t := 23) rfl rfl rfl (by decide) (hp.out 16 (by decide)) fun K Q hK => ?_
      simp only [fr40] at hK ⊢
      rw [e1] at hK ⊢
      go_simp
      exact hK _ _ ⟨Stays.refl _, by first | rfl | simp [Is] | (simp [factsOf, Is]; done)⟩
    · have e1 : y 26 = .pointer (some ⟨w.heap.size, 1, none⟩) := hp.out 19 (by decide)
      obtain ⟨c0, c1, c2, c3, c4, c5⟩ := Sy.cs (HBX.out _ hst.out)
      refine StepG.yes (b := true) (t := 23) rfl rfl rfl (by decide) (hp.out 16 (by decide)) fun K Q hK => ?_
      simp only [fr40] at hK ⊢
      rw [e1] at hK ⊢
      go_simp
      exact hK _ _ ⟨Stays.refl _, by first | rfl | simp [Is] | (simp [factsOf, Is]; done)⟩
    · have e1 : y 27 = .int .u8 inf := hp.out 20 (by decide)
      refine StepG.yes (b := true) (t := 23) rfl rfl rfl (by decide) (hp.out 16 (by decide)) fun K Q hK => ?_
      simp only [fr40] at hK ⊢
      rw [e1] at hK ⊢
      go_simp
      exact hK _ _ ⟨Stays.refl _, by first | rfl | simp [Is] | (simp [factsOf, Is]; done)⟩
    · have e1 : y 28 = .int .i64 (inf) := hp.out 21 (by decide)
      refine StepG.yes (b := true) (t := 23) rfl rfl rfl (by decide) (hp.out 16 (by decide)) fun K Q hK => ?_
      simp only [fr40] at hK ⊢
      rw [e1] at hK ⊢
      go_simp
      exact hK _ _ ⟨Stays.refl _, by first | rfl | simp [Is] | (simp [factsOf, Is]; done)⟩
    · have e1 : y 25 = .int .i64 (inf % 16) := hp.out 18 (by decide)
      have e2 : y 29 = .int .i64 (inf % 16) := hp.out 22 (by decide)
      refine StepG.yes (b := true) (t := 23) rfl rfl rfl (by decide) (hp.out 16 (by decide)) fun K Q hK => ?_
      simp only [fr40] at hK ⊢
      rw [e1, e2] at hK ⊢
      go_simp
      exact hK _ _ ⟨Stays.refl _, by first | rfl | simp [Is] | (simp [factsOf, Is]; done)⟩
    · have e1 : y 23 = .bool true := hp.out 16 (by decide)
      have e2 : y 30 = .bool true := hp.out 23 (by decide)
      refine StepG.plain rfl fun K Q hK => ?_
      simp only [fr40] at hK ⊢
      rw [e1, e2] at hK ⊢
      go_simp
      exact hK _ _ ⟨Stays.refl _, by first | rfl | simp [Is] | (simp [factsOf, Is]; done)⟩
    · have e1 : y 31 = .bool true := hp.out 24 (by decide)
      refine StepG.plain rfl fun K Q hK => ?_
      simp only [fr40] at hK ⊢
      rw [e1] at hK ⊢
      go_simp
      exact hK _ _ ⟨Stays.refl _, by first | rfl | simp [Is] | (simp [factsOf, Is]; done)⟩
    · have e1 : y 1 = .pointer (some ⟨w.heap.size, 0, none⟩) := hy.out 1 (by decide)
      obtain ⟨c0, c1, c2, c3, c4, c5⟩ := Sy.cs (HBX.out _ hst.out)
      refine StepG.yes (b := true) (t := 32) rfl rfl rfl (by decide) (hp.out 25 (by decide)) fun K Q hK => ?_
      simp only [fr40] at hK ⊢
      rw [e1] at hK ⊢
      go_simp
      exact hK _ _ ⟨Stays.refl _, by first | rfl | simp [Is] | (simp [factsOf, Is]; done)⟩
    · have e1 : y 33 = .agg #[.int .u32 na, .int .u8 inf, .int .u8 ot, .int .u16 se, .int .u64 va, .int .u64 si] := hp.out 26 (by decide)
      refine StepG.yes (b := true) (t := 32) rfl rfl rfl (by decide) (hp.out 25 (by decide)) fun K Q hK => ?_
      simp only [fr40] at hK ⊢
      rw [e1] at hK ⊢
      go_simp
      go_at_call 13
      refine (HDE.out _).mono ?_
      rintro r w3 ⟨rfl, hb3⟩
      exact hK _ w3 ⟨hb3, rfl⟩
    · have e1 : y 1 = .pointer (some ⟨w.heap.size, 0, none⟩) := hy.out 1 (by decide)
      refine StepG.yes (b := true) (t := 32) rfl rfl rfl (by decide) (hp.out 25 (by decide)) fun K Q hK => ?_
      simp only [fr40] at hK ⊢
      rw [e1] at hK ⊢
      go_simp
      exact hK _ _ ⟨Stays.refl _, by first | rfl | simp [Is] | (simp [factsOf, Is]; done)⟩
    · have e1 : y 35 = .pointer (some ⟨w.heap.size, 3, none⟩) := hp.out 28 (by decide)
      obtain ⟨c0, c1, c2, c3, c4, c5⟩ := Sy.cs (HBX.out _ hst.out)
      refine StepG.yes (b := true) (t := 32) rfl rfl rfl (by decide) (hp.out 25 (by decide)) fun K Q hK => ?_
      simp only [fr40] at hK ⊢
      rw [e1] at hK ⊢
      go_simp
      exact hK _ _ ⟨Stays.refl _, by first | rfl | simp [Is] | (simp [factsOf, Is]; done)⟩
    · have e1 : y 36 = .int .u16 se := hp.out 29 (by decide)
      refine StepG.yes (b := true) (t := 32) rfl rfl rfl (by decide) (hp.out 25 (by decide)) fun K Q hK => ?_
      simp only [fr40] at hK ⊢
      rw [e1] at hK ⊢
      go_simp
      try rw [HBD.out]
      exact hK _ _ ⟨Stays.refl _, by first | rfl | simp [Is]⟩
    · have e1 : y 34 = .bool bd := hp.out 27 (by decide)
      have e2 : y 37 = .bool bd := hp.out 30 (by decide)
      refine StepG.yes (b := true) (t := 32) rfl rfl rfl (by decide) (hp.out 25 (by decide)) fun K Q hK => ?_
      simp only [fr40] at hK ⊢
      rw [e1, e2] at hK ⊢
      go_simp
      exact hK _ _ ⟨Stays.refl _, by first | rfl | simp [Is] | (simp [factsOf, Is]; done)⟩
    · have e1 : y 32 = .bool true := hp.out 25 (by decide)
      have e2 : y 38 = .bool true := hp.out 31 (by decide)
      refine StepG.plain rfl fun K Q hK => ?_
      simp only [fr40] at hK ⊢
      rw [e1, e2] at hK ⊢
      go_simp
      exact hK _ _ ⟨Stays.refl _, by first | rfl | simp [Is] | (simp [factsOf, Is]; done)⟩
    · have e1 : y 39 = .bool true := hp.out 32 (by decide)
      refine StepG.plain rfl fun K Q hK => ?_
      simp only [fr40] at hK ⊢
      rw [e1] at hK ⊢
      go_simp
      exact hK _ _ ⟨Stays.refl _, by first | rfl | simp [Is] | (simp [factsOf, Is]; done)⟩

set_option maxRecDepth 100000 in
theorem lifted (os : Os) (started : os.Started) (H : Type) (enc : TypeId × Value → H) :
    ReturnsInHanded {} Try.checked os 3 .any (Rows.symbolsPutsSpec.pre6 enc Try.prog Try.f3 Rows.symbolsPutsRow.domain false) (Rows.symbolsPutsSpec.post enc Try.prog Try.f3 false true false false) := by
  refine returnsInHanded_of_change (C := Try.checked) own started (by kernel_rfl) Try.func3
    (ChangeSpec.witness6 (enc := enc) (C := Try.checked) false ⟨#[], #[.agg #[.int .u32 0, .int .u8 0, .int .u8 0, .int .u16 0, .int .u64 0, .int .u64 0]], []⟩ 8 (by kernel_rfl) (by kernel_rfl) (by kernel_rfl) (by kernel_rfl)) ?_
  intro W base args ds gs before hval0 hW hcnd _
  have hval : ∀ (j : Nat) t v, Try.f3.params[j]? = some t → args[j]? = some v → Value.okWide Try.prog W .any base t v := hval0
  have hW' := hW
  obtain ⟨p, q, hA0, hV, rfl, hfz, hnd⟩ := hW
  have hA : DataW.TrodAll enc Try.prog W 0 (fun _ => true) true Try.f3.params.toList args.toList ds p := hA0
  rw [Try.params3] at hA hval
  obtain ⟨v0, vs0, d0, ds0, p0, q0, hargs, rfl, rfl, h0, r0⟩ := trodAll_cons hA
  obtain ⟨rfl, rfl, rfl⟩ := trodAll_nil r0
  obtain rfl : args = #[v0] := by cases args; simp_all
  obtain ⟨rfl, rfl⟩ := trodVars_none hV
  obtain ⟨cs0, rfl, _⟩ := okWide_struct Try.underlying26 (hval 0 26 v0 rfl rfl)
  have k0 := h0
  have lt0 : ∀ x ∈ p0, x.block < W.heap.size := by obtain ⟨m, hm⟩ := k0; exact DataW.trod_lt m _ _ _ hm
  obtain ⟨a0, w0, rfl⟩ : ∃ s : Sy, s.Ok ∧ cs0 = s.cells := by
    obtain ⟨fuel, hf⟩ := h0
    exact Sy.open1 hf
  clear hA0 hval0
  refine (walk a0 W w0).mono fun e W' ⟨he, bel⟩ => ?_
  subst he
  exact ⟨_, rfl, _, _, _, [], _, [], hW', trodAll_mk1 (shut_bool Try.underlying4 _), (trodAll_cons_mk (Below.trod laidOut (by kernel_rfl) (of_decide_eq_true (by kernel_rfl)) k0 bel lt0) trodAll_mk0), rfl, bel.frame _, fun h => by cases h⟩

theorem over : Rows.symbolsPutsRow.holds Try.pinned (OpenSpec.ofChange Rows.symbolsPutsSpec) :=
  OpenClaim.holds_of_wide 3 Try.f3 rfl rfl rfl rfl rfl rfl rfl ⟨rfl, rfl, rfl, rfl, rfl⟩ rfl rfl rfl rfl rfl (by kernel_rfl) Try.func3 (by kernel_rfl)
    (of_decide_eq_true (by kernel_rfl)) (by unfold Func.isWrapper; first | (rw [if_pos (by decide +kernel)]; kernel_rfl) | (rw [if_neg (by decide +kernel)]; exact ⟨rfl, rfl⟩))
    (fun os started H enc _ => lifted os started H enc)

theorem proved : Rows.SymbolsPutsSaid := over
#print axioms proved
end Go.Proofs.Ytpodnhieaboddaa.symbolsPuts
