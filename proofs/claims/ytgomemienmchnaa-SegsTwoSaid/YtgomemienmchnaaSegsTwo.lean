/-
  What is proved here: SegsTwo: of two segments that are loaded the second one may lie just where the reference says, and so may one of another kind within it.
  Conditions: none of our own; the law's row says what its input is.
-/
import Derived.Test.YtgomemienmchnaaRows
import Derived.Test.YtgomemienmchnaaSegAwake
import Derived.Test.YtgomemienmchnaaSegFrame
import Derived.Test.YtgomemienmchnaaSegRCheck
import Derived.WalkKit
import Derived.ProofKit
import Derived.OpenShut
import Derived.ShutString
import Derived.ChangeOld
import Derived.Below
namespace Go.Proofs.Ytgomemienmchnaa.segsTwo
open Go.ChangeShapes Go.WideShapes Go.ChangeAt Go.RowKit
open Go.ChangeMaps (open_string shut_string)
set_option linter.unusedVariables false

theorem own : ownKnob Try.prog.godebug = none := by kernel_rfl
theorem laidOut : laidOutB Try.prog = true := by kernel_rfl

theorem bd_u16 {n : Int} (h : (Lit.int .u16 n).wf = true) : 0 ≤ n ∧ n ≤ 65535 := by
  simpa [Lit.wf, IntKind.min, IntKind.max, IntKind.signed, IntKind.bits] using h
theorem bd_u32 {n : Int} (h : (Lit.int .u32 n).wf = true) : 0 ≤ n ∧ n ≤ 4294967295 := by
  simpa [Lit.wf, IntKind.min, IntKind.max, IntKind.signed, IntKind.bits] using h
theorem sgs_lit (w : World) (L : List Sg) (h : ∀ s ∈ L, s.Ok) (t : TypeId) (g : Nat) (hg : g = w.heap.size) : Sgs (w.alloc (.cells (flatS L).toArray t)) (w.alloc (.cells (flatS L).toArray t)).heap.size (some ⟨g, 0, none⟩) L.length L := by
  subst hg
  refine ⟨rfl, h, fun _ => ⟨w.heap.size, 0, rfl, by simp, fun i hi => ?_⟩⟩
  have hc : ∀ j, (w.alloc (.cells (flatS L).toArray t)).cell? ⟨w.heap.size, j, none⟩ = (flatS L)[j]? := fun j => by
    rw [(Blk.new w (flatS L).toArray t).cell j]; simp
  obtain ⟨f0, f1, f2, f3, f4, f5, f6⟩ := flatS_at L i hi
  simp only [Nat.zero_add]
  exact ⟨(hc _).trans f0, (hc _).trans f1, (hc _).trans f2, (hc _).trans f3, (hc _).trans f4, (hc _).trans f5, (hc _).trans f6⟩
theorem fr65 (y : Nat → Value) : frameOf 65 y = #[y 0, y 1, y 2, y 3, y 4, y 5, y 6, y 7, y 8, y 9, y 10, y 11, y 12, y 13, y 14, y 15, y 16, y 17, y 18, y 19, y 20, y 21, y 22, y 23, y 24, y 25, y 26, y 27, y 28, y 29, y 30, y 31, y 32, y 33, y 34, y 35, y 36, y 37, y 38, y 39, y 40, y 41, y 42, y 43, y 44, y 45, y 46, y 47, y 48, y 49, y 50, y 51, y 52, y 53, y 54, y 55, y 56, y 57, y 58, y 59, y 60, y 61, y 62, y 63, y 64] := rfl
set_option maxRecDepth 100000 in
set_option maxHeartbeats 1600000 in
theorem walk (a0 : Int) (a1 : Int) (a2 : Int) (a3 : Int) (a4 : Int) (a5 : Int) (a6 : Int) (w : World) (w0 : (Lit.int .u16 a0).wf = true) (w1 : (Lit.int .u16 a1).wf = true) (w2 : (Lit.int .u16 a2).wf = true) (w3 : (Lit.int .u16 a3).wf = true) (w4 : (Lit.int .u32 a4).wf = true) (w5 : (Lit.int .u16 a5).wf = true) (w6 : (Lit.int .u16 a6).wf = true) :
    Calls Try.prog 10 #[.int .u16 a0, .int .u16 a1, .int .u16 a2, .int .u16 a3, .int .u32 a4, .int .u16 a5, .int .u16 a6] w fun e w' => e = .returned (.bool true) ∧ Below w.heap.size w w' := by
  obtain ⟨a00, a01⟩ := bd_u16 w0
  obtain ⟨a10, a11⟩ := bd_u16 w1
  obtain ⟨a20, a21⟩ := bd_u16 w2
  obtain ⟨a30, a31⟩ := bd_u16 w3
  obtain ⟨a40, a41⟩ := bd_u32 w4
  obtain ⟨a50, a51⟩ := bd_u16 w5
  obtain ⟨a60, a61⟩ := bd_u16 w6
  clear w0 w1 w2 w3 w4 w5 w6
  obtain ⟨L, hL⟩ : ∃ L : List Sg, L = [⟨1, 0, a0, a0, a1, a1 + 1, 0⟩, ⟨1, 0, a2, a2, a3, a3 + 1, 0⟩, ⟨a4, 0, a5, a5, a6, a6, 0⟩] := ⟨_, rfl⟩
  have hok : ∀ s ∈ L, s.Ok := by
    intro s hs
    rw [hL] at hs
    simp only [List.mem_cons, List.not_mem_nil, or_false] at hs
    rcases hs with rfl | rfl | rfl
    all_goals exact ⟨by simp only; omega, by simp only; omega, by simp only; omega, by simp only; omega, by simp only; omega, by simp only; omega, by simp only; omega⟩
  have hflat : (flatS L).toArray = #[.int .u32 1, .int .u32 0, .int .u64 a0, .int .u64 a0, .int .u64 a1, .int .u64 (a1 + 1), .int .u64 0, .int .u32 1, .int .u32 0, .int .u64 a2, .int .u64 a2, .int .u64 a3, .int .u64 (a3 + 1), .int .u64 0, .int .u32 a4, .int .u32 0, .int .u64 a5, .int .u64 a5, .int .u64 a6, .int .u64 a6, .int .u64 0] := by rw [hL]; rfl
  have hlen : L.length = 3 := by rw [hL]; rfl
  obtain ⟨e3, he3⟩ : ∃ e, checkS L 1048576 = e := ⟨_, rfl⟩
  obtain ⟨e2, he2⟩ : ∃ e, checkS (L.take 2) 1048576 = e := ⟨_, rfl⟩
  have HSG : Hid (∀ (v1 w1 : World) (g : Nat), g = v1.heap.size → Below (v1.alloc (.cells #[.int .u32 1, .int .u32 0, .int .u64 a0, .int .u64 a0, .int .u64 a1, .int .u64 (a1 + 1), .int .u64 0, .int .u32 1, .int .u32 0, .int .u64 a2, .int .u64 a2, .int .u64 a3, .int .u64 (a3 + 1), .int .u64 0, .int .u32 a4, .int .u32 0, .int .u64 a5, .int .u64 a5, .int .u64 a6, .int .u64 a6, .int .u64 0] 25)).heap.size (v1.alloc (.cells #[.int .u32 1, .int .u32 0, .int .u64 a0, .int .u64 a0, .int .u64 a1, .int .u64 (a1 + 1), .int .u64 0, .int .u32 1, .int .u32 0, .int .u64 a2, .int .u64 a2, .int .u64 a3, .int .u64 (a3 + 1), .int .u64 0, .int .u32 a4, .int .u32 0, .int .u64 a5, .int .u64 a5, .int .u64 a6, .int .u64 a6, .int .u64 0] 25)) w1 → Sgs w1 (v1.alloc (.cells #[.int .u32 1, .int .u32 0, .int .u64 a0, .int .u64 a0, .int .u64 a1, .int .u64 (a1 + 1), .int .u64 0, .int .u32 1, .int .u32 0, .int .u64 a2, .int .u64 a2, .int .u64 a3, .int .u64 (a3 + 1), .int .u64 0, .int .u32 a4, .int .u32 0, .int .u64 a5, .int .u64 a5, .int .u64 a6, .int .u64 a6, .int .u64 0] 25)).heap.size (some ⟨g, 0, none⟩) 3 L) := Lib.hid (fun v1 w1 g hg h => by
    have h1 := sgs_lit v1 L hok 25 g hg
    rw [hflat, hlen] at h1
    exact h1.below h)
  clear hL hok hflat hlen
  go_enter Try.func10, Try.ntmps10
  go_wp2_with fail
  refine (awake_any _).mono ?_
  rintro r v1 ⟨rfl, hb1⟩
  have HB1 : Hid (Below w.heap.size w (v1.alloc (.cells #[.int .u32 1, .int .u32 0, .int .u64 a0, .int .u64 a0, .int .u64 a1, .int .u64 (a1 + 1), .int .u64 0, .int .u32 1, .int .u32 0, .int .u64 a2, .int .u64 a2, .int .u64 a3, .int .u64 (a3 + 1), .int .u64 0, .int .u32 a4, .int .u32 0, .int .u64 a5, .int .u64 a5, .int .u64 a6, .int .u64 a6, .int .u64 0] 25))) := Lib.hid (hb1.alloc hb1.size _)
  have hs1 := HSG.out v1
  generalize hB : (v1.alloc (.cells #[.int .u32 1, .int .u32 0, .int .u64 a0, .int .u64 a0, .int .u64 a1, .int .u64 (a1 + 1), .int .u64 0, .int .u32 1, .int .u32 0, .int .u64 a2, .int .u64 a2, .int .u64 a3, .int .u64 (a3 + 1), .int .u64 0, .int .u32 a4, .int .u32 0, .int .u64 a5, .int .u64 a5, .int .u64 a6, .int .u64 a6, .int .u64 0] 25)).heap.size = B at hs1
  have HSB : Hid (∀ w1, Below B (v1.alloc (.cells #[.int .u32 1, .int .u32 0, .int .u64 a0, .int .u64 a0, .int .u64 a1, .int .u64 (a1 + 1), .int .u64 0, .int .u32 1, .int .u32 0, .int .u64 a2, .int .u64 a2, .int .u64 a3, .int .u64 (a3 + 1), .int .u64 0, .int .u32 a4, .int .u32 0, .int .u64 a5, .int .u64 a5, .int .u64 a6, .int .u64 a6, .int .u64 0] 25)).drew w1 → Sgs w1 B (some ⟨v1.heap.size, 0, none⟩) 3 L ∧ B ≤ w1.heap.size) := Lib.hid (fun w1 h => ⟨hs1 w1 _ rfl ((Below.refl _ _).drew.trans h), by have := h.size; rw [← hB]; exact this⟩)
  have HBB := Lib.hid hB
  clear hb1 hs1 hB
  have HC3 : Hid (∀ w1, Below B (v1.alloc (.cells #[.int .u32 1, .int .u32 0, .int .u64 a0, .int .u64 a0, .int .u64 a1, .int .u64 (a1 + 1), .int .u64 0, .int .u32 1, .int .u32 0, .int .u64 a2, .int .u64 a2, .int .u64 a3, .int .u64 (a3 + 1), .int .u64 0, .int .u32 a4, .int .u32 0, .int .u64 a5, .int .u64 a5, .int .u64 a6, .int .u64 a6, .int .u64 0] 25)).drew w1 → Calls Try.prog 18 #[.slice (some ⟨v1.heap.size, 0, none⟩) 3 3, .int .u64 1048576] w1 fun r w' => r = .returned (.int .i64 e3) ∧ Below B w1 w') := Lib.hid (fun w1 h =>
    he3 ▸ (check1_any B _ 3 3 L 1048576 w1 (HSB.out w1 h).1 (HSB.out w1 h).2 (Nat.le_refl _) (by decide) (by decide) (by decide)).mono fun _ _ q => ⟨q.1, q.2.mono (HSB.out w1 h).2⟩)
  have HR3 : Hid (∀ w1, Below B (v1.alloc (.cells #[.int .u32 1, .int .u32 0, .int .u64 a0, .int .u64 a0, .int .u64 a1, .int .u64 (a1 + 1), .int .u64 0, .int .u32 1, .int .u32 0, .int .u64 a2, .int .u64 a2, .int .u64 a3, .int .u64 (a3 + 1), .int .u64 0, .int .u32 a4, .int .u32 0, .int .u64 a5, .int .u64 a5, .int .u64 a6, .int .u64 a6, .int .u64 0] 25)).drew w1 → Calls Try.prog 19 #[.slice (some ⟨v1.heap.size, 0, none⟩) 3 3, .int .u64 1048576] w1 fun r w' => r = .returned (.int .i64 e3) ∧ Below B w1 w') := Lib.hid (fun w1 h =>
    he3 ▸ (rcheck1_any B _ 3 3 L 1048576 w1 (HSB.out w1 h).1 (HSB.out w1 h).2 (Nat.le_refl _) (by decide) (by decide) (by decide)).mono fun _ _ q => ⟨q.1, q.2.mono (HSB.out w1 h).2⟩)
  have HC2 : Hid (∀ w1, Below B (v1.alloc (.cells #[.int .u32 1, .int .u32 0, .int .u64 a0, .int .u64 a0, .int .u64 a1, .int .u64 (a1 + 1), .int .u64 0, .int .u32 1, .int .u32 0, .int .u64 a2, .int .u64 a2, .int .u64 a3, .int .u64 (a3 + 1), .int .u64 0, .int .u32 a4, .int .u32 0, .int .u64 a5, .int .u64 a5, .int .u64 a6, .int .u64 a6, .int .u64 0] 25)).drew w1 → Calls Try.prog 18 #[.slice (some ⟨v1.heap.size, 0, none⟩) 2 3, .int .u64 1048576] w1 fun r w' => r = .returned (.int .i64 e2) ∧ Below B w1 w') := Lib.hid (fun w1 h =>
    he2 ▸ (check1_any B _ 2 3 (L.take 2) 1048576 w1 ((HSB.out w1 h).1.front (by decide)) (HSB.out w1 h).2 (by decide) (by decide) (by decide) (by decide)).mono fun _ _ q => ⟨q.1, q.2.mono (HSB.out w1 h).2⟩)
  have HR2 : Hid (∀ w1, Below B (v1.alloc (.cells #[.int .u32 1, .int .u32 0, .int .u64 a0, .int .u64 a0, .int .u64 a1, .int .u64 (a1 + 1), .int .u64 0, .int .u32 1, .int .u32 0, .int .u64 a2, .int .u64 a2, .int .u64 a3, .int .u64 (a3 + 1), .int .u64 0, .int .u32 a4, .int .u32 0, .int .u64 a5, .int .u64 a5, .int .u64 a6, .int .u64 a6, .int .u64 0] 25)).drew w1 → Calls Try.prog 19 #[.slice (some ⟨v1.heap.size, 0, none⟩) 2 3, .int .u64 1048576] w1 fun r w' => r = .returned (.int .i64 e2) ∧ Below B w1 w') := Lib.hid (fun w1 h =>
    he2 ▸ (rcheck1_any B _ 2 3 (L.take 2) 1048576 w1 ((HSB.out w1 h).1.front (by decide)) (HSB.out w1 h).2 (by decide) (by decide) (by decide) (by decide)).mono fun _ _ q => ⟨q.1, q.2.mono (HSB.out w1 h).2⟩)
  clear HSG he2 he3
  go_wp2
  refine wp_region_vals (by kernel_rfl) B 65 rfl [51, 52, 53, 54, 55, 56, 57, 58, 59, 60, 61, 62, 63, 64, 14] [.slice (some ⟨v1.heap.size, 0, none⟩) 3 3, .int .i64 e3, .slice (some ⟨v1.heap.size, 0, none⟩) 3 3, .int .i64 e3, .bool true, .bool true, .slice (some ⟨v1.heap.size, 0, none⟩) 3 3, .slice (some ⟨v1.heap.size, 0, none⟩) 2 3, .int .i64 e2, .slice (some ⟨v1.heap.size, 0, none⟩) 3 3, .slice (some ⟨v1.heap.size, 0, none⟩) 2 3, .int .i64 e2, .bool true, .bool true, .bool true] (by kernel_rfl) ?steps ?fin
  case fin =>
    intro v8 hb8
    simp only [putAll, List.set_cons_succ, List.set_cons_zero, Nat.reduceAdd, List.getD_cons_succ, List.getD_cons_zero]
    have HB8 : Hid (Below w.heap.size w v8) := Lib.hid (HB1.out.drew.trans (hb8.mono (HBB.out ▸ HB1.out.size)))
    clear hb8
    go_wp2
    go_ret
    exact ⟨rfl, HB8.out⟩
  case steps =>
    refine ⟨?_, ?_, ?_, ?_, ?_, ?_, ?_, ?_, ?_, ?_, ?_, ?_, ?_, ?_, ?_, trivial⟩
    all_goals intro y w2 hb hy0 hp0
    all_goals have hy := Lib.hid hy0
    all_goals have hp := Lib.hid hp0
    all_goals have hst := Lib.hid hb
    all_goals clear hy0 hp0 hb
    · have e1 : y 16 = .slice (some ⟨v1.heap.size, 0, none⟩) 3 3 := hy.out 16 (by decide)
      refine StepG.plain rfl fun K Q hK => ?_
      simp only [fr65] at hK ⊢
      rw [e1] at hK ⊢
      go_simp
      exact hK _ _ ⟨Below.refl _ _, rfl⟩
    · have e1 : y 51 = .slice (some ⟨v1.heap.size, 0, none⟩) 3 3 := hp.out 0 (by decide)
      refine StepG.plain rfl fun K Q hK => ?_
      simp only [fr65] at hK ⊢
      rw [e1] at hK ⊢
      go_simp
      go_at_call 18
      refine (HC3.out _ hst.out).mono ?_
      rintro r w3 ⟨rfl, hb3⟩
      exact hK _ w3 ⟨hb3, rfl⟩
    · have e1 : y 16 = .slice (some ⟨v1.heap.size, 0, none⟩) 3 3 := hy.out 16 (by decide)
      refine StepG.plain rfl fun K Q hK => ?_
      simp only [fr65] at hK ⊢
      rw [e1] at hK ⊢
      go_simp
      exact hK _ _ ⟨Below.refl _ _, rfl⟩
    · have e1 : y 53 = .slice (some ⟨v1.heap.size, 0, none⟩) 3 3 := hp.out 2 (by decide)
      refine StepG.plain rfl fun K Q hK => ?_
      simp only [fr65] at hK ⊢
      rw [e1] at hK ⊢
      go_simp
      go_at_call 19
      refine (HR3.out _ hst.out).mono ?_
      rintro r w3 ⟨rfl, hb3⟩
      exact hK _ w3 ⟨hb3, rfl⟩
    · have e1 : y 52 = .int .i64 e3 := hp.out 1 (by decide)
      have e2 : y 54 = .int .i64 e3 := hp.out 3 (by decide)
      refine StepG.plain rfl fun K Q hK => ?_
      simp only [fr65] at hK ⊢
      rw [e1, e2] at hK ⊢
      go_simp
      exact hK _ _ ⟨Below.refl _ _, by first | rfl | simp⟩
    · have e1 : y 55 = .bool true := hp.out 4 (by decide)
      refine StepG.plain rfl fun K Q hK => ?_
      simp only [fr65] at hK ⊢
      rw [e1] at hK ⊢
      go_simp
      exact hK _ _ ⟨Below.refl _ _, rfl⟩
    · have e1 : y 16 = .slice (some ⟨v1.heap.size, 0, none⟩) 3 3 := hy.out 16 (by decide)
      refine StepG.yes (b := true) (t := 56) rfl rfl rfl (by decide) (hp.out 5 (by decide)) fun K Q hK => ?_
      simp only [fr65] at hK ⊢
      rw [e1] at hK ⊢
      go_simp
      exact hK _ _ ⟨Below.refl _ _, rfl⟩
    · have e1 : y 57 = .slice (some ⟨v1.heap.size, 0, none⟩) 3 3 := hp.out 6 (by decide)
      refine StepG.yes (b := true) (t := 56) rfl rfl rfl (by decide) (hp.out 5 (by decide)) fun K Q hK => ?_
      simp only [fr65] at hK ⊢
      rw [e1] at hK ⊢
      go_simp
      exact hK _ _ ⟨Below.refl _ _, rfl⟩
    · have e1 : y 58 = .slice (some ⟨v1.heap.size, 0, none⟩) 2 3 := hp.out 7 (by decide)
      refine StepG.yes (b := true) (t := 56) rfl rfl rfl (by decide) (hp.out 5 (by decide)) fun K Q hK => ?_
      simp only [fr65] at hK ⊢
      rw [e1] at hK ⊢
      go_simp
      go_at_call 18
      refine (HC2.out _ hst.out).mono ?_
      rintro r w3 ⟨rfl, hb3⟩
      exact hK _ w3 ⟨hb3, rfl⟩
    · have e1 : y 16 = .slice (some ⟨v1.heap.size, 0, none⟩) 3 3 := hy.out 16 (by decide)
      refine StepG.yes (b := true) (t := 56) rfl rfl rfl (by decide) (hp.out 5 (by decide)) fun K Q hK => ?_
      simp only [fr65] at hK ⊢
      rw [e1] at hK ⊢
      go_simp
      exact hK _ _ ⟨Below.refl _ _, rfl⟩
    · have e1 : y 60 = .slice (some ⟨v1.heap.size, 0, none⟩) 3 3 := hp.out 9 (by decide)
      refine StepG.yes (b := true) (t := 56) rfl rfl rfl (by decide) (hp.out 5 (by decide)) fun K Q hK => ?_
      simp only [fr65] at hK ⊢
      rw [e1] at hK ⊢
      go_simp
      exact hK _ _ ⟨Below.refl _ _, rfl⟩
    · have e1 : y 61 = .slice (some ⟨v1.heap.size, 0, none⟩) 2 3 := hp.out 10 (by decide)
      refine StepG.yes (b := true) (t := 56) rfl rfl rfl (by decide) (hp.out 5 (by decide)) fun K Q hK => ?_
      simp only [fr65] at hK ⊢
      rw [e1] at hK ⊢
      go_simp
      go_at_call 19
      refine (HR2.out _ hst.out).mono ?_
      rintro r w3 ⟨rfl, hb3⟩
      exact hK _ w3 ⟨hb3, rfl⟩
    · have e1 : y 59 = .int .i64 e2 := hp.out 8 (by decide)
      have e2 : y 62 = .int .i64 e2 := hp.out 11 (by decide)
      refine StepG.yes (b := true) (t := 56) rfl rfl rfl (by decide) (hp.out 5 (by decide)) fun K Q hK => ?_
      simp only [fr65] at hK ⊢
      rw [e1, e2] at hK ⊢
      go_simp
      exact hK _ _ ⟨Below.refl _ _, by first | rfl | simp⟩
    · have e1 : y 56 = .bool true := hp.out 5 (by decide)
      have e2 : y 63 = .bool true := hp.out 12 (by decide)
      refine StepG.plain rfl fun K Q hK => ?_
      simp only [fr65] at hK ⊢
      rw [e1, e2] at hK ⊢
      go_simp
      exact hK _ _ ⟨Below.refl _ _, by first | rfl | simp⟩
    · have e1 : y 64 = .bool true := hp.out 13 (by decide)
      refine StepG.plain rfl fun K Q hK => ?_
      simp only [fr65] at hK ⊢
      rw [e1] at hK ⊢
      go_simp
      exact hK _ _ ⟨Below.refl _ _, rfl⟩

set_option maxRecDepth 100000 in
theorem lifted (os : Os) (started : os.Started) (H : Type) (enc : TypeId × Value → H) :
    ReturnsInHanded {} Try.checked os 10 .any (Rows.segsTwoSpec.pre6 enc Try.prog Try.f10 Rows.segsTwoRow.domain false) (Rows.segsTwoSpec.post enc Try.prog Try.f10 false true false false) := by
  refine returnsInHanded_of_change (C := Try.checked) own started (by kernel_rfl) Try.func10
    (ChangeSpec.witness6 (enc := enc) (C := Try.checked) false ⟨#[], #[.int .u16 0, .int .u16 0, .int .u16 0, .int .u16 0, .int .u32 0, .int .u16 0, .int .u16 0], []⟩ 8 (by kernel_rfl) (by kernel_rfl) (by kernel_rfl) (by kernel_rfl)) ?_
  intro W base args ds gs before hval0 hW hcnd _
  have hval : ∀ (j : Nat) t v, Try.f10.params[j]? = some t → args[j]? = some v → Value.okWide Try.prog W .any base t v := hval0
  have hW' := hW
  obtain ⟨p, q, hA0, hV, rfl, hfz, hnd⟩ := hW
  have hA : DataW.TrodAll enc Try.prog W 0 (fun _ => true) true Try.f10.params.toList args.toList ds p := hA0
  rw [Try.params10] at hA hval
  obtain ⟨v0, vs0, d0, ds0, p0, q0, hargs, rfl, rfl, h0, r0⟩ := trodAll_cons hA
  obtain ⟨v1, vs1, d1, ds1, p1, q1, rfl, rfl, rfl, h1, r1⟩ := trodAll_cons r0
  obtain ⟨v2, vs2, d2, ds2, p2, q2, rfl, rfl, rfl, h2, r2⟩ := trodAll_cons r1
  obtain ⟨v3, vs3, d3, ds3, p3, q3, rfl, rfl, rfl, h3, r3⟩ := trodAll_cons r2
  obtain ⟨v4, vs4, d4, ds4, p4, q4, rfl, rfl, rfl, h4, r4⟩ := trodAll_cons r3
  obtain ⟨v5, vs5, d5, ds5, p5, q5, rfl, rfl, rfl, h5, r5⟩ := trodAll_cons r4
  obtain ⟨v6, vs6, d6, ds6, p6, q6, rfl, rfl, rfl, h6, r6⟩ := trodAll_cons r5
  obtain ⟨rfl, rfl, rfl⟩ := trodAll_nil r6
  obtain rfl : args = #[v0, v1, v2, v3, v4, v5, v6] := by cases args; simp_all
  obtain ⟨rfl, rfl⟩ := trodVars_none hV
  obtain ⟨a0, rfl, rfl, rfl, w0⟩ := open_int Try.underlying50 (hval 0 50 v0 rfl rfl) h0
  obtain ⟨a1, rfl, rfl, rfl, w1⟩ := open_int Try.underlying50 (hval 1 50 v1 rfl rfl) h1
  obtain ⟨a2, rfl, rfl, rfl, w2⟩ := open_int Try.underlying50 (hval 2 50 v2 rfl rfl) h2
  obtain ⟨a3, rfl, rfl, rfl, w3⟩ := open_int Try.underlying50 (hval 3 50 v3 rfl rfl) h3
  obtain ⟨a4, rfl, rfl, rfl, w4⟩ := open_int Try.underlying22 (hval 4 22 v4 rfl rfl) h4
  obtain ⟨a5, rfl, rfl, rfl, w5⟩ := open_int Try.underlying50 (hval 5 50 v5 rfl rfl) h5
  obtain ⟨a6, rfl, rfl, rfl, w6⟩ := open_int Try.underlying50 (hval 6 50 v6 rfl rfl) h6
  clear hA0 hval0
  refine (walk a0 a1 a2 a3 a4 a5 a6 W w0 w1 w2 w3 w4 w5 w6).mono fun e W' ⟨he, bel⟩ => ?_
  subst he
  exact ⟨_, rfl, _, _, _, [], _, [], hW', trodAll_mk1 (shut_bool Try.underlying4 _), (trodAll_cons_mk (shut_int Try.underlying50 w0) (trodAll_cons_mk (shut_int Try.underlying50 w1) (trodAll_cons_mk (shut_int Try.underlying50 w2) (trodAll_cons_mk (shut_int Try.underlying50 w3) (trodAll_cons_mk (shut_int Try.underlying22 w4) (trodAll_cons_mk (shut_int Try.underlying50 w5) (trodAll_cons_mk (shut_int Try.underlying50 w6) trodAll_mk0))))))), rfl, bel.frame _, fun h => by cases h⟩

theorem over : Rows.segsTwoRow.holds Try.pinned (OpenSpec.ofChange Rows.segsTwoSpec) :=
  OpenClaim.holds_of_wide 10 Try.f10 rfl rfl rfl rfl rfl rfl rfl ⟨rfl, rfl, rfl, rfl, rfl⟩ rfl rfl rfl rfl rfl (by kernel_rfl) Try.func10 (by kernel_rfl)
    (of_decide_eq_true (by kernel_rfl)) (by unfold Func.isWrapper; first | (rw [if_pos (by decide +kernel)]; kernel_rfl) | (rw [if_neg (by decide +kernel)]; exact ⟨rfl, rfl⟩))
    (fun os started H enc _ => lifted os started H enc)

theorem proved : Rows.SegsTwoSaid := over
#print axioms proved
end Go.Proofs.Ytgomemienmchnaa.segsTwo
