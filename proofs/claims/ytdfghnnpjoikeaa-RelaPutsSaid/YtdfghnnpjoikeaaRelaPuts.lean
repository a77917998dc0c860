/-
  What is proved here: RelaPuts: any relocation's bytes are the reference's, there and back.
  Conditions: none of our own; the law's row says what its input is.
-/
import Derived.Test.YtdfghnnpjoikeaaRows
import Derived.Test.YtdfghnnpjoikeaaRelAwake
import Derived.Test.YtdfghnnpjoikeaaRelFrame
import Derived.Test.YtdfghnnpjoikeaaApp
import Derived.WalkKit
import Derived.ProofKit
import Derived.OpenShut
import Derived.ShutString
import Derived.ChangeOld
import Derived.Below
namespace Go.Proofs.Ytdfghnnpjoikeaa.relaPuts
open Go.ChangeShapes Go.WideShapes Go.ChangeAt Go.RowKit
open Go.ChangeMaps (open_string shut_string)
set_option linter.unusedVariables false

theorem own : ownKnob Try.prog.godebug = none := by kernel_rfl
theorem laidOut : laidOutB Try.prog = true := by kernel_rfl

theorem fr39 (y : Nat → Value) : frameOf 39 y = #[y 0, y 1, y 2, y 3, y 4, y 5, y 6, y 7, y 8, y 9, y 10, y 11, y 12, y 13, y 14, y 15, y 16, y 17, y 18, y 19, y 20, y 21, y 22, y 23, y 24, y 25, y 26, y 27, y 28, y 29, y 30, y 31, y 32, y 33, y 34, y 35, y 36, y 37, y 38] := rfl
set_option maxRecDepth 100000 in
set_option maxHeartbeats 1600000 in
theorem walk (a0 : Rl) (w : World) (w0 : a0.Ok) :
    Calls Try.prog 3 #[a0.val] w fun e w' => e = .returned (.bool true) ∧ Below w.heap.size w w' := by
  have HP := Lib.hid (fun w1 => lput_ok a0 w1 w0)
  have HRP : Hid (∀ w1, Calls Try.prog 12 #[a0.val] w1 fun r w' => (∃ u, r = .returned u ∧ Made (encL a0) u w') ∧ Below w1.heap.size w1 w') := Lib.hid (fun w1 => (rput7_ok a0 w1 w0).mono fun _ _ h => by
    obtain ⟨⟨u, rfl, ho⟩, hb⟩ := h
    rw [← encL_len a0] at ho
    exact ⟨⟨u, rfl, own_made ho (by rw [encL_len]; decide) (encL_bd a0)⟩, hb⟩)
  have HT := Lib.hid (tabL_one w0)
  have HEL := Lib.hid (encL_len a0)
  have HOK := Lib.hid w0
  clear w0
  generalize encL a0 = zs at HP HRP HT HEL
  obtain ⟨of, ty, sy, ad⟩ := a0
  unfold Rl.val at *
  simp only at HP HRP ⊢
  have HW0 : Hid (Below w.heap.size w (w.alloc (.cells #[.int .u64 of, .int .u32 ty, .int .u32 sy, .int .i64 ad] 25))) := Lib.hid ((Below.refl _ _).alloc (Nat.le_refl _) _)
  have HK : Hid (∀ w', Below (w.alloc (.cells #[.int .u64 of, .int .u32 ty, .int .u32 sy, .int .i64 ad] 25)).heap.size (w.alloc (.cells #[.int .u64 of, .int .u32 ty, .int .u32 sy, .int .i64 ad] 25)) w' → Blk w' w.heap.size #[.int .u64 of, .int .u32 ty, .int .u32 sy, .int .i64 ad] 25) := Lib.hid (fun w' h => (Blk.new _ _ _).later h)
  obtain ⟨ST, hST⟩ : ∃ ST, strOfNums zs = ST := ⟨_, rfl⟩
  go_enter Try.func3, Try.ntmps3
  go_wp2_with fail
  refine (awake_any _).mono ?_
  rintro r v1 ⟨rfl, hb1⟩
  obtain ⟨c0, c1, c2, c3⟩ := Rl.cs (HK.out _ hb1)
  have HB1 := Lib.hid hb1
  clear hb1
  go_wp2_with fail
  refine (HP.out _).mono ?_
  rintro r w1 ⟨⟨u, rfl, g, c, rfl, hc1, hc2, hm⟩, hb⟩
  rw [HEL.out] at hm hc1 ⊢
  have HM := Lib.hid hm
  have HB2 := Lib.hid (HB1.out.trans (hb.mono HB1.out.size))
  have HG : Hid (Calls Try.prog 11 #[.slice (some ⟨g, 0, none⟩) 24 c] w1 fun r w' => (∃ u, r = .returned (.tuple #[u, .int .i64 0]) ∧ w'.ownsRow w1.heap.size 25 4 u 1 (Rl.flat [⟨of, ty, sy, ad⟩])) ∧ Below w1.heap.size w1 w') := Lib.hid (by
    have h := ltable_any _ _ 24 c _ w1 hm (Nat.le_refl _) (by decide) hc1 hc2
    rw [HT.out] at h
    exact h)
  clear hm hb HP
  go_wp2_with fail
  refine HG.out.mono ?_
  rintro r w4 ⟨⟨u, rfl, ho⟩, hb4⟩
  obtain ⟨la, lc, rfl, hlc, hlcm⟩ := Rl.own_slice ho
  have HL := Rl.Sl.own (fun s hs => by obtain rfl := List.mem_singleton.1 hs; exact HOK.out) ho
  obtain ⟨lb, lo, rfl, hlb, hlcell⟩ := HL.hc (by decide)
  have HB4 := Lib.hid (HB2.out.trans (hb4.mono HB2.out.size))
  have HBX : Hid (∀ w', Stays w4.drew w' → Blk w' w.heap.size #[.int .u64 of, .int .u32 ty, .int .u32 sy, .int .i64 ad] 25) := Lib.hid (fun w' h => HK.out w' (HB4.out.drew.trans (Below.mono h HB4.out.size)))
  have HBY : Hid (∀ w', Stays w4.drew w' → Bys w' w1.heap.size (some ⟨g, 0, none⟩) 24 zs) := Lib.hid (fun w' h => HM.out.below (hb4.drew.trans (Below.mono h hb4.size)))
  have HCL : Hid (∀ w', Stays w4.drew w' → w'.cell? ⟨lb, lo, none⟩ = some (.int .u64 of) ∧ w'.cell? ⟨lb, lo + 1, none⟩ = some (.int .u32 ty) ∧ w'.cell? ⟨lb, lo + 2, none⟩ = some (.int .u32 sy) ∧ w'.cell? ⟨lb, lo + 3, none⟩ = some (.int .i64 ad)) := Lib.hid (fun w' h => by
    have h1 := (hlcell 0 (by decide)).below ((Below.refl w4.heap.size w4).drew.trans h) hlb
    rw [Nat.zero_mul, Nat.add_zero] at h1
    exact ⟨h1.c0, h1.c1, h1.c2, h1.c3⟩)
  have hlci : (1 : Int) ≤ lc := by omega
  clear ho hb4 hlcell HL HG HK c0 c1 c2 c3
  go_wp2
  refine wp_region_facts (by kernel_rfl) Stays Stays.refl Stays.trans 39 rfl [17, 18, 19, 20, 21, 22, 23, 24, 25, 26, 27, 28, 29, 30, 31, 32, 33, 34, 35, 36, 37, 38, 2] (factsOf [Is (.slice (some ⟨g, 0, none⟩) 24 c), Is (.string ST), Is (.agg #[.int .u64 of, .int .u32 ty, .int .u32 sy, .int .i64 ad]), Made zs, Is (.string ST), Is (.bool true), Is (.bool true), Is (.int .i64 (0)), Is (.bool true), Is (.bool true), Is (.bool true), Is (.slice (some ⟨lb, lo, none⟩) 1 lc), Is (.int .i64 (1)), Is (.bool true), Is (.bool true), Is (.bool true), Is (.slice (some ⟨lb, lo, none⟩) 1 lc), Is (.pointer (some ⟨lb, lo, none⟩)), Is (.agg #[.int .u64 of, .int .u32 ty, .int .u32 sy, .int .i64 ad]), Is (.agg #[.int .u64 of, .int .u32 ty, .int .u32 sy, .int .i64 ad]), Is (.bool true), Is (.bool true), Is (.bool true)]) (by kernel_rfl) (factsOf_mono (mono_cons (Is.mono _) (mono_cons (Is.mono _) (mono_cons (Is.mono _) (mono_cons (Made.mono _) (mono_cons (Is.mono _) (mono_cons (Is.mono _) (mono_cons (Is.mono _) (mono_cons (Is.mono _) (mono_cons (Is.mono _) (mono_cons (Is.mono _) (mono_cons (Is.mono _) (mono_cons (Is.mono _) (mono_cons (Is.mono _) (mono_cons (Is.mono _) (mono_cons (Is.mono _) (mono_cons (Is.mono _) (mono_cons (Is.mono _) (mono_cons (Is.mono _) (mono_cons (Is.mono _) (mono_cons (Is.mono _) (mono_cons (Is.mono _) (mono_cons (Is.mono _) (mono_cons (Is.mono _) mono_nil)))))))))))))))))))))))) ?steps17 ?fin17
  case fin17 =>
    intro v w2 hb2 hF
    have hlast : v 22 = .bool true := hF 22 (by decide)
    have HBF : Hid (Below w.heap.size w w2) := Lib.hid (by
      have h1 := HW0.out.trans (HB4.out.mono HW0.out.size)
      exact h1.drew.trans (Below.mono hb2 h1.size))
    clear hb2 hF
    simp only [putAll, List.set_cons_succ, List.set_cons_zero, Nat.reduceAdd, hlast]
    go_wp2
    go_ret
    exact ⟨rfl, HBF.out⟩
  case steps17 =>
    refine ⟨?_, ?_, ?_, ?_, ?_, ?_, ?_, ?_, ?_, ?_, ?_, ?_, ?_, ?_, ?_, ?_, ?_, ?_, ?_, ?_, ?_, ?_, ?_, trivial⟩
    all_goals intro y w2 hb hy0 hp0
    all_goals have hy := Lib.hid hy0
    all_goals have hp := Lib.hid hp0
    all_goals have hst := Lib.hid hb
    all_goals clear hy0 hp0 hb
    · have e1 : y 4 = .slice (some ⟨g, 0, none⟩) 24 c := hy.out 4 (by decide)
      refine StepG.plain rfl fun K Q hK => ?_
      simp only [fr39] at hK ⊢
      rw [e1] at hK ⊢
      go_simp
      exact hK _ _ ⟨Stays.refl _, by first | rfl | simp [Is] | (simp [factsOf, Is]; done)⟩
    · have e1 : y 17 = .slice (some ⟨g, 0, none⟩) 24 c := hp.out 0 (by decide)
      have hcv := (HBY.out _ hst.out).conv c
      rw [hST] at hcv
      refine StepG.plain rfl fun K Q hK => ?_
      simp only [fr39] at hK ⊢
      rw [e1] at hK ⊢
      go_simp
      exact hK _ _ ⟨Stays.refl _, by first | rfl | simp [Is] | (simp [factsOf, Is]; done)⟩
    · have e1 : y 1 = .pointer (some ⟨w.heap.size, 0, none⟩) := hy.out 1 (by decide)
      obtain ⟨c0, c1, c2, c3⟩ := Rl.cs (HBX.out _ hst.out)
      refine StepG.plain rfl fun K Q hK => ?_
      simp only [fr39] at hK ⊢
      rw [e1] at hK ⊢
      go_simp
      exact hK _ _ ⟨Stays.refl _, by first | rfl | simp [Is] | (simp [factsOf, Is]; done)⟩
    · have e1 : y 19 = .agg #[.int .u64 of, .int .u32 ty, .int .u32 sy, .int .i64 ad] := hp.out 2 (by decide)
      refine StepG.plain rfl fun K Q hK => ?_
      simp only [fr39] at hK ⊢
      rw [e1] at hK ⊢
      go_simp
      go_at_call 12
      refine (HRP.out _).mono ?_
      rintro r w3 ⟨⟨u, rfl, hm⟩, hb3⟩
      exact hK _ w3 ⟨hb3, hm⟩
    · obtain ⟨ug, uc, e1, -, -, hby⟩ : Made zs (y 20) w2 := hp.out 3 (by decide)
      have hcv := hby.conv uc
      rw [hST] at hcv
      refine StepG.plain rfl fun K Q hK => ?_
      simp only [fr39] at hK ⊢
      rw [e1] at hK ⊢
      go_simp
      exact hK _ _ ⟨Stays.refl _, by first | rfl | simp [Is] | (simp [factsOf, Is]; done)⟩
    · have e1 : y 18 = .string ST := hp.out 1 (by decide)
      have e2 : y 21 = .string ST := hp.out 4 (by decide)
      refine StepG.plain rfl fun K Q hK => ?_
      simp only [fr39] at hK ⊢
      rw [e1, e2] at hK ⊢
      go_simp
      exact hK _ _ ⟨Stays.refl _, by first | rfl | simp [Is] | (simp [factsOf, Is]; done)⟩
    · have e1 : y 22 = .bool true := hp.out 5 (by decide)
      refine StepG.plain rfl fun K Q hK => ?_
      simp only [fr39] at hK ⊢
      rw [e1] at hK ⊢
      go_simp
      exact hK _ _ ⟨Stays.refl _, by first | rfl | simp [Is] | (simp [factsOf, Is]; done)⟩
    · have e1 : y 6 = .int .i64 (0) := hy.out 6 (by decide)
      refine StepG.yes (b := true) (t := 23) rfl rfl rfl (by decide) (hp.out 6 (by decide)) fun K Q hK => ?_
      simp only [fr39] at hK ⊢
      rw [e1] at hK ⊢
      go_simp
      exact hK _ _ ⟨Stays.refl _, by first | rfl | simp [Is] | (simp [factsOf, Is]; done)⟩
    · have e1 : y 24 = .int .i64 (0) := hp.out 7 (by decide)
      refine StepG.yes (b := true) (t := 23) rfl rfl rfl (by decide) (hp.out 6 (by decide)) fun K Q hK => ?_
      simp only [fr39] at hK ⊢
      rw [e1] at hK ⊢
      go_simp
      exact hK _ _ ⟨Stays.refl _, by first | rfl | simp [Is] | (simp [factsOf, Is]; done)⟩
    · have e1 : y 23 = .bool true := hp.out 6 (by decide)
      have e2 : y 25 = .bool true := hp.out 8 (by decide)
      refine StepG.plain rfl fun K Q hK => ?_
      simp only [fr39] at hK ⊢
      rw [e1, e2] at hK ⊢
      go_simp
      exact hK _ _ ⟨Stays.refl _, by first | rfl | simp [Is] | (simp [factsOf, Is]; done)⟩
    · have e1 : y 26 = .bool true := hp.out 9 (by decide)
      refine StepG.plain rfl fun K Q hK => ?_
      simp only [fr39] at hK ⊢
      rw [e1] at hK ⊢
      go_simp
      exact hK _ _ ⟨Stays.refl _, by first | rfl | simp [Is] | (simp [factsOf, Is]; done)⟩
    · have e1 : y 5 = .slice (some ⟨lb, lo, none⟩) 1 lc := hy.out 5 (by decide)
      refine StepG.yes (b := true) (t := 27) rfl rfl rfl (by decide) (hp.out 10 (by decide)) fun K Q hK => ?_
      simp only [fr39] at hK ⊢
      rw [e1] at hK ⊢
      go_simp
      exact hK _ _ ⟨Stays.refl _, by first | rfl | simp [Is] | (simp [factsOf, Is]; done)⟩
    · have e1 : y 28 = .slice (some ⟨lb, lo, none⟩) 1 lc := hp.out 11 (by decide)
      refine StepG.yes (b := true) (t := 27) rfl rfl rfl (by decide) (hp.out 10 (by decide)) fun K Q hK => ?_
      simp only [fr39] at hK ⊢
      rw [e1] at hK ⊢
      go_simp
      exact hK _ _ ⟨Stays.refl _, by first | rfl | simp [Is] | (simp [factsOf, Is]; done)⟩
    · have e1 : y 29 = .int .i64 (1) := hp.out 12 (by decide)
      refine StepG.yes (b := true) (t := 27) rfl rfl rfl (by decide) (hp.out 10 (by decide)) fun K Q hK => ?_
      simp only [fr39] at hK ⊢
      rw [e1] at hK ⊢
      go_simp
      exact hK _ _ ⟨Stays.refl _, by first | rfl | simp [Is] | (simp [factsOf, Is]; done)⟩
    · have e1 : y 27 = .bool true := hp.out 10 (by decide)
      have e2 : y 30 = .bool true := hp.out 13 (by decide)
      refine StepG.plain rfl fun K Q hK => ?_
      simp only [fr39] at hK ⊢
      rw [e1, e2] at hK ⊢
      go_simp
      exact hK _ _ ⟨Stays.refl _, by first | rfl | simp [Is] | (simp [factsOf, Is]; done)⟩
    · have e1 : y 31 = .bool true := hp.out 14 (by decide)
      refine StepG.plain rfl fun K Q hK => ?_
      simp only [fr39] at hK ⊢
      rw [e1] at hK ⊢
      go_simp
      exact hK _ _ ⟨Stays.refl _, by first | rfl | simp [Is] | (simp [factsOf, Is]; done)⟩
    · have e1 : y 5 = .slice (some ⟨lb, lo, none⟩) 1 lc := hy.out 5 (by decide)
      refine StepG.yes (b := true) (t := 32) rfl rfl rfl (by decide) (hp.out 15 (by decide)) fun K Q hK => ?_
      simp only [fr39] at hK ⊢
      rw [e1] at hK ⊢
      go_simp
      exact hK _ _ ⟨Stays.refl _, by first | rfl | simp [Is] | (simp [factsOf, Is]; done)⟩
    · have e1 : y 33 = .slice (some ⟨lb, lo, none⟩) 1 lc := hp.out 16 (by decide)
      refine StepG.yes (b := true) (t := 32) rfl rfl rfl (by decide) (hp.out 15 (by decide)) fun K Q hK => ?_
      simp only [fr39] at hK ⊢
      rw [e1] at hK ⊢
      go_simp
      try rw [if_pos ⟨by omega, by omega⟩]
      exact hK _ _ ⟨Stays.refl _, by first | rfl | simp [Is]⟩
    · have e1 : y 34 = .pointer (some ⟨lb, lo, none⟩) := hp.out 17 (by decide)
      obtain ⟨c0, c1, c2, c3⟩ := HCL.out _ hst.out
      refine StepG.yes (b := true) (t := 32) rfl rfl rfl (by decide) (hp.out 15 (by decide)) fun K Q hK => ?_
      simp only [fr39] at hK ⊢
      rw [e1] at hK ⊢
      go_simp
      exact hK _ _ ⟨Stays.refl _, by first | rfl | simp [Is] | (simp [factsOf, Is]; done)⟩
    · have e1 : y 1 = .pointer (some ⟨w.heap.size, 0, none⟩) := hy.out 1 (by decide)
      obtain ⟨c0, c1, c2, c3⟩ := Rl.cs (HBX.out _ hst.out)
      refine StepG.yes (b := true) (t := 32) rfl rfl rfl (by decide) (hp.out 15 (by decide)) fun K Q hK => ?_
      simp only [fr39] at hK ⊢
      rw [e1] at hK ⊢
      go_simp
      exact hK _ _ ⟨Stays.refl _, by first | rfl | simp [Is] | (simp [factsOf, Is]; done)⟩
    · have e1 : y 35 = .agg #[.int .u64 of, .int .u32 ty, .int .u32 sy, .int .i64 ad] := hp.out 18 (by decide)
      have e2 : y 36 = .agg #[.int .u64 of, .int .u32 ty, .int .u32 sy, .int .i64 ad] := hp.out 19 (by decide)
      refine StepG.yes (b := true) (t := 32) rfl rfl rfl (by decide) (hp.out 15 (by decide)) fun K Q hK => ?_
      simp only [fr39] at hK ⊢
      rw [e1, e2] at hK ⊢
      go_simp
      exact hK _ _ ⟨Stays.refl _, by first | rfl | simp [Is] | (simp [factsOf, Is]; done)⟩
    · have e1 : y 32 = .bool true := hp.out 15 (by decide)
      have e2 : y 37 = .bool true := hp.out 20 (by decide)
      refine StepG.plain rfl fun K Q hK => ?_
      simp only [fr39] at hK ⊢
      rw [e1, e2] at hK ⊢
      go_simp
      exact hK _ _ ⟨Stays.refl _, by first | rfl | simp [Is] | (simp [factsOf, Is]; done)⟩
    · have e1 : y 38 = .bool true := hp.out 21 (by decide)
      refine StepG.plain rfl fun K Q hK => ?_
      simp only [fr39] at hK ⊢
      rw [e1] at hK ⊢
      go_simp
      exact hK _ _ ⟨Stays.refl _, by first | rfl | simp [Is] | (simp [factsOf, Is]; done)⟩

set_option maxRecDepth 100000 in
theorem lifted (os : Os) (started : os.Started) (H : Type) (enc : TypeId × Value → H) :
    ReturnsInHanded {} Try.checked os 3 .any (Rows.relaPutsSpec.pre6 enc Try.prog Try.f3 Rows.relaPutsRow.domain false) (Rows.relaPutsSpec.post enc Try.prog Try.f3 false true false false) := by
  refine returnsInHanded_of_change (C := Try.checked) own started (by kernel_rfl) Try.func3
    (ChangeSpec.witness6 (enc := enc) (C := Try.checked) false ⟨#[], #[.agg #[.int .u64 0, .int .u32 0, .int .u32 0, .int .i64 0]], []⟩ 8 (by kernel_rfl) (by kernel_rfl) (by kernel_rfl) (by kernel_rfl)) ?_
  intro W base args ds gs before hval0 hW hcnd _
  have hval : ∀ (j : Nat) t v, Try.f3.params[j]? = some t → args[j]? = some v → Value.okWide Try.prog W .any base t v := hval0
  have hW' := hW
  obtain ⟨p, q, hA0, hV, rfl, hfz, hnd⟩ := hW
  have hA : DataW.TrodAll enc Try.prog W 0 (fun _ => true) true Try.f3.params.toList args.toList ds p := hA0
  rw [Try.params3] at hA hval
  obtain ⟨v0, vs0, d0, ds0, p0, q0, hargs, rfl, rfl, h0, r0⟩ := trodAll_cons hA
  obtain ⟨rfl, rfl, rfl⟩ := trodAll_nil r0
  obtain rfl : args = #[v0] := by cases args; simp_all
  obtain ⟨rfl, rfl⟩ := trodVars_none hV
  obtain ⟨cs0, rfl, _⟩ := okWide_struct Try.underlying25 (hval 0 25 v0 rfl rfl)
  have k0 := h0
  have lt0 : ∀ x ∈ p0, x.block < W.heap.size := by obtain ⟨m, hm⟩ := k0; exact DataW.trod_lt m _ _ _ hm
  obtain ⟨a0, w0, rfl⟩ : ∃ s : Rl, s.Ok ∧ cs0 = s.cells := by
    obtain ⟨fuel, hf⟩ := h0
    exact Rl.open1 hf
  clear hA0 hval0
  refine (walk a0 W w0).mono fun e W' ⟨he, bel⟩ => ?_
  subst he
  exact ⟨_, rfl, _, _, _, [], _, [], hW', trodAll_mk1 (shut_bool Try.underlying4 _), (trodAll_cons_mk (Below.trod laidOut (by kernel_rfl) (of_decide_eq_true (by kernel_rfl)) k0 bel lt0) trodAll_mk0), rfl, bel.frame _, fun h => by cases h⟩

theorem over : Rows.relaPutsRow.holds Try.pinned (OpenSpec.ofChange Rows.relaPutsSpec) :=
  OpenClaim.holds_of_wide 3 Try.f3 rfl rfl rfl rfl rfl rfl rfl ⟨rfl, rfl, rfl, rfl, rfl⟩ rfl rfl rfl rfl rfl (by kernel_rfl) Try.func3 (by kernel_rfl)
    (of_decide_eq_true (by kernel_rfl)) (by unfold Func.isWrapper; first | (rw [if_pos (by decide +kernel)]; kernel_rfl) | (rw [if_neg (by decide +kernel)]; exact ⟨rfl, rfl⟩))
    (fun os started H enc _ => lifted os started H enc)

theorem proved : Rows.RelaPutsSaid := over
#print axioms proved
end Go.Proofs.Ytdfghnnpjoikeaa.relaPuts
