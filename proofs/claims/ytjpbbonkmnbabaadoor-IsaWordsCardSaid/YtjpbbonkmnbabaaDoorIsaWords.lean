/-
  What is proved here: IsaWords: any operation's number with any fields is the instruction that the reference says, or refused.
  Conditions: none of our own; the law's row says what its input is.
-/
import Derived.Test.YtjpbbonkmnbabaaDoorRows
import Derived.Test.YtjpbbonkmnbabaaDoorIsaCut
import Derived.Test.YtjpbbonkmnbabaaDoorApp
import Derived.Test.YtjpbbonkmnbabaaDoorMask
import Derived.WalkKit
import Derived.ProofKit
import Derived.OpenShut
import Derived.ShutString
import Derived.ChangeOld
import Derived.Below
import Derived.Test.YtjpbbonkmnbabaaDoorTie
import Derived.Test.YtjpbbonkmnbabaaDoorCards
import Derived.SevenTiedAt
import Derived.Lay
import Derived.LaidMore
import Derived.Stop.Joined
import Derived.Test.YtjpbbonkmnbabaaDoorCard
namespace Go.Proofs.YtjpbbonkmnbabaaDoor.isaWords
open Go.ChangeShapes Go.WideShapes Go.ChangeAt Go.RowKit
open Go.ChangeMaps (open_string shut_string)
set_option linter.unusedVariables false

theorem own : ownKnob Tryd.prog.godebug = none := by kernel_rfl
theorem laidOut : laidOutB Tryd.prog = true := by kernel_rfl

theorem bd12_i64 {n : Int} (h : (Lit.int .i64 n).wf = true) : -9223372036854775808 ≤ n ∧ n ≤ 9223372036854775807 := by
  simpa [Lit.wf, IntKind.min, IntKind.max, IntKind.signed, IntKind.bits] using h
theorem bd12_i32 {n : Int} (h : (Lit.int .i32 n).wf = true) : -2147483648 ≤ n ∧ n ≤ 2147483647 := by
  simpa [Lit.wf, IntKind.min, IntKind.max, IntKind.signed, IntKind.bits] using h
theorem u64_wrap_bd (x : Int) : 0 ≤ IntKind.u64.wrap x ∧ IntKind.u64.wrap x ≤ 18446744073709551615 := by
  rw [IntKind.wrap_u64]; omega
set_option maxRecDepth 100000 in
set_option maxHeartbeats 1600000 in
theorem walk (a0 : Int) (a1 : Int) (a2 : Int) (a3 : Int) (a4 : Int) (w : World) (hTB : Tb w) (w0 : (Lit.int .u8 a0).wf = true) (w1 : (Lit.int .u16 a1).wf = true) (w2 : (Lit.int .u16 a2).wf = true) (w3 : (Lit.int .u32 a3).wf = true) (w4 : (Lit.int .u8 a4).wf = true) :
    Calls Tryd.prog 5 #[.int .u8 a0, .int .u16 a1, .int .u16 a2, .int .u32 a3, .int .u8 a4] w fun e w' => e = .returned (.bool true) ∧ Below w.heap.size w w' := by
  have HTB := Lib.hid hTB
  clear hTB
  go_enter Tryd.func5, Tryd.ntmps5
  go_wp2_with fail
  refine (awake12_any _ HTB.out).mono ?_
  rintro r v1 ⟨rfl, hb1⟩
  have HB1 := Lib.hid hb1
  clear hb1
  go_upto_if 29 with fail
  go_cut [12] (fun v wx => (∃ x : Int, v = .int .u64 x ∧ 0 ≤ x ∧ x ≤ 18446744073709551615) ∧ Below w.heap.size w wx)
  · go_wp2
    all_goals go_meet
    all_goals first
      | exact ⟨⟨_, rfl, (u64_bits_bd _ _ _).1, (u64_bits_bd _ _ _).2⟩, HB1.out⟩
      | exact ⟨⟨_, rfl, (u64_wrap_bd _).1, (u64_wrap_bd _).2⟩, HB1.out⟩
      | exact ⟨⟨_, rfl, by omega, by omega⟩, HB1.out⟩
  obtain ⟨⟨x0, rfl, x00, x01⟩, hbx⟩ := hcut
  have HB10 := Lib.hid hbx
  clear hbx
  go_upto_if 38 with fail
  go_cut [12] (fun v wx => (∃ x : Int, v = .int .u64 x ∧ 0 ≤ x ∧ x ≤ 18446744073709551615) ∧ Below w.heap.size w wx)
  · go_wp2
    all_goals go_meet
    all_goals first
      | exact ⟨⟨_, rfl, (u64_bits_bd _ _ _).1, (u64_bits_bd _ _ _).2⟩, HB10.out⟩
      | exact ⟨⟨_, rfl, (u64_wrap_bd _).1, (u64_wrap_bd _).2⟩, HB10.out⟩
      | exact ⟨⟨_, rfl, by omega, by omega⟩, HB10.out⟩
  obtain ⟨⟨x1, rfl, x10, x11⟩, hbx⟩ := hcut
  have HB11 := Lib.hid hbx
  clear hbx
  go_upto_if 48 with fail
  go_cut [12] (fun v wx => (∃ x : Int, v = .int .u64 x ∧ 0 ≤ x ∧ x ≤ 18446744073709551615) ∧ Below w.heap.size w wx)
  · go_wp2
    all_goals go_meet
    all_goals first
      | exact ⟨⟨_, rfl, (u64_bits_bd _ _ _).1, (u64_bits_bd _ _ _).2⟩, HB11.out⟩
      | exact ⟨⟨_, rfl, (u64_wrap_bd _).1, (u64_wrap_bd _).2⟩, HB11.out⟩
      | exact ⟨⟨_, rfl, by omega, by omega⟩, HB11.out⟩
  obtain ⟨⟨x2, rfl, x20, x21⟩, hbx⟩ := hcut
  have HB12 := Lib.hid hbx
  clear hbx
  go_upto_if 58 with fail
  go_cut [12] (fun v wx => (∃ x : Int, v = .int .u64 x ∧ 0 ≤ x ∧ x ≤ 18446744073709551615) ∧ Below w.heap.size w wx)
  · go_wp2
    all_goals go_meet
    all_goals first
      | exact ⟨⟨_, rfl, (u64_bits_bd _ _ _).1, (u64_bits_bd _ _ _).2⟩, HB12.out⟩
      | exact ⟨⟨_, rfl, (u64_wrap_bd _).1, (u64_wrap_bd _).2⟩, HB12.out⟩
      | exact ⟨⟨_, rfl, by omega, by omega⟩, HB12.out⟩
  obtain ⟨⟨x3, rfl, x30, x31⟩, hbx⟩ := hcut
  have HB13 := Lib.hid hbx
  clear hbx
  go_upto_if 67 with fail
  go_cut [12] (fun v wx => (∃ x : Int, v = .int .u64 x ∧ 0 ≤ x ∧ x ≤ 18446744073709551615) ∧ Below w.heap.size w wx)
  · go_wp2
    all_goals go_meet
    all_goals first
      | exact ⟨⟨_, rfl, (u64_bits_bd _ _ _).1, (u64_bits_bd _ _ _).2⟩, HB13.out⟩
      | exact ⟨⟨_, rfl, (u64_wrap_bd _).1, (u64_wrap_bd _).2⟩, HB13.out⟩
      | exact ⟨⟨_, rfl, by omega, by omega⟩, HB13.out⟩
  obtain ⟨⟨x4, rfl, x40, x41⟩, hbx⟩ := hcut
  have HB14 := Lib.hid hbx
  clear hbx
  have hc1 := fun v (hb : Below w.heap.size w v) => idec_any x4 v x40 x41 (HTB.out.later hb)
  have hc2 := fun v => rdec_any x4 v x40 x41
  have hmd := fun v => model12_any _ v (dec_ok32 x4)
  generalize decI x4 = P at hc1 hc2 hmd
  obtain ⟨⟨op, fa, fb, fc, fm⟩, e⟩ := P
  simp only [In.ival, In.val] at hc1 hc2 hmd
  have HC1 := Lib.hid hc1
  have HC2 := Lib.hid hc2
  have HMD := Lib.hid hmd
  clear hc1 hc2 hmd
  go_wp2_with fail
  refine (HC1.out _ HB14.out).mono ?_
  rintro r v5 ⟨rfl, hb5⟩
  have HB5 := Lib.hid (HB14.out.trans (hb5.mono HB14.out.size))
  obtain ⟨X, hX⟩ : ∃ X, X = v5.alloc (.cells #[.int .i64 op, .int .i64 fa, .int .i64 fb, .int .i64 fc, .int .i32 fm] 24) := ⟨_, rfl⟩
  have HXE := Lib.hid hX
  have HXK : Hid (Blk X v5.heap.size #[.int .i64 op, .int .i64 fa, .int .i64 fb, .int .i64 fc, .int .i32 fm] 24) := Lib.hid (hX ▸ Blk.new v5 _ _)
  have HBX : Hid (Below w.heap.size w X) := Lib.hid (hX ▸ HB5.out.alloc HB5.out.size _)
  clear hb5 hX
  go_wp2_with fail
  rw [← HXE.out]
  refine (HC2.out X).mono ?_
  rintro r v6 ⟨rfl, hb6⟩
  have HB6 := Lib.hid (HBX.out.trans (hb6.mono HBX.out.size))
  have HX6 := Lib.hid (HXK.out.later hb6)
  obtain ⟨Y, hY⟩ : ∃ Y, Y = v6.alloc (.cells #[.int .i64 op, .int .i64 fa, .int .i64 fb, .int .i64 fc, .int .i64 fm] 31) := ⟨_, rfl⟩
  have HYE := Lib.hid hY
  have HYK : Hid (Blk Y v6.heap.size #[.int .i64 op, .int .i64 fa, .int .i64 fb, .int .i64 fc, .int .i64 fm] 31) := Lib.hid (hY ▸ Blk.new v6 _ _)
  have HX7 : Hid (Blk Y v5.heap.size #[.int .i64 op, .int .i64 fa, .int .i64 fb, .int .i64 fc, .int .i32 fm] 24) := Lib.hid (hY ▸ HX6.out.alloc _)
  have HBY : Hid (Below w.heap.size w Y) := Lib.hid (hY ▸ HB6.out.alloc HB6.out.size _)
  have HKX : Hid (∀ w', Stays Y.drew w' → Blk w' v5.heap.size #[.int .i64 op, .int .i64 fa, .int .i64 fb, .int .i64 fc, .int .i32 fm] 24) := Lib.hid (fun w' h => HX7.out.drew.later h)
  have HKY : Hid (∀ w', Stays Y.drew w' → Blk w' v6.heap.size #[.int .i64 op, .int .i64 fa, .int .i64 fb, .int .i64 fc, .int .i64 fm] 31) := Lib.hid (fun w' h => HYK.out.drew.later h)
  clear hb6 hY HX6 HXK HYK HX7 HC1 HC2
  go_wp2
  rw [← HYE.out]
  refine wp_region_facts (by kernel_rfl) Stays Stays.refl Stays.trans 89 rfl [80, 81, 82, 83, 84, 85, 86, 87, 88, 10] (factsOf [Is (.agg #[.int .i64 op, .int .i64 fa, .int .i64 fb, .int .i64 fc, .int .i32 fm]), Is (.agg #[.int .i64 op, .int .i64 fa, .int .i64 fb, .int .i64 fc, .int .i64 fm]), Is (.agg #[.int .i64 op, .int .i64 fa, .int .i64 fb, .int .i64 fc, .int .i64 fm]), Is (.bool true), Is (.bool true), Is (.int .i64 e), Is (.int .i64 e), Is (.bool true), Is (.bool true), Is (.bool true)]) (by kernel_rfl) (factsOf_mono (mono_cons (Is.mono _) (mono_cons (Is.mono _) (mono_cons (Is.mono _) (mono_cons (Is.mono _) (mono_cons (Is.mono _) (mono_cons (Is.mono _) (mono_cons (Is.mono _) (mono_cons (Is.mono _) (mono_cons (Is.mono _) (mono_cons (Is.mono _) mono_nil))))))))))) ?steps80 ?fin80
  case fin80 =>
    intro v w8 hb2 hF
    have hlast : v 9 = .bool true := hF 9 (by decide)
    have HBF : Hid (Below w.heap.size w w8) := Lib.hid (HBY.out.drew.trans (Below.mono hb2 HBY.out.size))
    clear hb2 hF
    simp only [putAll, List.set_cons_succ, List.set_cons_zero, Nat.reduceAdd, hlast]
    go_wp2
    go_ret
    exact ⟨rfl, HBF.out⟩
  case steps80 =>
    refine ⟨?_, ?_, ?_, ?_, ?_, ?_, ?_, ?_, ?_, ?_, trivial⟩
    all_goals intro y w2 hb hy0 hp0
    all_goals have hy := Lib.hid hy0
    all_goals have hp := Lib.hid hp0
    all_goals have hst := Lib.hid hb
    all_goals clear hy0 hp0 hb
    · have e1 : y 13 = .pointer (some ⟨v5.heap.size, 0, none⟩) := hy.out 13 (by decide)
      obtain ⟨q0, q1, q2, q3, q4⟩ := cells5 (HKX.out _ hst.out)
      refine StepG.plain rfl fun K Q hK => ?_
      have v1 := (eval_frame 89 y [] (t := 13) (by decide)).trans e1
      obtain ⟨A, hA⟩ : ∃ A, (⟨frameOf 89 y, []⟩ : Act) = A := ⟨_, rfl⟩
      rw [hA] at v1 hK ⊢
      clear hA hy hp
      simp only [Act.eval] at v1
      go_simp
      exact hK _ _ ⟨Stays.refl _, by first | rfl | simp [Is] | (simp [factsOf, Is]; done)⟩
    · have e1 : y 80 = .agg #[.int .i64 op, .int .i64 fa, .int .i64 fb, .int .i64 fc, .int .i32 fm] := hp.out 0 (by decide)
      refine StepG.plain rfl fun K Q hK => ?_
      have v1 := (eval_frame 89 y [] (t := 80) (by decide)).trans e1
      obtain ⟨A, hA⟩ : ∃ A, (⟨frameOf 89 y, []⟩ : Act) = A := ⟨_, rfl⟩
      rw [hA] at v1 hK ⊢
      clear hA hy hp
      simp only [Act.eval] at v1
      go_simp
      go_at_call 13
      refine (HMD.out _).mono ?_
      rintro r w3 ⟨rfl, hb3⟩
      exact hK _ w3 ⟨hb3, rfl⟩
    · have e1 : y 15 = .pointer (some ⟨v6.heap.size, 0, none⟩) := hy.out 15 (by decide)
      obtain ⟨q0, q1, q2, q3, q4⟩ := cells5 (HKY.out _ hst.out)
      refine StepG.plain rfl fun K Q hK => ?_
      have v1 := (eval_frame 89 y [] (t := 15) (by decide)).trans e1
      obtain ⟨A, hA⟩ : ∃ A, (⟨frameOf 89 y, []⟩ : Act) = A := ⟨_, rfl⟩
      rw [hA] at v1 hK ⊢
      clear hA hy hp
      simp only [Act.eval] at v1
      go_simp
      exact hK _ _ ⟨Stays.refl _, by first | rfl | simp [Is] | (simp [factsOf, Is]; done)⟩
    · have e1 : y 81 = .agg #[.int .i64 op, .int .i64 fa, .int .i64 fb, .int .i64 fc, .int .i64 fm] := hp.out 1 (by decide)
      have e2 : y 82 = .agg #[.int .i64 op, .int .i64 fa, .int .i64 fb, .int .i64 fc, .int .i64 fm] := hp.out 2 (by decide)
      refine StepG.plain rfl fun K Q hK => ?_
      have v1 := (eval_frame 89 y [] (t := 81) (by decide)).trans e1
      have v2 := (eval_frame 89 y [] (t := 82) (by decide)).trans e2
      obtain ⟨A, hA⟩ : ∃ A, (⟨frameOf 89 y, []⟩ : Act) = A := ⟨_, rfl⟩
      rw [hA] at v1 v2 hK ⊢
      clear hA hy hp
      simp only [Act.eval] at v1 v2
      go_simp
      exact hK _ _ ⟨Stays.refl _, by first | rfl | simp [Is] | (simp [factsOf, Is]; done)⟩
    · have e1 : y 83 = .bool true := hp.out 3 (by decide)
      refine StepG.plain rfl fun K Q hK => ?_
      have v1 := (eval_frame 89 y [] (t := 83) (by decide)).trans e1
      obtain ⟨A, hA⟩ : ∃ A, (⟨frameOf 89 y, []⟩ : Act) = A := ⟨_, rfl⟩
      rw [hA] at v1 hK ⊢
      clear hA hy hp
      simp only [Act.eval] at v1
      go_simp
      exact hK _ _ ⟨Stays.refl _, by first | rfl | simp [Is] | (simp [factsOf, Is]; done)⟩
    · have e1 : y 14 = .int .i64 e := hy.out 14 (by decide)
      refine StepG.yes (b := true) (t := 84) rfl rfl rfl (by decide) (hp.out 4 (by decide)) fun K Q hK => ?_
      have v1 := (eval_frame 89 y [] (t := 14) (by decide)).trans e1
      obtain ⟨A, hA⟩ : ∃ A, (⟨frameOf 89 y, []⟩ : Act) = A := ⟨_, rfl⟩
      rw [hA] at v1 hK ⊢
      clear hA hy hp
      simp only [Act.eval] at v1
      go_simp
      exact hK _ _ ⟨Stays.refl _, by first | rfl | simp [Is] | (simp [factsOf, Is]; done)⟩
    · have e1 : y 16 = .int .i64 e := hy.out 16 (by decide)
      refine StepG.yes (b := true) (t := 84) rfl rfl rfl (by decide) (hp.out 4 (by decide)) fun K Q hK => ?_
      have v1 := (eval_frame 89 y [] (t := 16) (by decide)).trans e1
      obtain ⟨A, hA⟩ : ∃ A, (⟨frameOf 89 y, []⟩ : Act) = A := ⟨_, rfl⟩
      rw [hA] at v1 hK ⊢
      clear hA hy hp
      simp only [Act.eval] at v1
      go_simp
      exact hK _ _ ⟨Stays.refl _, by first | rfl | simp [Is] | (simp [factsOf, Is]; done)⟩
    · have e1 : y 85 = .int .i64 e := hp.out 5 (by decide)
      have e2 : y 86 = .int .i64 e := hp.out 6 (by decide)
      refine StepG.yes (b := true) (t := 84) rfl rfl rfl (by decide) (hp.out 4 (by decide)) fun K Q hK => ?_
      have v1 := (eval_frame 89 y [] (t := 85) (by decide)).trans e1
      have v2 := (eval_frame 89 y [] (t := 86) (by decide)).trans e2
      obtain ⟨A, hA⟩ : ∃ A, (⟨frameOf 89 y, []⟩ : Act) = A := ⟨_, rfl⟩
      rw [hA] at v1 v2 hK ⊢
      clear hA hy hp
      simp only [Act.eval] at v1 v2
      go_simp
      exact hK _ _ ⟨Stays.refl _, by first | rfl | simp [Is] | (simp [factsOf, Is]; done)⟩
    · have e1 : y 84 = .bool true := hp.out 4 (by decide)
      have e2 : y 87 = .bool true := hp.out 7 (by decide)
      refine StepG.plain rfl fun K Q hK => ?_
      have v1 := (eval_frame 89 y [] (t := 84) (by decide)).trans e1
      have v2 := (eval_frame 89 y [] (t := 87) (by decide)).trans e2
      obtain ⟨A, hA⟩ : ∃ A, (⟨frameOf 89 y, []⟩ : Act) = A := ⟨_, rfl⟩
      rw [hA] at v1 v2 hK ⊢
      clear hA hy hp
      simp only [Act.eval] at v1 v2
      go_simp
      exact hK _ _ ⟨Stays.refl _, by first | rfl | simp [Is] | (simp [factsOf, Is]; done)⟩
    · have e1 : y 88 = .bool true := hp.out 8 (by decide)
      refine StepG.plain rfl fun K Q hK => ?_
      have v1 := (eval_frame 89 y [] (t := 88) (by decide)).trans e1
      obtain ⟨A, hA⟩ : ∃ A, (⟨frameOf 89 y, []⟩ : Act) = A := ⟨_, rfl⟩
      rw [hA] at v1 hK ⊢
      clear hA hy hp
      simp only [Act.eval] at v1
      go_simp
      exact hK _ _ ⟨Stays.refl _, by first | rfl | simp [Is] | (simp [factsOf, Is]; done)⟩

set_option maxRecDepth 100000 in
theorem lifted (os : Os) (started : os.Started) (H : Type) (enc : TypeId × Value → H) :
    ReturnsInHanded {} Tryd.checked os 5 .any (fun w args => (Rows.isaWordsSpec.pre enc Tryd.prog Tryd.f5 [] false w args ∧ laidMetH Tryd.prog laid12 w) ∧ sizedMet enc Tryd.prog Tryd.f5 (OpenSpec.ofChange Rows.isaWordsSpec) false w args) (Rows.isaWordsSpec.post enc Tryd.prog Tryd.f5 false true false false) := by
  refine wrapLaid (C := Tryd.checked) (laid := laid12) own started (by kernel_rfl) Tryd.func5
    (ChangeSpec.witness_shaped (enc := enc) (C := Tryd.checked) (os := os) (X := fun w _ => laidMetH Tryd.prog laid12 w) false (World.laidAll Tryd.prog os laid12) #[.int .u8 0, .int .u16 0, .int .u16 0, .int .u32 0, .int .u8 0] 8 (World.laidAll_os _ _ _) (World.shaped_of_ZipB (by kernel_rfl) (by kernel_rfl)) (by kernel_rfl) (by kernel_rfl) (by kernel_rfl)
      (by rw [MakeChecks.laidMetH_plain _ _ _ (by kernel_rfl)]; exact laidMet_laidAll _ (by kernel_rfl) (by kernel_rfl))) ?_
  intro W base args ds gs before hval0 hW hL hsh
  have hval : ∀ (j : Nat) t v, Tryd.f5.params[j]? = some t → args[j]? = some v → Value.okWide Tryd.prog W .any base t v := hval0
  have hW' := hW
  obtain ⟨p, q, hA0, hV, rfl, hfz, hnd⟩ := hW
  have hA : DataW.TrodAll enc Tryd.prog W 0 (fun _ => true) true Tryd.f5.params.toList args.toList ds p := hA0
  rw [Tryd.params5] at hA hval
  obtain ⟨v0, vs0, d0, ds0, p0, q0, hargs, rfl, rfl, h0, r0⟩ := trodAll_cons hA
  obtain ⟨v1, vs1, d1, ds1, p1, q1, rfl, rfl, rfl, h1, r1⟩ := trodAll_cons r0
  obtain ⟨v2, vs2, d2, ds2, p2, q2, rfl, rfl, rfl, h2, r2⟩ := trodAll_cons r1
  obtain ⟨v3, vs3, d3, ds3, p3, q3, rfl, rfl, rfl, h3, r3⟩ := trodAll_cons r2
  obtain ⟨v4, vs4, d4, ds4, p4, q4, rfl, rfl, rfl, h4, r4⟩ := trodAll_cons r3
  obtain ⟨rfl, rfl, rfl⟩ := trodAll_nil r4
  obtain rfl : args = #[v0, v1, v2, v3, v4] := by cases args; simp_all
  obtain ⟨rfl, rfl⟩ := trodVars_none hV
  obtain ⟨a0, rfl, rfl, rfl, w0⟩ := open_int Tryd.underlying5 (hval 0 5 v0 rfl rfl) h0
  obtain ⟨a1, rfl, rfl, rfl, w1⟩ := open_int Tryd.underlying42 (hval 1 42 v1 rfl rfl) h1
  obtain ⟨a2, rfl, rfl, rfl, w2⟩ := open_int Tryd.underlying42 (hval 2 42 v2 rfl rfl) h2
  obtain ⟨a3, rfl, rfl, rfl, w3⟩ := open_int Tryd.underlying43 (hval 3 43 v3 rfl rfl) h3
  obtain ⟨a4, rfl, rfl, rfl, w4⟩ := open_int Tryd.underlying5 (hval 4 5 v4 rfl rfl) h4
  clear hA0 hval0
  refine (walk a0 a1 a2 a3 a4 W (tb_of_laid hL hsh) w0 w1 w2 w3 w4).mono fun e W' ⟨he, bel⟩ => ?_
  subst he
  exact ⟨_, rfl, _, _, _, [], _, [], hW', trodAll_mk1 (shut_bool Tryd.underlying4 _), (trodAll_cons_mk (shut_int Tryd.underlying5 w0) (trodAll_cons_mk (shut_int Tryd.underlying42 w1) (trodAll_cons_mk (shut_int Tryd.underlying42 w2) (trodAll_cons_mk (shut_int Tryd.underlying43 w3) (trodAll_cons_mk (shut_int Tryd.underlying5 w4) trodAll_mk0))))), rfl, bel.frame _, fun h => by cases h⟩

theorem over : Rows.isaWordsRow.holds Tryd.pinned (OpenSpec.ofChange Rows.isaWordsSpec) :=
  OpenClaim.holds_of_wide 5 Tryd.f5 rfl rfl rfl rfl rfl rfl rfl ⟨rfl, rfl, rfl, rfl, rfl⟩ rfl rfl rfl rfl rfl (by kernel_rfl) Tryd.func5 (by kernel_rfl)
    (of_decide_eq_true (by kernel_rfl)) (by unfold Func.isWrapper; first | (rw [if_pos (by decide +kernel)]; kernel_rfl) | (rw [if_neg (by decide +kernel)]; exact ⟨rfl, rfl⟩))
    (fun os started H enc _ => lifted os started H enc)

theorem proved : Rows.IsaWordsCardSaid :=
  Claim7.holds_tied_plain_at .later [] [.data, .data, .data, .data, .sentinel, .sentinel, .data, .data, .pinned] true (true, "d89ea6c87e700680fd9f7b0e2cadb954407153fce9f48a275aa9c1ac018cb73b") true over (fun _ h => by cases h) (by kernel_rfl) (fun _ h => by cases h) isaWords_row_tie rfl ⟨rfl, rfl⟩ (by kernel_rfl) rfl
    (fun f fn hf hfn => by
      obtain rfl : f = 5 := (Option.some.inj ((show Tryd.prog.funcNamed "dormouse/dormouselaw12.IsaWords" = some 5 by kernel_rfl).symm.trans hf)).symm
      obtain rfl : fn = Tryd.f5 := (Option.some.inj (Tryd.func5.symm.trans hfn)).symm
      exact ⟨by kernel_rfl, fun j t ht => by
        rw [Tryd.params5] at ht
        have hm : t ∈ [5, 42, 42, 43, 5] := by simpa using Array.mem_of_getElem? ht
        have hall : ([5, 42, 42, 43, 5].all fun u => !Tryd.prog.wantsStandIn u) = true := by kernel_rfl
        exact (show Tryd.prog.wantsStandIn t = false by simpa using List.all_eq_true.1 hall t hm)⟩)
    (by kernel_rfl)
#print axioms proved
end Go.Proofs.YtjpbbonkmnbabaaDoor.isaWords
