/-
  What is proved here: IsaParses: any text is the instruction that the reference says, or refused.
  Conditions: none of our own; the law's row says what its input is.
-/
import Derived.Test.YtjpbbonkmnbabaaDoorRows
import Derived.Test.YtjpbbonkmnbabaaDoorIsaCut
import Derived.Test.YtjpbbonkmnbabaaDoorApp
import Derived.Test.YtjpbbonkmnbabaaDoorMask
import Derived.WalkKit
import Derived.ProofKit
import Derived.OpenShut
import Derived.ShutString
import Derived.ChangeOld
import Derived.Below
import Derived.Test.YtjpbbonkmnbabaaDoorTie
import Derived.Test.YtjpbbonkmnbabaaDoorCards
import Derived.SevenTiedAt
import Derived.Lay
import Derived.LaidMore
import Derived.Stop.Joined
import Derived.Test.YtjpbbonkmnbabaaDoorCard
namespace Go.Proofs.YtjpbbonkmnbabaaDoor.isaParses
open Go.ChangeShapes Go.WideShapes Go.ChangeAt Go.RowKit
open Go.ChangeMaps (open_string shut_string)
set_option linter.unusedVariables false

theorem own : ownKnob Tryd.prog.godebug = none := by kernel_rfl
theorem laidOut : laidOutB Tryd.prog = true := by kernel_rfl

theorem bd12_i64 {n : Int} (h : (Lit.int .i64 n).wf = true) : -9223372036854775808 ≤ n ∧ n ≤ 9223372036854775807 := by
  simpa [Lit.wf, IntKind.min, IntKind.max, IntKind.signed, IntKind.bits] using h
theorem bd12_i32 {n : Int} (h : (Lit.int .i32 n).wf = true) : -2147483648 ≤ n ∧ n ≤ 2147483647 := by
  simpa [Lit.wf, IntKind.min, IntKind.max, IntKind.signed, IntKind.bits] using h
theorem fr33 (y : Nat → Value) : frameOf 33 y = #[y 0, y 1, y 2, y 3, y 4, y 5, y 6, y 7, y 8, y 9, y 10, y 11, y 12, y 13, y 14, y 15, y 16, y 17, y 18, y 19, y 20, y 21, y 22, y 23, y 24, y 25, y 26, y 27, y 28, y 29, y 30, y 31, y 32] := rfl
set_option maxRecDepth 100000 in
set_option maxHeartbeats 1600000 in
theorem walk (a0 : ByteArray) (w : World) (hTB : Tb w) (w0 : a0.size ≤ maxLen) :
    Calls Tryd.prog 6 #[.string a0] w fun e w' => e = .returned (.bool true) ∧ Below w.heap.size w w' := by
  have HTB := Lib.hid hTB
  clear hTB
  go_enter Tryd.func6, Tryd.ntmps6
  go_wp2_with fail
  refine (awake12_any _ HTB.out).mono ?_
  rintro r v1 ⟨rfl, hb1⟩
  have HB1 := Lib.hid hb1
  clear hb1
  by_cases hbig : 1000 < a0.size
  · have hbi : (1000 : Int) < a0.size := by omega
    go_wp2
    go_ret
    exact ⟨rfl, HB1.out⟩
  have hbi : (a0.size : Int) ≤ 1000 := by omega
  have hc1 := fun v (hb : Below w.heap.size w v) => iparse_any a0 v (by omega) (HTB.out.later hb)
  have hc2 := fun v => rparse_any12 a0 v (by omega)
  have hmd := fun v => model12_any _ v (parse_ok32 a0)
  generalize parseI a0 = P at hc1 hc2 hmd
  obtain ⟨⟨op, fa, fb, fc, fm⟩, e⟩ := P
  simp only [In.ival, In.val] at hc1 hc2 hmd
  have HC1 := Lib.hid hc1
  have HC2 := Lib.hid hc2
  have HMD := Lib.hid hmd
  clear hc1 hc2 hmd
  go_wp2_with fail
  refine (HC1.out _ HB1.out).mono ?_
  rintro r v5 ⟨rfl, hb5⟩
  have HB5 := Lib.hid (HB1.out.trans (hb5.mono HB1.out.size))
  obtain ⟨X, hX⟩ : ∃ X, X = v5.alloc (.cells #[.int .i64 op, .int .i64 fa, .int .i64 fb, .int .i64 fc, .int .i32 fm] 24) := ⟨_, rfl⟩
  have HXE := Lib.hid hX
  have HXK : Hid (Blk X v5.heap.size #[.int .i64 op, .int .i64 fa, .int .i64 fb, .int .i64 fc, .int .i32 fm] 24) := Lib.hid (hX ▸ Blk.new v5 _ _)
  have HBX : Hid (Below w.heap.size w X) := Lib.hid (hX ▸ HB5.out.alloc HB5.out.size _)
  clear hb5 hX
  go_wp2_with fail
  rw [← HXE.out]
  refine (HC2.out X).mono ?_
  rintro r v6 ⟨rfl, hb6⟩
  have HB6 := Lib.hid (HBX.out.trans (hb6.mono HBX.out.size))
  have HX6 := Lib.hid (HXK.out.later hb6)
  obtain ⟨Y, hY⟩ : ∃ Y, Y = v6.alloc (.cells #[.int .i64 op, .int .i64 fa, .int .i64 fb, .int .i64 fc, .int .i64 fm] 31) := ⟨_, rfl⟩
  have HYE := Lib.hid hY
  have HYK : Hid (Blk Y v6.heap.size #[.int .i64 op, .int .i64 fa, .int .i64 fb, .int .i64 fc, .int .i64 fm] 31) := Lib.hid (hY ▸ Blk.new v6 _ _)
  have HX7 : Hid (Blk Y v5.heap.size #[.int .i64 op, .int .i64 fa, .int .i64 fb, .int .i64 fc, .int .i32 fm] 24) := Lib.hid (hY ▸ HX6.out.alloc _)
  have HBY : Hid (Below w.heap.size w Y) := Lib.hid (hY ▸ HB6.out.alloc HB6.out.size _)
  have HKX : Hid (∀ w', Stays Y.drew w' → Blk w' v5.heap.size #[.int .i64 op, .int .i64 fa, .int .i64 fb, .int .i64 fc, .int .i32 fm] 24) := Lib.hid (fun w' h => HX7.out.drew.later h)
  have HKY : Hid (∀ w', Stays Y.drew w' → Blk w' v6.heap.size #[.int .i64 op, .int .i64 fa, .int .i64 fb, .int .i64 fc, .int .i64 fm] 31) := Lib.hid (fun w' h => HYK.out.drew.later h)
  clear hb6 hY HX6 HXK HYK HX7 HC1 HC2
  go_wp2
  rw [← HYE.out]
  refine wp_region_facts (by kernel_rfl) Stays Stays.refl Stays.trans 33 rfl [24, 25, 26, 27, 28, 29, 30, 31, 32, 2] (factsOf [Is (.agg #[.int .i64 op, .int .i64 fa, .int .i64 fb, .int .i64 fc, .int .i32 fm]), Is (.agg #[.int .i64 op, .int .i64 fa, .int .i64 fb, .int .i64 fc, .int .i64 fm]), Is (.agg #[.int .i64 op, .int .i64 fa, .int .i64 fb, .int .i64 fc, .int .i64 fm]), Is (.bool true), Is (.bool true), Is (.int .i64 e), Is (.int .i64 e), Is (.bool true), Is (.bool true), Is (.bool true)]) (by kernel_rfl) (factsOf_mono (mono_cons (Is.mono _) (mono_cons (Is.mono _) (mono_cons (Is.mono _) (mono_cons (Is.mono _) (mono_cons (Is.mono _) (mono_cons (Is.mono _) (mono_cons (Is.mono _) (mono_cons (Is.mono _) (mono_cons (Is.mono _) (mono_cons (Is.mono _) mono_nil))))))))))) ?steps24 ?fin24
  case fin24 =>
    intro v w8 hb2 hF
    have hlast : v 9 = .bool true := hF 9 (by decide)
    have HBF : Hid (Below w.heap.size w w8) := Lib.hid (HBY.out.drew.trans (Below.mono hb2 HBY.out.size))
    clear hb2 hF
    simp only [putAll, List.set_cons_succ, List.set_cons_zero, Nat.reduceAdd, hlast]
    go_wp2
    go_ret
    exact ⟨rfl, HBF.out⟩
  case steps24 =>
    refine ⟨?_, ?_, ?_, ?_, ?_, ?_, ?_, ?_, ?_, ?_, trivial⟩
    all_goals intro y w2 hb hy0 hp0
    all_goals have hy := Lib.hid hy0
    all_goals have hp := Lib.hid hp0
    all_goals have hst := Lib.hid hb
    all_goals clear hy0 hp0 hb
    · have e1 : y 4 = .pointer (some ⟨v5.heap.size, 0, none⟩) := hy.out 4 (by decide)
      obtain ⟨q0, q1, q2, q3, q4⟩ := cells5 (HKX.out _ hst.out)
      refine StepG.plain rfl fun K Q hK => ?_
      simp only [fr33] at hK ⊢
      rw [e1] at hK ⊢
      go_simp
      exact hK _ _ ⟨Stays.refl _, by first | rfl | simp [Is] | (simp [factsOf, Is]; done)⟩
    · have e1 : y 24 = .agg #[.int .i64 op, .int .i64 fa, .int .i64 fb, .int .i64 fc, .int .i32 fm] := hp.out 0 (by decide)
      refine StepG.plain rfl fun K Q hK => ?_
      simp only [fr33] at hK ⊢
      rw [e1] at hK ⊢
      go_simp
      go_at_call 13
      refine (HMD.out _).mono ?_
      rintro r w3 ⟨rfl, hb3⟩
      exact hK _ w3 ⟨hb3, rfl⟩
    · have e1 : y 6 = .pointer (some ⟨v6.heap.size, 0, none⟩) := hy.out 6 (by decide)
      obtain ⟨q0, q1, q2, q3, q4⟩ := cells5 (HKY.out _ hst.out)
      refine StepG.plain rfl fun K Q hK => ?_
      simp only [fr33] at hK ⊢
      rw [e1] at hK ⊢
      go_simp
      exact hK _ _ ⟨Stays.refl _, by first | rfl | simp [Is] | (simp [factsOf, Is]; done)⟩
    · have e1 : y 25 = .agg #[.int .i64 op, .int .i64 fa, .int .i64 fb, .int .i64 fc, .int .i64 fm] := hp.out 1 (by decide)
      have e2 : y 26 = .agg #[.int .i64 op, .int .i64 fa, .int .i64 fb, .int .i64 fc, .int .i64 fm] := hp.out 2 (by decide)
      refine StepG.plain rfl fun K Q hK => ?_
      simp only [fr33] at hK ⊢
      rw [e1, e2] at hK ⊢
      go_simp
      exact hK _ _ ⟨Stays.refl _, by first | rfl | simp [Is] | (simp [factsOf, Is]; done)⟩
    · have e1 : y 27 = .bool true := hp.out 3 (by decide)
      refine StepG.plain rfl fun K Q hK => ?_
      simp only [fr33] at hK ⊢
      rw [e1] at hK ⊢
      go_simp
      exact hK _ _ ⟨Stays.refl _, by first | rfl | simp [Is] | (simp [factsOf, Is]; done)⟩
    · have e1 : y 5 = .int .i64 e := hy.out 5 (by decide)
      refine StepG.yes (b := true) (t := 28) rfl rfl rfl (by decide) (hp.out 4 (by decide)) fun K Q hK => ?_
      simp only [fr33] at hK ⊢
      rw [e1] at hK ⊢
      go_simp
      exact hK _ _ ⟨Stays.refl _, by first | rfl | simp [Is] | (simp [factsOf, Is]; done)⟩
    · have e1 : y 7 = .int .i64 e := hy.out 7 (by decide)
      refine StepG.yes (b := true) (t := 28) rfl rfl rfl (by decide) (hp.out 4 (by decide)) fun K Q hK => ?_
      simp only [fr33] at hK ⊢
      rw [e1] at hK ⊢
      go_simp
      exact hK _ _ ⟨Stays.refl _, by first | rfl | simp [Is] | (simp [factsOf, Is]; done)⟩
    · have e1 : y 29 = .int .i64 e := hp.out 5 (by decide)
      have e2 : y 30 = .int .i64 e := hp.out 6 (by decide)
      refine StepG.yes (b := true) (t := 28) rfl rfl rfl (by decide) (hp.out 4 (by decide)) fun K Q hK => ?_
      simp only [fr33] at hK ⊢
      rw [e1, e2] at hK ⊢
      go_simp
      exact hK _ _ ⟨Stays.refl _, by first | rfl | simp [Is] | (simp [factsOf, Is]; done)⟩
    · have e1 : y 28 = .bool true := hp.out 4 (by decide)
      have e2 : y 31 = .bool true := hp.out 7 (by decide)
      refine StepG.plain rfl fun K Q hK => ?_
      simp only [fr33] at hK ⊢
      rw [e1, e2] at hK ⊢
      go_simp
      exact hK _ _ ⟨Stays.refl _, by first | rfl | simp [Is] | (simp [factsOf, Is]; done)⟩
    · have e1 : y 32 = .bool true := hp.out 8 (by decide)
      refine StepG.plain rfl fun K Q hK => ?_
      simp only [fr33] at hK ⊢
      rw [e1] at hK ⊢
      go_simp
      exact hK _ _ ⟨Stays.refl _, by first | rfl | simp [Is] | (simp [factsOf, Is]; done)⟩

set_option maxRecDepth 100000 in
theorem lifted (os : Os) (started : os.Started) (H : Type) (enc : TypeId × Value → H) :
    ReturnsInHanded {} Tryd.checked os 6 .any (fun w args => (Rows.isaParsesSpec.pre enc Tryd.prog Tryd.f6 [] false w args ∧ laidMetH Tryd.prog laid12 w) ∧ sizedMet enc Tryd.prog Tryd.f6 (OpenSpec.ofChange Rows.isaParsesSpec) false w args) (Rows.isaParsesSpec.post enc Tryd.prog Tryd.f6 false true false false) := by
  refine wrapLaid (C := Tryd.checked) (laid := laid12) own started (by kernel_rfl) Tryd.func6
    (ChangeSpec.witness_shaped (enc := enc) (C := Tryd.checked) (os := os) (X := fun w _ => laidMetH Tryd.prog laid12 w) false (World.laidAll Tryd.prog os laid12) #[.string ByteArray.empty] 8 (World.laidAll_os _ _ _) (World.shaped_of_ZipB (by kernel_rfl) (by kernel_rfl)) (by kernel_rfl) (by kernel_rfl) (by kernel_rfl)
      (by rw [MakeChecks.laidMetH_plain _ _ _ (by kernel_rfl)]; exact laidMet_laidAll _ (by kernel_rfl) (by kernel_rfl))) ?_
  intro W base args ds gs before hval0 hW hL hsh
  have hval : ∀ (j : Nat) t v, Tryd.f6.params[j]? = some t → args[j]? = some v → Value.okWide Tryd.prog W .any base t v := hval0
  have hW' := hW
  obtain ⟨p, q, hA0, hV, rfl, hfz, hnd⟩ := hW
  have hA : DataW.TrodAll enc Tryd.prog W 0 (fun _ => true) true Tryd.f6.params.toList args.toList ds p := hA0
  rw [Tryd.params6] at hA hval
  obtain ⟨v0, vs0, d0, ds0, p0, q0, hargs, rfl, rfl, h0, r0⟩ := trodAll_cons hA
  obtain ⟨rfl, rfl, rfl⟩ := trodAll_nil r0
  obtain rfl : args = #[v0] := by cases args; simp_all
  obtain ⟨rfl, rfl⟩ := trodVars_none hV
  obtain ⟨a0, rfl, rfl, rfl, w0⟩ := open_string Tryd.underlying9 (hval 0 9 v0 rfl rfl) h0
  clear hA0 hval0
  refine (walk a0 W (tb_of_laid hL hsh) w0).mono fun e W' ⟨he, bel⟩ => ?_
  subst he
  exact ⟨_, rfl, _, _, _, [], _, [], hW', trodAll_mk1 (shut_bool Tryd.underlying4 _), (trodAll_cons_mk (shut_string Tryd.underlying9 w0) trodAll_mk0), rfl, bel.frame _, fun h => by cases h⟩

theorem over : Rows.isaParsesRow.holds Tryd.pinned (OpenSpec.ofChange Rows.isaParsesSpec) :=
  OpenClaim.holds_of_wide 6 Tryd.f6 rfl rfl rfl rfl rfl rfl rfl ⟨rfl, rfl, rfl, rfl, rfl⟩ rfl rfl rfl rfl rfl (by kernel_rfl) Tryd.func6 (by kernel_rfl)
    (of_decide_eq_true (by kernel_rfl)) (by unfold Func.isWrapper; first | (rw [if_pos (by decide +kernel)]; kernel_rfl) | (rw [if_neg (by decide +kernel)]; exact ⟨rfl, rfl⟩))
    (fun os started H enc _ => lifted os started H enc)

theorem proved : Rows.IsaParsesCardSaid :=
  Claim7.holds_tied_plain_at .later [] [.data, .data, .data, .data, .sentinel, .sentinel, .data, .data, .pinned] true (true, "d89ea6c87e700680fd9f7b0e2cadb954407153fce9f48a275aa9c1ac018cb73b") true over (fun _ h => by cases h) (by kernel_rfl) (fun _ h => by cases h) isaParses_row_tie rfl ⟨rfl, rfl⟩ (by kernel_rfl) rfl
    (fun f fn hf hfn => by
      obtain rfl : f = 6 := (Option.some.inj ((show Tryd.prog.funcNamed "dormouse/dormouselaw12.IsaParses" = some 6 by kernel_rfl).symm.trans hf)).symm
      obtain rfl : fn = Tryd.f6 := (Option.some.inj (Tryd.func6.symm.trans hfn)).symm
      exact ⟨by kernel_rfl, fun j t ht => by
        rw [Tryd.params6] at ht
        have hm : t ∈ [9] := by simpa using Array.mem_of_getElem? ht
        have hall : ([9].all fun u => !Tryd.prog.wantsStandIn u) = true := by kernel_rfl
        exact (show Tryd.prog.wantsStandIn t = false by simpa using List.all_eq_true.1 hall t hm)⟩)
    (by kernel_rfl)
#print axioms proved
end Go.Proofs.YtjpbbonkmnbabaaDoor.isaParses
