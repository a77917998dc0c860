/-
  What is proved here: IsaEncodes: any instruction's word and text are the reference's, or it is refused.
  Conditions: none of our own; the law's row says what its input is.
-/
import Derived.Test.YtjpbbonkmnbabaaDoorRows
import Derived.Test.YtjpbbonkmnbabaaDoorIsaCut
import Derived.Test.YtjpbbonkmnbabaaDoorApp
import Derived.Test.YtjpbbonkmnbabaaDoorMask
import Derived.WalkKit
import Derived.ProofKit
import Derived.OpenShut
import Derived.ShutString
import Derived.ChangeOld
import Derived.Below
import Derived.Test.YtjpbbonkmnbabaaDoorTie
import Derived.Test.YtjpbbonkmnbabaaDoorCards
import Derived.SevenTiedAt
import Derived.Lay
import Derived.LaidMore
import Derived.Stop.Joined
import Derived.Test.YtjpbbonkmnbabaaDoorCard
namespace Go.Proofs.YtjpbbonkmnbabaaDoor.isaEncodes
open Go.ChangeShapes Go.WideShapes Go.ChangeAt Go.RowKit
open Go.ChangeMaps (open_string shut_string)
set_option linter.unusedVariables false

theorem own : ownKnob Tryd.prog.godebug = none := by kernel_rfl
theorem laidOut : laidOutB Tryd.prog = true := by kernel_rfl

theorem bd12_i64 {n : Int} (h : (Lit.int .i64 n).wf = true) : -9223372036854775808 ≤ n ∧ n ≤ 9223372036854775807 := by
  simpa [Lit.wf, IntKind.min, IntKind.max, IntKind.signed, IntKind.bits] using h
theorem bd12_i32 {n : Int} (h : (Lit.int .i32 n).wf = true) : -2147483648 ≤ n ∧ n ≤ 2147483647 := by
  simpa [Lit.wf, IntKind.min, IntKind.max, IntKind.signed, IntKind.bits] using h
set_option maxRecDepth 100000 in
set_option maxHeartbeats 1600000 in
theorem walk (a0 : Int) (a1 : Int) (a2 : Int) (a3 : Int) (a4 : Int) (w : World) (hTB : Tb w) (w0 : (Lit.int .i64 a0).wf = true) (w1 : (Lit.int .i64 a1).wf = true) (w2 : (Lit.int .i64 a2).wf = true) (w3 : (Lit.int .i64 a3).wf = true) (w4 : (Lit.int .i32 a4).wf = true) :
    Calls Tryd.prog 3 #[.int .i64 a0, .int .i64 a1, .int .i64 a2, .int .i64 a3, .int .i32 a4] w fun e w' => e = .returned (.bool true) ∧ Below w.heap.size w w' := by
  have HTB := Lib.hid hTB
  clear hTB
  have hok : In.Ok32 ⟨a0, a1, a2, a3, a4⟩ := ⟨bd12_i64 w0, bd12_i64 w1, bd12_i64 w2, bd12_i64 w3, bd12_i32 w4⟩
  have hok2 : In.Ok ⟨a0, a1, a2, a3, a4⟩ := ⟨hok.op, hok.a, hok.b, hok.c, by have := hok.imm; simp only at this ⊢; omega⟩
  have h1 := fun v (hb : Below w.heap.size w v) => ienc_any _ v hok (HTB.out.later hb)
  have h2 := fun v => model12_any _ v hok
  have h3 := fun v => renc_any _ v hok2
  have h4 := fun v (hb : Below w.heap.size w v) => itext_any _ v hok (HTB.out.later hb)
  have h5 := fun v => rtext_any _ v hok2
  generalize encI ⟨a0, a1, a2, a3, a4⟩ = E at h1 h3
  generalize textI ⟨a0, a1, a2, a3, a4⟩ = T at h4 h5
  obtain ⟨x, e⟩ := E
  obtain ⟨s, f⟩ := T
  simp only [In.ival, In.val] at h1 h2 h3 h4 h5
  have H1 := Lib.hid h1
  have H2 := Lib.hid h2
  have H3 := Lib.hid h3
  have H4 := Lib.hid h4
  have H5 := Lib.hid h5
  clear h1 h2 h3 h4 h5 hok hok2 w0 w1 w2 w3 w4
  go_enter Tryd.func3, Tryd.ntmps3
  go_wp2_with fail
  refine (awake12_any _ HTB.out).mono ?_
  rintro r v1 ⟨rfl, hb1⟩
  have HB1 := Lib.hid hb1
  clear hb1
  obtain ⟨X, hX⟩ : ∃ X, X = v1.alloc (.cells #[.int .i64 a0, .int .i64 a1, .int .i64 a2, .int .i64 a3, .int .i32 a4] 24) := ⟨_, rfl⟩
  have HXE := Lib.hid hX
  have HXK : Hid (Blk X v1.heap.size #[.int .i64 a0, .int .i64 a1, .int .i64 a2, .int .i64 a3, .int .i32 a4] 24) := Lib.hid (hX ▸ Blk.new v1 _ _)
  have HB9 : Hid (Below w.heap.size w X) := Lib.hid (hX ▸ HB1.out.alloc HB1.out.size _)
  clear hX
  go_wp2_with fail
  rw [← HXE.out]
  refine (H1.out X HB9.out).mono ?_
  rintro r v2 ⟨rfl, hb2⟩
  have HB2 := Lib.hid (HB9.out.trans (hb2.mono HB9.out.size))
  obtain ⟨q0, q1, q2, q3, q4⟩ := cells5 (HXK.out.later hb2)
  have HK2 := Lib.hid (HXK.out.later hb2)
  clear hb2
  go_wp2_with fail
  refine (H2.out _).mono ?_
  rintro r v3 ⟨rfl, hb3⟩
  have HB3 := Lib.hid (HB2.out.trans (hb3.mono HB2.out.size))
  have HK3 := Lib.hid (HK2.out.later hb3)
  clear hb3 q0 q1 q2 q3 q4
  go_wp2_with fail
  refine (H3.out _).mono ?_
  rintro r v4 ⟨rfl, hb4⟩
  have HB4 := Lib.hid (HB3.out.trans (hb4.mono HB3.out.size))
  have HK4 := Lib.hid (HK3.out.later hb4)
  obtain ⟨q0, q1, q2, q3, q4⟩ := cells5 HK4.out
  clear hb4
  go_wp2_with fail
  refine (H4.out _ HB4.out).mono ?_
  rintro r v5 ⟨rfl, hb5⟩
  have HB5 := Lib.hid (HB4.out.trans (hb5.mono HB4.out.size))
  have HK5 := Lib.hid (HK4.out.later hb5)
  clear q0 q1 q2 q3 q4
  obtain ⟨q0, q1, q2, q3, q4⟩ := cells5 HK5.out
  clear hb5
  go_wp2_with fail
  refine (H2.out _).mono ?_
  rintro r v6 ⟨rfl, hb6⟩
  have HB6 := Lib.hid (HB5.out.trans (hb6.mono HB5.out.size))
  clear hb6
  go_wp2_with fail
  refine (H5.out _).mono ?_
  rintro r v7 ⟨rfl, hb7⟩
  have HB7 := Lib.hid (HB6.out.trans (hb7.mono HB6.out.size))
  clear hb7
  go_wp2
  go_ret
  exact ⟨by simp, HB7.out⟩

set_option maxRecDepth 100000 in
theorem lifted (os : Os) (started : os.Started) (H : Type) (enc : TypeId × Value → H) :
    ReturnsInHanded {} Tryd.checked os 3 .any (fun w args => (Rows.isaEncodesSpec.pre enc Tryd.prog Tryd.f3 [] false w args ∧ laidMetH Tryd.prog laid12 w) ∧ sizedMet enc Tryd.prog Tryd.f3 (OpenSpec.ofChange Rows.isaEncodesSpec) false w args) (Rows.isaEncodesSpec.post enc Tryd.prog Tryd.f3 false true false false) := by
  refine wrapLaid (C := Tryd.checked) (laid := laid12) own started (by kernel_rfl) Tryd.func3
    (ChangeSpec.witness_shaped (enc := enc) (C := Tryd.checked) (os := os) (X := fun w _ => laidMetH Tryd.prog laid12 w) false (World.laidAll Tryd.prog os laid12) #[.int .i64 0, .int .i64 0, .int .i64 0, .int .i64 0, .int .i32 0] 8 (World.laidAll_os _ _ _) (World.shaped_of_ZipB (by kernel_rfl) (by kernel_rfl)) (by kernel_rfl) (by kernel_rfl) (by kernel_rfl)
      (by rw [MakeChecks.laidMetH_plain _ _ _ (by kernel_rfl)]; exact laidMet_laidAll _ (by kernel_rfl) (by kernel_rfl))) ?_
  intro W base args ds gs before hval0 hW hL hsh
  have hval : ∀ (j : Nat) t v, Tryd.f3.params[j]? = some t → args[j]? = some v → Value.okWide Tryd.prog W .any base t v := hval0
  have hW' := hW
  obtain ⟨p, q, hA0, hV, rfl, hfz, hnd⟩ := hW
  have hA : DataW.TrodAll enc Tryd.prog W 0 (fun _ => true) true Tryd.f3.params.toList args.toList ds p := hA0
  rw [Tryd.params3] at hA hval
  obtain ⟨v0, vs0, d0, ds0, p0, q0, hargs, rfl, rfl, h0, r0⟩ := trodAll_cons hA
  obtain ⟨v1, vs1, d1, ds1, p1, q1, rfl, rfl, rfl, h1, r1⟩ := trodAll_cons r0
  obtain ⟨v2, vs2, d2, ds2, p2, q2, rfl, rfl, rfl, h2, r2⟩ := trodAll_cons r1
  obtain ⟨v3, vs3, d3, ds3, p3, q3, rfl, rfl, rfl, h3, r3⟩ := trodAll_cons r2
  obtain ⟨v4, vs4, d4, ds4, p4, q4, rfl, rfl, rfl, h4, r4⟩ := trodAll_cons r3
  obtain ⟨rfl, rfl, rfl⟩ := trodAll_nil r4
  obtain rfl : args = #[v0, v1, v2, v3, v4] := by cases args; simp_all
  obtain ⟨rfl, rfl⟩ := trodVars_none hV
  obtain ⟨a0, rfl, rfl, rfl, w0⟩ := open_int Tryd.underlying3 (hval 0 3 v0 rfl rfl) h0
  obtain ⟨a1, rfl, rfl, rfl, w1⟩ := open_int Tryd.underlying3 (hval 1 3 v1 rfl rfl) h1
  obtain ⟨a2, rfl, rfl, rfl, w2⟩ := open_int Tryd.underlying3 (hval 2 3 v2 rfl rfl) h2
  obtain ⟨a3, rfl, rfl, rfl, w3⟩ := open_int Tryd.underlying3 (hval 3 3 v3 rfl rfl) h3
  obtain ⟨a4, rfl, rfl, rfl, w4⟩ := open_int Tryd.underlying21 (hval 4 21 v4 rfl rfl) h4
  clear hA0 hval0
  refine (walk a0 a1 a2 a3 a4 W (tb_of_laid hL hsh) w0 w1 w2 w3 w4).mono fun e W' ⟨he, bel⟩ => ?_
  subst he
  exact ⟨_, rfl, _, _, _, [], _, [], hW', trodAll_mk1 (shut_bool Tryd.underlying4 _), (trodAll_cons_mk (shut_int Tryd.underlying3 w0) (trodAll_cons_mk (shut_int Tryd.underlying3 w1) (trodAll_cons_mk (shut_int Tryd.underlying3 w2) (trodAll_cons_mk (shut_int Tryd.underlying3 w3) (trodAll_cons_mk (shut_int Tryd.underlying21 w4) trodAll_mk0))))), rfl, bel.frame _, fun h => by cases h⟩

theorem over : Rows.isaEncodesRow.holds Tryd.pinned (OpenSpec.ofChange Rows.isaEncodesSpec) :=
  OpenClaim.holds_of_wide 3 Tryd.f3 rfl rfl rfl rfl rfl rfl rfl ⟨rfl, rfl, rfl, rfl, rfl⟩ rfl rfl rfl rfl rfl (by kernel_rfl) Tryd.func3 (by kernel_rfl)
    (of_decide_eq_true (by kernel_rfl)) (by unfold Func.isWrapper; first | (rw [if_pos (by decide +kernel)]; kernel_rfl) | (rw [if_neg (by decide +kernel)]; exact ⟨rfl, rfl⟩))
    (fun os started H enc _ => lifted os started H enc)

theorem proved : Rows.IsaEncodesCardSaid :=
  Claim7.holds_tied_plain_at .later [] [.data, .data, .data, .data, .sentinel, .sentinel, .data, .data, .pinned] true (true, "d89ea6c87e700680fd9f7b0e2cadb954407153fce9f48a275aa9c1ac018cb73b") true over (fun _ h => by cases h) (by kernel_rfl) (fun _ h => by cases h) isaEncodes_row_tie rfl ⟨rfl, rfl⟩ (by kernel_rfl) rfl
    (fun f fn hf hfn => by
      obtain rfl : f = 3 := (Option.some.inj ((show Tryd.prog.funcNamed "dormouse/dormouselaw12.IsaEncodes" = some 3 by kernel_rfl).symm.trans hf)).symm
      obtain rfl : fn = Tryd.f3 := (Option.some.inj (Tryd.func3.symm.trans hfn)).symm
      exact ⟨by kernel_rfl, fun j t ht => by
        rw [Tryd.params3] at ht
        have hm : t ∈ [3, 3, 3, 3, 21] := by simpa using Array.mem_of_getElem? ht
        have hall : ([3, 3, 3, 3, 21].all fun u => !Tryd.prog.wantsStandIn u) = true := by kernel_rfl
        exact (show Tryd.prog.wantsStandIn t = false by simpa using List.all_eq_true.1 hall t hm)⟩)
    (by kernel_rfl)
#print axioms proved
end Go.Proofs.YtjpbbonkmnbabaaDoor.isaEncodes
