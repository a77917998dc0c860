/-
  What is proved here: RelaShifts: where base and symbol move by the same, what is written moves by it, or stays.
  Conditions: none of our own; the law's row says what its input is.
-/
import Derived.Test.YtdfghnnpjoikeaaRows
import Derived.Test.YtdfghnnpjoikeaaRelAwake
import Derived.Test.YtdfghnnpjoikeaaRelFrame
import Derived.Test.YtdfghnnpjoikeaaApp
import Derived.WalkKit
import Derived.ProofKit
import Derived.OpenShut
import Derived.ShutString
import Derived.ChangeOld
import Derived.Below
namespace Go.Proofs.Ytdfghnnpjoikeaa.relaShifts
open Go.ChangeShapes Go.WideShapes Go.ChangeAt Go.RowKit
open Go.ChangeMaps (open_string shut_string)
set_option linter.unusedVariables false

theorem own : ownKnob Try.prog.godebug = none := by kernel_rfl
theorem laidOut : laidOutB Try.prog = true := by kernel_rfl

theorem bd_u32 {n : Int} (h : (Lit.int .u32 n).wf = true) : 0 ≤ n ∧ n ≤ 4294967295 := by
  simpa [Lit.wf, IntKind.min, IntKind.max, IntKind.signed, IntKind.bits] using h
theorem bd_i64 {n : Int} (h : (Lit.int .i64 n).wf = true) : -9223372036854775808 ≤ n ∧ n ≤ 9223372036854775807 := by
  simpa [Lit.wf, IntKind.min, IntKind.max, IntKind.signed, IntKind.bits] using h
set_option maxRecDepth 100000 in
set_option maxHeartbeats 1600000 in
theorem walk (a0 : Int) (a1 : Int) (a2 : Int) (a3 : Int) (a4 : Int) (w : World) (w0 : (Lit.int .u32 a0).wf = true) (w1 : (Lit.int .u64 a1).wf = true) (w2 : (Lit.int .u64 a2).wf = true) (w3 : (Lit.int .i64 a3).wf = true) (w4 : (Lit.int .u64 a4).wf = true) :
    Calls Try.prog 7 #[.int .u32 a0, .int .u64 a1, .int .u64 a2, .int .i64 a3, .int .u64 a4] w fun e w' => e = .returned (.bool true) ∧ Below w.heap.size w w' := by
  obtain ⟨t0, t1⟩ := bd_u32 w0
  obtain ⟨b0, b1⟩ := bd_u64 w1
  obtain ⟨s0, s1⟩ := bd_u64 w2
  obtain ⟨d0, d1⟩ := bd_i64 w3
  obtain ⟨y0, y1⟩ := bd_u64 w4
  have HV := Lib.hid (fun w1 => lvalue_any a0 a1 a2 a3 w1 t0 t1 s0 s1 b0 b1 d0 d1)
  have HV2 : Hid (∀ x y, x = IntKind.u64.wrap (a1 + a4) → y = IntKind.u64.wrap (a2 + a4) → ∀ w1, Calls Try.prog 16 #[.int .u32 a0, .int .u64 x, .int .u64 y, .int .i64 a3] w1 fun r w' => r = .returned (.tuple #[.int .u64 (valL a0 (IntKind.u64.wrap (a1 + a4)) (IntKind.u64.wrap (a2 + a4)) a3).1, .int .i64 (valL a0 a1 a2 a3).2]) ∧ Below w1.heap.size w1 w') := Lib.hid (fun x y hx hy w1 => by
    subst hx; subst hy
    rw [valL_err a0 a1 a2 a3 (IntKind.u64.wrap (a1 + a4)) (IntKind.u64.wrap (a2 + a4)) a3]
    exact lvalue_any a0 _ _ a3 w1 t0 t1 (by rw [IntKind.wrap_u64]; omega) (by rw [IntKind.wrap_u64]; omega) (by rw [IntKind.wrap_u64]; omega) (by rw [IntKind.wrap_u64]; omega) d0 d1)
  have HOK : Hid ((valL a0 a1 a2 a3).2 = 0 → a0 ≠ 0 → (valL a0 (IntKind.u64.wrap (a1 + a4)) (IntKind.u64.wrap (a2 + a4)) a3).1 = IntKind.u64.wrap ((valL a0 a1 a2 a3).1 + a4)) := Lib.hid (fun h h0 => valL_moves (valL_ok h) h0 ⟨s0, s1⟩)
  have HNO : Hid (a0 = 0 → (valL a0 (IntKind.u64.wrap (a1 + a4)) (IntKind.u64.wrap (a2 + a4)) a3).1 = (valL a0 a1 a2 a3).1) := Lib.hid (fun h => by subst h; rw [valL_none, valL_none])
  generalize (valL a0 (IntKind.u64.wrap (a1 + a4)) (IntKind.u64.wrap (a2 + a4)) a3).1 = v2 at HV2 HOK HNO
  generalize (valL a0 a1 a2 a3).1 = v at HV HOK HNO
  generalize (valL a0 a1 a2 a3).2 = e at HV HV2 HOK
  clear w0 w1 w2 w3 w4
  go_enter Try.func7, Try.ntmps7
  go_wp2_with fail
  refine (awake_any _).mono ?_
  rintro r w1 ⟨rfl, hb1⟩
  have HB1 := Lib.hid hb1
  clear hb1
  go_wp2_with fail
  refine (HV.out _).mono ?_
  rintro r w2 ⟨rfl, hb2⟩
  have HB2 := Lib.hid (HB1.out.trans (hb2.mono HB1.out.size))
  clear hb2
  go_wp2_with fail
  refine (HV2.out _ _ (by first | rfl | (simp only [IntKind.wrap_u64])) (by first | rfl | (simp only [IntKind.wrap_u64])) _).mono ?_
  rintro r w3 ⟨rfl, hb3⟩
  have HB3 := Lib.hid (HB2.out.trans (hb3.mono HB2.out.size))
  clear hb3
  by_cases he : e = 0
  · by_cases h0 : a0 = 0
    · obtain rfl := HNO.out h0
      subst h0
      subst he
      clear HOK HNO HV HV2
      go_wp2
      go_ret
      exact ⟨by simp, HB3.out⟩
    · have hm := HOK.out he h0
      have h0b : (a0 == 0) = false := by simpa using h0
      subst he
      have HM := Lib.hid hm
      clear HOK HNO HV HV2 hm
      go_wp2
      go_ret
      exact ⟨by rw [HM.out]; simp [h0], HB3.out⟩
  · have heb : (e == 0) = false := by simpa using he
    clear HOK HNO HV HV2
    go_wp2
    go_ret
    exact ⟨by simp, HB3.out⟩

set_option maxRecDepth 100000 in
theorem lifted (os : Os) (started : os.Started) (H : Type) (enc : TypeId × Value → H) :
    ReturnsInHanded {} Try.checked os 7 .any (Rows.relaShiftsSpec.pre6 enc Try.prog Try.f7 Rows.relaShiftsRow.domain false) (Rows.relaShiftsSpec.post enc Try.prog Try.f7 false true false false) := by
  refine returnsInHanded_of_change (C := Try.checked) own started (by kernel_rfl) Try.func7
    (ChangeSpec.witness6 (enc := enc) (C := Try.checked) false ⟨#[], #[.int .u32 0, .int .u64 0, .int .u64 0, .int .i64 0, .int .u64 0], []⟩ 8 (by kernel_rfl) (by kernel_rfl) (by kernel_rfl) (by kernel_rfl)) ?_
  intro W base args ds gs before hval0 hW hcnd _
  have hval : ∀ (j : Nat) t v, Try.f7.params[j]? = some t → args[j]? = some v → Value.okWide Try.prog W .any base t v := hval0
  have hW' := hW
  obtain ⟨p, q, hA0, hV, rfl, hfz, hnd⟩ := hW
  have hA : DataW.TrodAll enc Try.prog W 0 (fun _ => true) true Try.f7.params.toList args.toList ds p := hA0
  rw [Try.params7] at hA hval
  obtain ⟨v0, vs0, d0, ds0, p0, q0, hargs, rfl, rfl, h0, r0⟩ := trodAll_cons hA
  obtain ⟨v1, vs1, d1, ds1, p1, q1, rfl, rfl, rfl, h1, r1⟩ := trodAll_cons r0
  obtain ⟨v2, vs2, d2, ds2, p2, q2, rfl, rfl, rfl, h2, r2⟩ := trodAll_cons r1
  obtain ⟨v3, vs3, d3, ds3, p3, q3, rfl, rfl, rfl, h3, r3⟩ := trodAll_cons r2
  obtain ⟨v4, vs4, d4, ds4, p4, q4, rfl, rfl, rfl, h4, r4⟩ := trodAll_cons r3
  obtain ⟨rfl, rfl, rfl⟩ := trodAll_nil r4
  obtain rfl : args = #[v0, v1, v2, v3, v4] := by cases args; simp_all
  obtain ⟨rfl, rfl⟩ := trodVars_none hV
  obtain ⟨a0, rfl, rfl, rfl, w0⟩ := open_int Try.underlying23 (hval 0 23 v0 rfl rfl) h0
  obtain ⟨a1, rfl, rfl, rfl, w1⟩ := open_int Try.underlying22 (hval 1 22 v1 rfl rfl) h1
  obtain ⟨a2, rfl, rfl, rfl, w2⟩ := open_int Try.underlying22 (hval 2 22 v2 rfl rfl) h2
  obtain ⟨a3, rfl, rfl, rfl, w3⟩ := open_int Try.underlying2 (hval 3 2 v3 rfl rfl) h3
  obtain ⟨a4, rfl, rfl, rfl, w4⟩ := open_int Try.underlying22 (hval 4 22 v4 rfl rfl) h4
  clear hA0 hval0
  refine (walk a0 a1 a2 a3 a4 W w0 w1 w2 w3 w4).mono fun e W' ⟨he, bel⟩ => ?_
  subst he
  exact ⟨_, rfl, _, _, _, [], _, [], hW', trodAll_mk1 (shut_bool Try.underlying4 _), (trodAll_cons_mk (shut_int Try.underlying23 w0) (trodAll_cons_mk (shut_int Try.underlying22 w1) (trodAll_cons_mk (shut_int Try.underlying22 w2) (trodAll_cons_mk (shut_int Try.underlying2 w3) (trodAll_cons_mk (shut_int Try.underlying22 w4) trodAll_mk0))))), rfl, bel.frame _, fun h => by cases h⟩

theorem over : Rows.relaShiftsRow.holds Try.pinned (OpenSpec.ofChange Rows.relaShiftsSpec) :=
  OpenClaim.holds_of_wide 7 Try.f7 rfl rfl rfl rfl rfl rfl rfl ⟨rfl, rfl, rfl, rfl, rfl⟩ rfl rfl rfl rfl rfl (by kernel_rfl) Try.func7 (by kernel_rfl)
    (of_decide_eq_true (by kernel_rfl)) (by unfold Func.isWrapper; first | (rw [if_pos (by decide +kernel)]; kernel_rfl) | (rw [if_neg (by decide +kernel)]; exact ⟨rfl, rfl⟩))
    (fun os started H enc _ => lifted os started H enc)

theorem proved : Rows.RelaShiftsSaid := over
#print axioms proved
end Go.Proofs.Ytdfghnnpjoikeaa.relaShifts
