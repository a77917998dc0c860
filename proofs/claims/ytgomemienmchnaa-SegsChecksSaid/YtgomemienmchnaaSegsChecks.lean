/-
  What is proved here: SegsChecks: a file of any size may have any segments just where the reference says, with the same error.
  Conditions: none of our own; the law's row says what its input is.
-/
import Derived.Test.YtgomemienmchnaaRows
import Derived.Test.YtgomemienmchnaaSegAwake
import Derived.Test.YtgomemienmchnaaSegFrame
import Derived.Test.YtgomemienmchnaaSegRCheck
import Derived.WalkKit
import Derived.ProofKit
import Derived.OpenShut
import Derived.ShutString
import Derived.ChangeOld
import Derived.Below
namespace Go.Proofs.Ytgomemienmchnaa.segsChecks
open Go.ChangeShapes Go.WideShapes Go.ChangeAt Go.RowKit
open Go.ChangeMaps (open_string shut_string)
set_option linter.unusedVariables false

theorem own : ownKnob Try.prog.godebug = none := by kernel_rfl
theorem laidOut : laidOutB Try.prog = true := by kernel_rfl

set_option maxRecDepth 100000 in
set_option maxHeartbeats 1600000 in
theorem walk (a0 : Option Addr) (len0 cap0 : Nat) (z0 : List Sg) (a1 : Int) (w : World) (w0 : IsSgs w a0 len0 cap0 z0) (w1 : (Lit.int .u64 a1).wf = true) :
    Calls Try.prog 6 #[.slice a0 len0 cap0, .int .u64 a1] w fun e w' => e = .returned (.bool true) ∧ Below w.heap.size w w' := by
  obtain ⟨s0, s1⟩ := bd_u64 w1
  obtain ⟨hs, hcap, hcm⟩ := w0.sgs
  have HS := Lib.hid hs
  clear w0 w1 hs
  go_enter Try.func6, Try.ntmps6
  go_wp2_with fail
  refine (awake_any _).mono ?_
  rintro r v1 ⟨rfl, hb1⟩
  have HB1 := Lib.hid hb1
  clear hb1
  by_cases h64 : 64 < len0
  · have h64i : (64 : Int) < len0 := by omega
    go_wp2
    go_ret
    exact ⟨rfl, HB1.out⟩
  · have h64i : (len0 : Int) ≤ 64 := by omega
    obtain ⟨e, he⟩ : ∃ e, checkS (z0.take len0) a1 = e := ⟨_, rfl⟩
    have HC := Lib.hid (check1_any w.heap.size a0 len0 cap0 (z0.take len0) a1 v1 (HS.out.below HB1.out) HB1.out.size hcap hcm s0 s1)
    have HR : Hid (∀ w1, Below w.heap.size w w1 → Calls Try.prog 19 #[.slice a0 len0 cap0, .int .u64 a1] w1 fun r w' => r = .returned (.int .i64 e) ∧ Below w1.heap.size w1 w') := Lib.hid (fun w1 h1 =>
      he ▸ rcheck1_any w.heap.size a0 len0 cap0 (z0.take len0) a1 w1 (HS.out.below h1) h1.size hcap hcm s0 s1)
    rw [he] at HC
    clear he
    go_wp2_with fail
    refine HC.out.mono ?_
    rintro r v2 ⟨rfl, hb2⟩
    have HB2 := Lib.hid (HB1.out.trans (hb2.mono HB1.out.size))
    clear hb2
    go_wp2_with fail
    refine (HR.out _ HB2.out).mono ?_
    rintro r v3 ⟨rfl, hb3⟩
    have HB3 := Lib.hid (HB2.out.trans (hb3.mono HB2.out.size))
    clear hb3
    go_wp2
    go_ret
    exact ⟨ret_bool (by simp), HB3.out⟩

set_option maxRecDepth 100000 in
theorem lifted (os : Os) (started : os.Started) (H : Type) (enc : TypeId × Value → H) :
    ReturnsInHanded {} Try.checked os 6 .any (Rows.segsChecksSpec.pre6 enc Try.prog Try.f6 Rows.segsChecksRow.domain false) (Rows.segsChecksSpec.post enc Try.prog Try.f6 false true false false) := by
  refine returnsInHanded_of_change (C := Try.checked) own started (by kernel_rfl) Try.func6
    (ChangeSpec.witness6 (enc := enc) (C := Try.checked) false ⟨#[], #[.slice none 0 0, .int .u64 0], []⟩ 8 (by kernel_rfl) (by kernel_rfl) (by kernel_rfl) (by kernel_rfl)) ?_
  intro W base args ds gs before hval0 hW hcnd _
  have hval : ∀ (j : Nat) t v, Try.f6.params[j]? = some t → args[j]? = some v → Value.okWide Try.prog W .any base t v := hval0
  have hW' := hW
  obtain ⟨p, q, hA0, hV, rfl, hfz, hnd⟩ := hW
  have hA : DataW.TrodAll enc Try.prog W 0 (fun _ => true) true Try.f6.params.toList args.toList ds p := hA0
  rw [Try.params6] at hA hval
  obtain ⟨v0, vs0, d0, ds0, p0, q0, hargs, rfl, rfl, h0, r0⟩ := trodAll_cons hA
  obtain ⟨v1, vs1, d1, ds1, p1, q1, rfl, rfl, rfl, h1, r1⟩ := trodAll_cons r0
  obtain ⟨rfl, rfl, rfl⟩ := trodAll_nil r1
  obtain rfl : args = #[v0, v1] := by cases args; simp_all
  obtain ⟨rfl, rfl⟩ := trodVars_none hV
  obtain ⟨a0, len0, cap0, rfl⟩ := okWide_slice Try.underlying33 (hval 0 33 v0 rfl rfl)
  have k0 := h0
  have lt0 : ∀ x ∈ p0, x.block < W.heap.size := by obtain ⟨m, hm⟩ := k0; exact DataW.trod_lt m _ _ _ hm
  obtain ⟨z0, w0⟩ : ∃ zs, IsSgs W a0 len0 cap0 zs := by
    obtain ⟨fuel, hf⟩ := h0
    exact open_segs hf
  obtain ⟨a1, rfl, rfl, rfl, w1⟩ := open_int Try.underlying23 (hval 1 23 v1 rfl rfl) h1
  clear hA0 hval0
  refine (walk a0 len0 cap0 z0 a1 W w0 w1).mono fun e W' ⟨he, bel⟩ => ?_
  subst he
  exact ⟨_, rfl, _, _, _, [], _, [], hW', trodAll_mk1 (shut_bool Try.underlying4 _), (trodAll_cons_mk (Below.trod laidOut (by kernel_rfl) (of_decide_eq_true (by kernel_rfl)) k0 bel lt0) (trodAll_cons_mk (shut_int Try.underlying23 w1) trodAll_mk0)), rfl, bel.frame _, fun h => by cases h⟩

theorem over : Rows.segsChecksRow.holds Try.pinned (OpenSpec.ofChange Rows.segsChecksSpec) :=
  OpenClaim.holds_of_wide 6 Try.f6 rfl rfl rfl rfl rfl rfl rfl ⟨rfl, rfl, rfl, rfl, rfl⟩ rfl rfl rfl rfl rfl (by kernel_rfl) Try.func6 (by kernel_rfl)
    (of_decide_eq_true (by kernel_rfl)) (by unfold Func.isWrapper; first | (rw [if_pos (by decide +kernel)]; kernel_rfl) | (rw [if_neg (by decide +kernel)]; exact ⟨rfl, rfl⟩))
    (fun os started H enc _ => lifted os started H enc)

theorem proved : Rows.SegsChecksSaid := over
#print axioms proved
end Go.Proofs.Ytgomemienmchnaa.segsChecks
