/-
  What is proved here: HeadPuts: any head's bytes are the document's, or it is refused, as the reference tells.
  Conditions: none of our own; the law's row says what its input is.
-/
import Derived.Test.YtmhigmfifpbmaaaRows
import Derived.Test.YtmhigmfifpbmaaaHeaAwake
import Derived.WalkKit
import Derived.ProofKit
import Derived.OpenShut
import Derived.ShutString
import Derived.ChangeOld
import Derived.Below
namespace Go.Proofs.Ytmhigmfifpbmaaa.headPuts
open Go.ChangeShapes Go.WideShapes Go.ChangeAt Go.RowKit
open Go.ChangeMaps (open_string shut_string)
set_option linter.unusedVariables false

theorem own : ownKnob Try.prog.godebug = none := by kernel_rfl
theorem laidOut : laidOutB Try.prog = true := by kernel_rfl

set_option maxRecDepth 100000 in
set_option maxHeartbeats 1600000 in
theorem walk (a0 : Int) (a1 : Int) (a2 : Int) (a3 : Int) (w : World) (w0 : (Lit.int .i64 a0).wf = true) (w1 : (Lit.int .u64 a1).wf = true) (w2 : (Lit.int .u64 a2).wf = true) (w3 : (Lit.int .i64 a3).wf = true) :
    Calls Try.prog 3 #[.int .i64 a0, .int .u64 a1, .int .u64 a2, .int .i64 a3] w fun e w' => e = .returned (.bool true) ∧ Below w.heap.size w w' := by
  obtain ⟨e0, e1⟩ := bd_u64 w1
  obtain ⟨s0, s1⟩ := bd_u64 w2
  have RM : Hid (∀ w1, Calls Try.prog 10 #[.agg #[.int .i64 a0, .int .u64 a1, .int .u64 a2, .int .i64 a3]] w1 fun r w' => r = .returned (.agg #[.int .i64 a0, .int .u64 a1, .int .u64 a2, .int .i64 a3]) ∧ Below w1.heap.size w1 w') := Lib.hid (fun w1 => model_any a0 a1 a2 a3 w1)
  clear w0 w1 w2 w3
  cases hv : validB a0 a3 with
  | false =>
    have RP : Hid (∀ w1, Calls Try.prog 8 #[.agg #[.int .i64 a0, .int .u64 a1, .int .u64 a2, .int .i64 a3]] w1 fun r w' => r = .returned (.tuple #[.slice none 0 0, .int .i64 1]) ∧ Below w1.heap.size w1 w') := Lib.hid (fun w1 => put_arg a0 a1 a2 a3 w1 hv)
    have RR : Hid (∀ w1, Calls Try.prog 9 #[.agg #[.int .i64 a0, .int .u64 a1, .int .u64 a2, .int .i64 a3]] w1 fun r w' => r = .returned (.tuple #[.slice none 0 0, .int .i64 1]) ∧ Below w1.heap.size w1 w') := Lib.hid (fun w1 => rput_arg a0 a1 a2 a3 w1 hv)
    clear hv
    go_enter Try.func3, Try.ntmps3
    go_wp2_with (go_at_call 7; refine (awake_any _).mono ?_)
    rintro r v1 ⟨rfl, hb1⟩
    have hq := (Blk.new v1 #[.int .i64 a0, .int .u64 a1, .int .u64 a2, .int .i64 a3] 25)
    have HB1 : Hid (Below w.heap.size w (v1.alloc (.cells #[.int .i64 a0, .int .u64 a1, .int .u64 a2, .int .i64 a3] 25))) := Lib.hid (hb1.alloc hb1.size _)
    have HQ := Lib.hid hq
    clear hb1 hq
    go_wp2_with (go_at_call 8; refine (RP.out _).mono ?_)
    rintro r v2 ⟨rfl, hb2⟩
    obtain ⟨q0, q1, q2, q3⟩ := (HQ.out.later hb2).c4
    have HB2 := Lib.hid (HB1.out.trans (hb2.mono HB1.out.size))
    clear hb2
    go_wp2_with (go_at_call 10; refine (RM.out _).mono ?_)
    rintro r v3 ⟨rfl, hb3⟩
    have HB3 := Lib.hid (HB2.out.trans (hb3.mono HB2.out.size))
    clear hb3
    go_wp2_with (go_at_call 9; refine (RR.out _).mono ?_)
    rintro r v4 ⟨rfl, hb4⟩
    have HB4 := Lib.hid (HB3.out.trans (hb4.mono HB3.out.size))
    have hc := (Bys.empty v4 0 none).conv 0
    clear hb4
    go_wp2
    go_ret
    exact ⟨rfl, HB4.out⟩
  | true =>
    have RP : Hid (∀ w1, Calls Try.prog 8 #[.agg #[.int .i64 a0, .int .u64 a1, .int .u64 a2, .int .i64 a3]] w1 fun r w' => (∃ u, r = .returned (.tuple #[u, .int .i64 0]) ∧ Made (enc a0 a1 a2 a3) u w') ∧ Below w1.heap.size w1 w') := Lib.hid (fun w1 => put_ok a0 a1 a2 a3 w1 hv e0 e1 s0 s1)
    have RR : Hid (∀ w1, Calls Try.prog 9 #[.agg #[.int .i64 a0, .int .u64 a1, .int .u64 a2, .int .i64 a3]] w1 fun r w' => (∃ u, r = .returned (.tuple #[u, .int .i64 0]) ∧ w'.ownsRow w1.heap.size 5 1 u 64 ((enc a0 a1 a2 a3).map (Value.int .u8))) ∧ Below w1.heap.size w1 w') := Lib.hid (fun w1 => rput_ok a0 a1 a2 a3 w1 hv e0 e1 s0 s1)
    have HEL := Lib.hid (enc_len a0 a1 a2 a3)
    have HEB := Lib.hid (enc_bd a0 a1 a2 a3)
    clear hv
    go_enter Try.func3, Try.ntmps3
    go_wp2_with (go_at_call 7; refine (awake_any _).mono ?_)
    rintro r v1 ⟨rfl, hb1⟩
    have hq := (Blk.new v1 #[.int .i64 a0, .int .u64 a1, .int .u64 a2, .int .i64 a3] 25)
    have HB1 : Hid (Below w.heap.size w (v1.alloc (.cells #[.int .i64 a0, .int .u64 a1, .int .u64 a2, .int .i64 a3] 25))) := Lib.hid (hb1.alloc hb1.size _)
    have HQ := Lib.hid hq
    clear hb1 hq
    go_wp2_with (go_at_call 8; refine (RP.out _).mono ?_)
    rintro r v2 ⟨⟨u, rfl, g, c, rfl, _, _, hm⟩, hb2⟩
    rw [HEL.out] at hm ⊢
    obtain ⟨q0, q1, q2, q3⟩ := (HQ.out.later hb2).c4
    have HB2 := Lib.hid (HB1.out.trans (hb2.mono HB1.out.size))
    have HM := Lib.hid hm
    clear hb2 hm
    go_wp2_with (go_at_call 10; refine (RM.out _).mono ?_)
    rintro r v3 ⟨rfl, hb3⟩
    have HB3 := Lib.hid (HB2.out.trans (hb3.mono HB2.out.size))
    have HM3 := Lib.hid ((HM.out.below hb3).more hb3.size)
    clear hb3
    go_wp2_with (go_at_call 9; refine (RR.out _).mono ?_)
    rintro r v4 ⟨⟨u, rfl, ho⟩, hb4⟩
    obtain ⟨ua, uc, rfl⟩ := own_slice ho
    have HB4 := Lib.hid (HB3.out.trans (hb4.mono HB3.out.size))
    have hc1 := (HM3.out.below hb4).conv c
    have hc2 := (Bys.own HEB.out ho).conv uc
    generalize strOfNums (enc a0 a1 a2 a3) = S at hc1 hc2
    clear hb4 ho
    go_wp2
    go_ret
    exact ⟨ret_bool (by simp), HB4.out⟩

set_option maxRecDepth 100000 in
theorem lifted (os : Os) (started : os.Started) (H : Type) (enc : TypeId × Value → H) :
    ReturnsInHanded {} Try.checked os 3 .any (Rows.headPutsSpec.pre6 enc Try.prog Try.f3 Rows.headPutsRow.domain false) (Rows.headPutsSpec.post enc Try.prog Try.f3 false true false false) := by
  refine returnsInHanded_of_change (C := Try.checked) own started (by kernel_rfl) Try.func3
    (ChangeSpec.witness6 (enc := enc) (C := Try.checked) false ⟨#[], #[.int .i64 0, .int .u64 0, .int .u64 0, .int .i64 0], []⟩ 8 (by kernel_rfl) (by kernel_rfl) (by kernel_rfl) (by kernel_rfl)) ?_
  intro W base args ds gs before hval0 hW hcnd _
  have hval : ∀ (j : Nat) t v, Try.f3.params[j]? = some t → args[j]? = some v → Value.okWide Try.prog W .any base t v := hval0
  have hW' := hW
  obtain ⟨p, q, hA0, hV, rfl, hfz, hnd⟩ := hW
  have hA : DataW.TrodAll enc Try.prog W 0 (fun _ => true) true Try.f3.params.toList args.toList ds p := hA0
  rw [Try.params3] at hA hval
  obtain ⟨v0, vs0, d0, ds0, p0, q0, hargs, rfl, rfl, h0, r0⟩ := trodAll_cons hA
  obtain ⟨v1, vs1, d1, ds1, p1, q1, rfl, rfl, rfl, h1, r1⟩ := trodAll_cons r0
  obtain ⟨v2, vs2, d2, ds2, p2, q2, rfl, rfl, rfl, h2, r2⟩ := trodAll_cons r1
  obtain ⟨v3, vs3, d3, ds3, p3, q3, rfl, rfl, rfl, h3, r3⟩ := trodAll_cons r2
  obtain ⟨rfl, rfl, rfl⟩ := trodAll_nil r3
  obtain rfl : args = #[v0, v1, v2, v3] := by cases args; simp_all
  obtain ⟨rfl, rfl⟩ := trodVars_none hV
  obtain ⟨a0, rfl, rfl, rfl, w0⟩ := open_int Try.underlying3 (hval 0 3 v0 rfl rfl) h0
  obtain ⟨a1, rfl, rfl, rfl, w1⟩ := open_int Try.underlying22 (hval 1 22 v1 rfl rfl) h1
  obtain ⟨a2, rfl, rfl, rfl, w2⟩ := open_int Try.underlying22 (hval 2 22 v2 rfl rfl) h2
  obtain ⟨a3, rfl, rfl, rfl, w3⟩ := open_int Try.underlying3 (hval 3 3 v3 rfl rfl) h3
  clear hA0 hval0
  refine (walk a0 a1 a2 a3 W w0 w1 w2 w3).mono fun e W' ⟨he, bel⟩ => ?_
  subst he
  exact ⟨_, rfl, _, _, _, [], _, [], hW', trodAll_mk1 (shut_bool Try.underlying4 _), (trodAll_cons_mk (shut_int Try.underlying3 w0) (trodAll_cons_mk (shut_int Try.underlying22 w1) (trodAll_cons_mk (shut_int Try.underlying22 w2) (trodAll_cons_mk (shut_int Try.underlying3 w3) trodAll_mk0)))), rfl, bel.frame _, fun h => by cases h⟩

theorem over : Rows.headPutsRow.holds Try.pinned (OpenSpec.ofChange Rows.headPutsSpec) :=
  OpenClaim.holds_of_wide 3 Try.f3 rfl rfl rfl rfl rfl rfl rfl ⟨rfl, rfl, rfl, rfl, rfl⟩ rfl rfl rfl rfl rfl (by kernel_rfl) Try.func3 (by kernel_rfl)
    (of_decide_eq_true (by kernel_rfl)) (by unfold Func.isWrapper; first | (rw [if_pos (by decide +kernel)]; kernel_rfl) | (rw [if_neg (by decide +kernel)]; exact ⟨rfl, rfl⟩))
    (fun os started H enc _ => lifted os started H enc)

theorem proved : Rows.HeadPutsSaid := over
#print axioms proved
end Go.Proofs.Ytmhigmfifpbmaaa.headPuts
