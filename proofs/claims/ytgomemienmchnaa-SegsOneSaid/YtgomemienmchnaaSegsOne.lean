/-
  What is proved here: SegsOne: a file of any size may have any one segment just where the reference says, with the same error.
  Conditions: none of our own; the law's row says what its input is.
-/
import Derived.Test.YtgomemienmchnaaRows
import Derived.Test.YtgomemienmchnaaSegAwake
import Derived.Test.YtgomemienmchnaaSegFrame
import Derived.Test.YtgomemienmchnaaSegRCheck
import Derived.WalkKit
import Derived.ProofKit
import Derived.OpenShut
import Derived.ShutString
import Derived.ChangeOld
import Derived.Below
namespace Go.Proofs.Ytgomemienmchnaa.segsOne
open Go.ChangeShapes Go.WideShapes Go.ChangeAt Go.RowKit
open Go.ChangeMaps (open_string shut_string)
set_option linter.unusedVariables false

theorem own : ownKnob Try.prog.godebug = none := by kernel_rfl
theorem laidOut : laidOutB Try.prog = true := by kernel_rfl

set_option maxRecDepth 100000 in
set_option maxHeartbeats 1600000 in
theorem walk (a0 : Sg) (a1 : Int) (w : World) (w0 : a0.Ok) (w1 : (Lit.int .u64 a1).wf = true) :
    Calls Try.prog 9 #[a0.val, .int .u64 a1] w fun e w' => e = .returned (.bool true) ∧ Below w.heap.size w w' := by
  obtain ⟨s0, s1⟩ := bd_u64 w1
  have HOK := Lib.hid w0
  obtain ⟨e, he⟩ : ∃ e, checkS [a0] a1 = e := ⟨_, rfl⟩
  have HC : Hid (∀ (v1 : World) (g : Nat), g = v1.heap.size → Calls Try.prog 18 #[.slice (some ⟨g, 0, none⟩) 1 1, .int .u64 a1] (v1.alloc (.cells a0.cells 25)) fun r w' => r = .returned (.int .i64 e) ∧ Below (v1.alloc (.cells a0.cells 25)).heap.size (v1.alloc (.cells a0.cells 25)) w') := Lib.hid (fun v1 g hg =>
    he ▸ check1_any _ _ 1 1 [a0] a1 _ (sgs_one v1 a0 HOK.out 25 g hg) (Nat.le_refl _) (Nat.le_refl _) (by decide) s0 s1)
  have HR : Hid (∀ (v1 w1 : World) (g : Nat), g = v1.heap.size → Below (v1.alloc (.cells a0.cells 25)).heap.size (v1.alloc (.cells a0.cells 25)) w1 → Calls Try.prog 19 #[.slice (some ⟨g, 0, none⟩) 1 1, .int .u64 a1] w1 fun r w' => r = .returned (.int .i64 e) ∧ Below w1.heap.size w1 w') := Lib.hid (fun v1 w1 g hg h =>
    he ▸ rcheck1_any _ _ 1 1 [a0] a1 _ ((sgs_one v1 a0 HOK.out 25 g hg).below h) h.size (Nat.le_refl _) (by decide) s0 s1)
  clear w0 w1 he HOK
  obtain ⟨ty, fl, ot, va, fi, me, al⟩ := a0
  unfold Sg.cells at HC HR
  unfold Sg.val
  simp only at HC HR ⊢
  have HB0 : Hid (Below w.heap.size w (w.alloc (.cells #[.int .u32 ty, .int .u32 fl, .int .u64 ot, .int .u64 va, .int .u64 fi, .int .u64 me, .int .u64 al] 25))) := Lib.hid ((Below.refl _ _).alloc (Nat.le_refl _) _)
  have HK : Hid (∀ w', Below (w.alloc (.cells #[.int .u32 ty, .int .u32 fl, .int .u64 ot, .int .u64 va, .int .u64 fi, .int .u64 me, .int .u64 al] 25)).heap.size (w.alloc (.cells #[.int .u32 ty, .int .u32 fl, .int .u64 ot, .int .u64 va, .int .u64 fi, .int .u64 me, .int .u64 al] 25)) w' → Blk w' w.heap.size #[.int .u32 ty, .int .u32 fl, .int .u64 ot, .int .u64 va, .int .u64 fi, .int .u64 me, .int .u64 al] 25) := Lib.hid (fun w' h => (Blk.new w _ _).later h)
  go_enter Try.func9, Try.ntmps9
  go_wp2_with fail
  refine (awake_any _).mono ?_
  rintro r v1 ⟨rfl, hb1⟩
  obtain ⟨q0, q1, q2, q3, q4, q5, q6⟩ := (HK.out _ hb1).c7
  have HB1 : Hid (Below w.heap.size w (v1.alloc (.cells #[.int .u32 ty, .int .u32 fl, .int .u64 ot, .int .u64 va, .int .u64 fi, .int .u64 me, .int .u64 al] 25))) := Lib.hid (by
    have h := HB0.out.trans (hb1.mono HB0.out.size)
    exact h.alloc h.size _)
  clear hb1
  go_wp2_with fail
  refine (HC.out v1 _ rfl).mono ?_
  rintro r v2 ⟨rfl, hb2⟩
  have HX := Lib.hid hb2
  have HB2 := Lib.hid (HB1.out.trans (hb2.mono HB1.out.size))
  clear hb2
  go_wp2_with fail
  refine (HR.out v1 v2 _ rfl HX.out).mono ?_
  rintro r v3 ⟨rfl, hb3⟩
  have HB3 := Lib.hid (HB2.out.trans (hb3.mono HB2.out.size))
  clear hb3
  go_wp2
  go_ret
  exact ⟨ret_bool (by simp), HB3.out⟩

set_option maxRecDepth 100000 in
theorem lifted (os : Os) (started : os.Started) (H : Type) (enc : TypeId × Value → H) :
    ReturnsInHanded {} Try.checked os 9 .any (Rows.segsOneSpec.pre6 enc Try.prog Try.f9 Rows.segsOneRow.domain false) (Rows.segsOneSpec.post enc Try.prog Try.f9 false true false false) := by
  refine returnsInHanded_of_change (C := Try.checked) own started (by kernel_rfl) Try.func9
    (ChangeSpec.witness6 (enc := enc) (C := Try.checked) false ⟨#[], #[.agg #[.int .u32 0, .int .u32 0, .int .u64 0, .int .u64 0, .int .u64 0, .int .u64 0, .int .u64 0], .int .u64 0], []⟩ 8 (by kernel_rfl) (by kernel_rfl) (by kernel_rfl) (by kernel_rfl)) ?_
  intro W base args ds gs before hval0 hW hcnd _
  have hval : ∀ (j : Nat) t v, Try.f9.params[j]? = some t → args[j]? = some v → Value.okWide Try.prog W .any base t v := hval0
  have hW' := hW
  obtain ⟨p, q, hA0, hV, rfl, hfz, hnd⟩ := hW
  have hA : DataW.TrodAll enc Try.prog W 0 (fun _ => true) true Try.f9.params.toList args.toList ds p := hA0
  rw [Try.params9] at hA hval
  obtain ⟨v0, vs0, d0, ds0, p0, q0, hargs, rfl, rfl, h0, r0⟩ := trodAll_cons hA
  obtain ⟨v1, vs1, d1, ds1, p1, q1, rfl, rfl, rfl, h1, r1⟩ := trodAll_cons r0
  obtain ⟨rfl, rfl, rfl⟩ := trodAll_nil r1
  obtain rfl : args = #[v0, v1] := by cases args; simp_all
  obtain ⟨rfl, rfl⟩ := trodVars_none hV
  obtain ⟨cs0, rfl, _⟩ := okWide_struct Try.underlying25 (hval 0 25 v0 rfl rfl)
  have k0 := h0
  have lt0 : ∀ x ∈ p0, x.block < W.heap.size := by obtain ⟨m, hm⟩ := k0; exact DataW.trod_lt m _ _ _ hm
  obtain ⟨a0, w0, rfl⟩ : ∃ s : Sg, s.Ok ∧ cs0 = s.cells := by
    obtain ⟨fuel, hf⟩ := h0
    exact open_seg hf
  obtain ⟨a1, rfl, rfl, rfl, w1⟩ := open_int Try.underlying23 (hval 1 23 v1 rfl rfl) h1
  clear hA0 hval0
  refine (walk a0 a1 W w0 w1).mono fun e W' ⟨he, bel⟩ => ?_
  subst he
  exact ⟨_, rfl, _, _, _, [], _, [], hW', trodAll_mk1 (shut_bool Try.underlying4 _), (trodAll_cons_mk (Below.trod laidOut (by kernel_rfl) (of_decide_eq_true (by kernel_rfl)) k0 bel lt0) (trodAll_cons_mk (shut_int Try.underlying23 w1) trodAll_mk0)), rfl, bel.frame _, fun h => by cases h⟩

theorem over : Rows.segsOneRow.holds Try.pinned (OpenSpec.ofChange Rows.segsOneSpec) :=
  OpenClaim.holds_of_wide 9 Try.f9 rfl rfl rfl rfl rfl rfl rfl ⟨rfl, rfl, rfl, rfl, rfl⟩ rfl rfl rfl rfl rfl (by kernel_rfl) Try.func9 (by kernel_rfl)
    (of_decide_eq_true (by kernel_rfl)) (by unfold Func.isWrapper; first | (rw [if_pos (by decide +kernel)]; kernel_rfl) | (rw [if_neg (by decide +kernel)]; exact ⟨rfl, rfl⟩))
    (fun os started H enc _ => lifted os started H enc)

theorem proved : Rows.SegsOneSaid := over
#print axioms proved
end Go.Proofs.Ytgomemienmchnaa.segsOne
