/-
  What is proved here: NotesPuts: any notes' bytes are the reference's, or refused with the same error.
  Conditions: none of our own; the law's row says what its input is.
-/
import Derived.Test.YtkgakdlalmmdiaaRows
import Derived.Test.YtkgakdlalmmdiaaNotEnd
import Derived.Test.YtkgakdlalmmdiaaNotFrame
import Derived.Test.YtkgakdlalmmdiaaApp
import Derived.WalkKit
import Derived.ProofKit
import Derived.OpenShut
import Derived.ShutString
import Derived.ChangeOld
import Derived.Below
namespace Go.Proofs.Ytkgakdlalmmdiaa.notesPuts
open Go.ChangeShapes Go.WideShapes Go.ChangeAt Go.RowKit
open Go.ChangeMaps (open_string shut_string)
set_option linter.unusedVariables false

theorem own : ownKnob Try.prog.godebug = none := by kernel_rfl
theorem laidOut : laidOutB Try.prog = true := by kernel_rfl

set_option maxRecDepth 100000 in
set_option maxHeartbeats 1600000 in
theorem walk (a0 : Option Addr) (len0 cap0 : Nat) (z0 : List Nt) (w : World) (w0 : Nt.Is w a0 len0 cap0 z0) :
    Calls Try.prog 3 #[.slice a0 len0 cap0] w fun e w' => e = .returned (.bool true) ∧ Below w.heap.size w w' := by
  obtain ⟨hs, hcap, hcm⟩ := w0.sl
  generalize z0.take len0 = L at hs
  have HS := Lib.hid hs
  clear w0 hs
  go_enter Try.func3, Try.ntmps3
  go_wp2_with fail
  refine (awake_any _).mono ?_
  rintro r v1 ⟨rfl, hb1⟩
  have HB1 := Lib.hid hb1
  clear hb1
  obtain ⟨fb, hfb⟩ : ∃ fb, fewN L = fb := ⟨_, rfl⟩
  have HF := few8_any w.heap.size a0 len0 cap0 L v1 (HS.out.below HB1.out) (by omega)
  rw [hfb] at HF
  have HF := Lib.hid HF
  have HFE : Hid (fb = true → len0 ≤ 20 ∧ (flatN (L.map Nt.nd)).length ≤ 900000 ∧ ∀ s ∈ L, s.de.n ≤ 500) := Lib.hid (fun e => few_end HS.out (hfb.trans e))
  clear hfb
  go_wp2_with fail
  refine HF.out.mono ?_
  rintro r v2 ⟨rfl, rfl⟩
  clear HF
  cases fb with
  | false =>
    go_wp2
    go_ret
    exact ⟨rfl, HB1.out⟩
  | true =>
    obtain ⟨hf1, hf2, -⟩ := HFE.out rfl
    have HP := Lib.hid (nput_any w.heap.size a0 len0 cap0 L v1 (HS.out.below HB1.out) HB1.out.size (by omega) hf2 hcap hcm)
    have HBD := Lib.hid (putN_bd HS.out.nds)
    have HMO := Lib.hid (fun w1 (h1 : Below w.heap.size w w1) => model8_any w.heap.size a0 len0 cap0 L w1 (HS.out.below h1) h1.size (by omega))
    have HRP := Lib.hid (fun w1 ua uc h1 => rput8_any w1.heap.size ua len0 uc L w1 h1 (Nat.le_refl _) (by omega) hf2)
    generalize putN (L.map Nt.nd) = Z at HP HBD HRP
    obtain ⟨te, zs⟩ := Z
    simp only at HBD
    clear hf2 HFE
    go_wp2_with fail
    refine HP.out.mono ?_
    rintro r v3 ⟨⟨u, rfl, ho⟩, hb3⟩
    obtain ⟨ba, bc, rfl, -, -, hm3⟩ := Rw.own ho HBD.out
    have HB3 := Lib.hid (HB1.out.trans (hb3.mono HB1.out.size))
    have HM3 := Lib.hid hm3
    clear ho hb3 hm3 HP
    go_wp2_with fail
    refine (HMO.out _ HB3.out).mono ?_
    rintro r v4 ⟨⟨ua, uc, rfl, -, -, hsl⟩, hb4⟩
    have HSL := Lib.hid hsl
    have HB4 := Lib.hid (HB3.out.trans (hb4.mono HB3.out.size))
    have HM4 := Lib.hid ((HM3.out.below hb4).more hb4.size)
    clear hsl hb4 HMO HM3
    go_wp2_with fail
    refine (HRP.out _ _ _ HSL.out).mono ?_
    rintro r v5 ⟨⟨u, rfl, ho⟩, hb5⟩
    obtain ⟨ca, cc, rfl, -, -, hm5⟩ := Rw.own ho HBD.out
    have HB5 := Lib.hid (HB4.out.trans (hb5.mono HB4.out.size))
    have hm4 := HM4.out.below hb5
    have hcv1 : (convert 25 9 (.slice ba zs.length bc)).run Try.prog v5 = .ok (.string (strOfNums zs)) v5 := hm4.conv bc
    have hcv2 : (convert 25 9 (.slice ca zs.length cc)).run Try.prog v5 = .ok (.string (strOfNums zs)) v5 := hm5.conv cc
    generalize strOfNums zs = S at hcv1 hcv2
    clear ho hb5 hm5 hm4 HRP HSL
    go_wp2
    go_ret
    exact ⟨rfl, HB5.out⟩

set_option maxRecDepth 100000 in
theorem lifted (os : Os) (started : os.Started) (H : Type) (enc : TypeId × Value → H) :
    ReturnsInHanded {} Try.checked os 3 .any (Rows.notesPutsSpec.pre6 enc Try.prog Try.f3 Rows.notesPutsRow.domain false) (Rows.notesPutsSpec.post enc Try.prog Try.f3 false true false false) := by
  refine returnsInHanded_of_change (C := Try.checked) own started (by kernel_rfl) Try.func3
    (ChangeSpec.witness6 (enc := enc) (C := Try.checked) false ⟨#[], #[.slice none 0 0], []⟩ 8 (by kernel_rfl) (by kernel_rfl) (by kernel_rfl) (by kernel_rfl)) ?_
  intro W base args ds gs before hval0 hW hcnd _
  have hval : ∀ (j : Nat) t v, Try.f3.params[j]? = some t → args[j]? = some v → Value.okWide Try.prog W .any base t v := hval0
  have hW' := hW
  obtain ⟨p, q, hA0, hV, rfl, hfz, hnd⟩ := hW
  have hA : DataW.TrodAll enc Try.prog W 0 (fun _ => true) true Try.f3.params.toList args.toList ds p := hA0
  rw [Try.params3] at hA hval
  obtain ⟨v0, vs0, d0, ds0, p0, q0, hargs, rfl, rfl, h0, r0⟩ := trodAll_cons hA
  obtain ⟨rfl, rfl, rfl⟩ := trodAll_nil r0
  obtain rfl : args = #[v0] := by cases args; simp_all
  obtain ⟨rfl, rfl⟩ := trodVars_none hV
  obtain ⟨a0, len0, cap0, rfl⟩ := okWide_slice Try.underlying22 (hval 0 22 v0 rfl rfl)
  have k0 := h0
  have lt0 : ∀ x ∈ p0, x.block < W.heap.size := by obtain ⟨m, hm⟩ := k0; exact DataW.trod_lt m _ _ _ hm
  obtain ⟨z0, w0⟩ : ∃ zs, Nt.Is W a0 len0 cap0 zs := by
    obtain ⟨fuel, hf⟩ := h0
    exact Nt.opens hf
  clear hA0 hval0
  refine (walk a0 len0 cap0 z0 W w0).mono fun e W' ⟨he, bel⟩ => ?_
  subst he
  exact ⟨_, rfl, _, _, _, [], _, [], hW', trodAll_mk1 (shut_bool Try.underlying4 _), (trodAll_cons_mk (Below.trod laidOut (by kernel_rfl) (of_decide_eq_true (by kernel_rfl)) k0 bel lt0) trodAll_mk0), rfl, bel.frame _, fun h => by cases h⟩

theorem over : Rows.notesPutsRow.holds Try.pinned (OpenSpec.ofChange Rows.notesPutsSpec) :=
  OpenClaim.holds_of_wide 3 Try.f3 rfl rfl rfl rfl rfl rfl rfl ⟨rfl, rfl, rfl, rfl, rfl⟩ rfl rfl rfl rfl rfl (by kernel_rfl) Try.func3 (by kernel_rfl)
    (of_decide_eq_true (by kernel_rfl)) (by unfold Func.isWrapper; first | (rw [if_pos (by decide +kernel)]; kernel_rfl) | (rw [if_neg (by decide +kernel)]; exact ⟨rfl, rfl⟩))
    (fun os started H enc _ => lifted os started H enc)

theorem proved : Rows.NotesPutsSaid := over
#print axioms proved
end Go.Proofs.Ytkgakdlalmmdiaa.notesPuts
