/-
  What is proved here: NotesGets: any bytes are the notes that the reference says, or refused with the same error.
  Conditions: none of our own; the law's row says what its input is.
-/
import Derived.Test.YtkgakdlalmmdiaaRows
import Derived.Test.YtkgakdlalmmdiaaNotEnd
import Derived.Test.YtkgakdlalmmdiaaNotFrame
import Derived.Test.YtkgakdlalmmdiaaApp
import Derived.WalkKit
import Derived.ProofKit
import Derived.OpenShut
import Derived.ShutString
import Derived.ChangeOld
import Derived.Below
namespace Go.Proofs.Ytkgakdlalmmdiaa.notesGets
open Go.ChangeShapes Go.WideShapes Go.ChangeAt Go.RowKit
open Go.ChangeMaps (open_string shut_string)
set_option linter.unusedVariables false

theorem own : ownKnob Try.prog.godebug = none := by kernel_rfl
theorem laidOut : laidOutB Try.prog = true := by kernel_rfl

set_option maxRecDepth 100000 in
set_option maxHeartbeats 1600000 in
theorem walk (a0 : Option Addr) (len0 cap0 : Nat) (z0 : List Int) (w : World) (w0 : IsRow .u8 w a0 len0 cap0 z0) :
    Calls Try.prog 4 #[.slice a0 len0 cap0] w fun e w' => e = .returned (.bool true) ∧ Below w.heap.size w w' := by
  obtain ⟨hs, hcap, hcm⟩ := w0.bys
  generalize z0.take len0 = ZZ at hs
  have HS := Lib.hid hs
  clear w0 hs
  go_enter Try.func4, Try.ntmps4
  go_wp2_with fail
  refine (awake_any _).mono ?_
  rintro r v1 ⟨rfl, hb1⟩
  have HB1 := Lib.hid hb1
  clear hb1
  by_cases h5k : 5000 < len0
  · have h5i : (5000 : Int) < len0 := by omega
    go_wp2
    go_ret
    exact ⟨rfl, HB1.out⟩
  · have h5i : (len0 : Int) ≤ 5000 := by omega
    have HS1 := Lib.hid ((HS.out.below HB1.out).more HB1.out.size)
    have HG := Lib.hid (nget_any _ a0 len0 cap0 _ v1 HS1.out (Nat.le_refl _) hcap hcm)
    have HRG := Lib.hid (fun w1 (h1 : Below v1.heap.size v1 w1) => rget8_any _ a0 len0 cap0 _ w1 ((HS1.out.below h1).more h1.size) (Nat.le_refl _) hcap hcm)
    have HMX := Lib.hid (getN_max HS1.out.2.1)
    have HZL := Lib.hid HS1.out.1
    generalize getN ZZ = Z at HG HRG HMX
    obtain ⟨te, D⟩ := Z
    simp only at HMX
    clear HS HS1
    go_wp2_with fail
    refine HG.out.mono ?_
    rintro r x1 ⟨⟨la, lc, M, rfl, hlc2, hlc1, hsl, hM⟩, hb1⟩
    have hM2 : M.length = D.length := by have := congrArg List.length hM; simpa using this
    have HSL := Lib.hid hsl
    have HX1 := Lib.hid hb1
    have HM := Lib.hid hM
    clear hsl hb1 hM HG
    go_wp2_with fail
    refine (HRG.out _ HX1.out).mono ?_
    rintro r x2 ⟨⟨ra, rc, N, rfl, hrc2, hrc1, hsr, hN⟩, hb2⟩
    have hN2 : N.length = D.length := by have := congrArg List.length hN; simpa using this
    have HSL2 := Lib.hid ((HSL.out.below hb2).more hb2.size)
    have HSR := Lib.hid hsr
    have HX2 := Lib.hid (HX1.out.trans (hb2.mono HX1.out.size))
    have HN := Lib.hid hN
    have HDL := Lib.hid HMX.out
    rw [hM2] at HSL2 hlc1
    rw [hN2] at HSR hrc1 ⊢
    have hd1 : D.length ≤ 1000000 := by have := HDL.out; have := HZL.out; omega
    have HD : Hid (M.map Nt.nd = N.map Nt.nd) := Lib.hid (by rw [HM.out, HN.out])
    generalize D.length = m at HSL2 HSR hlc1 hrc1 hd1 hM2 hN2 HDL
    clear hsr hb2 hN HRG HX1 HSL HMX HDL HM HN hM2 hN2
    go_wp2_with fail
    refine (model8_any _ la m lc M x2 HSL2.out (Nat.le_refl _) hd1).mono ?_
    rintro r x3 ⟨⟨ua, uc, rfl, huc1, huc2, hsu⟩, hb3⟩
    have HSU := Lib.hid hsu
    have HSR3 := Lib.hid ((HSR.out.below hb3).more hb3.size)
    have HX3 := Lib.hid (HX2.out.trans (hb3.mono HX2.out.size))
    clear hsu hb3 HSR HX2 HSL2
    go_wp2_with fail
    refine (same8_any _ ua ra m uc m rc M N x3 true HSU.out HSR3.out (Nat.le_refl _) (by omega) (by omega) ⟨fun _ => HD.out, fun _ => rfl⟩).mono ?_
    rintro r x4 ⟨rfl, hb4⟩
    have HX4 := Lib.hid (HX3.out.trans (hb4.mono HX3.out.size))
    clear hb4
    go_wp2
    go_ret
    exact ⟨rfl, HB1.out.trans (HX4.out.mono HB1.out.size)⟩

set_option maxRecDepth 100000 in
theorem lifted (os : Os) (started : os.Started) (H : Type) (enc : TypeId × Value → H) :
    ReturnsInHanded {} Try.checked os 4 .any (Rows.notesGetsSpec.pre6 enc Try.prog Try.f4 Rows.notesGetsRow.domain false) (Rows.notesGetsSpec.post enc Try.prog Try.f4 false true false false) := by
  refine returnsInHanded_of_change (C := Try.checked) own started (by kernel_rfl) Try.func4
    (ChangeSpec.witness6 (enc := enc) (C := Try.checked) false ⟨#[], #[.slice none 0 0], []⟩ 8 (by kernel_rfl) (by kernel_rfl) (by kernel_rfl) (by kernel_rfl)) ?_
  intro W base args ds gs before hval0 hW hcnd _
  have hval : ∀ (j : Nat) t v, Try.f4.params[j]? = some t → args[j]? = some v → Value.okWide Try.prog W .any base t v := hval0
  have hW' := hW
  obtain ⟨p, q, hA0, hV, rfl, hfz, hnd⟩ := hW
  have hA : DataW.TrodAll enc Try.prog W 0 (fun _ => true) true Try.f4.params.toList args.toList ds p := hA0
  rw [Try.params4] at hA hval
  obtain ⟨v0, vs0, d0, ds0, p0, q0, hargs, rfl, rfl, h0, r0⟩ := trodAll_cons hA
  obtain ⟨rfl, rfl, rfl⟩ := trodAll_nil r0
  obtain rfl : args = #[v0] := by cases args; simp_all
  obtain ⟨rfl, rfl⟩ := trodVars_none hV
  obtain ⟨a0, len0, cap0, rfl⟩ := okWide_slice Try.underlying25 (hval 0 25 v0 rfl rfl)
  have k0 := h0
  have lt0 : ∀ x ∈ p0, x.block < W.heap.size := by obtain ⟨m, hm⟩ := k0; exact DataW.trod_lt m _ _ _ hm
  obtain ⟨z0, w0⟩ : ∃ zs, IsRow .u8 W a0 len0 cap0 zs := by
    obtain ⟨fuel, hf⟩ := h0
    rcases open_ints Try.underlying25 Try.underlying5 (by kernel_rfl) hf with ⟨hcs, _⟩ | ⟨x, l, c, zs, hcs, _, hl, hm, hz, _, hcell, hwz⟩
    · simp [Value.cells] at hcs
      obtain ⟨rfl, rfl, rfl⟩ := hcs
      exact ⟨[], .inl ⟨rfl, rfl, rfl, rfl⟩⟩
    · simp [Value.cells] at hcs
      obtain ⟨rfl, rfl, rfl⟩ := hcs
      exact ⟨zs, .inr ⟨_, rfl, hl, hm, by simpa using hz, hcell, hwz⟩⟩
  clear hA0 hval0
  refine (walk a0 len0 cap0 z0 W w0).mono fun e W' ⟨he, bel⟩ => ?_
  subst he
  exact ⟨_, rfl, _, _, _, [], _, [], hW', trodAll_mk1 (shut_bool Try.underlying4 _), (trodAll_cons_mk (Below.trod laidOut (by kernel_rfl) (of_decide_eq_true (by kernel_rfl)) k0 bel lt0) trodAll_mk0), rfl, bel.frame _, fun h => by cases h⟩

theorem over : Rows.notesGetsRow.holds Try.pinned (OpenSpec.ofChange Rows.notesGetsSpec) :=
  OpenClaim.holds_of_wide 4 Try.f4 rfl rfl rfl rfl rfl rfl rfl ⟨rfl, rfl, rfl, rfl, rfl⟩ rfl rfl rfl rfl rfl (by kernel_rfl) Try.func4 (by kernel_rfl)
    (of_decide_eq_true (by kernel_rfl)) (by unfold Func.isWrapper; first | (rw [if_pos (by decide +kernel)]; kernel_rfl) | (rw [if_neg (by decide +kernel)]; exact ⟨rfl, rfl⟩))
    (fun os started H enc _ => lifted os started H enc)

theorem proved : Rows.NotesGetsSaid := over
#print axioms proved
end Go.Proofs.Ytkgakdlalmmdiaa.notesGets
