/-
  What is proved here: SegsPlaces: where any address' bytes stand in the file is what the reference says, or refused; the first segment of any kind is the one that it says, or none.
  Conditions: none of our own; the law's row says what its input is.
-/
import Derived.Test.YtgomemienmchnaaRows
import Derived.Test.YtgomemienmchnaaSegAwake
import Derived.Test.YtgomemienmchnaaSegFrame
import Derived.Test.YtgomemienmchnaaSegFind
import Derived.WalkKit
import Derived.ProofKit
import Derived.OpenShut
import Derived.ShutString
import Derived.ChangeOld
import Derived.Below
namespace Go.Proofs.Ytgomemienmchnaa.segsPlaces
open Go.ChangeShapes Go.WideShapes Go.ChangeAt Go.RowKit
open Go.ChangeMaps (open_string shut_string)
set_option linter.unusedVariables false

theorem own : ownKnob Try.prog.godebug = none := by kernel_rfl
theorem laidOut : laidOutB Try.prog = true := by kernel_rfl

theorem placeV_form (L : List Sg) (addr size : Int) : ∃ p e, placeV L addr size = .tuple #[.int .u64 p, .int .i64 e] := by
  unfold placeV
  split
  · exact ⟨_, _, rfl⟩
  · split <;> exact ⟨_, _, rfl⟩
set_option maxRecDepth 100000 in
set_option maxHeartbeats 1600000 in
theorem walk (a0 : Option Addr) (len0 cap0 : Nat) (z0 : List Sg) (a1 : Int) (a2 : Int) (a3 : Int) (w : World) (w0 : IsSgs w a0 len0 cap0 z0) (w1 : (Lit.int .u64 a1).wf = true) (w2 : (Lit.int .u64 a2).wf = true) (w3 : (Lit.int .u32 a3).wf = true) :
    Calls Try.prog 7 #[.slice a0 len0 cap0, .int .u64 a1, .int .u64 a2, .int .u32 a3] w fun e w' => e = .returned (.bool true) ∧ Below w.heap.size w w' := by
  obtain ⟨s0, s1⟩ := bd_u64 w1
  obtain ⟨t0, t1⟩ := bd_u64 w2
  obtain ⟨hs, hcap, hcm⟩ := w0.sgs
  have HS := Lib.hid hs
  clear w0 w1 w2 w3 hs
  have hl : (len0 : Int) ≤ 9223372036854775807 := by omega
  go_enter Try.func7, Try.ntmps7
  go_wp2_with fail
  refine (awake_any _).mono ?_
  rintro r v1 ⟨rfl, hb1⟩
  have HB1 := Lib.hid hb1
  clear hb1
  by_cases h64 : 64 < len0
  · have h64i : (64 : Int) < len0 := by omega
    go_wp2
    go_ret
    exact ⟨rfl, HB1.out⟩
  · have h64i : (len0 : Int) ≤ 64 := by omega
    have HPL : Hid (∀ w1, Below w.heap.size w w1 → Calls Try.prog 20 #[.slice a0 len0 cap0, .int .u64 a1, .int .u64 a2] w1 fun r w' => r = .returned (placeV (z0.take len0) a1 a2) ∧ Below w1.heap.size w1 w') := Lib.hid (fun w1 h1 =>
      splace_any w.heap.size a0 len0 cap0 (z0.take len0) a1 a2 w1 (HS.out.below h1) h1.size hl s0 s1 t0 t1)
    have HRP : Hid (∀ w1, Below w.heap.size w w1 → Calls Try.prog 21 #[.slice a0 len0 cap0, .int .u64 a1, .int .u64 a2] w1 fun r w' => r = .returned (placeV (z0.take len0) a1 a2) ∧ Below w1.heap.size w1 w') := Lib.hid (fun w1 h1 =>
      rplace_any w.heap.size a0 len0 cap0 (z0.take len0) a1 a2 w1 (HS.out.below h1) h1.size hl s0 s1 t0 t1)
    have HFI : Hid (∀ w1, Below w.heap.size w w1 → Calls Try.prog 22 #[.slice a0 len0 cap0, .int .u32 a3] w1 fun r w' => r = .returned (.tuple #[foundV ((z0.take len0).find? (kindB a3)), .bool ((z0.take len0).find? (kindB a3)).isSome]) ∧ Below w1.heap.size w1 w') := Lib.hid (fun w1 h1 =>
      sfind_any w.heap.size a0 len0 cap0 (z0.take len0) a3 w1 (HS.out.below h1) h1.size hl)
    have HRF : Hid (∀ w1, Below w.heap.size w w1 → Calls Try.prog 23 #[.slice a0 len0 cap0, .int .u32 a3] w1 fun e w' => ((∃ i : Nat, i < len0 ∧ e = .returned (.int .i64 i) ∧ (z0.take len0).find? (kindB a3) = some ((z0.take len0).getD i sg0)) ∨ (e = .returned (.int .i64 (-1)) ∧ (z0.take len0).find? (kindB a3) = none)) ∧ w1 = w') := Lib.hid (fun w1 h1 =>
      rfind_any w.heap.size a0 len0 cap0 (z0.take len0) a3 w1 (HS.out.below h1) h1.size hl)
    generalize z0.take len0 = L at HS HPL HRP HFI HRF
    obtain ⟨p, e, hpe⟩ := placeV_form L a1 a2
    rw [hpe] at HPL HRP
    clear hpe
    go_wp2_with fail
    refine (HPL.out _ HB1.out).mono ?_
    rintro r v2 ⟨rfl, hb2⟩
    have HB2 := Lib.hid (HB1.out.trans (hb2.mono HB1.out.size))
    clear hb2
    go_wp2_with fail
    refine (HRP.out _ HB2.out).mono ?_
    rintro r v3 ⟨rfl, hb3⟩
    have HB3 := Lib.hid (HB2.out.trans (hb3.mono HB2.out.size))
    clear hb3
    cases hf : L.find? (kindB a3) with
    | none =>
      rw [hf] at HFI HRF
      clear hf
      unfold foundV Sg.val sg0 at HFI
      simp only [Option.isSome] at HFI
      go_wp2_with fail
      refine (HFI.out _ HB3.out).mono ?_
      rintro r v4 ⟨rfl, hb4⟩
      have HB4 : Hid (Below w.heap.size w (v4.alloc (.cells #[.int .u32 0, .int .u32 0, .int .u64 0, .int .u64 0, .int .u64 0, .int .u64 0, .int .u64 0] 25))) := Lib.hid (by
        have h := HB3.out.trans (hb4.mono HB3.out.size)
        exact h.alloc h.size _)
      clear hb4
      go_wp2_with fail
      refine (HRF.out _ HB4.out).mono ?_
      rintro r v5 ⟨⟨i, _, _, h⟩ | ⟨rfl, _⟩, rfl⟩
      · cases h
      · go_wp2
        go_ret
        exact ⟨ret_bool (by simp), HB4.out⟩
    | some s =>
      rw [hf] at HFI HRF
      clear hf
      obtain ⟨ty, fl, ot, va, fi, me, al⟩ := s
      unfold foundV Sg.val at HFI
      simp only [Option.isSome] at HFI
      go_wp2_with fail
      refine (HFI.out _ HB3.out).mono ?_
      rintro r v4 ⟨rfl, hb4⟩
      have HB4 : Hid (Below w.heap.size w (v4.alloc (.cells #[.int .u32 ty, .int .u32 fl, .int .u64 ot, .int .u64 va, .int .u64 fi, .int .u64 me, .int .u64 al] 25))) := Lib.hid (by
        have h := HB3.out.trans (hb4.mono HB3.out.size)
        exact h.alloc h.size _)
      clear hb4
      go_wp2_with fail
      refine (HRF.out _ HB4.out).mono ?_
      rintro r v5 ⟨⟨i, hi, rfl, h⟩ | ⟨_, h⟩, rfl⟩
      · injection h with h
        obtain ⟨b, off, rfl, hbB, hcell⟩ := HS.out.hc (by omega)
        have hsev := (hcell i hi).below HB4.out hbB
        rw [← h] at hsev
        obtain ⟨c0, c1, c2, c3, c4, c5, c6⟩ := hsev
        simp only at c0 c1 c2 c3 c4 c5 c6
        have hii : (i : Int) < len0 := by omega
        have HBF := Lib.hid HB4.out
        clear hcell h
        go_wp2
        go_quiet (fail)
        go_wp2
        go_ret
        exact ⟨ret_bool (by simp), below_drewN HBF.out _⟩
      · cases h

set_option maxRecDepth 100000 in
theorem lifted (os : Os) (started : os.Started) (H : Type) (enc : TypeId × Value → H) :
    ReturnsInHanded {} Try.checked os 7 .any (Rows.segsPlacesSpec.pre6 enc Try.prog Try.f7 Rows.segsPlacesRow.domain false) (Rows.segsPlacesSpec.post enc Try.prog Try.f7 false true false false) := by
  refine returnsInHanded_of_change (C := Try.checked) own started (by kernel_rfl) Try.func7
    (ChangeSpec.witness6 (enc := enc) (C := Try.checked) false ⟨#[], #[.slice none 0 0, .int .u64 0, .int .u64 0, .int .u32 0], []⟩ 8 (by kernel_rfl) (by kernel_rfl) (by kernel_rfl) (by kernel_rfl)) ?_
  intro W base args ds gs before hval0 hW hcnd _
  have hval : ∀ (j : Nat) t v, Try.f7.params[j]? = some t → args[j]? = some v → Value.okWide Try.prog W .any base t v := hval0
  have hW' := hW
  obtain ⟨p, q, hA0, hV, rfl, hfz, hnd⟩ := hW
  have hA : DataW.TrodAll enc Try.prog W 0 (fun _ => true) true Try.f7.params.toList args.toList ds p := hA0
  rw [Try.params7] at hA hval
  obtain ⟨v0, vs0, d0, ds0, p0, q0, hargs, rfl, rfl, h0, r0⟩ := trodAll_cons hA
  obtain ⟨v1, vs1, d1, ds1, p1, q1, rfl, rfl, rfl, h1, r1⟩ := trodAll_cons r0
  obtain ⟨v2, vs2, d2, ds2, p2, q2, rfl, rfl, rfl, h2, r2⟩ := trodAll_cons r1
  obtain ⟨v3, vs3, d3, ds3, p3, q3, rfl, rfl, rfl, h3, r3⟩ := trodAll_cons r2
  obtain ⟨rfl, rfl, rfl⟩ := trodAll_nil r3
  obtain rfl : args = #[v0, v1, v2, v3] := by cases args; simp_all
  obtain ⟨rfl, rfl⟩ := trodVars_none hV
  obtain ⟨a0, len0, cap0, rfl⟩ := okWide_slice Try.underlying33 (hval 0 33 v0 rfl rfl)
  have k0 := h0
  have lt0 : ∀ x ∈ p0, x.block < W.heap.size := by obtain ⟨m, hm⟩ := k0; exact DataW.trod_lt m _ _ _ hm
  obtain ⟨z0, w0⟩ : ∃ zs, IsSgs W a0 len0 cap0 zs := by
    obtain ⟨fuel, hf⟩ := h0
    exact open_segs hf
  obtain ⟨a1, rfl, rfl, rfl, w1⟩ := open_int Try.underlying23 (hval 1 23 v1 rfl rfl) h1
  obtain ⟨a2, rfl, rfl, rfl, w2⟩ := open_int Try.underlying23 (hval 2 23 v2 rfl rfl) h2
  obtain ⟨a3, rfl, rfl, rfl, w3⟩ := open_int Try.underlying22 (hval 3 22 v3 rfl rfl) h3
  clear hA0 hval0
  refine (walk a0 len0 cap0 z0 a1 a2 a3 W w0 w1 w2 w3).mono fun e W' ⟨he, bel⟩ => ?_
  subst he
  exact ⟨_, rfl, _, _, _, [], _, [], hW', trodAll_mk1 (shut_bool Try.underlying4 _), (trodAll_cons_mk (Below.trod laidOut (by kernel_rfl) (of_decide_eq_true (by kernel_rfl)) k0 bel lt0) (trodAll_cons_mk (shut_int Try.underlying23 w1) (trodAll_cons_mk (shut_int Try.underlying23 w2) (trodAll_cons_mk (shut_int Try.underlying22 w3) trodAll_mk0)))), rfl, bel.frame _, fun h => by cases h⟩

theorem over : Rows.segsPlacesRow.holds Try.pinned (OpenSpec.ofChange Rows.segsPlacesSpec) :=
  OpenClaim.holds_of_wide 7 Try.f7 rfl rfl rfl rfl rfl rfl rfl ⟨rfl, rfl, rfl, rfl, rfl⟩ rfl rfl rfl rfl rfl (by kernel_rfl) Try.func7 (by kernel_rfl)
    (of_decide_eq_true (by kernel_rfl)) (by unfold Func.isWrapper; first | (rw [if_pos (by decide +kernel)]; kernel_rfl) | (rw [if_neg (by decide +kernel)]; exact ⟨rfl, rfl⟩))
    (fun os started H enc _ => lifted os started H enc)

theorem proved : Rows.SegsPlacesSaid := over
#print axioms proved
end Go.Proofs.Ytgomemienmchnaa.segsPlaces
