/-
  What is proved here: SegsPuts: any segment's bytes are the reference's, there and back.
  Conditions: none of our own; the law's row says what its input is.
-/
import Derived.Test.YtgomemienmchnaaRows
import Derived.Test.YtgomemienmchnaaSegAwake
import Derived.Test.YtgomemienmchnaaSegFrame
import Derived.Test.YtgomemienmchnaaFacts
import Derived.WalkKit
import Derived.ProofKit
import Derived.OpenShut
import Derived.ShutString
import Derived.ChangeOld
import Derived.Below
namespace Go.Proofs.Ytgomemienmchnaa.segsPuts
open Go.ChangeShapes Go.WideShapes Go.ChangeAt Go.RowKit
open Go.ChangeMaps (open_string shut_string)
set_option linter.unusedVariables false

theorem own : ownKnob Try.prog.godebug = none := by kernel_rfl
theorem laidOut : laidOutB Try.prog = true := by kernel_rfl

/-- A value that is known, in whatever world. -/
def Is (v : Value) : Value → World → Prop := fun u _ => u = v
/-- A slice that reads as zs. -/
def Reads (zs : List Int) (u : Value) (w : World) : Prop := ∃ a c, u = .slice a zs.length c ∧ Bys w w.heap.size a zs.length zs
def Stays (a b : World) : Prop := Below a.heap.size a b
theorem Stays.refl (a : World) : Stays a a := Below.refl _ _
theorem Stays.trans (a b c : World) (h : Stays a b) (k : Stays b c) : Stays a c := Below.trans h (k.mono h.size)
def regFs (g c : Nat) (zs : List Int) (S : ByteArray) (V : Value) : List (Value → World → Prop) :=
  [Is (.slice (some ⟨g, 0, none⟩) 56 c), Is (.string S), Is V, Reads zs, Is (.string S), Is (.bool true), Is (.bool true), Is (.int .i64 0), Is (.bool true), Is (.bool true), Is (.bool true), Is V, Is V, Is (.bool true), Is (.bool true), Is (.bool true)]
def regF (g c : Nat) (zs : List Int) (S : ByteArray) (V : Value) (i : Nat) : Value → World → Prop := (regFs g c zs S V).getD i fun _ _ => True
theorem regF_mono (g c : Nat) (zs : List Int) (S : ByteArray) (V : Value) : ∀ (i : Nat) (u : Value) (w w' : World), regF g c zs S V i u w → Stays w w' → regF g c zs S V i u w' := by
  intro i u w w' h hb
  unfold regF at *
  by_cases hi : i < (regFs g c zs S V).length
  · rw [List.getD_eq_getElem?_getD, List.getElem?_eq_getElem hi] at *
    have hm := List.getElem_mem hi
    generalize (regFs g c zs S V)[i] = f at *
    simp only [regFs, List.mem_cons, List.not_mem_nil, or_false] at hm
    rcases hm with rfl | rfl | rfl | rfl | rfl | rfl | rfl | rfl | rfl | rfl | rfl | rfl | rfl | rfl | rfl | rfl
    all_goals first
      | exact h
      | (obtain ⟨a, c', e, hm⟩ := h
         exact ⟨a, c', e, (hm.below hb).more hb.size⟩)
  · rw [List.getD_eq_getElem?_getD, List.getElem?_eq_none (by omega)]
    trivial
theorem fr32 (y : Nat → Value) : frameOf 32 y = #[y 0, y 1, y 2, y 3, y 4, y 5, y 6, y 7, y 8, y 9, y 10, y 11, y 12, y 13, y 14, y 15, y 16, y 17, y 18, y 19, y 20, y 21, y 22, y 23, y 24, y 25, y 26, y 27, y 28, y 29, y 30, y 31] := rfl
set_option maxRecDepth 100000 in
set_option maxHeartbeats 1600000 in
theorem walk (a0 : Sg) (w : World) (w0 : a0.Ok) :
    Calls Try.prog 3 #[a0.val] w fun e w' => e = .returned (.bool true) ∧ Below w.heap.size w w' := by
  have HP := Lib.hid (fun w1 => put_ok a0 w1 w0)
  have HRP := Lib.hid (fun w1 => rput_ok a0 w1 w0)
  have HG : Hid (∀ (w1 : World) (B g c : Nat), Bys w1 B (some ⟨g, 0, none⟩) 56 (encS a0) → B ≤ w1.heap.size → 56 ≤ c → (c : Int) ≤ 9223372036854775807 → Calls Try.prog 13 #[.slice (some ⟨g, 0, none⟩) 56 c] w1 fun r w' => r = .returned (.tuple #[a0.val, .int .i64 0]) ∧ Below w1.heap.size w1 w') := Lib.hid (fun w1 B g c h1 h2 h3 h4 =>
    getV_enc w0 ▸ sget_any B _ 56 c _ w1 h1 h2 h3 h4)
  have HEL := Lib.hid (encS_len a0)
  have HEB := Lib.hid (encS_bd a0)
  clear w0
  generalize encS a0 = zs at HP HRP HG HEL HEB
  obtain ⟨ty, fl, ot, va, fi, me, al⟩ := a0
  unfold Sg.val at *
  simp only at HP HRP HG ⊢
  have HB0 : Hid (Below w.heap.size w (w.alloc (.cells #[.int .u32 ty, .int .u32 fl, .int .u64 ot, .int .u64 va, .int .u64 fi, .int .u64 me, .int .u64 al] 25))) := Lib.hid ((Below.refl _ _).alloc (Nat.le_refl _) _)
  have HK : Hid (∀ w', Below (w.alloc (.cells #[.int .u32 ty, .int .u32 fl, .int .u64 ot, .int .u64 va, .int .u64 fi, .int .u64 me, .int .u64 al] 25)).heap.size (w.alloc (.cells #[.int .u32 ty, .int .u32 fl, .int .u64 ot, .int .u64 va, .int .u64 fi, .int .u64 me, .int .u64 al] 25)) w' → Blk w' w.heap.size #[.int .u32 ty, .int .u32 fl, .int .u64 ot, .int .u64 va, .int .u64 fi, .int .u64 me, .int .u64 al] 25) := Lib.hid (fun w' h => (Blk.new w _ _).later h)
  go_enter Try.func3, Try.ntmps3
  go_wp2_with fail
  refine (awake_any _).mono ?_
  rintro r v1 ⟨rfl, hb1⟩
  obtain ⟨q0, q1, q2, q3, q4, q5, q6⟩ := (HK.out _ hb1).c7
  have HA1 := Lib.hid hb1
  clear hb1
  go_wp2_with fail
  refine (HP.out _).mono ?_
  rintro r v2 ⟨⟨u, rfl, g, c, rfl, hc1, hc2, hm⟩, hb2⟩
  rw [HEL.out] at hm hc1 ⊢
  have HM := Lib.hid hm
  have HA2 := Lib.hid (HA1.out.trans (hb2.mono HA1.out.size))
  clear hm hb2
  go_wp2_with fail
  refine (HG.out _ _ _ _ HM.out (Nat.le_refl _) hc1 hc2).mono ?_
  rintro r v3 ⟨rfl, hb3⟩
  have HY : Hid (Below v2.heap.size v2 (v3.alloc (.cells #[.int .u32 ty, .int .u32 fl, .int .u64 ot, .int .u64 va, .int .u64 fi, .int .u64 me, .int .u64 al] 25))) := Lib.hid (hb3.alloc hb3.size _)
  have HA3 := Lib.hid (HA2.out.trans (HY.out.mono HA2.out.size))
  have HK3 : Hid (∀ w', Below (v3.alloc (.cells #[.int .u32 ty, .int .u32 fl, .int .u64 ot, .int .u64 va, .int .u64 fi, .int .u64 me, .int .u64 al] 25)).heap.size (v3.alloc (.cells #[.int .u32 ty, .int .u32 fl, .int .u64 ot, .int .u64 va, .int .u64 fi, .int .u64 me, .int .u64 al] 25)) w' → Blk w' v3.heap.size #[.int .u32 ty, .int .u32 fl, .int .u64 ot, .int .u64 va, .int .u64 fi, .int .u64 me, .int .u64 al] 25) := Lib.hid (fun w' h => (Blk.new v3 _ _).later h)
  clear hb3
  obtain ⟨S, hS⟩ : ∃ S, strOfNums zs = S := ⟨_, rfl⟩
  have HCV : Hid (∀ w2, Stays (v3.alloc (.cells #[.int .u32 ty, .int .u32 fl, .int .u64 ot, .int .u64 va, .int .u64 fi, .int .u64 me, .int .u64 al] 25)).drew w2 → (convert 27 9 (.slice (some ⟨g, 0, none⟩) 56 c)).run Try.prog w2 = .ok (.string S) w2) := Lib.hid (fun w2 h => by
    have h1 := (HM.out.below (HY.out.drew.trans (Below.mono h HY.out.size))).conv c
    rw [hS] at h1
    exact h1)
  have HB1 : Hid (∀ w2, Stays (v3.alloc (.cells #[.int .u32 ty, .int .u32 fl, .int .u64 ot, .int .u64 va, .int .u64 fi, .int .u64 me, .int .u64 al] 25)).drew w2 → Blk w2 w.heap.size #[.int .u32 ty, .int .u32 fl, .int .u64 ot, .int .u64 va, .int .u64 fi, .int .u64 me, .int .u64 al] 25 ∧ Blk w2 v3.heap.size #[.int .u32 ty, .int .u32 fl, .int .u64 ot, .int .u64 va, .int .u64 fi, .int .u64 me, .int .u64 al] 25) := Lib.hid (fun w2 h => ⟨HK.out _ (HA3.out.drew.trans (Below.mono h HA3.out.size)), (HK3.out _ ((Below.refl _ _).drew.trans h))⟩)
  go_wp2
  refine wp_region_facts (by kernel_rfl) Stays Stays.refl Stays.trans 32 rfl [17, 18, 19, 20, 21, 22, 23, 24, 25, 26, 27, 28, 29, 30, 31, 2] (regF g c zs S (.agg #[.int .u32 ty, .int .u32 fl, .int .u64 ot, .int .u64 va, .int .u64 fi, .int .u64 me, .int .u64 al])) (by kernel_rfl) (regF_mono g c zs S (.agg #[.int .u32 ty, .int .u32 fl, .int .u64 ot, .int .u64 va, .int .u64 fi, .int .u64 me, .int .u64 al])) ?steps ?fin
  case fin =>
    intro v w2 hb2 hF
    have h15 : v 15 = .bool true := hF 15 (by decide)
    have HBF : Hid (Below w.heap.size w w2) := Lib.hid (by
      have h1 := HA3.out.drew.trans (Below.mono hb2 HA3.out.size)
      exact HB0.out.trans (h1.mono HB0.out.size))
    clear hb2 hF
    simp only [putAll, List.set_cons_succ, List.set_cons_zero, Nat.reduceAdd, h15]
    go_wp2
    go_ret
    exact ⟨rfl, HBF.out⟩
  case steps =>
    refine ⟨?_, ?_, ?_, ?_, ?_, ?_, ?_, ?_, ?_, ?_, ?_, ?_, ?_, ?_, ?_, ?_, trivial⟩
    all_goals intro y w2 hb hy0 hp0
    all_goals have hy := Lib.hid hy0
    all_goals have hp := Lib.hid hp0
    all_goals have hst := Lib.hid hb
    all_goals clear hy0 hp0 hb
    · have e1 : y 4 = .slice (some ⟨g, 0, none⟩) 56 c := hy.out 4 (by decide)
      refine StepG.plain rfl fun K Q hK => ?_
      simp only [fr32] at hK ⊢
      rw [e1] at hK ⊢
      go_simp
      exact hK _ _ ⟨Stays.refl _, rfl⟩
    · have e1 : y 17 = .slice (some ⟨g, 0, none⟩) 56 c := hp.out 0 (by decide)
      have hcv := HCV.out _ hst.out
      refine StepG.plain rfl fun K Q hK => ?_
      simp only [fr32] at hK ⊢
      rw [e1] at hK ⊢
      go_simp
      exact hK _ _ ⟨Stays.refl _, rfl⟩
    · have e1 : y 1 = .pointer (some ⟨w.heap.size, 0, none⟩) := hy.out 1 (by decide)
      obtain ⟨q0, q1, q2, q3, q4, q5, q6⟩ := (HB1.out _ hst.out).1.c7
      refine StepG.plain rfl fun K Q hK => ?_
      simp only [fr32] at hK ⊢
      rw [e1] at hK ⊢
      go_simp
      exact hK _ _ ⟨Stays.refl _, rfl⟩
    · have e1 : y 19 = .agg #[.int .u32 ty, .int .u32 fl, .int .u64 ot, .int .u64 va, .int .u64 fi, .int .u64 me, .int .u64 al] := hp.out 2 (by decide)
      refine StepG.plain rfl fun K Q hK => ?_
      simp only [fr32] at hK ⊢
      rw [e1] at hK ⊢
      go_simp
      go_at_call 14
      refine (HRP.out _).mono ?_
      rintro r w3 ⟨⟨u, rfl, ho⟩, hb3⟩
      obtain ⟨ua, uc, rfl⟩ := own_slice ho
      have hby := Bys.own HEB.out ho
      exact hK _ w3 ⟨hb3, ua, uc, by rw [HEL.out], by rw [HEL.out]; exact hby⟩
    · obtain ⟨ua, uc, e1, hby⟩ : Reads zs (y 20) w2 := hp.out 3 (by decide)
      have hcv := hby.conv uc
      rw [hS] at hcv
      refine StepG.plain rfl fun K Q hK => ?_
      simp only [fr32] at hK ⊢
      rw [e1] at hK ⊢
      go_simp
      exact hK _ _ ⟨Stays.refl _, rfl⟩
    · have e1 : y 18 = .string S := hp.out 1 (by decide)
      have e2 : y 21 = .string S := hp.out 4 (by decide)
      refine StepG.plain rfl fun K Q hK => ?_
      simp only [fr32] at hK ⊢
      rw [e1, e2] at hK ⊢
      go_simp
      exact hK _ _ ⟨Stays.refl _, by first | rfl | simp [Is]⟩
    · have e1 : y 22 = .bool true := hp.out 5 (by decide)
      refine StepG.plain rfl fun K Q hK => ?_
      simp only [fr32] at hK ⊢
      rw [e1] at hK ⊢
      go_simp
      exact hK _ _ ⟨Stays.refl _, rfl⟩
    · have e1 : y 6 = .int .i64 0 := hy.out 6 (by decide)
      refine StepG.yes (b := true) (t := 23) rfl rfl rfl (by decide) (hp.out 6 (by decide)) fun K Q hK => ?_
      simp only [fr32] at hK ⊢
      rw [e1] at hK ⊢
      go_simp
      exact hK _ _ ⟨Stays.refl _, rfl⟩
    · have e1 : y 24 = .int .i64 0 := hp.out 7 (by decide)
      refine StepG.yes (b := true) (t := 23) rfl rfl rfl (by decide) (hp.out 6 (by decide)) fun K Q hK => ?_
      simp only [fr32] at hK ⊢
      rw [e1] at hK ⊢
      go_simp
      exact hK _ _ ⟨Stays.refl _, by first | rfl | simp [Is]⟩
    · have e1 : y 23 = .bool true := hp.out 6 (by decide)
      have e2 : y 25 = .bool true := hp.out 8 (by decide)
      refine StepG.plain rfl fun K Q hK => ?_
      simp only [fr32] at hK ⊢
      rw [e1, e2] at hK ⊢
      go_simp
      exact hK _ _ ⟨Stays.refl _, by first | rfl | simp [Is]⟩
    · have e1 : y 26 = .bool true := hp.out 9 (by decide)
      refine StepG.plain rfl fun K Q hK => ?_
      simp only [fr32] at hK ⊢
      rw [e1] at hK ⊢
      go_simp
      exact hK _ _ ⟨Stays.refl _, rfl⟩
    · have e1 : y 5 = .pointer (some ⟨v3.heap.size, 0, none⟩) := hy.out 5 (by decide)
      obtain ⟨q0, q1, q2, q3, q4, q5, q6⟩ := (HB1.out _ hst.out).2.c7
      refine StepG.yes (b := true) (t := 27) rfl rfl rfl (by decide) (hp.out 10 (by decide)) fun K Q hK => ?_
      simp only [fr32] at hK ⊢
      rw [e1] at hK ⊢
      go_simp
      exact hK _ _ ⟨Stays.refl _, rfl⟩
    · have e1 : y 1 = .pointer (some ⟨w.heap.size, 0, none⟩) := hy.out 1 (by decide)
      obtain ⟨q0, q1, q2, q3, q4, q5, q6⟩ := (HB1.out _ hst.out).1.c7
      refine StepG.yes (b := true) (t := 27) rfl rfl rfl (by decide) (hp.out 10 (by decide)) fun K Q hK => ?_
      simp only [fr32] at hK ⊢
      rw [e1] at hK ⊢
      go_simp
      exact hK _ _ ⟨Stays.refl _, rfl⟩
    · have e1 : y 28 = .agg #[.int .u32 ty, .int .u32 fl, .int .u64 ot, .int .u64 va, .int .u64 fi, .int .u64 me, .int .u64 al] := hp.out 11 (by decide)
      have e2 : y 29 = .agg #[.int .u32 ty, .int .u32 fl, .int .u64 ot, .int .u64 va, .int .u64 fi, .int .u64 me, .int .u64 al] := hp.out 12 (by decide)
      refine StepG.yes (b := true) (t := 27) rfl rfl rfl (by decide) (hp.out 10 (by decide)) fun K Q hK => ?_
      simp only [fr32] at hK ⊢
      rw [e1, e2] at hK ⊢
      go_simp
      exact hK _ _ ⟨Stays.refl _, by first | rfl | simp [Is]⟩
    · have e1 : y 27 = .bool true := hp.out 10 (by decide)
      have e2 : y 30 = .bool true := hp.out 13 (by decide)
      refine StepG.plain rfl fun K Q hK => ?_
      simp only [fr32] at hK ⊢
      rw [e1, e2] at hK ⊢
      go_simp
      exact hK _ _ ⟨Stays.refl _, by first | rfl | simp [Is]⟩
    · have e1 : y 31 = .bool true := hp.out 14 (by decide)
      refine StepG.plain rfl fun K Q hK => ?_
      simp only [fr32] at hK ⊢
      rw [e1] at hK ⊢
      go_simp
      exact hK _ _ ⟨Stays.refl _, rfl⟩

set_option maxRecDepth 100000 in
theorem lifted (os : Os) (started : os.Started) (H : Type) (enc : TypeId × Value → H) :
    ReturnsInHanded {} Try.checked os 3 .any (Rows.segsPutsSpec.pre6 enc Try.prog Try.f3 Rows.segsPutsRow.domain false) (Rows.segsPutsSpec.post enc Try.prog Try.f3 false true false false) := by
  refine returnsInHanded_of_change (C := Try.checked) own started (by kernel_rfl) Try.func3
    (ChangeSpec.witness6 (enc := enc) (C := Try.checked) false ⟨#[], #[.agg #[.int .u32 0, .int .u32 0, .int .u64 0, .int .u64 0, .int .u64 0, .int .u64 0, .int .u64 0]], []⟩ 8 (by kernel_rfl) (by kernel_rfl) (by kernel_rfl) (by kernel_rfl)) ?_
  intro W base args ds gs before hval0 hW hcnd _
  have hval : ∀ (j : Nat) t v, Try.f3.params[j]? = some t → args[j]? = some v → Value.okWide Try.prog W .any base t v := hval0
  have hW' := hW
  obtain ⟨p, q, hA0, hV, rfl, hfz, hnd⟩ := hW
  have hA : DataW.TrodAll enc Try.prog W 0 (fun _ => true) true Try.f3.params.toList args.toList ds p := hA0
  rw [Try.params3] at hA hval
  obtain ⟨v0, vs0, d0, ds0, p0, q0, hargs, rfl, rfl, h0, r0⟩ := trodAll_cons hA
  obtain ⟨rfl, rfl, rfl⟩ := trodAll_nil r0
  obtain rfl : args = #[v0] := by cases args; simp_all
  obtain ⟨rfl, rfl⟩ := trodVars_none hV
  obtain ⟨cs0, rfl, _⟩ := okWide_struct Try.underlying25 (hval 0 25 v0 rfl rfl)
  have k0 := h0
  have lt0 : ∀ x ∈ p0, x.block < W.heap.size := by obtain ⟨m, hm⟩ := k0; exact DataW.trod_lt m _ _ _ hm
  obtain ⟨a0, w0, rfl⟩ : ∃ s : Sg, s.Ok ∧ cs0 = s.cells := by
    obtain ⟨fuel, hf⟩ := h0
    exact open_seg hf
  clear hA0 hval0
  refine (walk a0 W w0).mono fun e W' ⟨he, bel⟩ => ?_
  subst he
  exact ⟨_, rfl, _, _, _, [], _, [], hW', trodAll_mk1 (shut_bool Try.underlying4 _), (trodAll_cons_mk (Below.trod laidOut (by kernel_rfl) (of_decide_eq_true (by kernel_rfl)) k0 bel lt0) trodAll_mk0), rfl, bel.frame _, fun h => by cases h⟩

theorem over : Rows.segsPutsRow.holds Try.pinned (OpenSpec.ofChange Rows.segsPutsSpec) :=
  OpenClaim.holds_of_wide 3 Try.f3 rfl rfl rfl rfl rfl rfl rfl ⟨rfl, rfl, rfl, rfl, rfl⟩ rfl rfl rfl rfl rfl (by kernel_rfl) Try.func3 (by kernel_rfl)
    (of_decide_eq_true (by kernel_rfl)) (by unfold Func.isWrapper; first | (rw [if_pos (by decide +kernel)]; kernel_rfl) | (rw [if_neg (by decide +kernel)]; exact ⟨rfl, rfl⟩))
    (fun os started H enc _ => lifted os started H enc)

theorem proved : Rows.SegsPutsSaid := over
#print axioms proved
end Go.Proofs.Ytgomemienmchnaa.segsPuts
