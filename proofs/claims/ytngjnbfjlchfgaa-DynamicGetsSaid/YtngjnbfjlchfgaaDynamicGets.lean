/-
  What is proved here: DynamicGets: any bytes tell what the reference says, or are refused with the same error.
  Conditions: none of our own; the law's row says what its input is.
-/
import Derived.Test.YtngjnbfjlchfgaaRows
import Derived.Test.YtngjnbfjlchfgaaDynEnd
import Derived.WalkKit
import Derived.ProofKit
import Derived.OpenShut
import Derived.ShutString
import Derived.ChangeOld
import Derived.Below
namespace Go.Proofs.Ytngjnbfjlchfgaa.dynamicGets
open Go.ChangeShapes Go.WideShapes Go.ChangeAt Go.RowKit
open Go.ChangeMaps (open_string shut_string)
set_option linter.unusedVariables false

theorem own : ownKnob Try.prog.godebug = none := by kernel_rfl
theorem laidOut : laidOutB Try.prog = true := by kernel_rfl

theorem fr33 (y : Nat → Value) : frameOf 33 y = #[y 0, y 1, y 2, y 3, y 4, y 5, y 6, y 7, y 8, y 9, y 10, y 11, y 12, y 13, y 14, y 15, y 16, y 17, y 18, y 19, y 20, y 21, y 22, y 23, y 24, y 25, y 26, y 27, y 28, y 29, y 30, y 31, y 32] := rfl
set_option maxRecDepth 100000 in
set_option maxHeartbeats 1600000 in
theorem walk (a0 : Option Addr) (len0 cap0 : Nat) (z0 : List Int) (w : World) (w0 : IsRow .u8 w a0 len0 cap0 z0) :
    Calls Try.prog 4 #[.slice a0 len0 cap0] w fun e w' => e = .returned (.bool true) ∧ Below w.heap.size w w' := by
  obtain ⟨hs, hcap, hcm⟩ := w0.bys
  have HS0 := Lib.hid hs
  clear w0 hs
  go_enter Try.func4, Try.ntmps4
  go_wp2_with fail
  refine (awake_any _).mono ?_
  rintro r v1 ⟨rfl, hb1⟩
  have HB1 := Lib.hid hb1
  clear hb1
  by_cases h4k : 4000 < len0
  · have h4i : (4000 : Int) < len0 := by omega
    go_wp2
    go_ret
    exact ⟨rfl, HB1.out⟩
  · have h4i : (len0 : Int) ≤ 4000 := by omega
    have HS : Hid (∀ w1, Below v1.heap.size v1 w1 → Bys w1 v1.heap.size a0 len0 (z0.take len0)) := Lib.hid (fun w1 h1 => (HS0.out.below (HB1.out.trans (h1.mono HB1.out.size))).more HB1.out.size)
    obtain ⟨E, S, hES⟩ : ∃ E S, getDy (z0.take len0) = (E, S) := ⟨_, _, rfl⟩
    have HG1 := Lib.hid (get5_any _ _ _ _ _ _ (HS.out _ (Below.refl _ _)) (Nat.le_refl _) (by omega) hcap hcm)
    have HG2 := Lib.hid (fun w1 h1 => rget5_any _ _ _ cap0 _ w1 (HS.out w1 h1) (Below.size h1) (by omega))
    rw [hES] at HG1 HG2
    clear hES
    go_wp2_with fail
    refine HG1.out.mono ?_
    rintro r v2 ⟨ht, hb2⟩
    obtain ⟨na, nn, nc, x0, x1, x2, x3, x4, x5, x6, hv, rfl, hnu, hnn, hvb⟩ := ht.parts
    have HB2 : Hid (Below v1.heap.size v1 (v2.alloc (.cells #[.slice na nn nc, .int .u64 x0, .int .u64 x1, .int .u64 x2, .int .u64 x3, .int .u64 x4, .int .u64 x5, .int .u64 x6] 27))) := Lib.hid (hb2.alloc hb2.size _)
    have HK2 : Hid (∀ w', Below (v2.alloc (.cells #[.slice na nn nc, .int .u64 x0, .int .u64 x1, .int .u64 x2, .int .u64 x3, .int .u64 x4, .int .u64 x5, .int .u64 x6] 27)).heap.size (v2.alloc (.cells #[.slice na nn nc, .int .u64 x0, .int .u64 x1, .int .u64 x2, .int .u64 x3, .int .u64 x4, .int .u64 x5, .int .u64 x6] 27)) w' → Blk w' v2.heap.size #[.slice na nn nc, .int .u64 x0, .int .u64 x1, .int .u64 x2, .int .u64 x3, .int .u64 x4, .int .u64 x5, .int .u64 x6] 27 ∧ Nus w' w'.heap.size na nn S.nd) := Lib.hid (fun w' h => ⟨(Blk.new _ _ _).later h, (((hnu.below ((Below.refl _ _).alloc (Nat.le_refl _) _)).more (by rw [World.size_alloc]; omega)).below h).more h.size⟩)
    have HNN := Lib.hid hnu.hl
    have HMD := Lib.hid (fun w1 => model_parts na nn nc x0 x1 x2 x3 x4 x5 x6 w1 (hv ▸ hvb))
    clear ht hb2 hnu hvb
    go_wp2_with fail
    refine (HG2.out _ HB2.out).mono ?_
    rintro r v3 ⟨⟨ra, rn, rc, ga, rfl, hnr, hng, hrn⟩, hb3⟩
    obtain rfl : nn = rn := by have h5 := hnr.hl; have h6 := HNN.out; omega
    rw [hv] at hng
    have HA : Hid (Below v1.heap.size v1 (v3.alloc (.cells #[.slice ra nn rc, .slice (some ⟨ga, 0, none⟩) 7 7] 32))) := Lib.hid (by
      have h := HB2.out.trans (hb3.mono HB2.out.size)
      exact h.alloc h.size _)
    have HBX : Hid (∀ w', Below (v3.alloc (.cells #[.slice ra nn rc, .slice (some ⟨ga, 0, none⟩) 7 7] 32)).heap.size (v3.alloc (.cells #[.slice ra nn rc, .slice (some ⟨ga, 0, none⟩) 7 7] 32)) w' → Blk w' v2.heap.size #[.slice na nn nc, .int .u64 x0, .int .u64 x1, .int .u64 x2, .int .u64 x3, .int .u64 x4, .int .u64 x5, .int .u64 x6] 27 ∧ Blk w' v3.heap.size #[.slice ra nn rc, .slice (some ⟨ga, 0, none⟩) 7 7] 32 ∧ Nus w' w'.heap.size na nn S.nd ∧ Nus w' w'.heap.size ra nn S.nd ∧ Nus w' w'.heap.size (some ⟨ga, 0, none⟩) 7 [x0, x1, x2, x3, x4, x5, x6]) := Lib.hid (fun w' h => by
      have h0 : Below v3.heap.size v3 (v3.alloc (.cells #[.slice ra nn rc, .slice (some ⟨ga, 0, none⟩) 7 7] 32)) := (Below.refl _ _).alloc (Nat.le_refl _) _
      have h1 := h0.trans (h.mono h0.size)
      have h2 := HK2.out w' (hb3.trans (h1.mono hb3.size))
      exact ⟨h2.1, (Blk.new _ _ _).later h, h2.2, (hnr.below h1).more h1.size, (hng.below h1).more h1.size⟩)
    clear hb3 hnr hng hv HK2 HG1 HG2 HB2 HNN
    go_wp2
    refine wp_region_facts (by kernel_rfl) Stays Stays.refl Stays.trans 33 rfl [24, 25, 26, 27, 28, 29, 30, 31, 32, 2] (factsOf [Is (.int .i64 E), Is (.int .i64 E), Is (.bool true), Is (.bool true), Is (.agg #[.slice na nn nc, .int .u64 x0, .int .u64 x1, .int .u64 x2, .int .u64 x3, .int .u64 x4, .int .u64 x5, .int .u64 x6]), Mdl na nn nc [x0, x1, x2, x3, x4, x5, x6], Is (.agg #[.slice ra nn rc, .slice (some ⟨ga, 0, none⟩) 7 7]), Is (.bool true), Is (.bool true), Is (.bool true)]) (by kernel_rfl) (factsOf_mono (mono_cons (Is.mono _) (mono_cons (Is.mono _) (mono_cons (Is.mono _) (mono_cons (Is.mono _) (mono_cons (Is.mono _) (mono_cons (Mdl.mono _ _ _ _) (mono_cons (Is.mono _) (mono_cons (Is.mono _) (mono_cons (Is.mono _) (mono_cons (Is.mono _) mono_nil))))))))))) ?steps24 ?fin24
    case fin24 =>
      intro v w2 hb2 hF
      have hlast : v 9 = .bool true := hF 9 (by decide)
      have HBF : Hid (Below w.heap.size w w2) := Lib.hid (by
        have h1 := HB1.out.trans (HA.out.mono HB1.out.size)
        exact h1.drew.trans (Below.mono hb2 h1.size))
      clear hb2 hF
      simp only [putAll, List.set_cons_succ, List.set_cons_zero, Nat.reduceAdd, hlast]
      go_wp2
      go_ret
      exact ⟨rfl, HBF.out⟩
    case steps24 =>
      refine ⟨?_, ?_, ?_, ?_, ?_, ?_, ?_, ?_, ?_, ?_, trivial⟩
      all_goals intro y w2 hb hy0 hp0
      all_goals have hy := Lib.hid hy0
      all_goals have hp := Lib.hid hp0
      all_goals have hst := Lib.hid hb
      all_goals clear hy0 hp0 hb
      · have e1 : y 5 = .int .i64 E := hy.out 5 (by decide)
        refine StepG.plain rfl fun K Q hK => ?_
        simp only [fr33] at hK ⊢
        rw [e1] at hK ⊢
        go_simp
        exact hK _ _ ⟨Stays.refl _, by first | rfl | simp [Is] | (simp [factsOf, Is]; done)⟩
      · have e1 : y 7 = .int .i64 E := hy.out 7 (by decide)
        refine StepG.plain rfl fun K Q hK => ?_
        simp only [fr33] at hK ⊢
        rw [e1] at hK ⊢
        go_simp
        exact hK _ _ ⟨Stays.refl _, by first | rfl | simp [Is] | (simp [factsOf, Is]; done)⟩
      · have e1 : y 24 = .int .i64 E := hp.out 0 (by decide)
        have e2 : y 25 = .int .i64 E := hp.out 1 (by decide)
        refine StepG.plain rfl fun K Q hK => ?_
        simp only [fr33] at hK ⊢
        rw [e1, e2] at hK ⊢
        go_simp
        exact hK _ _ ⟨Stays.refl _, by first | rfl | simp [Is] | (simp [factsOf, Is]; done)⟩
      · have e1 : y 26 = .bool true := hp.out 2 (by decide)
        refine StepG.plain rfl fun K Q hK => ?_
        simp only [fr33] at hK ⊢
        rw [e1] at hK ⊢
        go_simp
        exact hK _ _ ⟨Stays.refl _, by first | rfl | simp [Is] | (simp [factsOf, Is]; done)⟩
      · have e1 : y 4 = .pointer (some ⟨v2.heap.size, 0, none⟩) := hy.out 4 (by decide)
        obtain ⟨q0, q1, q2, q3, q4, q5, q6, q7⟩ := c8 (HBX.out _ ((Below.refl _ _).drew.trans hst.out)).1
        refine StepG.yes (b := true) (t := 27) rfl rfl rfl (by decide) (hp.out 3 (by decide)) fun K Q hK => ?_
        simp only [fr33] at hK ⊢
        rw [e1] at hK ⊢
        go_simp
        exact hK _ _ ⟨Stays.refl _, by first | rfl | simp [Is] | (simp [factsOf, Is]; done)⟩
      · have e1 : y 28 = .agg #[.slice na nn nc, .int .u64 x0, .int .u64 x1, .int .u64 x2, .int .u64 x3, .int .u64 x4, .int .u64 x5, .int .u64 x6] := hp.out 4 (by decide)
        refine StepG.yes (b := true) (t := 27) rfl rfl rfl (by decide) (hp.out 3 (by decide)) fun K Q hK => ?_
        simp only [fr33] at hK ⊢
        rw [e1] at hK ⊢
        go_simp
        go_at_call 12
        refine (HMD.out _).mono ?_
        rintro r w3 ⟨⟨u, rfl, hm⟩, hb3⟩
        exact hK _ w3 ⟨hb3, hm⟩
      · have e1 : y 6 = .pointer (some ⟨v3.heap.size, 0, none⟩) := hy.out 6 (by decide)
        obtain ⟨q0, q1⟩ := b2 (HBX.out _ ((Below.refl _ _).drew.trans hst.out)).2.1
        refine StepG.yes (b := true) (t := 27) rfl rfl rfl (by decide) (hp.out 3 (by decide)) fun K Q hK => ?_
        simp only [fr33] at hK ⊢
        rw [e1] at hK ⊢
        go_simp
        exact hK _ _ ⟨Stays.refl _, by first | rfl | simp [Is] | (simp [factsOf, Is]; done)⟩
      · have e2 : y 30 = .agg #[.slice ra nn rc, .slice (some ⟨ga, 0, none⟩) 7 7] := hp.out 6 (by decide)
        obtain ⟨gm, e1, hnm⟩ : Mdl na nn nc [x0, x1, x2, x3, x4, x5, x6] (y 29) w2 := hp.out 5 (by decide)
        obtain ⟨-, -, n1, n2, n3⟩ := (HBX.out _ ((Below.refl _ _).drew.trans hst.out))
        refine StepG.yes (b := true) (t := 27) rfl rfl rfl (by decide) (hp.out 3 (by decide)) fun K Q hK => ?_
        simp only [fr33] at hK ⊢
        rw [e1, e2] at hK ⊢
        go_simp
        go_at_call 15
        refine (same_yes _ _ _ _ _ _ _ _ _ _ _ _ _ n1 n2 hnm n3 (Nat.le_refl _) hnn).mono ?_
        rintro r w3 ⟨rfl, hb3⟩
        exact hK _ w3 ⟨hb3, rfl⟩
      · have e1 : y 27 = .bool true := hp.out 3 (by decide)
        have e2 : y 31 = .bool true := hp.out 7 (by decide)
        refine StepG.plain rfl fun K Q hK => ?_
        simp only [fr33] at hK ⊢
        rw [e1, e2] at hK ⊢
        go_simp
        exact hK _ _ ⟨Stays.refl _, by first | rfl | simp [Is] | (simp [factsOf, Is]; done)⟩
      · have e1 : y 32 = .bool true := hp.out 8 (by decide)
        refine StepG.plain rfl fun K Q hK => ?_
        simp only [fr33] at hK ⊢
        rw [e1] at hK ⊢
        go_simp
        exact hK _ _ ⟨Stays.refl _, by first | rfl | simp [Is] | (simp [factsOf, Is]; done)⟩

set_option maxRecDepth 100000 in
theorem lifted (os : Os) (started : os.Started) (H : Type) (enc : TypeId × Value → H) :
    ReturnsInHanded {} Try.checked os 4 .any (Rows.dynamicGetsSpec.pre6 enc Try.prog Try.f4 Rows.dynamicGetsRow.domain false) (Rows.dynamicGetsSpec.post enc Try.prog Try.f4 false true false false) := by
  refine returnsInHanded_of_change (C := Try.checked) own started (by kernel_rfl) Try.func4
    (ChangeSpec.witness6 (enc := enc) (C := Try.checked) false ⟨#[], #[.slice none 0 0], []⟩ 8 (by kernel_rfl) (by kernel_rfl) (by kernel_rfl) (by kernel_rfl)) ?_
  intro W base args ds gs before hval0 hW hcnd _
  have hval : ∀ (j : Nat) t v, Try.f4.params[j]? = some t → args[j]? = some v → Value.okWide Try.prog W .any base t v := hval0
  have hW' := hW
  obtain ⟨p, q, hA0, hV, rfl, hfz, hnd⟩ := hW
  have hA : DataW.TrodAll enc Try.prog W 0 (fun _ => true) true Try.f4.params.toList args.toList ds p := hA0
  rw [Try.params4] at hA hval
  obtain ⟨v0, vs0, d0, ds0, p0, q0, hargs, rfl, rfl, h0, r0⟩ := trodAll_cons hA
  obtain ⟨rfl, rfl, rfl⟩ := trodAll_nil r0
  obtain rfl : args = #[v0] := by cases args; simp_all
  obtain ⟨rfl, rfl⟩ := trodVars_none hV
  obtain ⟨a0, len0, cap0, rfl⟩ := okWide_slice Try.underlying28 (hval 0 28 v0 rfl rfl)
  have k0 := h0
  have lt0 : ∀ x ∈ p0, x.block < W.heap.size := by obtain ⟨m, hm⟩ := k0; exact DataW.trod_lt m _ _ _ hm
  obtain ⟨z0, w0⟩ : ∃ zs, IsRow .u8 W a0 len0 cap0 zs := by
    obtain ⟨fuel, hf⟩ := h0
    rcases open_ints Try.underlying28 Try.underlying5 (by kernel_rfl) hf with ⟨hcs, _⟩ | ⟨x, l, c, zs, hcs, _, hl, hm, hz, _, hcell, hwz⟩
    · simp [Value.cells] at hcs
      obtain ⟨rfl, rfl, rfl⟩ := hcs
      exact ⟨[], .inl ⟨rfl, rfl, rfl, rfl⟩⟩
    · simp [Value.cells] at hcs
      obtain ⟨rfl, rfl, rfl⟩ := hcs
      exact ⟨zs, .inr ⟨_, rfl, hl, hm, by simpa using hz, hcell, hwz⟩⟩
  clear hA0 hval0
  refine (walk a0 len0 cap0 z0 W w0).mono fun e W' ⟨he, bel⟩ => ?_
  subst he
  exact ⟨_, rfl, _, _, _, [], _, [], hW', trodAll_mk1 (shut_bool Try.underlying4 _), (trodAll_cons_mk (Below.trod laidOut (by kernel_rfl) (of_decide_eq_true (by kernel_rfl)) k0 bel lt0) trodAll_mk0), rfl, bel.frame _, fun h => by cases h⟩

theorem over : Rows.dynamicGetsRow.holds Try.pinned (OpenSpec.ofChange Rows.dynamicGetsSpec) :=
  OpenClaim.holds_of_wide 4 Try.f4 rfl rfl rfl rfl rfl rfl rfl ⟨rfl, rfl, rfl, rfl, rfl⟩ rfl rfl rfl rfl rfl (by kernel_rfl) Try.func4 (by kernel_rfl)
    (of_decide_eq_true (by kernel_rfl)) (by unfold Func.isWrapper; first | (rw [if_pos (by decide +kernel)]; kernel_rfl) | (rw [if_neg (by decide +kernel)]; exact ⟨rfl, rfl⟩))
    (fun os started H enc _ => lifted os started H enc)

theorem proved : Rows.DynamicGetsSaid := over
#print axioms proved
end Go.Proofs.Ytngjnbfjlchfgaa.dynamicGets
