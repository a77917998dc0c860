/-
  What is proved here: DynamicPuts: the entries' bytes of anything are the reference's.
  Conditions: none of our own; the law's row says what its input is.
-/
import Derived.Test.YtngjnbfjlchfgaaRows
import Derived.Test.YtngjnbfjlchfgaaDynEnd
import Derived.Test.YtngjnbfjlchfgaaArr
import Derived.WalkKit
import Derived.ProofKit
import Derived.OpenShut
import Derived.ShutString
import Derived.ChangeOld
import Derived.Below
namespace Go.Proofs.Ytngjnbfjlchfgaa.dynamicPuts
open Go.ChangeShapes Go.WideShapes Go.ChangeAt Go.RowKit
open Go.ChangeMaps (open_string shut_string)
set_option linter.unusedVariables false

theorem own : ownKnob Try.prog.godebug = none := by kernel_rfl
theorem laidOut : laidOutB Try.prog = true := by kernel_rfl

theorem fr37 (y : Nat → Value) : frameOf 37 y = #[y 0, y 1, y 2, y 3, y 4, y 5, y 6, y 7, y 8, y 9, y 10, y 11, y 12, y 13, y 14, y 15, y 16, y 17, y 18, y 19, y 20, y 21, y 22, y 23, y 24, y 25, y 26, y 27, y 28, y 29, y 30, y 31, y 32, y 33, y 34, y 35, y 36] := rfl
set_option maxRecDepth 100000 in
set_option maxHeartbeats 1600000 in
theorem walk (a0 : Option Addr) (len0 cap0 : Nat) (z0 : List Int) (z1 : List Int) (w : World) (w0 : IsRow .u64 w a0 len0 cap0 z0) (w1 : IsArr .u64 7 z1) :
    Calls Try.prog 3 #[.slice a0 len0 cap0, .agg (z1.map (Value.int .u64)).toArray] w fun e w' => e = .returned (.bool true) ∧ Below w.heap.size w w' := by
  obtain ⟨hs, hcap, hcm⟩ := w0.nus
  obtain ⟨x0, x1, x2, x3, x4, x5, x6, rfl⟩ := list7 w1.1
  have hvb : ∀ x ∈ [x0, x1, x2, x3, x4, x5, x6], 0 ≤ x ∧ x ≤ 18446744073709551615 := fun x hx => bd_u64 (w1.2 x hx)
  have HS0 := Lib.hid hs
  have HVB := Lib.hid hvb
  have HW0 : Hid (Below w.heap.size w (w.alloc (.cells #[.int .u64 x0, .int .u64 x1, .int .u64 x2, .int .u64 x3, .int .u64 x4, .int .u64 x5, .int .u64 x6] 24))) := Lib.hid ((Below.refl _ _).alloc (Nat.le_refl _) _)
  have HKA : Hid (∀ w', Below (w.alloc (.cells #[.int .u64 x0, .int .u64 x1, .int .u64 x2, .int .u64 x3, .int .u64 x4, .int .u64 x5, .int .u64 x6] 24)).heap.size (w.alloc (.cells #[.int .u64 x0, .int .u64 x1, .int .u64 x2, .int .u64 x3, .int .u64 x4, .int .u64 x5, .int .u64 x6] 24)) w' → Blk w' w.heap.size #[.int .u64 x0, .int .u64 x1, .int .u64 x2, .int .u64 x3, .int .u64 x4, .int .u64 x5, .int .u64 x6] 24) := Lib.hid (fun w' h => (Blk.new _ _ _).later h)
  clear w0 w1 hs hvb
  simp only [List.map_cons, List.map_nil]
  go_enter Try.func3, Try.ntmps3
  go_wp2_with fail
  refine (awake_any _).mono ?_
  rintro r v1 ⟨rfl, hb1⟩
  have HB1 := Lib.hid (HW0.out.trans (hb1.mono HW0.out.size))
  obtain ⟨p0, p1, p2, p3, p4, p5, p6⟩ := k7 (HKA.out _ hb1)
  clear hb1
  by_cases h4k : 100 < len0
  · have h4i : (100 : Int) < len0 := by omega
    go_wp2
    go_ret
    exact ⟨rfl, HB1.out⟩
  · have h4i : (len0 : Int) ≤ 100 := by omega
    have HA : Hid (Below w.heap.size w (v1.alloc (.cells #[.slice a0 len0 cap0, .int .u64 x0, .int .u64 x1, .int .u64 x2, .int .u64 x3, .int .u64 x4, .int .u64 x5, .int .u64 x6] 27))) := Lib.hid (HB1.out.alloc HB1.out.size _)
    have HBX : Hid (∀ w', Below (v1.alloc (.cells #[.slice a0 len0 cap0, .int .u64 x0, .int .u64 x1, .int .u64 x2, .int .u64 x3, .int .u64 x4, .int .u64 x5, .int .u64 x6] 27)).heap.size (v1.alloc (.cells #[.slice a0 len0 cap0, .int .u64 x0, .int .u64 x1, .int .u64 x2, .int .u64 x3, .int .u64 x4, .int .u64 x5, .int .u64 x6] 27)) w' → Blk w' v1.heap.size #[.slice a0 len0 cap0, .int .u64 x0, .int .u64 x1, .int .u64 x2, .int .u64 x3, .int .u64 x4, .int .u64 x5, .int .u64 x6] 27 ∧ Nus w' w'.heap.size a0 len0 (z0.take len0)) := Lib.hid (fun w' h =>
      ⟨(Blk.new _ _ _).later h, by
        have h1 := HA.out.trans (h.mono HA.out.size)
        exact (HS0.out.below h1).more h1.size⟩)
    have HMD := Lib.hid (fun w1 => model_parts a0 len0 cap0 x0 x1 x2 x3 x4 x5 x6 w1 HVB.out)
    have HPB := Lib.hid (putBy_bd (z0.take len0) [x0, x1, x2, x3, x4, x5, x6])
    have HPU := Lib.hid (fun w1 h => put_parts (World.heap w1).size a0 len0 cap0 (z0.take len0) x0 x1 x2 x3 x4 x5 x6 w1 h HVB.out (Nat.le_refl _) (by omega))
    have HRP := Lib.hid (fun w1 g h1 h2 => rput5_ok (World.heap w1).size a0 (some ⟨g, 0, none⟩) len0 cap0 7 (z0.take len0) [x0, x1, x2, x3, x4, x5, x6] w1 h1 h2 (Nat.le_refl _) (by omega))
    generalize putBy (z0.take len0) [x0, x1, x2, x3, x4, x5, x6] = zs at HPB HPU HRP
    obtain ⟨ST, hST⟩ : ∃ ST, strOfNums zs = ST := ⟨_, rfl⟩
    go_wp2
    refine wp_region_facts (by kernel_rfl) Stays Stays.refl Stays.trans 37 rfl [29, 30, 31, 32, 33, 34, 35, 36, 4] (factsOf [Is (.agg #[.slice a0 len0 cap0, .int .u64 x0, .int .u64 x1, .int .u64 x2, .int .u64 x3, .int .u64 x4, .int .u64 x5, .int .u64 x6]), Reads zs, Is (.string ST), Is (.agg #[.slice a0 len0 cap0, .int .u64 x0, .int .u64 x1, .int .u64 x2, .int .u64 x3, .int .u64 x4, .int .u64 x5, .int .u64 x6]), Mdl a0 len0 cap0 [x0, x1, x2, x3, x4, x5, x6], Reads zs, Is (.string ST), Is (.bool true), Is (.bool true)]) (by kernel_rfl) (factsOf_mono (mono_cons (Is.mono _) (mono_cons (Reads.mono _) (mono_cons (Is.mono _) (mono_cons (Is.mono _) (mono_cons (Mdl.mono _ _ _ _) (mono_cons (Reads.mono _) (mono_cons (Is.mono _) (mono_cons (Is.mono _) (mono_cons (Is.mono _) mono_nil)))))))))) ?steps29 ?fin29
    case fin29 =>
      intro v w2 hb2 hF
      have hlast : v 8 = .bool true := hF 8 (by decide)
      have HBF : Hid (Below w.heap.size w w2) := Lib.hid (HA.out.drew.trans (Below.mono hb2 HA.out.size))
      clear hb2 hF
      simp only [putAll, List.set_cons_succ, List.set_cons_zero, Nat.reduceAdd, hlast]
      go_wp2
      go_ret
      exact ⟨rfl, HBF.out⟩
    case steps29 =>
      refine ⟨?_, ?_, ?_, ?_, ?_, ?_, ?_, ?_, ?_, trivial⟩
      all_goals intro y w2 hb hy0 hp0
      all_goals have hy := Lib.hid hy0
      all_goals have hp := Lib.hid hp0
      all_goals have hst := Lib.hid hb
      all_goals clear hy0 hp0 hb
      · have e1 : y 6 = .pointer (some ⟨v1.heap.size, 0, none⟩) := hy.out 6 (by decide)
        obtain ⟨q0, q1, q2, q3, q4, q5, q6, q7⟩ := c8 (HBX.out _ ((Below.refl _ _).drew.trans hst.out)).1
        refine StepG.plain rfl fun K Q hK => ?_
        simp only [fr37] at hK ⊢
        rw [e1] at hK ⊢
        go_simp
        exact hK _ _ ⟨Stays.refl _, by first | rfl | simp [Is] | (simp [factsOf, Is]; done)⟩
      · have e1 : y 29 = .agg #[.slice a0 len0 cap0, .int .u64 x0, .int .u64 x1, .int .u64 x2, .int .u64 x3, .int .u64 x4, .int .u64 x5, .int .u64 x6] := hp.out 0 (by decide)
        refine StepG.plain rfl fun K Q hK => ?_
        simp only [fr37] at hK ⊢
        rw [e1] at hK ⊢
        go_simp
        go_at_call 10
        refine (HPU.out _ (HBX.out _ ((Below.refl _ _).drew.trans hst.out)).2).mono ?_
        rintro r w3 ⟨⟨u, rfl, hm⟩, hb3⟩
        exact hK _ w3 ⟨hb3, own_Reads hm HPB.out⟩
      · obtain ⟨ua, uc, e1, hby⟩ : Reads zs (y 30) w2 := hp.out 1 (by decide)
        have hcv := hby.conv uc
        rw [hST] at hcv
        refine StepG.plain rfl fun K Q hK => ?_
        simp only [fr37] at hK ⊢
        rw [e1] at hK ⊢
        go_simp
        exact hK _ _ ⟨Stays.refl _, by first | rfl | simp [Is] | (simp [factsOf, Is]; done)⟩
      · have e1 : y 6 = .pointer (some ⟨v1.heap.size, 0, none⟩) := hy.out 6 (by decide)
        obtain ⟨q0, q1, q2, q3, q4, q5, q6, q7⟩ := c8 (HBX.out _ ((Below.refl _ _).drew.trans hst.out)).1
        refine StepG.plain rfl fun K Q hK => ?_
        simp only [fr37] at hK ⊢
        rw [e1] at hK ⊢
        go_simp
        exact hK _ _ ⟨Stays.refl _, by first | rfl | simp [Is] | (simp [factsOf, Is]; done)⟩
      · have e1 : y 32 = .agg #[.slice a0 len0 cap0, .int .u64 x0, .int .u64 x1, .int .u64 x2, .int .u64 x3, .int .u64 x4, .int .u64 x5, .int .u64 x6] := hp.out 3 (by decide)
        refine StepG.plain rfl fun K Q hK => ?_
        simp only [fr37] at hK ⊢
        rw [e1] at hK ⊢
        go_simp
        go_at_call 12
        refine (HMD.out _).mono ?_
        rintro r w3 ⟨⟨u, rfl, hm⟩, hb3⟩
        exact hK _ w3 ⟨hb3, hm⟩
      · obtain ⟨gm, e1, hnm⟩ : Mdl a0 len0 cap0 [x0, x1, x2, x3, x4, x5, x6] (y 33) w2 := hp.out 4 (by decide)
        refine StepG.plain rfl fun K Q hK => ?_
        simp only [fr37] at hK ⊢
        rw [e1] at hK ⊢
        go_simp
        go_at_call 11
        refine (HRP.out _ gm (HBX.out _ ((Below.refl _ _).drew.trans hst.out)).2 hnm).mono ?_
        rintro r w3 ⟨⟨u, rfl, hm⟩, hb3⟩
        exact hK _ w3 ⟨hb3, own_Reads hm HPB.out⟩
      · obtain ⟨ua, uc, e1, hby⟩ : Reads zs (y 34) w2 := hp.out 5 (by decide)
        have hcv := hby.conv uc
        rw [hST] at hcv
        refine StepG.plain rfl fun K Q hK => ?_
        simp only [fr37] at hK ⊢
        rw [e1] at hK ⊢
        go_simp
        exact hK _ _ ⟨Stays.refl _, by first | rfl | simp [Is] | (simp [factsOf, Is]; done)⟩
      · have e1 : y 31 = .string ST := hp.out 2 (by decide)
        have e2 : y 35 = .string ST := hp.out 6 (by decide)
        refine StepG.plain rfl fun K Q hK => ?_
        simp only [fr37] at hK ⊢
        rw [e1, e2] at hK ⊢
        go_simp
        exact hK _ _ ⟨Stays.refl _, by first | rfl | simp [Is] | (simp [factsOf, Is]; done)⟩
      · have e1 : y 36 = .bool true := hp.out 7 (by decide)
        refine StepG.plain rfl fun K Q hK => ?_
        simp only [fr37] at hK ⊢
        rw [e1] at hK ⊢
        go_simp
        exact hK _ _ ⟨Stays.refl _, by first | rfl | simp [Is] | (simp [factsOf, Is]; done)⟩

set_option maxRecDepth 100000 in
theorem lifted (os : Os) (started : os.Started) (H : Type) (enc : TypeId × Value → H) :
    ReturnsInHanded {} Try.checked os 3 .any (Rows.dynamicPutsSpec.pre6 enc Try.prog Try.f3 Rows.dynamicPutsRow.domain false) (Rows.dynamicPutsSpec.post enc Try.prog Try.f3 false true false false) := by
  refine returnsInHanded_of_change (C := Try.checked) own started (by kernel_rfl) Try.func3
    (ChangeSpec.witness6 (enc := enc) (C := Try.checked) false ⟨#[], #[.slice none 0 0, .agg #[.int .u64 0, .int .u64 0, .int .u64 0, .int .u64 0, .int .u64 0, .int .u64 0, .int .u64 0]], []⟩ 8 (by kernel_rfl) (by kernel_rfl) (by kernel_rfl) (by kernel_rfl)) ?_
  intro W base args ds gs before hval0 hW hcnd _
  have hval : ∀ (j : Nat) t v, Try.f3.params[j]? = some t → args[j]? = some v → Value.okWide Try.prog W .any base t v := hval0
  have hW' := hW
  obtain ⟨p, q, hA0, hV, rfl, hfz, hnd⟩ := hW
  have hA : DataW.TrodAll enc Try.prog W 0 (fun _ => true) true Try.f3.params.toList args.toList ds p := hA0
  rw [Try.params3] at hA hval
  obtain ⟨v0, vs0, d0, ds0, p0, q0, hargs, rfl, rfl, h0, r0⟩ := trodAll_cons hA
  obtain ⟨v1, vs1, d1, ds1, p1, q1, rfl, rfl, rfl, h1, r1⟩ := trodAll_cons r0
  obtain ⟨rfl, rfl, rfl⟩ := trodAll_nil r1
  obtain rfl : args = #[v0, v1] := by cases args; simp_all
  obtain ⟨rfl, rfl⟩ := trodVars_none hV
  obtain ⟨a0, len0, cap0, rfl⟩ := okWide_slice Try.underlying22 (hval 0 22 v0 rfl rfl)
  have k0 := h0
  have lt0 : ∀ x ∈ p0, x.block < W.heap.size := by obtain ⟨m, hm⟩ := k0; exact DataW.trod_lt m _ _ _ hm
  obtain ⟨z0, w0⟩ : ∃ zs, IsRow .u64 W a0 len0 cap0 zs := by
    obtain ⟨fuel, hf⟩ := h0
    rcases open_ints Try.underlying22 Try.underlying23 (by kernel_rfl) hf with ⟨hcs, _⟩ | ⟨x, l, c, zs, hcs, _, hl, hm, hz, _, hcell, hwz⟩
    · simp [Value.cells] at hcs
      obtain ⟨rfl, rfl, rfl⟩ := hcs
      exact ⟨[], .inl ⟨rfl, rfl, rfl, rfl⟩⟩
    · simp [Value.cells] at hcs
      obtain ⟨rfl, rfl, rfl⟩ := hcs
      exact ⟨zs, .inr ⟨_, rfl, hl, hm, by simpa using hz, hcell, hwz⟩⟩
  obtain ⟨cs1, rfl, hz1, _⟩ : ∃ cs, v1 = .agg cs ∧ cs.size = Try.prog.cellsOf 24 ∧ Row.okWide Try.prog W .any base 24 cs := by
    have := hval 1 24 v1 rfl rfl
    simpa [Value.okWide, Try.underlying24] using this
  rw [show Try.prog.cellsOf 24 = 7 from by kernel_rfl] at hz1
  have k1 := h1
  have lt1 : ∀ x ∈ p1, x.block < W.heap.size := by obtain ⟨m, hm⟩ := k1; exact DataW.trod_lt m _ _ _ hm
  obtain ⟨z1, w1, rfl⟩ : ∃ zs, IsArr .u64 7 zs ∧ cs1 = (zs.map (Value.int .u64)).toArray := by
    obtain ⟨fuel, hf⟩ := h1
    exact open_arr Try.underlying24 Try.underlying23 (by kernel_rfl) hz1 hf
  clear hA0 hval0
  refine (walk a0 len0 cap0 z0 z1 W w0 w1).mono fun e W' ⟨he, bel⟩ => ?_
  subst he
  exact ⟨_, rfl, _, _, _, [], _, [], hW', trodAll_mk1 (shut_bool Try.underlying4 _), (trodAll_cons_mk (Below.trod laidOut (by kernel_rfl) (of_decide_eq_true (by kernel_rfl)) k0 bel lt0) (trodAll_cons_mk (Below.trod laidOut (by kernel_rfl) (of_decide_eq_true (by kernel_rfl)) k1 bel lt1) trodAll_mk0)), rfl, bel.frame _, fun h => by cases h⟩

theorem over : Rows.dynamicPutsRow.holds Try.pinned (OpenSpec.ofChange Rows.dynamicPutsSpec) :=
  OpenClaim.holds_of_wide 3 Try.f3 rfl rfl rfl rfl rfl rfl rfl ⟨rfl, rfl, rfl, rfl, rfl⟩ rfl rfl rfl rfl rfl (by kernel_rfl) Try.func3 (by kernel_rfl)
    (of_decide_eq_true (by kernel_rfl)) (by unfold Func.isWrapper; first | (rw [if_pos (by decide +kernel)]; kernel_rfl) | (rw [if_neg (by decide +kernel)]; exact ⟨rfl, rfl⟩))
    (fun os started H enc _ => lifted os started H enc)

theorem proved : Rows.DynamicPutsSaid := over
#print axioms proved
end Go.Proofs.Ytngjnbfjlchfgaa.dynamicPuts
