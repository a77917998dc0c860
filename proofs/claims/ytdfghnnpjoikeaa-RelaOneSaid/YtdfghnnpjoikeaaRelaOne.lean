/-
  What is proved here: RelaOne: any one relocation may be, with any number of symbols, just where the reference says; so may it behind others.
  Conditions: none of our own; the law's row says what its input is.
-/
import Derived.Test.YtdfghnnpjoikeaaRows
import Derived.Test.YtdfghnnpjoikeaaRelAwake
import Derived.Test.YtdfghnnpjoikeaaRelFrame
import Derived.Test.YtdfghnnpjoikeaaApp
import Derived.WalkKit
import Derived.ProofKit
import Derived.OpenShut
import Derived.ShutString
import Derived.ChangeOld
import Derived.Below
namespace Go.Proofs.Ytdfghnnpjoikeaa.relaOne
open Go.ChangeShapes Go.WideShapes Go.ChangeAt Go.RowKit
open Go.ChangeMaps (open_string shut_string)
set_option linter.unusedVariables false

theorem own : ownKnob Try.prog.godebug = none := by kernel_rfl
theorem laidOut : laidOutB Try.prog = true := by kernel_rfl

theorem fr32 (y : Nat → Value) : frameOf 32 y = #[y 0, y 1, y 2, y 3, y 4, y 5, y 6, y 7, y 8, y 9, y 10, y 11, y 12, y 13, y 14, y 15, y 16, y 17, y 18, y 19, y 20, y 21, y 22, y 23, y 24, y 25, y 26, y 27, y 28, y 29, y 30, y 31] := rfl
theorem bd_u32 {n : Int} (h : (Lit.int .u32 n).wf = true) : 0 ≤ n ∧ n ≤ 4294967295 := by
  simpa [Lit.wf, IntKind.min, IntKind.max, IntKind.signed, IntKind.bits] using h
theorem bd_i64 {n : Int} (h : (Lit.int .i64 n).wf = true) : -9223372036854775808 ≤ n ∧ n ≤ 9223372036854775807 := by
  simpa [Lit.wf, IntKind.min, IntKind.max, IntKind.signed, IntKind.bits] using h
theorem sl_tail2 {w : World} {B b : Nat} {L : List Rl} {s t : Rl} (h : Rl.Sl w B (some ⟨b, 0, none⟩) (L.length + 2) (s :: t :: L)) : Rl.Sl w B (some ⟨b, 8, none⟩) L.length L := by
  refine ⟨rfl, fun x hx => h.hok x (by simp [hx]), fun hl => ?_⟩
  obtain ⟨b', off, e, hB, hc⟩ := h.hc (by omega)
  injection e with e; injection e with e1 e2; subst e1; subst e2
  refine ⟨b, 8, rfl, hB, fun i hi => ?_⟩
  have h1 := hc (i + 2) (by omega)
  rw [show 0 + (i + 2) * 4 = 8 + i * 4 by omega] at h1
  simpa using h1
set_option maxRecDepth 100000 in
set_option maxHeartbeats 1600000 in
theorem walk (a0 : Rl) (a1 : Int) (w : World) (w0 : a0.Ok) (w1 : (Lit.int .i64 a1).wf = true) :
    Calls Try.prog 8 #[a0.val, .int .i64 a1] w fun e w' => e = .returned (.bool true) ∧ Below w.heap.size w w' := by
  have HOK := Lib.hid w0
  obtain ⟨n0, n1⟩ := bd_i64 w1
  obtain ⟨of, ty, sy, ad⟩ := a0
  unfold Rl.val
  simp only
  have HW0 : Hid (Below w.heap.size w (w.alloc (.cells #[.int .u64 of, .int .u32 ty, .int .u32 sy, .int .i64 ad] 25))) := Lib.hid ((Below.refl _ _).alloc (Nat.le_refl _) _)
  have HK : Hid (∀ w', Below (w.alloc (.cells #[.int .u64 of, .int .u32 ty, .int .u32 sy, .int .i64 ad] 25)).heap.size (w.alloc (.cells #[.int .u64 of, .int .u32 ty, .int .u32 sy, .int .i64 ad] 25)) w' → Blk w' w.heap.size #[.int .u64 of, .int .u32 ty, .int .u32 sy, .int .i64 ad] 25) := Lib.hid (fun w' h => (Blk.new _ _ _).later h)
  clear w0 w1
  go_enter Try.func8, Try.ntmps8
  go_wp2_with fail
  refine (awake_any _).mono ?_
  rintro r v1 ⟨rfl, hb1⟩
  obtain ⟨c0, c1, c2, c3⟩ := Rl.cs (HK.out _ hb1)
  have HB1 : Hid (Below w.heap.size w (v1.alloc (.cells #[.int .u64 0, .int .u32 0, .int .u32 0, .int .i64 0, .int .u64 0, .int .u32 8, .int .u32 0, .int .i64 0, .int .u64 of, .int .u32 ty, .int .u32 sy, .int .i64 ad] 25))) := Lib.hid (by
    have h := HW0.out.trans (hb1.mono HW0.out.size)
    exact h.alloc h.size _)
  have hsl : Rl.Sl (v1.alloc (.cells #[.int .u64 0, .int .u32 0, .int .u32 0, .int .i64 0, .int .u64 0, .int .u32 8, .int .u32 0, .int .i64 0, .int .u64 of, .int .u32 ty, .int .u32 sy, .int .i64 ad] 25)) (v1.alloc (.cells #[.int .u64 0, .int .u32 0, .int .u32 0, .int .i64 0, .int .u64 0, .int .u32 8, .int .u32 0, .int .i64 0, .int .u64 of, .int .u32 ty, .int .u32 sy, .int .i64 ad] 25)).heap.size (some ⟨v1.heap.size, 0, none⟩) 3 [Rl.zero, ⟨0, 8, 0, 0⟩, ⟨of, ty, sy, ad⟩] := Rl.Sl.lit v1 [Rl.zero, ⟨0, 8, 0, 0⟩, ⟨of, ty, sy, ad⟩] (fun x hx => by
    simp only [List.mem_cons, List.not_mem_nil, or_false] at hx
    rcases hx with rfl | rfl | rfl
    · exact Rl.zero_ok
    · constructor <;> decide
    · exact HOK.out) 25 _ rfl
  have HS2 : Hid (∀ w', Stays (v1.alloc (.cells #[.int .u64 0, .int .u32 0, .int .u32 0, .int .i64 0, .int .u64 0, .int .u32 8, .int .u32 0, .int .i64 0, .int .u64 of, .int .u32 ty, .int .u32 sy, .int .i64 ad] 25)).drew w' → Rl.Sl w' w'.heap.size (some ⟨v1.heap.size, 0, none⟩) 3 [Rl.zero, ⟨0, 8, 0, 0⟩, ⟨of, ty, sy, ad⟩]) := Lib.hid (fun w' h => by
    have h1 : Below (v1.alloc (.cells #[.int .u64 0, .int .u32 0, .int .u32 0, .int .i64 0, .int .u64 0, .int .u32 8, .int .u32 0, .int .i64 0, .int .u64 of, .int .u32 ty, .int .u32 sy, .int .i64 ad] 25)).heap.size (v1.alloc (.cells #[.int .u64 0, .int .u32 0, .int .u32 0, .int .i64 0, .int .u64 0, .int .u32 8, .int .u32 0, .int .i64 0, .int .u64 of, .int .u32 ty, .int .u32 sy, .int .i64 ad] 25)) w' := (Below.refl _ _).drew.trans h
    exact (hsl.below h1).more h1.size)
  have HC3 := Lib.hid (fun w' (h : Stays (v1.alloc (.cells #[.int .u64 0, .int .u32 0, .int .u32 0, .int .i64 0, .int .u64 0, .int .u32 8, .int .u32 0, .int .i64 0, .int .u64 of, .int .u32 ty, .int .u32 sy, .int .i64 ad] 25)).drew w') => lcheck_any w'.heap.size _ 3 3 _ a1 w' (HS2.out w' h) (Nat.le_refl _) (by decide) (by decide) n0 n1)
  have HR3 := Lib.hid (fun w' (h : Stays (v1.alloc (.cells #[.int .u64 0, .int .u32 0, .int .u32 0, .int .i64 0, .int .u64 0, .int .u32 8, .int .u32 0, .int .i64 0, .int .u64 of, .int .u32 ty, .int .u32 sy, .int .i64 ad] 25)).drew w') => rcheck7_any w'.heap.size _ 3 3 _ a1 w' (HS2.out w' h) (Nat.le_refl _) (by decide) n0 n1)
  have HC1 := Lib.hid (fun w' (h : Stays (v1.alloc (.cells #[.int .u64 0, .int .u32 0, .int .u32 0, .int .i64 0, .int .u64 0, .int .u32 8, .int .u32 0, .int .i64 0, .int .u64 of, .int .u32 ty, .int .u32 sy, .int .i64 ad] 25)).drew w') => lcheck_any w'.heap.size (some ⟨v1.heap.size, 8, none⟩) 1 1 [⟨of, ty, sy, ad⟩] a1 w' (sl_tail2 (L := [⟨of, ty, sy, ad⟩]) (HS2.out w' h)) (Nat.le_refl _) (by decide) (by decide) n0 n1)
  have HR1 := Lib.hid (fun w' (h : Stays (v1.alloc (.cells #[.int .u64 0, .int .u32 0, .int .u32 0, .int .i64 0, .int .u64 0, .int .u32 8, .int .u32 0, .int .i64 0, .int .u64 of, .int .u32 ty, .int .u32 sy, .int .i64 ad] 25)).drew w') => rcheck7_any w'.heap.size (some ⟨v1.heap.size, 8, none⟩) 1 1 [⟨of, ty, sy, ad⟩] a1 w' (sl_tail2 (L := [⟨of, ty, sy, ad⟩]) (HS2.out w' h)) (Nat.le_refl _) (by decide) n0 n1)
  generalize checkL [Rl.zero, ⟨0, 8, 0, 0⟩, ⟨of, ty, sy, ad⟩] a1 = er3 at HC3 HR3
  generalize checkL [⟨of, ty, sy, ad⟩] a1 = er1 at HC1 HR1
  clear hb1 hsl HK
  go_wp2
  refine wp_region_facts (by kernel_rfl) Stays Stays.refl Stays.trans 32 rfl [14, 15, 16, 17, 18, 19, 20, 21, 22, 23, 24, 25, 26, 27, 28, 29, 30, 31, 4] (factsOf [Is (.slice (some ⟨v1.heap.size, 0, none⟩) 3 3), Is (.int .i64 (a1)), Is (.int .i64 er3), Is (.slice (some ⟨v1.heap.size, 0, none⟩) 3 3), Is (.int .i64 (a1)), Is (.int .i64 er3), Is (.bool true), Is (.bool true), Is (.slice (some ⟨v1.heap.size, 0, none⟩) 3 3), Is (.slice (some ⟨v1.heap.size, 8, none⟩) 1 1), Is (.int .i64 (a1)), Is (.int .i64 er1), Is (.slice (some ⟨v1.heap.size, 0, none⟩) 3 3), Is (.slice (some ⟨v1.heap.size, 8, none⟩) 1 1), Is (.int .i64 (a1)), Is (.int .i64 er1), Is (.bool true), Is (.bool true), Is (.bool true)]) (by kernel_rfl) (factsOf_mono (mono_cons (Is.mono _) (mono_cons (Is.mono _) (mono_cons (Is.mono _) (mono_cons (Is.mono _) (mono_cons (Is.mono _) (mono_cons (Is.mono _) (mono_cons (Is.mono _) (mono_cons (Is.mono _) (mono_cons (Is.mono _) (mono_cons (Is.mono _) (mono_cons (Is.mono _) (mono_cons (Is.mono _) (mono_cons (Is.mono _) (mono_cons (Is.mono _) (mono_cons (Is.mono _) (mono_cons (Is.mono _) (mono_cons (Is.mono _) (mono_cons (Is.mono _) (mono_cons (Is.mono _) mono_nil)))))))))))))))))))) ?steps14 ?fin14
  case fin14 =>
    intro v w2 hb2 hF
    have hlast : v 18 = .bool true := hF 18 (by decide)
    have HBF : Hid (Below w.heap.size w w2) := Lib.hid (HB1.out.drew.trans (Below.mono hb2 HB1.out.size))
    clear hb2 hF
    simp only [putAll, List.set_cons_succ, List.set_cons_zero, Nat.reduceAdd, hlast]
    go_wp2
    go_ret
    exact ⟨rfl, HBF.out⟩
  case steps14 =>
    refine ⟨?_, ?_, ?_, ?_, ?_, ?_, ?_, ?_, ?_, ?_, ?_, ?_, ?_, ?_, ?_, ?_, ?_, ?_, ?_, trivial⟩
    all_goals intro y w2 hb hy0 hp0
    all_goals have hy := Lib.hid hy0
    all_goals have hp := Lib.hid hp0
    all_goals have hst := Lib.hid hb
    all_goals clear hy0 hp0 hb
    · have e1 : y 6 = .slice (some ⟨v1.heap.size, 0, none⟩) 3 3 := hy.out 6 (by decide)
      refine StepG.plain rfl fun K Q hK => ?_
      simp only [fr32] at hK ⊢
      rw [e1] at hK ⊢
      go_simp
      exact hK _ _ ⟨Stays.refl _, by first | rfl | simp [Is] | (simp [factsOf, Is]; done)⟩
    · have e1 : y 1 = .int .i64 (a1) := hy.out 1 (by decide)
      refine StepG.plain rfl fun K Q hK => ?_
      simp only [fr32] at hK ⊢
      rw [e1] at hK ⊢
      go_simp
      exact hK _ _ ⟨Stays.refl _, by first | rfl | simp [Is] | (simp [factsOf, Is]; done)⟩
    · have e1 : y 14 = .slice (some ⟨v1.heap.size, 0, none⟩) 3 3 := hp.out 0 (by decide)
      have e2 : y 15 = .int .i64 (a1) := hp.out 1 (by decide)
      refine StepG.plain rfl fun K Q hK => ?_
      simp only [fr32] at hK ⊢
      rw [e1, e2] at hK ⊢
      go_simp
      go_at_call 14
      refine (HC3.out _ hst.out).mono ?_
      rintro r w3 ⟨rfl, hb3⟩
      exact hK _ w3 ⟨hb3, rfl⟩
    · have e1 : y 6 = .slice (some ⟨v1.heap.size, 0, none⟩) 3 3 := hy.out 6 (by decide)
      refine StepG.plain rfl fun K Q hK => ?_
      simp only [fr32] at hK ⊢
      rw [e1] at hK ⊢
      go_simp
      exact hK _ _ ⟨Stays.refl _, by first | rfl | simp [Is] | (simp [factsOf, Is]; done)⟩
    · have e1 : y 1 = .int .i64 (a1) := hy.out 1 (by decide)
      refine StepG.plain rfl fun K Q hK => ?_
      simp only [fr32] at hK ⊢
      rw [e1] at hK ⊢
      go_simp
      exact hK _ _ ⟨Stays.refl _, by first | rfl | simp [Is] | (simp [factsOf, Is]; done)⟩
    · have e1 : y 17 = .slice (some ⟨v1.heap.size, 0, none⟩) 3 3 := hp.out 3 (by decide)
      have e2 : y 18 = .int .i64 (a1) := hp.out 4 (by decide)
      refine StepG.plain rfl fun K Q hK => ?_
      simp only [fr32] at hK ⊢
      rw [e1, e2] at hK ⊢
      go_simp
      go_at_call 15
      refine (HR3.out _ hst.out).mono ?_
      rintro r w3 ⟨rfl, hb3⟩
      exact hK _ w3 ⟨hb3, rfl⟩
    · have e1 : y 16 = .int .i64 er3 := hp.out 2 (by decide)
      have e2 : y 19 = .int .i64 er3 := hp.out 5 (by decide)
      refine StepG.plain rfl fun K Q hK => ?_
      simp only [fr32] at hK ⊢
      rw [e1, e2] at hK ⊢
      go_simp
      exact hK _ _ ⟨Stays.refl _, by first | rfl | simp [Is] | (simp [factsOf, Is]; done)⟩
    · have e1 : y 20 = .bool true := hp.out 6 (by decide)
      refine StepG.plain rfl fun K Q hK => ?_
      simp only [fr32] at hK ⊢
      rw [e1] at hK ⊢
      go_simp
      exact hK _ _ ⟨Stays.refl _, by first | rfl | simp [Is] | (simp [factsOf, Is]; done)⟩
    · have e1 : y 6 = .slice (some ⟨v1.heap.size, 0, none⟩) 3 3 := hy.out 6 (by decide)
      refine StepG.yes (b := true) (t := 21) rfl rfl rfl (by decide) (hp.out 7 (by decide)) fun K Q hK => ?_
      simp only [fr32] at hK ⊢
      rw [e1] at hK ⊢
      go_simp
      exact hK _ _ ⟨Stays.refl _, by first | rfl | simp [Is] | (simp [factsOf, Is]; done)⟩
    · have e1 : y 22 = .slice (some ⟨v1.heap.size, 0, none⟩) 3 3 := hp.out 8 (by decide)
      refine StepG.yes (b := true) (t := 21) rfl rfl rfl (by decide) (hp.out 7 (by decide)) fun K Q hK => ?_
      simp only [fr32] at hK ⊢
      rw [e1] at hK ⊢
      go_simp
      exact hK _ _ ⟨Stays.refl _, by first | rfl | simp [Is] | (simp [factsOf, Is]; done)⟩
    · have e1 : y 1 = .int .i64 (a1) := hy.out 1 (by decide)
      refine StepG.yes (b := true) (t := 21) rfl rfl rfl (by decide) (hp.out 7 (by decide)) fun K Q hK => ?_
      simp only [fr32] at hK ⊢
      rw [e1] at hK ⊢
      go_simp
      exact hK _ _ ⟨Stays.refl _, by first | rfl | simp [Is] | (simp [factsOf, Is]; done)⟩
    · have e1 : y 23 = .slice (some ⟨v1.heap.size, 8, none⟩) 1 1 := hp.out 9 (by decide)
      have e2 : y 24 = .int .i64 (a1) := hp.out 10 (by decide)
      refine StepG.yes (b := true) (t := 21) rfl rfl rfl (by decide) (hp.out 7 (by decide)) fun K Q hK => ?_
      simp only [fr32] at hK ⊢
      rw [e1, e2] at hK ⊢
      go_simp
      go_at_call 14
      refine (HC1.out _ hst.out).mono ?_
      rintro r w3 ⟨rfl, hb3⟩
      exact hK _ w3 ⟨hb3, rfl⟩
    · have e1 : y 6 = .slice (some ⟨v1.heap.size, 0, none⟩) 3 3 := hy.out 6 (by decide)
      refine StepG.yes (b := true) (t := 21) rfl rfl rfl (by decide) (hp.out 7 (by decide)) fun K Q hK => ?_
      simp only [fr32] at hK ⊢
      rw [e1] at hK ⊢
      go_simp
      exact hK _ _ ⟨Stays.refl _, by first | rfl | simp [Is] | (simp [factsOf, Is]; done)⟩
    · have e1 : y 26 = .slice (some ⟨v1.heap.size, 0, none⟩) 3 3 := hp.out 12 (by decide)
      refine StepG.yes (b := true) (t := 21) rfl rfl rfl (by decide) (hp.out 7 (by decide)) fun K Q hK => ?_
      simp only [fr32] at hK ⊢
      rw [e1] at hK ⊢
      go_simp
      exact hK _ _ ⟨Stays.refl _, by first | rfl | simp [Is] | (simp [factsOf, Is]; done)⟩
    · have e1 : y 1 = .int .i64 (a1) := hy.out 1 (by decide)
      refine StepG.yes (b := true) (t := 21) rfl rfl rfl (by decide) (hp.out 7 (by decide)) fun K Q hK => ?_
      simp only [fr32] at hK ⊢
      rw [e1] at hK ⊢
      go_simp
      exact hK _ _ ⟨Stays.refl _, by first | rfl | simp [Is] | (simp [factsOf, Is]; done)⟩
    · have e1 : y 27 = .slice (some ⟨v1.heap.size, 8, none⟩) 1 1 := hp.out 13 (by decide)
      have e2 : y 28 = .int .i64 (a1) := hp.out 14 (by decide)
      refine StepG.yes (b := true) (t := 21) rfl rfl rfl (by decide) (hp.out 7 (by decide)) fun K Q hK => ?_
      simp only [fr32] at hK ⊢
      rw [e1, e2] at hK ⊢
      go_simp
      go_at_call 15
      refine (HR1.out _ hst.out).mono ?_
      rintro r w3 ⟨rfl, hb3⟩
      exact hK _ w3 ⟨hb3, rfl⟩
    · have e1 : y 25 = .int .i64 er1 := hp.out 11 (by decide)
      have e2 : y 29 = .int .i64 er1 := hp.out 15 (by decide)
      refine StepG.yes (b := true) (t := 21) rfl rfl rfl (by decide) (hp.out 7 (by decide)) fun K Q hK => ?_
      simp only [fr32] at hK ⊢
      rw [e1, e2] at hK ⊢
      go_simp
      exact hK _ _ ⟨Stays.refl _, by first | rfl | simp [Is] | (simp [factsOf, Is]; done)⟩
    · have e1 : y 21 = .bool true := hp.out 7 (by decide)
      have e2 : y 30 = .bool true := hp.out 16 (by decide)
      refine StepG.plain rfl fun K Q hK => ?_
      simp only [fr32] at hK ⊢
      rw [e1, e2] at hK ⊢
      go_simp
      exact hK _ _ ⟨Stays.refl _, by first | rfl | simp [Is] | (simp [factsOf, Is]; done)⟩
    · have e1 : y 31 = .bool true := hp.out 17 (by decide)
      refine StepG.plain rfl fun K Q hK => ?_
      simp only [fr32] at hK ⊢
      rw [e1] at hK ⊢
      go_simp
      exact hK _ _ ⟨Stays.refl _, by first | rfl | simp [Is] | (simp [factsOf, Is]; done)⟩

set_option maxRecDepth 100000 in
theorem lifted (os : Os) (started : os.Started) (H : Type) (enc : TypeId × Value → H) :
    ReturnsInHanded {} Try.checked os 8 .any (Rows.relaOneSpec.pre6 enc Try.prog Try.f8 Rows.relaOneRow.domain false) (Rows.relaOneSpec.post enc Try.prog Try.f8 false true false false) := by
  refine returnsInHanded_of_change (C := Try.checked) own started (by kernel_rfl) Try.func8
    (ChangeSpec.witness6 (enc := enc) (C := Try.checked) false ⟨#[], #[.agg #[.int .u64 0, .int .u32 0, .int .u32 0, .int .i64 0], .int .i64 0], []⟩ 8 (by kernel_rfl) (by kernel_rfl) (by kernel_rfl) (by kernel_rfl)) ?_
  intro W base args ds gs before hval0 hW hcnd _
  have hval : ∀ (j : Nat) t v, Try.f8.params[j]? = some t → args[j]? = some v → Value.okWide Try.prog W .any base t v := hval0
  have hW' := hW
  obtain ⟨p, q, hA0, hV, rfl, hfz, hnd⟩ := hW
  have hA : DataW.TrodAll enc Try.prog W 0 (fun _ => true) true Try.f8.params.toList args.toList ds p := hA0
  rw [Try.params8] at hA hval
  obtain ⟨v0, vs0, d0, ds0, p0, q0, hargs, rfl, rfl, h0, r0⟩ := trodAll_cons hA
  obtain ⟨v1, vs1, d1, ds1, p1, q1, rfl, rfl, rfl, h1, r1⟩ := trodAll_cons r0
  obtain ⟨rfl, rfl, rfl⟩ := trodAll_nil r1
  obtain rfl : args = #[v0, v1] := by cases args; simp_all
  obtain ⟨rfl, rfl⟩ := trodVars_none hV
  obtain ⟨cs0, rfl, _⟩ := okWide_struct Try.underlying25 (hval 0 25 v0 rfl rfl)
  have k0 := h0
  have lt0 : ∀ x ∈ p0, x.block < W.heap.size := by obtain ⟨m, hm⟩ := k0; exact DataW.trod_lt m _ _ _ hm
  obtain ⟨a0, w0, rfl⟩ : ∃ s : Rl, s.Ok ∧ cs0 = s.cells := by
    obtain ⟨fuel, hf⟩ := h0
    exact Rl.open1 hf
  obtain ⟨a1, rfl, rfl, rfl, w1⟩ := open_int Try.underlying3 (hval 1 3 v1 rfl rfl) h1
  clear hA0 hval0
  refine (walk a0 a1 W w0 w1).mono fun e W' ⟨he, bel⟩ => ?_
  subst he
  exact ⟨_, rfl, _, _, _, [], _, [], hW', trodAll_mk1 (shut_bool Try.underlying4 _), (trodAll_cons_mk (Below.trod laidOut (by kernel_rfl) (of_decide_eq_true (by kernel_rfl)) k0 bel lt0) (trodAll_cons_mk (shut_int Try.underlying3 w1) trodAll_mk0)), rfl, bel.frame _, fun h => by cases h⟩

theorem over : Rows.relaOneRow.holds Try.pinned (OpenSpec.ofChange Rows.relaOneSpec) :=
  OpenClaim.holds_of_wide 8 Try.f8 rfl rfl rfl rfl rfl rfl rfl ⟨rfl, rfl, rfl, rfl, rfl⟩ rfl rfl rfl rfl rfl (by kernel_rfl) Try.func8 (by kernel_rfl)
    (of_decide_eq_true (by kernel_rfl)) (by unfold Func.isWrapper; first | (rw [if_pos (by decide +kernel)]; kernel_rfl) | (rw [if_neg (by decide +kernel)]; exact ⟨rfl, rfl⟩))
    (fun os started H enc _ => lifted os started H enc)

theorem proved : Rows.RelaOneSaid := over
#print axioms proved
end Go.Proofs.Ytdfghnnpjoikeaa.relaOne
