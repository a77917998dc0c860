/-
  What is proved here: SymbolsOne: any one symbol behind the first one may be just where the reference says, and so may it alone.
  Conditions: none of our own; the law's row says what its input is.
-/
import Derived.Test.YtpodnhieaboddaaRows
import Derived.Test.YtpodnhieaboddaaSymAwake
import Derived.Test.YtpodnhieaboddaaSymFrame
import Derived.Test.YtpodnhieaboddaaApp
import Derived.WalkKit
import Derived.ProofKit
import Derived.OpenShut
import Derived.ShutString
import Derived.ChangeOld
import Derived.Below
namespace Go.Proofs.Ytpodnhieaboddaa.symbolsOne
open Go.ChangeShapes Go.WideShapes Go.ChangeAt Go.RowKit
open Go.ChangeMaps (open_string shut_string)
set_option linter.unusedVariables false

theorem own : ownKnob Try.prog.godebug = none := by kernel_rfl
theorem laidOut : laidOutB Try.prog = true := by kernel_rfl

theorem fr25 (y : Nat → Value) : frameOf 25 y = #[y 0, y 1, y 2, y 3, y 4, y 5, y 6, y 7, y 8, y 9, y 10, y 11, y 12, y 13, y 14, y 15, y 16, y 17, y 18, y 19, y 20, y 21, y 22, y 23, y 24] := rfl
theorem sl_tail {w : World} {B b : Nat} {L : List Sy} {s : Sy} (h : Sy.Sl w B (some ⟨b, 0, none⟩) (L.length + 1) (s :: L)) : Sy.Sl w B (some ⟨b, 6, none⟩) L.length L := by
  refine ⟨rfl, fun x hx => h.hok x (by simp [hx]), fun hl => ?_⟩
  obtain ⟨b', off, e, hB, hc⟩ := h.hc (by omega)
  injection e with e; injection e with e1 e2; subst e1; subst e2
  refine ⟨b, 6, rfl, hB, fun i hi => ?_⟩
  have h1 := hc (i + 1) (by omega)
  rw [show 0 + (i + 1) * 6 = 6 + i * 6 by omega] at h1
  simpa using h1
set_option maxRecDepth 100000 in
set_option maxHeartbeats 1600000 in
theorem walk (a0 : Sy) (w : World) (w0 : a0.Ok) :
    Calls Try.prog 7 #[a0.val] w fun e w' => e = .returned (.bool true) ∧ Below w.heap.size w w' := by
  have HOK := Lib.hid w0
  obtain ⟨na, inf, ot, se, va, si⟩ := a0
  unfold Sy.val
  simp only
  have HW0 : Hid (Below w.heap.size w (w.alloc (.cells #[.int .u32 na, .int .u8 inf, .int .u8 ot, .int .u16 se, .int .u64 va, .int .u64 si] 26))) := Lib.hid ((Below.refl _ _).alloc (Nat.le_refl _) _)
  have HK : Hid (∀ w', Below (w.alloc (.cells #[.int .u32 na, .int .u8 inf, .int .u8 ot, .int .u16 se, .int .u64 va, .int .u64 si] 26)).heap.size (w.alloc (.cells #[.int .u32 na, .int .u8 inf, .int .u8 ot, .int .u16 se, .int .u64 va, .int .u64 si] 26)) w' → Blk w' w.heap.size #[.int .u32 na, .int .u8 inf, .int .u8 ot, .int .u16 se, .int .u64 va, .int .u64 si] 26) := Lib.hid (fun w' h => (Blk.new _ _ _).later h)
  clear w0
  go_enter Try.func7, Try.ntmps7
  go_wp2_with fail
  refine (awake_any _).mono ?_
  rintro r v1 ⟨rfl, hb1⟩
  obtain ⟨c0, c1, c2, c3, c4, c5⟩ := Sy.cs (HK.out _ hb1)
  have HB1 : Hid (Below w.heap.size w (v1.alloc (.cells #[.int .u32 0, .int .u8 0, .int .u8 0, .int .u16 0, .int .u64 0, .int .u64 0, .int .u32 na, .int .u8 inf, .int .u8 ot, .int .u16 se, .int .u64 va, .int .u64 si] 26))) := Lib.hid (by
    have h := HW0.out.trans (hb1.mono HW0.out.size)
    exact h.alloc h.size _)
  have hsl : Sy.Sl (v1.alloc (.cells #[.int .u32 0, .int .u8 0, .int .u8 0, .int .u16 0, .int .u64 0, .int .u64 0, .int .u32 na, .int .u8 inf, .int .u8 ot, .int .u16 se, .int .u64 va, .int .u64 si] 26)) (v1.alloc (.cells #[.int .u32 0, .int .u8 0, .int .u8 0, .int .u16 0, .int .u64 0, .int .u64 0, .int .u32 na, .int .u8 inf, .int .u8 ot, .int .u16 se, .int .u64 va, .int .u64 si] 26)).heap.size (some ⟨v1.heap.size, 0, none⟩) 2 [Sy.zero, ⟨na, inf, ot, se, va, si⟩] := Sy.Sl.lit v1 [Sy.zero, ⟨na, inf, ot, se, va, si⟩] (fun x hx => by
    simp only [List.mem_cons, List.not_mem_nil, or_false] at hx
    rcases hx with rfl | rfl
    · exact Sy.zero_ok
    · exact HOK.out) 26 _ rfl
  have HS2 : Hid (∀ w', Stays (v1.alloc (.cells #[.int .u32 0, .int .u8 0, .int .u8 0, .int .u16 0, .int .u64 0, .int .u64 0, .int .u32 na, .int .u8 inf, .int .u8 ot, .int .u16 se, .int .u64 va, .int .u64 si] 26)).drew w' → Sy.Sl w' w'.heap.size (some ⟨v1.heap.size, 0, none⟩) 2 [Sy.zero, ⟨na, inf, ot, se, va, si⟩]) := Lib.hid (fun w' h => by
    have h1 : Below (v1.alloc (.cells #[.int .u32 0, .int .u8 0, .int .u8 0, .int .u16 0, .int .u64 0, .int .u64 0, .int .u32 na, .int .u8 inf, .int .u8 ot, .int .u16 se, .int .u64 va, .int .u64 si] 26)).heap.size (v1.alloc (.cells #[.int .u32 0, .int .u8 0, .int .u8 0, .int .u16 0, .int .u64 0, .int .u64 0, .int .u32 na, .int .u8 inf, .int .u8 ot, .int .u16 se, .int .u64 va, .int .u64 si] 26)) w' := (Below.refl _ _).drew.trans h
    exact (hsl.below h1).more h1.size)
  have HC2 := Lib.hid (fun w' (h : Stays (v1.alloc (.cells #[.int .u32 0, .int .u8 0, .int .u8 0, .int .u16 0, .int .u64 0, .int .u64 0, .int .u32 na, .int .u8 inf, .int .u8 ot, .int .u16 se, .int .u64 va, .int .u64 si] 26)).drew w') => scheck_any w'.heap.size _ 2 2 _ w' (HS2.out w' h) (Nat.le_refl _) (by decide) (by decide))
  have HR2 := Lib.hid (fun w' (h : Stays (v1.alloc (.cells #[.int .u32 0, .int .u8 0, .int .u8 0, .int .u16 0, .int .u64 0, .int .u64 0, .int .u32 na, .int .u8 inf, .int .u8 ot, .int .u16 se, .int .u64 va, .int .u64 si] 26)).drew w') => rcheck6_any w'.heap.size _ 2 2 _ w' (HS2.out w' h) (Nat.le_refl _) (by decide))
  have HC1 := Lib.hid (fun w' (h : Stays (v1.alloc (.cells #[.int .u32 0, .int .u8 0, .int .u8 0, .int .u16 0, .int .u64 0, .int .u64 0, .int .u32 na, .int .u8 inf, .int .u8 ot, .int .u16 se, .int .u64 va, .int .u64 si] 26)).drew w') => scheck_any w'.heap.size (some ⟨v1.heap.size, 6, none⟩) 1 1 [⟨na, inf, ot, se, va, si⟩] w' (sl_tail (L := [⟨na, inf, ot, se, va, si⟩]) (HS2.out w' h)) (Nat.le_refl _) (by decide) (by decide))
  have HR1 := Lib.hid (fun w' (h : Stays (v1.alloc (.cells #[.int .u32 0, .int .u8 0, .int .u8 0, .int .u16 0, .int .u64 0, .int .u64 0, .int .u32 na, .int .u8 inf, .int .u8 ot, .int .u16 se, .int .u64 va, .int .u64 si] 26)).drew w') => rcheck6_any w'.heap.size (some ⟨v1.heap.size, 6, none⟩) 1 1 [⟨na, inf, ot, se, va, si⟩] w' (sl_tail (L := [⟨na, inf, ot, se, va, si⟩]) (HS2.out w' h)) (Nat.le_refl _) (by decide))
  generalize checkY [Sy.zero, ⟨na, inf, ot, se, va, si⟩] = er2 at HC2 HR2
  generalize checkY [⟨na, inf, ot, se, va, si⟩] = er1 at HC1 HR1
  clear hb1 hsl HK
  go_wp2
  refine wp_region_facts (by kernel_rfl) Stays Stays.refl Stays.trans 25 rfl [11, 12, 13, 14, 15, 16, 17, 18, 19, 20, 21, 22, 23, 24, 2] (factsOf [Is (.slice (some ⟨v1.heap.size, 0, none⟩) 2 2), Is (.int .i64 er2), Is (.slice (some ⟨v1.heap.size, 0, none⟩) 2 2), Is (.int .i64 er2), Is (.bool true), Is (.bool true), Is (.slice (some ⟨v1.heap.size, 0, none⟩) 2 2), Is (.slice (some ⟨v1.heap.size, 6, none⟩) 1 1), Is (.int .i64 er1), Is (.slice (some ⟨v1.heap.size, 0, none⟩) 2 2), Is (.slice (some ⟨v1.heap.size, 6, none⟩) 1 1), Is (.int .i64 er1), Is (.bool true), Is (.bool true), Is (.bool true)]) (by kernel_rfl) (factsOf_mono (mono_cons (Is.mono _) (mono_cons (Is.mono _) (mono_cons (Is.mono _) (mono_cons (Is.mono _) (mono_cons (Is.mono _) (mono_cons (Is.mono _) (mono_cons (Is.mono _) (mono_cons (Is.mono _) (mono_cons (Is.mono _) (mono_cons (Is.mono _) (mono_cons (Is.mono _) (mono_cons (Is.mono _) (mono_cons (Is.mono _) (mono_cons (Is.mono _) (mono_cons (Is.mono _) mono_nil)))))))))))))))) ?steps11 ?fin11
  case fin11 =>
    intro v w2 hb2 hF
    have hlast : v 14 = .bool true := hF 14 (by decide)
    have HBF : Hid (Below w.heap.size w w2) := Lib.hid (HB1.out.drew.trans (Below.mono hb2 HB1.out.size))
    clear hb2 hF
    simp only [putAll, List.set_cons_succ, List.set_cons_zero, Nat.reduceAdd, hlast]
    go_wp2
    go_ret
    exact ⟨rfl, HBF.out⟩
  case steps11 =>
    refine ⟨?_, ?_, ?_, ?_, ?_, ?_, ?_, ?_, ?_, ?_, ?_, ?_, ?_, ?_, ?_, trivial⟩
    all_goals intro y w2 hb hy0 hp0
    all_goals have hy := Lib.hid hy0
    all_goals have hp := Lib.hid hp0
    all_goals have hst := Lib.hid hb
    all_goals clear hy0 hp0 hb
    · have e1 : y 4 = .slice (some ⟨v1.heap.size, 0, none⟩) 2 2 := hy.out 4 (by decide)
      refine StepG.plain rfl fun K Q hK => ?_
      simp only [fr25] at hK ⊢
      rw [e1] at hK ⊢
      go_simp
      exact hK _ _ ⟨Stays.refl _, by first | rfl | simp [Is] | (simp [factsOf, Is]; done)⟩
    · have e1 : y 11 = .slice (some ⟨v1.heap.size, 0, none⟩) 2 2 := hp.out 0 (by decide)
      refine StepG.plain rfl fun K Q hK => ?_
      simp only [fr25] at hK ⊢
      rw [e1] at hK ⊢
      go_simp
      go_at_call 16
      refine (HC2.out _ hst.out).mono ?_
      rintro r w3 ⟨rfl, hb3⟩
      exact hK _ w3 ⟨hb3, rfl⟩
    · have e1 : y 4 = .slice (some ⟨v1.heap.size, 0, none⟩) 2 2 := hy.out 4 (by decide)
      refine StepG.plain rfl fun K Q hK => ?_
      simp only [fr25] at hK ⊢
      rw [e1] at hK ⊢
      go_simp
      exact hK _ _ ⟨Stays.refl _, by first | rfl | simp [Is] | (simp [factsOf, Is]; done)⟩
    · have e1 : y 13 = .slice (some ⟨v1.heap.size, 0, none⟩) 2 2 := hp.out 2 (by decide)
      refine StepG.plain rfl fun K Q hK => ?_
      simp only [fr25] at hK ⊢
      rw [e1] at hK ⊢
      go_simp
      go_at_call 17
      refine (HR2.out _ hst.out).mono ?_
      rintro r w3 ⟨rfl, hb3⟩
      exact hK _ w3 ⟨hb3, rfl⟩
    · have e1 : y 12 = .int .i64 er2 := hp.out 1 (by decide)
      have e2 : y 14 = .int .i64 er2 := hp.out 3 (by decide)
      refine StepG.plain rfl fun K Q hK => ?_
      simp only [fr25] at hK ⊢
      rw [e1, e2] at hK ⊢
      go_simp
      exact hK _ _ ⟨Stays.refl _, by first | rfl | simp [Is] | (simp [factsOf, Is]; done)⟩
    · have e1 : y 15 = .bool true := hp.out 4 (by decide)
      refine StepG.plain rfl fun K Q hK => ?_
      simp only [fr25] at hK ⊢
      rw [e1] at hK ⊢
      go_simp
      exact hK _ _ ⟨Stays.refl _, by first | rfl | simp [Is] | (simp [factsOf, Is]; done)⟩
    · have e1 : y 4 = .slice (some ⟨v1.heap.size, 0, none⟩) 2 2 := hy.out 4 (by decide)
      refine StepG.yes (b := true) (t := 16) rfl rfl rfl (by decide) (hp.out 5 (by decide)) fun K Q hK => ?_
      simp only [fr25] at hK ⊢
      rw [e1] at hK ⊢
      go_simp
      exact hK _ _ ⟨Stays.refl _, by first | rfl | simp [Is] | (simp [factsOf, Is]; done)⟩
    · have e1 : y 17 = .slice (some ⟨v1.heap.size, 0, none⟩) 2 2 := hp.out 6 (by decide)
      refine StepG.yes (b := true) (t := 16) rfl rfl rfl (by decide) (hp.out 5 (by decide)) fun K Q hK => ?_
      simp only [fr25] at hK ⊢
      rw [e1] at hK ⊢
      go_simp
      exact hK _ _ ⟨Stays.refl _, by first | rfl | simp [Is] | (simp [factsOf, Is]; done)⟩
    · have e1 : y 18 = .slice (some ⟨v1.heap.size, 6, none⟩) 1 1 := hp.out 7 (by decide)
      refine StepG.yes (b := true) (t := 16) rfl rfl rfl (by decide) (hp.out 5 (by decide)) fun K Q hK => ?_
      simp only [fr25] at hK ⊢
      rw [e1] at hK ⊢
      go_simp
      go_at_call 16
      refine (HC1.out _ hst.out).mono ?_
      rintro r w3 ⟨rfl, hb3⟩
      exact hK _ w3 ⟨hb3, rfl⟩
    · have e1 : y 4 = .slice (some ⟨v1.heap.size, 0, none⟩) 2 2 := hy.out 4 (by decide)
      refine StepG.yes (b := true) (t := 16) rfl rfl rfl (by decide) (hp.out 5 (by decide)) fun K Q hK => ?_
      simp only [fr25] at hK ⊢
      rw [e1] at hK ⊢
      go_simp
      exact hK _ _ ⟨Stays.refl _, by first | rfl | simp [Is] | (simp [factsOf, Is]; done)⟩
    · have e1 : y 20 = .slice (some ⟨v1.heap.size, 0, none⟩) 2 2 := hp.out 9 (by decide)
      refine StepG.yes (b := true) (t := 16) rfl rfl rfl (by decide) (hp.out 5 (by decide)) fun K Q hK => ?_
      simp only [fr25] at hK ⊢
      rw [e1] at hK ⊢
      go_simp
      exact hK _ _ ⟨Stays.refl _, by first | rfl | simp [Is] | (simp [factsOf, Is]; done)⟩
    · have e1 : y 21 = .slice (some ⟨v1.heap.size, 6, none⟩) 1 1 := hp.out 10 (by decide)
      refine StepG.yes (b := true) (t := 16) rfl rfl rfl (by decide) (hp.out 5 (by decide)) fun K Q hK => ?_
      simp only [fr25] at hK ⊢
      rw [e1] at hK ⊢
      go_simp
      go_at_call 17
      refine (HR1.out _ hst.out).mono ?_
      rintro r w3 ⟨rfl, hb3⟩
      exact hK _ w3 ⟨hb3, rfl⟩
    · have e1 : y 19 = .int .i64 er1 := hp.out 8 (by decide)
      have e2 : y 22 = .int .i64 er1 := hp.out 11 (by decide)
      refine StepG.yes (b := true) (t := 16) rfl rfl rfl (by decide) (hp.out 5 (by decide)) fun K Q hK => ?_
      simp only [fr25] at hK ⊢
      rw [e1, e2] at hK ⊢
      go_simp
      exact hK _ _ ⟨Stays.refl _, by first | rfl | simp [Is] | (simp [factsOf, Is]; done)⟩
    · have e1 : y 16 = .bool true := hp.out 5 (by decide)
      have e2 : y 23 = .bool true := hp.out 12 (by decide)
      refine StepG.plain rfl fun K Q hK => ?_
      simp only [fr25] at hK ⊢
      rw [e1, e2] at hK ⊢
      go_simp
      exact hK _ _ ⟨Stays.refl _, by first | rfl | simp [Is] | (simp [factsOf, Is]; done)⟩
    · have e1 : y 24 = .bool true := hp.out 13 (by decide)
      refine StepG.plain rfl fun K Q hK => ?_
      simp only [fr25] at hK ⊢
      rw [e1] at hK ⊢
      go_simp
      exact hK _ _ ⟨Stays.refl _, by first | rfl | simp [Is] | (simp [factsOf, Is]; done)⟩

set_option maxRecDepth 100000 in
theorem lifted (os : Os) (started : os.Started) (H : Type) (enc : TypeId × Value → H) :
    ReturnsInHanded {} Try.checked os 7 .any (Rows.symbolsOneSpec.pre6 enc Try.prog Try.f7 Rows.symbolsOneRow.domain false) (Rows.symbolsOneSpec.post enc Try.prog Try.f7 false true false false) := by
  refine returnsInHanded_of_change (C := Try.checked) own started (by kernel_rfl) Try.func7
    (ChangeSpec.witness6 (enc := enc) (C := Try.checked) false ⟨#[], #[.agg #[.int .u32 0, .int .u8 0, .int .u8 0, .int .u16 0, .int .u64 0, .int .u64 0]], []⟩ 8 (by kernel_rfl) (by kernel_rfl) (by kernel_rfl) (by kernel_rfl)) ?_
  intro W base args ds gs before hval0 hW hcnd _
  have hval : ∀ (j : Nat) t v, Try.f7.params[j]? = some t → args[j]? = some v → Value.okWide Try.prog W .any base t v := hval0
  have hW' := hW
  obtain ⟨p, q, hA0, hV, rfl, hfz, hnd⟩ := hW
  have hA : DataW.TrodAll enc Try.prog W 0 (fun _ => true) true Try.f7.params.toList args.toList ds p := hA0
  rw [Try.params7] at hA hval
  obtain ⟨v0, vs0, d0, ds0, p0, q0, hargs, rfl, rfl, h0, r0⟩ := trodAll_cons hA
  obtain ⟨rfl, rfl, rfl⟩ := trodAll_nil r0
  obtain rfl : args = #[v0] := by cases args; simp_all
  obtain ⟨rfl, rfl⟩ := trodVars_none hV
  obtain ⟨cs0, rfl, _⟩ := okWide_struct Try.underlying26 (hval 0 26 v0 rfl rfl)
  have k0 := h0
  have lt0 : ∀ x ∈ p0, x.block < W.heap.size := by obtain ⟨m, hm⟩ := k0; exact DataW.trod_lt m _ _ _ hm
  obtain ⟨a0, w0, rfl⟩ : ∃ s : Sy, s.Ok ∧ cs0 = s.cells := by
    obtain ⟨fuel, hf⟩ := h0
    exact Sy.open1 hf
  clear hA0 hval0
  refine (walk a0 W w0).mono fun e W' ⟨he, bel⟩ => ?_
  subst he
  exact ⟨_, rfl, _, _, _, [], _, [], hW', trodAll_mk1 (shut_bool Try.underlying4 _), (trodAll_cons_mk (Below.trod laidOut (by kernel_rfl) (of_decide_eq_true (by kernel_rfl)) k0 bel lt0) trodAll_mk0), rfl, bel.frame _, fun h => by cases h⟩

theorem over : Rows.symbolsOneRow.holds Try.pinned (OpenSpec.ofChange Rows.symbolsOneSpec) :=
  OpenClaim.holds_of_wide 7 Try.f7 rfl rfl rfl rfl rfl rfl rfl ⟨rfl, rfl, rfl, rfl, rfl⟩ rfl rfl rfl rfl rfl (by kernel_rfl) Try.func7 (by kernel_rfl)
    (of_decide_eq_true (by kernel_rfl)) (by unfold Func.isWrapper; first | (rw [if_pos (by decide +kernel)]; kernel_rfl) | (rw [if_neg (by decide +kernel)]; exact ⟨rfl, rfl⟩))
    (fun os started H enc _ => lifted os started H enc)

theorem proved : Rows.SymbolsOneSaid := over
#print axioms proved
end Go.Proofs.Ytpodnhieaboddaa.symbolsOne
