/-
  What is proved here: the document's examples hold: 'awake' returns true, and writes nothing that was there.
  Conditions: none.
-/
import Derived.Test.YtgomemienmchnaaSegPut
import Derived.Test.YtgomemienmchnaaSegTable
import Derived.Test.YtgomemienmchnaaSegSpan
namespace Go.Proofs.Ytgomemienmchnaa
open Go.RowKit
set_option linter.unusedVariables false
set_option linter.unusedSimpArgs false

theorem sgs_one (w : World) (s : Sg) (h : s.Ok) (t : TypeId) (g : Nat) (hg : g = w.heap.size) : Sgs (w.alloc (.cells s.cells t)) (w.alloc (.cells s.cells t)).heap.size (some ⟨g, 0, none⟩) 1 [s] := by
  subst hg
  refine ⟨rfl, fun x hx => by simp at hx; subst hx; exact h, fun _ => ⟨w.heap.size, 0, rfl, by simp, fun i hi => ?_⟩⟩
  obtain rfl : i = 0 := by omega
  have := (Blk.new w s.cells t).sev
  simpa using this
theorem getV_enc {s : Sg} (h : s.Ok) : getV (encS s) = .tuple #[s.val, .int .i64 0] := by
  have e := getS_enc h []
  rw [List.append_nil] at e
  unfold getV
  rw [if_neg (by rw [encS_len]; decide), e.1, e.2, if_pos rfl]
theorem one_tab {s : Sg} (h : s.Ok) : goodT (encS s) 1 = true := by
  refine goodT_yes fun j hj => ?_
  obtain rfl : j = 0 := by omega
  have e := getS_enc h []
  rw [List.append_nil] at e
  unfold goodAt segAt
  rw [Nat.mul_zero, piece_all (encS_len s), e.1, e.2]
def exS : Sg := ⟨1, 5, 256, 256, 100, 300, 0⟩
def exT : Sg := ⟨1, 0, 0, 0, 10, 5, 0⟩
theorem exS_ok : exS.Ok := by constructor <;> decide
theorem exT_ok : exT.Ok := by constructor <;> decide
theorem ex_place : placeV [exS] 300 4 = .tuple #[.int .u64 300, .int .i64 0] := by
  simp [placeV, placeB, contB, exS, placedS, IntKind.wrap_u64]
theorem ex_check : checkS [exS] 1000 = 0 := by
  simp [checkS, firstErr, at1, at2, step1, step2, aloneS, exS, knownB, lastEnd, firstS]
theorem ex_bad : checkS [exT] 100 = 11 := by
  simp [checkS, firstErr, at1, at2, step1, step2, aloneS, exT, knownB, lastEnd, firstS]
theorem ex_low : lowS [exS] = 256 := by simp [lowS, kindB, exS, firstS]
theorem ex_last : lastEnd [exS] = 768 := by simp [lastEnd, exS, behindS]
theorem ex_find : [exS].find? (kindB 1) = some exS := by simp [kindB, exS]

set_option maxRecDepth 100000 in
set_option maxHeartbeats 1600000 in
theorem awake_any (w : World) :
    Calls Try.prog 11 #[] w fun e w' => e = .returned (.bool true) ∧ Below w.heap.size w w' := by
  have HP := Lib.hid (fun w1 => put_ok exS w1 exS_ok)
  have HG : Hid (∀ (w1 : World) (B g c : Nat), Bys w1 B (some ⟨g, 0, none⟩) 56 (encS exS) → B ≤ w1.heap.size → 56 ≤ c → (c : Int) ≤ 9223372036854775807 → Calls Try.prog 13 #[.slice (some ⟨g, 0, none⟩) 56 c] w1 fun r w' => r = .returned (.tuple #[exS.val, .int .i64 0]) ∧ Below w1.heap.size w1 w') := Lib.hid (fun w1 B g c h1 h2 h3 h4 =>
    getV_enc exS_ok ▸ sget_any B _ 56 c _ w1 h1 h2 h3 h4)
  have HPL : Hid (∀ (w1 : World) (g : Nat), g = w1.heap.size → Calls Try.prog 20 #[.slice (some ⟨g, 0, none⟩) 1 1, .int .u64 300, .int .u64 4] (w1.alloc (.cells #[.int .u32 1, .int .u32 5, .int .u64 256, .int .u64 256, .int .u64 100, .int .u64 300, .int .u64 0] 25)) fun r w' => r = .returned (.tuple #[.int .u64 300, .int .i64 0]) ∧ Below (w1.alloc (.cells #[.int .u32 1, .int .u32 5, .int .u64 256, .int .u64 256, .int .u64 100, .int .u64 300, .int .u64 0] 25)).heap.size (w1.alloc (.cells #[.int .u32 1, .int .u32 5, .int .u64 256, .int .u64 256, .int .u64 100, .int .u64 300, .int .u64 0] 25)) w') := Lib.hid (fun w1 g hg =>
    ex_place ▸ splace_any _ _ 1 1 [exS] 300 4 _ (sgs_one w1 exS exS_ok 25 g hg) (Nat.le_refl _) (by decide) (by decide) (by decide) (by decide) (by decide))
  have HSP : Hid (∀ (w1 : World) (g : Nat), g = w1.heap.size → Calls Try.prog 24 #[.slice (some ⟨g, 0, none⟩) 1 1] (w1.alloc (.cells #[.int .u32 1, .int .u32 5, .int .u64 256, .int .u64 256, .int .u64 100, .int .u64 300, .int .u64 0] 25)) fun r w' => r = .returned (.tuple #[.int .u64 256, .int .u64 768]) ∧ Below (w1.alloc (.cells #[.int .u32 1, .int .u32 5, .int .u64 256, .int .u64 256, .int .u64 100, .int .u64 300, .int .u64 0] 25)).heap.size (w1.alloc (.cells #[.int .u32 1, .int .u32 5, .int .u64 256, .int .u64 256, .int .u64 100, .int .u64 300, .int .u64 0] 25)) w') := Lib.hid (fun w1 g hg => by
    have := span_ok _ _ 1 1 [exS] 1000 _ (sgs_one w1 exS exS_ok 25 g hg) (Nat.le_refl _) (by decide) (fits ex_check)
    rw [ex_low, ex_last] at this
    exact this)
  have HFI : Hid (∀ (w1 : World) (g : Nat), g = w1.heap.size → Calls Try.prog 22 #[.slice (some ⟨g, 0, none⟩) 1 1, .int .u32 1] (w1.alloc (.cells #[.int .u32 1, .int .u32 5, .int .u64 256, .int .u64 256, .int .u64 100, .int .u64 300, .int .u64 0] 25)) fun r w' => r = .returned (.tuple #[exS.val, .bool true]) ∧ Below (w1.alloc (.cells #[.int .u32 1, .int .u32 5, .int .u64 256, .int .u64 256, .int .u64 100, .int .u64 300, .int .u64 0] 25)).heap.size (w1.alloc (.cells #[.int .u32 1, .int .u32 5, .int .u64 256, .int .u64 256, .int .u64 100, .int .u64 300, .int .u64 0] 25)) w') := Lib.hid (fun w1 g hg => by
    have := sfind_any _ _ 1 1 [exS] 1 _ (sgs_one w1 exS exS_ok 25 g hg) (Nat.le_refl _) (by decide)
    rw [ex_find] at this
    exact this)
  have HC1 : Hid (∀ (w1 : World) (g : Nat), g = w1.heap.size → Calls Try.prog 18 #[.slice (some ⟨g, 0, none⟩) 1 1, .int .u64 1000] (w1.alloc (.cells #[.int .u32 1, .int .u32 5, .int .u64 256, .int .u64 256, .int .u64 100, .int .u64 300, .int .u64 0] 25)) fun r w' => r = .returned (.int .i64 0) ∧ Below (w1.alloc (.cells #[.int .u32 1, .int .u32 5, .int .u64 256, .int .u64 256, .int .u64 100, .int .u64 300, .int .u64 0] 25)).heap.size (w1.alloc (.cells #[.int .u32 1, .int .u32 5, .int .u64 256, .int .u64 256, .int .u64 100, .int .u64 300, .int .u64 0] 25)) w') := Lib.hid (fun w1 g hg =>
    ex_check ▸ check1_any _ _ 1 1 [exS] 1000 _ (sgs_one w1 exS exS_ok 25 g hg) (Nat.le_refl _) (Nat.le_refl _) (by decide) (by decide) (by decide))
  have HC2 : Hid (∀ (w1 : World) (g : Nat), g = w1.heap.size → Calls Try.prog 18 #[.slice (some ⟨g, 0, none⟩) 1 1, .int .u64 100] (w1.alloc (.cells exT.cells 25)) fun r w' => r = .returned (.int .i64 11) ∧ Below (w1.alloc (.cells exT.cells 25)).heap.size (w1.alloc (.cells exT.cells 25)) w') := Lib.hid (fun w1 g hg =>
    ex_bad ▸ check1_any _ _ 1 1 [exT] 100 _ (sgs_one w1 exT exT_ok 25 g hg) (Nat.le_refl _) (Nat.le_refl _) (by decide) (by decide) (by decide))
  have HTA : Hid (∀ (w1 : World) (B g c : Nat), Bys w1 B (some ⟨g, 0, none⟩) 56 (encS exS) → B ≤ w1.heap.size → 56 ≤ c → (c : Int) ≤ 9223372036854775807 → Calls Try.prog 16 #[.slice (some ⟨g, 0, none⟩) 56 c, .int .u64 0, .int .i64 1] w1 fun r w' => (∃ a c, r = .returned (.tuple #[.slice a 1 c, .int .i64 0])) ∧ Below w1.heap.size w1 w') := Lib.hid (fun w1 B g c h1 h2 h3 h4 => by
    refine (stable_fits B _ 56 c _ 0 1 w1 h1 h2 h3 h4 (by decide) (by decide) (by decide)).mono ?_
    rintro r w' ⟨⟨v, e, rfl, h⟩, hb⟩
    rw [Nat.mul_one, piece_all (encS_len exS)] at h
    rcases h with ⟨_, rfl, ho⟩ | ⟨h, _⟩
    · obtain ⟨a, c, rfl, _⟩ := own7_slice ho
      exact ⟨⟨a, c, rfl⟩, hb⟩
    · rw [one_tab exS_ok] at h; cases h)
  have HEL := Lib.hid (encS_len exS)
  have HT1 : Hid (∀ w', Below (w.alloc (.cells #[.int .u32 1, .int .u32 5, .int .u64 256, .int .u64 256, .int .u64 100, .int .u64 300, .int .u64 0] 25)).heap.size (w.alloc (.cells #[.int .u32 1, .int .u32 5, .int .u64 256, .int .u64 256, .int .u64 100, .int .u64 300, .int .u64 0] 25)) w' → Blk w' w.heap.size #[.int .u32 1, .int .u32 5, .int .u64 256, .int .u64 256, .int .u64 100, .int .u64 300, .int .u64 0] 25) := Lib.hid (fun w' h => (Blk.new w _ _).later h)
  have HA0 : Hid (Below w.heap.size w (w.alloc (.cells #[.int .u32 1, .int .u32 5, .int .u64 256, .int .u64 256, .int .u64 100, .int .u64 300, .int .u64 0] 25))) := Lib.hid ((Below.refl _ _).alloc (Nat.le_refl _) _)
  have HVT : Hid (exT.cells = #[.int .u32 1, .int .u32 0, .int .u64 0, .int .u64 0, .int .u64 10, .int .u64 5, .int .u64 0]) := Lib.hid rfl
  have HVS : Hid (exS.val = .agg #[.int .u32 1, .int .u32 5, .int .u64 256, .int .u64 256, .int .u64 100, .int .u64 300, .int .u64 0]) := Lib.hid rfl
  rw [HVT.out] at HC2
  rw [HVS.out] at HP HG HFI
  go_enter Try.func11, Try.ntmps11
  go_wp2_with fail
  refine (HP.out _).mono ?_
  rintro r w1 ⟨⟨u, rfl, g, c, rfl, hc1, hc2, hm⟩, hb1⟩
  rw [HEL.out] at hm hc1 ⊢
  have HM := Lib.hid hm
  have HA1 := Lib.hid hb1
  obtain ⟨q0, q1, q2, q3, q4, q5, q6⟩ := (HT1.out _ hb1).c7
  clear hm hb1
  go_wp2_with fail
  refine (HG.out _ _ _ _ HM.out (Nat.le_refl _) hc1 hc2).mono ?_
  rintro r w2 ⟨rfl, hb2⟩
  have HA2 : Hid (Below (w.alloc (.cells #[.int .u32 1, .int .u32 5, .int .u64 256, .int .u64 256, .int .u64 100, .int .u64 300, .int .u64 0] 25)).heap.size (w.alloc (.cells #[.int .u32 1, .int .u32 5, .int .u64 256, .int .u64 256, .int .u64 100, .int .u64 300, .int .u64 0] 25)) (w2.alloc (.cells #[.int .u32 1, .int .u32 5, .int .u64 256, .int .u64 256, .int .u64 100, .int .u64 300, .int .u64 0] 25))) := Lib.hid (by
    have h := HA1.out.trans (hb2.mono HA1.out.size)
    exact h.alloc h.size _)
  have HY2 : Hid (Below w1.heap.size w1 (w2.alloc (.cells #[.int .u32 1, .int .u32 5, .int .u64 256, .int .u64 256, .int .u64 100, .int .u64 300, .int .u64 0] 25))) := Lib.hid (hb2.alloc hb2.size _)
  have HT3 : Hid (∀ w', Below (w2.alloc (.cells #[.int .u32 1, .int .u32 5, .int .u64 256, .int .u64 256, .int .u64 100, .int .u64 300, .int .u64 0] 25)).heap.size (w2.alloc (.cells #[.int .u32 1, .int .u32 5, .int .u64 256, .int .u64 256, .int .u64 100, .int .u64 300, .int .u64 0] 25)) w' → Blk w' w2.heap.size #[.int .u32 1, .int .u32 5, .int .u64 256, .int .u64 256, .int .u64 100, .int .u64 300, .int .u64 0] 25) := Lib.hid (fun w' h => (Blk.new w2 _ _).later h)
  obtain ⟨q0, q1, q2, q3, q4, q5, q6⟩ := (HT1.out _ HA2.out).c7
  clear hb2
  go_wp2_with fail
  refine (HPL.out (w2.alloc (.cells #[.int .u32 1, .int .u32 5, .int .u64 256, .int .u64 256, .int .u64 100, .int .u64 300, .int .u64 0] 25)) _ (by simp)).mono ?_
  rintro r w3 ⟨rfl, hb3⟩
  have HZ3 : Hid (Below (w2.alloc (.cells #[.int .u32 1, .int .u32 5, .int .u64 256, .int .u64 256, .int .u64 100, .int .u64 300, .int .u64 0] 25)).heap.size (w2.alloc (.cells #[.int .u32 1, .int .u32 5, .int .u64 256, .int .u64 256, .int .u64 100, .int .u64 300, .int .u64 0] 25)) w3) := Lib.hid (((Below.refl _ _).alloc (Nat.le_refl _) _).trans (hb3.mono (by simp)))
  obtain ⟨q0, q1, q2, q3, q4, q5, q6⟩ := (HT1.out _ (HA2.out.trans (HZ3.out.mono HA2.out.size))).c7
  clear hb3
  go_wp2_with fail
  refine (HSP.out w3 _ rfl).mono ?_
  rintro r w4 ⟨rfl, hb4⟩
  have HZ4 : Hid (Below (w2.alloc (.cells #[.int .u32 1, .int .u32 5, .int .u64 256, .int .u64 256, .int .u64 100, .int .u64 300, .int .u64 0] 25)).heap.size (w2.alloc (.cells #[.int .u32 1, .int .u32 5, .int .u64 256, .int .u64 256, .int .u64 100, .int .u64 300, .int .u64 0] 25)) w4) := Lib.hid (by
    have h := HZ3.out.alloc HZ3.out.size (.cells #[.int .u32 1, .int .u32 5, .int .u64 256, .int .u64 256, .int .u64 100, .int .u64 300, .int .u64 0] 25)
    exact h.trans (hb4.mono h.size))
  obtain ⟨q0, q1, q2, q3, q4, q5, q6⟩ := (HT1.out _ (HA2.out.trans (HZ4.out.mono HA2.out.size))).c7
  clear hb4
  go_wp2_with fail
  refine (HFI.out w4 _ rfl).mono ?_
  rintro r w5 ⟨rfl, hb5⟩
  have HZ5 : Hid (Below (w2.alloc (.cells #[.int .u32 1, .int .u32 5, .int .u64 256, .int .u64 256, .int .u64 100, .int .u64 300, .int .u64 0] 25)).heap.size (w2.alloc (.cells #[.int .u32 1, .int .u32 5, .int .u64 256, .int .u64 256, .int .u64 100, .int .u64 300, .int .u64 0] 25)) (w5.alloc (.cells #[.int .u32 1, .int .u32 5, .int .u64 256, .int .u64 256, .int .u64 100, .int .u64 300, .int .u64 0] 25))) := Lib.hid (by
    have h := HZ4.out.alloc HZ4.out.size (.cells #[.int .u32 1, .int .u32 5, .int .u64 256, .int .u64 256, .int .u64 100, .int .u64 300, .int .u64 0] 25)
    have h2 := h.trans (hb5.mono h.size)
    exact h2.alloc h2.size _)
  have HY5 := Lib.hid (HY2.out.trans (HZ5.out.mono HY2.out.size))
  clear hb5
  go_wp2_with fail
  refine (HTA.out _ w1.heap.size g c (HM.out.below HY5.out) HY5.out.size hc1 hc2).mono ?_
  rintro r w6 ⟨⟨ta, tc, rfl⟩, hb6⟩
  have HZ6 := Lib.hid (HZ5.out.trans (hb6.mono HZ5.out.size))
  obtain ⟨q0, q1, q2, q3, q4, q5, q6⟩ := (HT1.out _ (HA2.out.trans (HZ6.out.mono HA2.out.size))).c7
  obtain ⟨p0, p1, p2, p3, p4, p5, p6⟩ := (HT3.out _ HZ6.out).c7
  clear hb6
  go_wp2_with fail
  refine (HC2.out w6 _ rfl).mono ?_
  rintro r w7 ⟨rfl, hb7⟩
  have HZ7 : Hid (Below (w2.alloc (.cells #[.int .u32 1, .int .u32 5, .int .u64 256, .int .u64 256, .int .u64 100, .int .u64 300, .int .u64 0] 25)).heap.size (w2.alloc (.cells #[.int .u32 1, .int .u32 5, .int .u64 256, .int .u64 256, .int .u64 100, .int .u64 300, .int .u64 0] 25)) w7) := Lib.hid (by
    have h := HZ6.out.alloc HZ6.out.size (.cells #[.int .u32 1, .int .u32 0, .int .u64 0, .int .u64 0, .int .u64 10, .int .u64 5, .int .u64 0] 25)
    exact h.trans (hb7.mono h.size))
  obtain ⟨q0, q1, q2, q3, q4, q5, q6⟩ := (HT1.out _ (HA2.out.trans (HZ7.out.mono HA2.out.size))).c7
  clear hb7 p0 p1 p2 p3 p4 p5 p6
  go_wp2_with fail
  refine (HC1.out w7 _ rfl).mono ?_
  rintro r w8 ⟨rfl, hb8⟩
  have HZ8 : Hid (Below w.heap.size w w8) := Lib.hid (by
    have h := HZ7.out.alloc HZ7.out.size (.cells #[.int .u32 1, .int .u32 5, .int .u64 256, .int .u64 256, .int .u64 100, .int .u64 300, .int .u64 0] 25)
    have h2 := h.trans (hb8.mono h.size)
    have h3 := HA2.out.trans (h2.mono HA2.out.size)
    exact HA0.out.trans (h3.mono HA0.out.size))
  clear hb8
  go_wp2
  go_ret
  exact ⟨rfl, HZ8.out⟩
end Go.Proofs.Ytgomemienmchnaa
