/-
  What is proved here: the document's example holds: 'awake' returns true, and writes nothing that was there.
  Conditions: none.
-/
import Derived.Test.YtpodnhieaboddaaSymCode
namespace Go.Proofs.Ytpodnhieaboddaa
open Go.RowKit
set_option linter.unusedVariables false
set_option linter.unusedSimpArgs false

theorem fr65 (y : Nat → Value) : frameOf 65 y = #[y 0, y 1, y 2, y 3, y 4, y 5, y 6, y 7, y 8, y 9, y 10, y 11, y 12, y 13, y 14, y 15, y 16, y 17, y 18, y 19, y 20, y 21, y 22, y 23, y 24, y 25, y 26, y 27, y 28, y 29, y 30, y 31, y 32, y 33, y 34, y 35, y 36, y 37, y 38, y 39, y 40, y 41, y 42, y 43, y 44, y 45, y 46, y 47, y 48, y 49, y 50, y 51, y 52, y 53, y 54, y 55, y 56, y 57, y 58, y 59, y 60, y 61, y 62, y 63, y 64] := rfl
def ex6 : Sy := ⟨5, 18, 0, 1, 7, 0⟩
theorem ex6_ok : ex6.Ok := by constructor <;> decide
theorem ex6_tab : tabY (encY ex6) = (0, [ex6]) := by
  have h := tabY_flat (L := [ex6]) (fun s hs => by obtain rfl := List.mem_singleton.1 hs; exact ex6_ok)
  simpa [flatE] using h
theorem ex6_first : (encY ex6).getD 0 0 = 5 := by decide +kernel
/-- A literal's slice of symbols. -/
def Sls (n : Nat) (L : List Sy) (u : Value) (w : World) : Prop := ∃ g, u = .slice (some ⟨g, 0, none⟩) n n ∧ Sy.Sl w w.heap.size (some ⟨g, 0, none⟩) n L
theorem Sls.mono (n : Nat) (L : List Sy) : Mono (Sls n L) := fun _ _ _ h hb => by
  obtain ⟨g, e, hm⟩ := h
  exact ⟨g, e, (hm.below hb).more hb.size⟩
theorem Sls.lit1 (w : World) (C : Array Value) (s : Sy) (h : s.Ok) (t : TypeId) (hC : C = (Sy.flat [s]).toArray := by rfl) : Sls 1 [s] (.slice (some ⟨w.heap.size, 0, none⟩) 1 1) (w.alloc (.cells C t)) := by
  subst hC
  exact ⟨w.heap.size, rfl, Sy.Sl.lit w [s] (fun x hx => by obtain rfl := List.mem_singleton.1 hx; exact h) t _ rfl⟩
theorem Sls.lit2 (w : World) (C : Array Value) (s : Sy) (h : s.Ok) (t : TypeId) (hC : C = (Sy.flat [Sy.zero, s]).toArray := by rfl) : Sls 2 [Sy.zero, s] (.slice (some ⟨w.heap.size, 0, none⟩) 2 2) (w.alloc (.cells C t)) := by
  subst hC
  refine ⟨w.heap.size, rfl, Sy.Sl.lit w [Sy.zero, s] (fun x hx => ?_) t _ rfl⟩
  simp only [List.mem_cons, List.not_mem_nil, or_false] at hx
  rcases hx with rfl | rfl
  · exact Sy.zero_ok
  · exact h
theorem ex6_chk : checkY [ex6] = 11 ∧ checkY [Sy.zero, ex6] = 0 := by decide +kernel
set_option maxRecDepth 100000 in
set_option maxHeartbeats 3200000 in
theorem awake_any (w : World) :
    Calls Try.prog 8 #[] w fun e w' => e = .returned (.bool true) ∧ Below w.heap.size w w' := by
  have HP := Lib.hid (fun w1 => sput_ok ex6 w1 ex6_ok)
  have HBI := Lib.hid (fun w1 => bind_any ex6 w1 ex6_ok)
  have HKI := Lib.hid (fun w1 => kind_any ex6 w1 ex6_ok)
  have HDE := Lib.hid (fun w1 => defined_any ex6 w1 ex6_ok)
  have HEL := Lib.hid (encY_len ex6)
  have HCH1 : Hid (∀ (w1 : World) (g : Nat) (u : Unit), Sy.Sl w1 w1.heap.size (some ⟨g, 0, none⟩) 1 [ex6] → Calls Try.prog 16 #[.slice (some ⟨g, 0, none⟩) 1 1] w1 fun r w' => r = .returned (.int .i64 11) ∧ Below w1.heap.size w1 w') := Lib.hid (fun w1 g _ hs => ex6_chk.1 ▸ scheck_any _ _ 1 1 [ex6] w1 hs (Nat.le_refl _) (by decide) (by decide))
  have HCH2 : Hid (∀ (w1 : World) (g : Nat) (u : Unit), Sy.Sl w1 w1.heap.size (some ⟨g, 0, none⟩) 2 [Sy.zero, ex6] → Calls Try.prog 16 #[.slice (some ⟨g, 0, none⟩) 2 2] w1 fun r w' => r = .returned (.int .i64 0) ∧ Below w1.heap.size w1 w') := Lib.hid (fun w1 g _ hs => ex6_chk.2 ▸ scheck_any _ _ 2 2 [Sy.zero, ex6] w1 hs (Nat.le_refl _) (by decide) (by decide))
  have HW0 : Hid (Below w.heap.size w (w.alloc (.cells #[.int .u32 5, .int .u8 18, .int .u8 0, .int .u16 1, .int .u64 7, .int .u64 0] 26))) := Lib.hid ((Below.refl _ _).alloc (Nat.le_refl _) _)
  have HK : Hid (∀ w', Below (w.alloc (.cells #[.int .u32 5, .int .u8 18, .int .u8 0, .int .u16 1, .int .u64 7, .int .u64 0] 26)).heap.size (w.alloc (.cells #[.int .u32 5, .int .u8 18, .int .u8 0, .int .u16 1, .int .u64 7, .int .u64 0] 26)) w' → Blk w' w.heap.size #[.int .u32 5, .int .u8 18, .int .u8 0, .int .u16 1, .int .u64 7, .int .u64 0] 26) := Lib.hid (fun w' h => (Blk.new _ _ _).later h)
  unfold ex6 Sy.val at HP HBI HKI HDE
  simp only at HP HBI HKI HDE
  go_enter Try.func8, Try.ntmps8
  go_wp2_with fail
  refine (HP.out _).mono ?_
  rintro r w1 ⟨⟨u, rfl, g, c, rfl, hc1, hc2, hm⟩, hb⟩
  have HEL2 : (encY ⟨5, 18, 0, 1, 7, 0⟩).length = 24 := HEL.out
  rw [HEL2] at hm hc1 ⊢
  have HM := Lib.hid hm
  have HB1 := Lib.hid hb
  have HG : Hid (Calls Try.prog 14 #[.slice (some ⟨g, 0, none⟩) 24 c] w1 fun r w' => (∃ u, r = .returned (.tuple #[u, .int .i64 0]) ∧ w'.ownsRow w1.heap.size 26 6 u 1 (Sy.flat [ex6])) ∧ Below w1.heap.size w1 w') := Lib.hid (by
    have h := stable_any _ _ 24 c _ w1 hm (Nat.le_refl _) (by decide) hc1 hc2
    have e : tabY (encY ⟨5, 18, 0, 1, 7, 0⟩) = (0, [ex6]) := ex6_tab
    rw [e] at h
    exact h)
  clear hm hb HP
  go_wp2_with fail
  refine HG.out.mono ?_
  rintro r w4 ⟨⟨u, rfl, ho⟩, hb4⟩
  obtain ⟨la, lc, rfl, hlc, -⟩ := Sy.own_slice ho
  have HL := Sy.Sl.own (fun s hs => by obtain rfl := List.mem_singleton.1 hs; exact ex6_ok) ho
  obtain ⟨lb, lo, rfl, hlb, hlcell⟩ := HL.hc (by decide)
  have HB4 := Lib.hid (HB1.out.trans (hb4.mono HB1.out.size))
  have HBX : Hid (∀ w', Stays w4.drew w' → Blk w' w.heap.size #[.int .u32 5, .int .u8 18, .int .u8 0, .int .u16 1, .int .u64 7, .int .u64 0] 26) := Lib.hid (fun w' h => HK.out w' (HB4.out.drew.trans (Below.mono h HB4.out.size)))
  have HC5 : Hid (∀ w', Stays w4.drew w' → w'.cell? ⟨g, 0, none⟩ = some (.int .u8 5)) := Lib.hid (fun w' h => by
    obtain ⟨b', off', hbo, hlt, hcell⟩ := HM.out.2.2 (by decide)
    injection hbo with hbo; injection hbo with hbo1 hbo2; subst hbo1; subst hbo2
    have h1 := hcell 0 (by decide)
    have e : (encY ⟨5, 18, 0, 1, 7, 0⟩).getD 0 0 = 5 := ex6_first
    rw [e] at h1
    exact ((hb4.drew.trans (Below.mono h hb4.size)).cell (p := ⟨g, 0, none⟩) hlt).trans h1)
  have HCL : Hid (∀ w', Stays w4.drew w' → w'.cell? ⟨lb, lo, none⟩ = some (.int .u32 5) ∧ w'.cell? ⟨lb, lo + 1, none⟩ = some (.int .u8 18) ∧ w'.cell? ⟨lb, lo + 2, none⟩ = some (.int .u8 0) ∧ w'.cell? ⟨lb, lo + 3, none⟩ = some (.int .u16 1) ∧ w'.cell? ⟨lb, lo + 4, none⟩ = some (.int .u64 7) ∧ w'.cell? ⟨lb, lo + 5, none⟩ = some (.int .u64 0)) := Lib.hid (fun w' h => by
    have h1 := (hlcell 0 (by decide)).below ((Below.refl w4.heap.size w4).drew.trans h) hlb
    rw [Nat.zero_mul, Nat.add_zero] at h1
    exact ⟨h1.c0, h1.c1, h1.c2, h1.c3, h1.c4, h1.c5⟩)
  have hci : (24 : Int) ≤ c := by omega
  have hlci : (1 : Int) ≤ lc := by omega
  clear ho hb4 hlcell HL HG HK
  go_wp2
  refine wp_region_facts (by kernel_rfl) Stays Stays.refl Stays.trans 65 rfl [13, 14, 15, 16, 17, 18, 19, 20, 21, 22, 23, 24, 25, 26, 27, 28, 29, 30, 31, 32, 33, 34, 35, 36, 37, 38, 39, 40, 41, 42, 43, 44, 45, 46, 47, 48, 49, 50, 51, 52, 53, 54, 55, 56, 57, 58, 59, 60, 61, 62, 63, 64, 0] (factsOf [Is (.slice (some ⟨g, 0, none⟩) 24 c), Is (.int .i64 24), Is (.bool true), Is (.bool true), Is (.slice (some ⟨g, 0, none⟩) 24 c), Is (.pointer (some ⟨g, 0, none⟩)), Is (.int .u8 5), Is (.bool true), Is (.bool true), Is (.bool true), Is (.int .i64 0), Is (.bool true), Is (.bool true), Is (.bool true), Is (.slice (some ⟨lb, lo, none⟩) 1 lc), Is (.int .i64 1), Is (.bool true), Is (.bool true), Is (.bool true), Is (.slice (some ⟨lb, lo, none⟩) 1 lc), Is (.pointer (some ⟨lb, lo, none⟩)), Is (.agg #[.int .u32 5, .int .u8 18, .int .u8 0, .int .u16 1, .int .u64 7, .int .u64 0]), Is (.agg #[.int .u32 5, .int .u8 18, .int .u8 0, .int .u16 1, .int .u64 7, .int .u64 0]), Is (.bool true), Is (.bool true), Is (.bool true), Is (.agg #[.int .u32 5, .int .u8 18, .int .u8 0, .int .u16 1, .int .u64 7, .int .u64 0]), Is (.int .i64 1), Is (.bool true), Is (.bool true), Is (.bool true), Is (.agg #[.int .u32 5, .int .u8 18, .int .u8 0, .int .u16 1, .int .u64 7, .int .u64 0]), Is (.int .i64 2), Is (.bool true), Is (.bool true), Is (.bool true), Is (.agg #[.int .u32 5, .int .u8 18, .int .u8 0, .int .u16 1, .int .u64 7, .int .u64 0]), Is (.bool true), Is (.bool true), Is (.bool true), Is (.agg #[.int .u32 5, .int .u8 18, .int .u8 0, .int .u16 1, .int .u64 7, .int .u64 0]), Sls 1 [⟨5, 18, 0, 1, 7, 0⟩], Is (.int .i64 11), Is (.bool true), Is (.bool true), Is (.bool true), Is (.agg #[.int .u32 0, .int .u8 0, .int .u8 0, .int .u16 0, .int .u64 0, .int .u64 0]), Is (.agg #[.int .u32 5, .int .u8 18, .int .u8 0, .int .u16 1, .int .u64 7, .int .u64 0]), Sls 2 [Sy.zero, ⟨5, 18, 0, 1, 7, 0⟩], Is (.int .i64 0), Is (.bool true), Is (.bool true), Is (.bool true)]) (by kernel_rfl) (factsOf_mono (mono_cons (Is.mono _) (mono_cons (Is.mono _) (mono_cons (Is.mono _) (mono_cons (Is.mono _) (mono_cons (Is.mono _) (mono_cons (Is.mono _) (mono_cons (Is.mono _) (mono_cons (Is.mono _) (mono_cons (Is.mono _) (mono_cons (Is.mono _) (mono_cons (Is.mono _) (mono_cons (Is.mono _) (mono_cons (Is.mono _) (mono_cons (Is.mono _) (mono_cons (Is.mono _) (mono_cons (Is.mono _) (mono_cons (Is.mono _) (mono_cons (Is.mono _) (mono_cons (Is.mono _) (mono_cons (Is.mono _) (mono_cons (Is.mono _) (mono_cons (Is.mono _) (mono_cons (Is.mono _) (mono_cons (Is.mono _) (mono_cons (Is.mono _) (mono_cons (Is.mono _) (mono_cons (Is.mono _) (mono_cons (Is.mono _) (mono_cons (Is.mono _) (mono_cons (Is.mono _) (mono_cons (Is.mono _) (mono_cons (Is.mono _) (mono_cons (Is.mono _) (mono_cons (Is.mono _) (mono_cons (Is.mono _) (mono_cons (Is.mono _) (mono_cons (Is.mono _) (mono_cons (Is.mono _) (mono_cons (Is.mono _) (mono_cons (Is.mono _) (mono_cons (Is.mono _) (mono_cons (Sls.mono _ _) (mono_cons (Is.mono _) (mono_cons (Is.mono _) (mono_cons (Is.mono _) (mono_cons (Is.mono _) (mono_cons (Is.mono _) (mono_cons (Is.mono _) (mono_cons (Sls.mono _ _) (mono_cons (Is.mono _) (mono_cons (Is.mono _) (mono_cons (Is.mono _) (mono_cons (Is.mono _) mono_nil)))))))))))))))))))))))))))))))))))))))))))))))))))))) ?steps13 ?fin13
  case fin13 =>
    intro v w2 hb2 hF
    have hlast : v 52 = .bool true := hF 52 (by decide)
    have HBF : Hid (Below w.heap.size w w2) := Lib.hid (by
      have h1 := HW0.out.trans (HB4.out.mono HW0.out.size)
      exact h1.drew.trans (Below.mono hb2 h1.size))
    clear hb2 hF
    simp only [putAll, List.set_cons_succ, List.set_cons_zero, Nat.reduceAdd, hlast]
    go_wp2
    go_ret
    exact ⟨rfl, HBF.out⟩
  case steps13 =>
    refine ⟨?_, ?_, ?_, ?_, ?_, ?_, ?_, ?_, ?_, ?_, ?_, ?_, ?_, ?_, ?_, ?_, ?_, ?_, ?_, ?_, ?_, ?_, ?_, ?_, ?_, ?_, ?_, ?_, ?_, ?_, ?_, ?_, ?_, ?_, ?_, ?_, ?_, ?_, ?_, ?_, ?_, ?_, ?_, ?_, ?_, ?_, ?_, ?_, ?_, ?_, ?_, ?_, ?_, trivial⟩
    all_goals intro y w2 hb hy0 hp0
    all_goals have hy := Lib.hid hy0
    all_goals have hp := Lib.hid hp0
    all_goals have hst := Lib.hid hb
    all_goals clear hy0 hp0 hb
    · have e1 : y 2 = .slice (some ⟨g, 0, none⟩) 24 c := hy.out 2 (by decide)
      refine StepG.plain rfl fun K Q hK => ?_
      simp only [fr65] at hK ⊢
      rw [e1] at hK ⊢
      go_simp
      exact hK _ _ ⟨Stays.refl _, by first | rfl | simp [Is] | (simp [factsOf, Is]; done)⟩
    · have e1 : y 13 = .slice (some ⟨g, 0, none⟩) 24 c := hp.out 0 (by decide)
      refine StepG.plain rfl fun K Q hK => ?_
      simp only [fr65] at hK ⊢
      rw [e1] at hK ⊢
      go_simp
      exact hK _ _ ⟨Stays.refl _, by first | rfl | simp [Is] | (simp [factsOf, Is]; done)⟩
    · have e1 : y 14 = .int .i64 24 := hp.out 1 (by decide)
      refine StepG.plain rfl fun K Q hK => ?_
      simp only [fr65] at hK ⊢
      rw [e1] at hK ⊢
      go_simp
      exact hK _ _ ⟨Stays.refl _, by first | rfl | simp [Is] | (simp [factsOf, Is]; done)⟩
    · have e1 : y 15 = .bool true := hp.out 2 (by decide)
      refine StepG.plain rfl fun K Q hK => ?_
      simp only [fr65] at hK ⊢
      rw [e1] at hK ⊢
      go_simp
      exact hK _ _ ⟨Stays.refl _, by first | rfl | simp [Is] | (simp [factsOf, Is]; done)⟩
    · have e1 : y 2 = .slice (some ⟨g, 0, none⟩) 24 c := hy.out 2 (by decide)
      refine StepG.yes (b := true) (t := 16) rfl rfl rfl (by decide) (hp.out 3 (by decide)) fun K Q hK => ?_
      simp only [fr65] at hK ⊢
      rw [e1] at hK ⊢
      go_simp
      exact hK _ _ ⟨Stays.refl _, by first | rfl | simp [Is] | (simp [factsOf, Is]; done)⟩
    · have e1 : y 17 = .slice (some ⟨g, 0, none⟩) 24 c := hp.out 4 (by decide)
      refine StepG.yes (b := true) (t := 16) rfl rfl rfl (by decide) (hp.out 3 (by decide)) fun K Q hK => ?_
      simp only [fr65] at hK ⊢
      rw [e1] at hK ⊢
      go_simp
      try rw [if_pos ⟨by omega, by omega⟩]
      exact hK _ _ ⟨Stays.refl _, rfl⟩
    · have e1 : y 18 = .pointer (some ⟨g, 0, none⟩) := hp.out 5 (by decide)
      have hce := HC5.out _ hst.out
      refine StepG.yes (b := true) (t := 16) rfl rfl rfl (by decide) (hp.out 3 (by decide)) fun K Q hK => ?_
      simp only [fr65] at hK ⊢
      rw [e1] at hK ⊢
      go_simp
      exact hK _ _ ⟨Stays.refl _, by first | rfl | simp [Is] | (simp [factsOf, Is]; done)⟩
    · have e1 : y 19 = .int .u8 5 := hp.out 6 (by decide)
      refine StepG.yes (b := true) (t := 16) rfl rfl rfl (by decide) (hp.out 3 (by decide)) fun K Q hK => ?_
      simp only [fr65] at hK ⊢
      rw [e1] at hK ⊢
      go_simp
      exact hK _ _ ⟨Stays.refl _, by first | rfl | simp [Is] | (simp [factsOf, Is]; done)⟩
    · have e1 : y 16 = .bool true := hp.out 3 (by decide)
      have e2 : y 20 = .bool true := hp.out 7 (by decide)
      refine StepG.plain rfl fun K Q hK => ?_
      simp only [fr65] at hK ⊢
      rw [e1, e2] at hK ⊢
      go_simp
      exact hK _ _ ⟨Stays.refl _, by first | rfl | simp [Is] | (simp [factsOf, Is]; done)⟩
    · have e1 : y 21 = .bool true := hp.out 8 (by decide)
      refine StepG.plain rfl fun K Q hK => ?_
      simp only [fr65] at hK ⊢
      rw [e1] at hK ⊢
      go_simp
      exact hK _ _ ⟨Stays.refl _, by first | rfl | simp [Is] | (simp [factsOf, Is]; done)⟩
    · have e1 : y 4 = .int .i64 0 := hy.out 4 (by decide)
      refine StepG.yes (b := true) (t := 22) rfl rfl rfl (by decide) (hp.out 9 (by decide)) fun K Q hK => ?_
      simp only [fr65] at hK ⊢
      rw [e1] at hK ⊢
      go_simp
      exact hK _ _ ⟨Stays.refl _, by first | rfl | simp [Is] | (simp [factsOf, Is]; done)⟩
    · have e1 : y 23 = .int .i64 0 := hp.out 10 (by decide)
      refine StepG.yes (b := true) (t := 22) rfl rfl rfl (by decide) (hp.out 9 (by decide)) fun K Q hK => ?_
      simp only [fr65] at hK ⊢
      rw [e1] at hK ⊢
      go_simp
      exact hK _ _ ⟨Stays.refl _, by first | rfl | simp [Is] | (simp [factsOf, Is]; done)⟩
    · have e1 : y 22 = .bool true := hp.out 9 (by decide)
      have e2 : y 24 = .bool true := hp.out 11 (by decide)
      refine StepG.plain rfl fun K Q hK => ?_
      simp only [fr65] at hK ⊢
      rw [e1, e2] at hK ⊢
      go_simp
      exact hK _ _ ⟨Stays.refl _, by first | rfl | simp [Is] | (simp [factsOf, Is]; done)⟩
    · have e1 : y 25 = .bool true := hp.out 12 (by decide)
      refine StepG.plain rfl fun K Q hK => ?_
      simp only [fr65] at hK ⊢
      rw [e1] at hK ⊢
      go_simp
      exact hK _ _ ⟨Stays.refl _, by first | rfl | simp [Is] | (simp [factsOf, Is]; done)⟩
    · have e1 : y 3 = .slice (some ⟨lb, lo, none⟩) 1 lc := hy.out 3 (by decide)
      refine StepG.yes (b := true) (t := 26) rfl rfl rfl (by decide) (hp.out 13 (by decide)) fun K Q hK => ?_
      simp only [fr65] at hK ⊢
      rw [e1] at hK ⊢
      go_simp
      exact hK _ _ ⟨Stays.refl _, by first | rfl | simp [Is] | (simp [factsOf, Is]; done)⟩
    · have e1 : y 27 = .slice (some ⟨lb, lo, none⟩) 1 lc := hp.out 14 (by decide)
      refine StepG.yes (b := true) (t := 26) rfl rfl rfl (by decide) (hp.out 13 (by decide)) fun K Q hK => ?_
      simp only [fr65] at hK ⊢
      rw [e1] at hK ⊢
      go_simp
      exact hK _ _ ⟨Stays.refl _, by first | rfl | simp [Is] | (simp [factsOf, Is]; done)⟩
    · have e1 : y 28 = .int .i64 1 := hp.out 15 (by decide)
      refine StepG.yes (b := true) (t := 26) rfl rfl rfl (by decide) (hp.out 13 (by decide)) fun K Q hK => ?_
      simp only [fr65] at hK ⊢
      rw [e1] at hK ⊢
      go_simp
      exact hK _ _ ⟨Stays.refl _, by first | rfl | simp [Is] | (simp [factsOf, Is]; done)⟩
    · have e1 : y 26 = .bool true := hp.out 13 (by decide)
      have e2 : y 29 = .bool true := hp.out 16 (by decide)
      refine StepG.plain rfl fun K Q hK => ?_
      simp only [fr65] at hK ⊢
      rw [e1, e2] at hK ⊢
      go_simp
      exact hK _ _ ⟨Stays.refl _, by first | rfl | simp [Is] | (simp [factsOf, Is]; done)⟩
    · have e1 : y 30 = .bool true := hp.out 17 (by decide)
      refine StepG.plain rfl fun K Q hK => ?_
      simp only [fr65] at hK ⊢
      rw [e1] at hK ⊢
      go_simp
      exact hK _ _ ⟨Stays.refl _, by first | rfl | simp [Is] | (simp [factsOf, Is]; done)⟩
    · have e1 : y 3 = .slice (some ⟨lb, lo, none⟩) 1 lc := hy.out 3 (by decide)
      refine StepG.yes (b := true) (t := 31) rfl rfl rfl (by decide) (hp.out 18 (by decide)) fun K Q hK => ?_
      simp only [fr65] at hK ⊢
      rw [e1] at hK ⊢
      go_simp
      exact hK _ _ ⟨Stays.refl _, by first | rfl | simp [Is] | (simp [factsOf, Is]; done)⟩
    · have e1 : y 32 = .slice (some ⟨lb, lo, none⟩) 1 lc := hp.out 19 (by decide)
      refine StepG.yes (b := true) (t := 31) rfl rfl rfl (by decide) (hp.out 18 (by decide)) fun K Q hK => ?_
      simp only [fr65] at hK ⊢
      rw [e1] at hK ⊢
      go_simp
      try rw [if_pos ⟨by omega, by omega⟩]
      exact hK _ _ ⟨Stays.refl _, by first | rfl | simp [Is]⟩
    · have e1 : y 33 = .pointer (some ⟨lb, lo, none⟩) := hp.out 20 (by decide)
      obtain ⟨c0, c1, c2, c3, c4, c5⟩ := HCL.out _ hst.out
      refine StepG.yes (b := true) (t := 31) rfl rfl rfl (by decide) (hp.out 18 (by decide)) fun K Q hK => ?_
      simp only [fr65] at hK ⊢
      rw [e1] at hK ⊢
      go_simp
      exact hK _ _ ⟨Stays.refl _, by first | rfl | simp [Is] | (simp [factsOf, Is]; done)⟩
    · have e1 : y 1 = .pointer (some ⟨w.heap.size, 0, none⟩) := hy.out 1 (by decide)
      obtain ⟨c0, c1, c2, c3, c4, c5⟩ := Sy.cs (HBX.out _ hst.out)
      refine StepG.yes (b := true) (t := 31) rfl rfl rfl (by decide) (hp.out 18 (by decide)) fun K Q hK => ?_
      simp only [fr65] at hK ⊢
      rw [e1] at hK ⊢
      go_simp
      exact hK _ _ ⟨Stays.refl _, by first | rfl | simp [Is] | (simp [factsOf, Is]; done)⟩
    · have e1 : y 34 = .agg #[.int .u32 5, .int .u8 18, .int .u8 0, .int .u16 1, .int .u64 7, .int .u64 0] := hp.out 21 (by decide)
      have e2 : y 35 = .agg #[.int .u32 5, .int .u8 18, .int .u8 0, .int .u16 1, .int .u64 7, .int .u64 0] := hp.out 22 (by decide)
      refine StepG.yes (b := true) (t := 31) rfl rfl rfl (by decide) (hp.out 18 (by decide)) fun K Q hK => ?_
      simp only [fr65] at hK ⊢
      rw [e1, e2] at hK ⊢
      go_simp
      exact hK _ _ ⟨Stays.refl _, by first | rfl | simp [Is] | (simp [factsOf, Is]; done)⟩
    · have e1 : y 31 = .bool true := hp.out 18 (by decide)
      have e2 : y 36 = .bool true := hp.out 23 (by decide)
      refine StepG.plain rfl fun K Q hK => ?_
      simp only [fr65] at hK ⊢
      rw [e1, e2] at hK ⊢
      go_simp
      exact hK _ _ ⟨Stays.refl _, by first | rfl | simp [Is] | (simp [factsOf, Is]; done)⟩
    · have e1 : y 37 = .bool true := hp.out 24 (by decide)
      refine StepG.plain rfl fun K Q hK => ?_
      simp only [fr65] at hK ⊢
      rw [e1] at hK ⊢
      go_simp
      exact hK _ _ ⟨Stays.refl _, by first | rfl | simp [Is] | (simp [factsOf, Is]; done)⟩
    · have e1 : y 1 = .pointer (some ⟨w.heap.size, 0, none⟩) := hy.out 1 (by decide)
      obtain ⟨c0, c1, c2, c3, c4, c5⟩ := Sy.cs (HBX.out _ hst.out)
      refine StepG.yes (b := true) (t := 38) rfl rfl rfl (by decide) (hp.out 25 (by decide)) fun K Q hK => ?_
      simp only [fr65] at hK ⊢
      rw [e1] at hK ⊢
      go_simp
      exact hK _ _ ⟨Stays.refl _, by first | rfl | simp [Is] | (simp [factsOf, Is]; done)⟩
    · have e1 : y 39 = .agg #[.int .u32 5, .int .u8 18, .int .u8 0, .int .u16 1, .int .u64 7, .int .u64 0] := hp.out 26 (by decide)
      refine StepG.yes (b := true) (t := 38) rfl rfl rfl (by decide) (hp.out 25 (by decide)) fun K Q hK => ?_
      simp only [fr65] at hK ⊢
      rw [e1] at hK ⊢
      go_simp
      go_at_call 11
      refine (HBI.out _).mono ?_
      rintro r w3 ⟨rfl, hb3⟩
      exact hK _ w3 ⟨hb3, rfl⟩
    · have e1 : y 40 = .int .i64 1 := hp.out 27 (by decide)
      refine StepG.yes (b := true) (t := 38) rfl rfl rfl (by decide) (hp.out 25 (by decide)) fun K Q hK => ?_
      simp only [fr65] at hK ⊢
      rw [e1] at hK ⊢
      go_simp
      exact hK _ _ ⟨Stays.refl _, by first | rfl | simp [Is] | (simp [factsOf, Is]; done)⟩
    · have e1 : y 38 = .bool true := hp.out 25 (by decide)
      have e2 : y 41 = .bool true := hp.out 28 (by decide)
      refine StepG.plain rfl fun K Q hK => ?_
      simp only [fr65] at hK ⊢
      rw [e1, e2] at hK ⊢
      go_simp
      exact hK _ _ ⟨Stays.refl _, by first | rfl | simp [Is] | (simp [factsOf, Is]; done)⟩
    · have e1 : y 42 = .bool true := hp.out 29 (by decide)
      refine StepG.plain rfl fun K Q hK => ?_
      simp only [fr65] at hK ⊢
      rw [e1] at hK ⊢
      go_simp
      exact hK _ _ ⟨Stays.refl _, by first | rfl | simp [Is] | (simp [factsOf, Is]; done)⟩
    · have e1 : y 1 = .pointer (some ⟨w.heap.size, 0, none⟩) := hy.out 1 (by decide)
      obtain ⟨c0, c1, c2, c3, c4, c5⟩ := Sy.cs (HBX.out _ hst.out)
      refine StepG.yes (b := true) (t := 43) rfl rfl rfl (by decide) (hp.out 30 (by decide)) fun K Q hK => ?_
      simp only [fr65] at hK ⊢
      rw [e1] at hK ⊢
      go_simp
      exact hK _ _ ⟨Stays.refl _, by first | rfl | simp [Is] | (simp [factsOf, Is]; done)⟩
    · have e1 : y 44 = .agg #[.int .u32 5, .int .u8 18, .int .u8 0, .int .u16 1, .int .u64 7, .int .u64 0] := hp.out 31 (by decide)
      refine StepG.yes (b := true) (t := 43) rfl rfl rfl (by decide) (hp.out 30 (by decide)) fun K Q hK => ?_
      simp only [fr65] at hK ⊢
      rw [e1] at hK ⊢
      go_simp
      go_at_call 12
      refine (HKI.out _).mono ?_
      rintro r w3 ⟨rfl, hb3⟩
      exact hK _ w3 ⟨hb3, rfl⟩
    · have e1 : y 45 = .int .i64 2 := hp.out 32 (by decide)
      refine StepG.yes (b := true) (t := 43) rfl rfl rfl (by decide) (hp.out 30 (by decide)) fun K Q hK => ?_
      simp only [fr65] at hK ⊢
      rw [e1] at hK ⊢
      go_simp
      exact hK _ _ ⟨Stays.refl _, by first | rfl | simp [Is] | (simp [factsOf, Is]; done)⟩
    · have e1 : y 43 = .bool true := hp.out 30 (by decide)
      have e2 : y 46 = .bool true := hp.out 33 (by decide)
      refine StepG.plain rfl fun K Q hK => ?_
      simp only [fr65] at hK ⊢
      rw [e1, e2] at hK ⊢
      go_simp
      exact hK _ _ ⟨Stays.refl _, by first | rfl | simp [Is] | (simp [factsOf, Is]; done)⟩
    · have e1 : y 47 = .bool true := hp.out 34 (by decide)
      refine StepG.plain rfl fun K Q hK => ?_
      simp only [fr65] at hK ⊢
      rw [e1] at hK ⊢
      go_simp
      exact hK _ _ ⟨Stays.refl _, by first | rfl | simp [Is] | (simp [factsOf, Is]; done)⟩
    · have e1 : y 1 = .pointer (some ⟨w.heap.size, 0, none⟩) := hy.out 1 (by decide)
      obtain ⟨c0, c1, c2, c3, c4, c5⟩ := Sy.cs (HBX.out _ hst.out)
      refine StepG.yes (b := true) (t := 48) rfl rfl rfl (by decide) (hp.out 35 (by decide)) fun K Q hK => ?_
      simp only [fr65] at hK ⊢
      rw [e1] at hK ⊢
      go_simp
      exact hK _ _ ⟨Stays.refl _, by first | rfl | simp [Is] | (simp [factsOf, Is]; done)⟩
    · have e1 : y 49 = .agg #[.int .u32 5, .int .u8 18, .int .u8 0, .int .u16 1, .int .u64 7, .int .u64 0] := hp.out 36 (by decide)
      refine StepG.yes (b := true) (t := 48) rfl rfl rfl (by decide) (hp.out 35 (by decide)) fun K Q hK => ?_
      simp only [fr65] at hK ⊢
      rw [e1] at hK ⊢
      go_simp
      go_at_call 13
      refine (HDE.out _).mono ?_
      rintro r w3 ⟨rfl, hb3⟩
      exact hK _ w3 ⟨hb3, rfl⟩
    · have e1 : y 48 = .bool true := hp.out 35 (by decide)
      have e2 : y 50 = .bool true := hp.out 37 (by decide)
      refine StepG.plain rfl fun K Q hK => ?_
      simp only [fr65] at hK ⊢
      rw [e1, e2] at hK ⊢
      go_simp
      exact hK _ _ ⟨Stays.refl _, by first | rfl | simp [Is] | (simp [factsOf, Is]; done)⟩
    · have e1 : y 51 = .bool true := hp.out 38 (by decide)
      refine StepG.plain rfl fun K Q hK => ?_
      simp only [fr65] at hK ⊢
      rw [e1] at hK ⊢
      go_simp
      exact hK _ _ ⟨Stays.refl _, by first | rfl | simp [Is] | (simp [factsOf, Is]; done)⟩
    · have e1 : y 1 = .pointer (some ⟨w.heap.size, 0, none⟩) := hy.out 1 (by decide)
      obtain ⟨c0, c1, c2, c3, c4, c5⟩ := Sy.cs (HBX.out _ hst.out)
      refine StepG.yes (b := true) (t := 52) rfl rfl rfl (by decide) (hp.out 39 (by decide)) fun K Q hK => ?_
      simp only [fr65] at hK ⊢
      rw [e1] at hK ⊢
      go_simp
      exact hK _ _ ⟨Stays.refl _, by first | rfl | simp [Is] | (simp [factsOf, Is]; done)⟩
    · have e1 : y 53 = .agg #[.int .u32 5, .int .u8 18, .int .u8 0, .int .u16 1, .int .u64 7, .int .u64 0] := hp.out 40 (by decide)
      refine StepG.yes (b := true) (t := 52) rfl rfl rfl (by decide) (hp.out 39 (by decide)) fun K Q hK => ?_
      simp only [fr65] at hK ⊢
      rw [e1] at hK ⊢
      go_simp
      exact hK _ _ ⟨(Below.refl _ _).alloc (Nat.le_refl _) _, Sls.lit1 _ _ _ (by constructor <;> decide) _⟩
    · obtain ⟨gg, e1, hsl⟩ : Sls 1 [⟨5, 18, 0, 1, 7, 0⟩] (y 54) w2 := hp.out 41 (by decide)
      refine StepG.yes (b := true) (t := 52) rfl rfl rfl (by decide) (hp.out 39 (by decide)) fun K Q hK => ?_
      simp only [fr65] at hK ⊢
      rw [e1] at hK ⊢
      go_simp
      go_at_call 16
      refine (HCH1.out _ _ () hsl).mono ?_
      rintro r w3 ⟨rfl, hb3⟩
      exact hK _ w3 ⟨hb3, rfl⟩
    · have e1 : y 55 = .int .i64 11 := hp.out 42 (by decide)
      refine StepG.yes (b := true) (t := 52) rfl rfl rfl (by decide) (hp.out 39 (by decide)) fun K Q hK => ?_
      simp only [fr65] at hK ⊢
      rw [e1] at hK ⊢
      go_simp
      exact hK _ _ ⟨Stays.refl _, by first | rfl | simp [Is] | (simp [factsOf, Is]; done)⟩
    · have e1 : y 52 = .bool true := hp.out 39 (by decide)
      have e2 : y 56 = .bool true := hp.out 43 (by decide)
      refine StepG.plain rfl fun K Q hK => ?_
      simp only [fr65] at hK ⊢
      rw [e1, e2] at hK ⊢
      go_simp
      exact hK _ _ ⟨Stays.refl _, by first | rfl | simp [Is] | (simp [factsOf, Is]; done)⟩
    · have e1 : y 57 = .bool true := hp.out 44 (by decide)
      refine StepG.plain rfl fun K Q hK => ?_
      simp only [fr65] at hK ⊢
      rw [e1] at hK ⊢
      go_simp
      exact hK _ _ ⟨Stays.refl _, by first | rfl | simp [Is] | (simp [factsOf, Is]; done)⟩
    · refine StepG.yes (b := true) (t := 58) rfl rfl rfl (by decide) (hp.out 45 (by decide)) fun K Q hK => ?_
      simp only [fr65] at hK ⊢
      go_simp
      exact hK _ _ ⟨Stays.refl _, by first | rfl | simp [Is] | (simp [factsOf, Is]; done)⟩
    · have e1 : y 1 = .pointer (some ⟨w.heap.size, 0, none⟩) := hy.out 1 (by decide)
      obtain ⟨c0, c1, c2, c3, c4, c5⟩ := Sy.cs (HBX.out _ hst.out)
      refine StepG.yes (b := true) (t := 58) rfl rfl rfl (by decide) (hp.out 45 (by decide)) fun K Q hK => ?_
      simp only [fr65] at hK ⊢
      rw [e1] at hK ⊢
      go_simp
      exact hK _ _ ⟨Stays.refl _, by first | rfl | simp [Is] | (simp [factsOf, Is]; done)⟩
    · have e1 : y 59 = .agg #[.int .u32 0, .int .u8 0, .int .u8 0, .int .u16 0, .int .u64 0, .int .u64 0] := hp.out 46 (by decide)
      have e2 : y 60 = .agg #[.int .u32 5, .int .u8 18, .int .u8 0, .int .u16 1, .int .u64 7, .int .u64 0] := hp.out 47 (by decide)
      refine StepG.yes (b := true) (t := 58) rfl rfl rfl (by decide) (hp.out 45 (by decide)) fun K Q hK => ?_
      simp only [fr65] at hK ⊢
      rw [e1, e2] at hK ⊢
      go_simp
      exact hK _ _ ⟨(Below.refl _ _).alloc (Nat.le_refl _) _, Sls.lit2 _ _ _ (by constructor <;> decide) _⟩
    · obtain ⟨gg, e1, hsl⟩ : Sls 2 [Sy.zero, ⟨5, 18, 0, 1, 7, 0⟩] (y 61) w2 := hp.out 48 (by decide)
      refine StepG.yes (b := true) (t := 58) rfl rfl rfl (by decide) (hp.out 45 (by decide)) fun K Q hK => ?_
      simp only [fr65] at hK ⊢
      rw [e1] at hK ⊢
      go_simp
      go_at_call 16
      refine (HCH2.out _ _ () hsl).mono ?_
      rintro r w3 ⟨rfl, hb3⟩
      exact hK _ w3 ⟨hb3, rfl⟩
    · have e1 : y 62 = .int .i64 0 := hp.out 49 (by decide)
      refine StepG.yes (b := true) (t := 58) rfl rfl rfl (by decide) (hp.out 45 (by decide)) fun K Q hK => ?_
      simp only [fr65] at hK ⊢
      rw [e1] at hK ⊢
      go_simp
      exact hK _ _ ⟨Stays.refl _, by first | rfl | simp [Is] | (simp [factsOf, Is]; done)⟩
    · have e1 : y 58 = .bool true := hp.out 45 (by decide)
      have e2 : y 63 = .bool true := hp.out 50 (by decide)
      refine StepG.plain rfl fun K Q hK => ?_
      simp only [fr65] at hK ⊢
      rw [e1, e2] at hK ⊢
      go_simp
      exact hK _ _ ⟨Stays.refl _, by first | rfl | simp [Is] | (simp [factsOf, Is]; done)⟩
    · have e1 : y 64 = .bool true := hp.out 51 (by decide)
      refine StepG.plain rfl fun K Q hK => ?_
      simp only [fr65] at hK ⊢
      rw [e1] at hK ⊢
      go_simp
      exact hK _ _ ⟨Stays.refl _, by first | rfl | simp [Is] | (simp [factsOf, Is]; done)⟩
end Go.Proofs.Ytpodnhieaboddaa
