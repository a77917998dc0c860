/-
  What is proved here: Put of package dynamic: the entries' bytes, in new memory.
  Conditions: at most 1000 values of Needed.
-/
import Derived.Test.YtngjnbfjlchfgaaDynPlain
import Derived.Test.YtngjnbfjlchfgaaDynRPut
import Derived.Test.YtngjnbfjlchfgaaDynModel
namespace Go.Proofs.Ytngjnbfjlchfgaa
open Go.RowKit
set_option linter.unusedVariables false
set_option linter.unusedSimpArgs false

theorem c8 {w : World} {g : Nat} {v0 v1 v2 v3 v4 v5 v6 v7 : Value} {t : TypeId} (h : Blk w g #[v0, v1, v2, v3, v4, v5, v6, v7] t) :
    w.cell? ⟨g, 0, none⟩ = some v0 ∧ w.cell? ⟨g, 1, none⟩ = some v1 ∧ w.cell? ⟨g, 2, none⟩ = some v2 ∧ w.cell? ⟨g, 3, none⟩ = some v3 ∧ w.cell? ⟨g, 4, none⟩ = some v4 ∧ w.cell? ⟨g, 5, none⟩ = some v5 ∧ w.cell? ⟨g, 6, none⟩ = some v6 ∧ w.cell? ⟨g, 7, none⟩ = some v7 :=
  ⟨h.cell 0, h.cell 1, h.cell 2, h.cell 3, h.cell 4, h.cell 5, h.cell 6, h.cell 7⟩
theorem f8 {w : World} {g : Nat} {v0 v1 v2 v3 v4 v5 v6 v7 : Value} {t : TypeId} (h : Blk w g #[v0, v1, v2, v3, v4, v5, v6, v7] t) :
    w.frozen? ⟨g, 0, none⟩ = false ∧ w.frozen? ⟨g, 1, none⟩ = false ∧ w.frozen? ⟨g, 2, none⟩ = false ∧ w.frozen? ⟨g, 3, none⟩ = false ∧ w.frozen? ⟨g, 4, none⟩ = false ∧ w.frozen? ⟨g, 5, none⟩ = false ∧ w.frozen? ⟨g, 6, none⟩ = false ∧ w.frozen? ⟨g, 7, none⟩ = false :=
  ⟨h.frozen 0, h.frozen 1, h.frozen 2, h.frozen 3, h.frozen 4, h.frozen 5, h.frozen 6, h.frozen 7⟩
/-- One entry behind the entries of E, and its words. -/
theorem sev_add {n : Nat} {N V : List Int} {base : Nat} {v : Value} {w : World} {k : Nat} {t x : Int} (hs : sevenD V (k + 1) = sevenD V k ++ [(t, x)])
    (h : w.ownsRow base 5 1 v (16 * (n + (sevenD V k).length) + 16) ((entsB (needs N ++ sevenD V k) ++ entB (t, x)).map (Value.int .u8))) :
    w.ownsRow base 5 1 v (16 * (n + (sevenD V (k + 1)).length)) ((entsB (needs N ++ sevenD V (k + 1))).map (Value.int .u8)) := by
  rw [hs, ← List.append_assoc, entsB_snoc, List.length_append]
  have e : 16 * (n + ((sevenD V k).length + [(t, x)].length)) = 16 * (n + (sevenD V k).length) + 16 := by simp; omega
  rw [e]
  exact h
theorem sev_not {n : Nat} {N V : List Int} {base : Nat} {v : Value} {w : World} {k : Nat} (hs : sevenD V (k + 1) = sevenD V k)
    (h : w.ownsRow base 5 1 v (16 * (n + (sevenD V k).length)) ((entsB (needs N ++ sevenD V k)).map (Value.int .u8))) :
    w.ownsRow base 5 1 v (16 * (n + (sevenD V (k + 1)).length)) ((entsB (needs N ++ sevenD V (k + 1))).map (Value.int .u8)) := by
  rw [hs]; exact h
set_option maxRecDepth 100000 in
set_option maxHeartbeats 3200000 in
theorem put_ok (B : Nat) (a : Option Addr) (n c : Nat) (N V : List Int) (w : World) (h1 : Nus w B a n N) (hV : ∀ x ∈ V, 0 ≤ x ∧ x ≤ 18446744073709551615) (hl : V.length = 7) (hB : B ≤ w.heap.size) (hn : n ≤ 1000) :
    Calls Try.prog 10 #[infoV a n c V] w fun r w' => (∃ u, r = .returned u ∧ w'.ownsRow w.heap.size 5 1 u (putBy N V).length ((putBy N V).map (Value.int .u8))) ∧ Below w.heap.size w w' := by
  have hni : (n : Int) ≤ 1000 := by omega
  obtain ⟨x0, x1, x2, x3, x4, x5, x6, rfl⟩ := list7 hl
  have b0 : 0 ≤ x0 ∧ x0 ≤ 18446744073709551615 := hV _ (by simp)
  have b1 : 0 ≤ x1 ∧ x1 ≤ 18446744073709551615 := hV _ (by simp)
  have b2 : 0 ≤ x2 ∧ x2 ≤ 18446744073709551615 := hV _ (by simp)
  have b3 : 0 ≤ x3 ∧ x3 ≤ 18446744073709551615 := hV _ (by simp)
  have b4 : 0 ≤ x4 ∧ x4 ≤ 18446744073709551615 := hV _ (by simp)
  have b5 : 0 ≤ x5 ∧ x5 ≤ 18446744073709551615 := hV _ (by simp)
  have b6 : 0 ≤ x6 ∧ x6 ≤ 18446744073709551615 := hV _ (by simp)
  unfold infoV
  simp only [List.getD_cons_zero, List.getD_cons_succ]
  clear hV hl
  generalize hV : ([x0, x1, x2, x3, x4, x5, x6] : List Int) = V
  have HK0 : Hid (sevenD V 1 = sevenD V 0 ++ (if x0 = 0 then [] else [(14, x0)])) := Lib.hid (by
    subst hV; rw [sevenD_succ]; by_cases h : x0 = 0 <;> simp [keepD, h, tagsD])
  have HK1 : Hid (sevenD V 2 = sevenD V 1 ++ [(5, x1)]) := Lib.hid (by subst hV; rw [sevenD_succ]; simp [keepD, tagsD])
  have HK2 : Hid (sevenD V 3 = sevenD V 2 ++ [(10, x2)]) := Lib.hid (by subst hV; rw [sevenD_succ]; simp [keepD, tagsD])
  have HK3 : Hid (sevenD V 4 = sevenD V 3 ++ (if x4 = 0 then [] else [(6, x3)])) := Lib.hid (by
    subst hV; rw [sevenD_succ]; by_cases h : x4 = 0 <;> simp [keepD, h, tagsD])
  have HK4 : Hid (sevenD V 5 = sevenD V 4 ++ (if x4 = 0 then [] else [(1610612749, x4)])) := Lib.hid (by
    subst hV; rw [sevenD_succ]; by_cases h : x4 = 0 <;> simp [keepD, h, tagsD])
  have HK5 : Hid (sevenD V 6 = sevenD V 5 ++ (if x6 = 0 then [] else [(7, x5)])) := Lib.hid (by
    subst hV; rw [sevenD_succ]; by_cases h : x6 = 0 <;> simp [keepD, h, tagsD])
  have HK6 : Hid (sevenD V 7 = sevenD V 6 ++ (if x6 = 0 then [] else [(8, x6)])) := Lib.hid (by
    subst hV; rw [sevenD_succ]; by_cases h : x6 = 0 <;> simp [keepD, h, tagsD])
  have HPE : Hid (entsB (needs N ++ sevenD V 7) ++ entB (0, 0) = putBy N V ∧ 16 * (n + (sevenD V 7).length) + 16 = (putBy N V).length) := Lib.hid (by
    refine ⟨(putBy_eq N V).symm, ?_⟩
    rw [putBy_len, h1.hl])
  have HL : Hid (∀ k, (sevenD V k).length ≤ k) := Lib.hid (seven_le V)
  clear hV
  obtain ⟨C, hC⟩ : ∃ C : Array Value, C = #[.slice a n c, .int .u64 x0, .int .u64 x1, .int .u64 x2, .int .u64 x3, .int .u64 x4, .int .u64 x5, .int .u64 x6] := ⟨_, rfl⟩
  have HBW : Hid (Below w.heap.size w (w.alloc (.cells C 27))) := Lib.hid ((Below.refl _ _).alloc (Nat.le_refl _) _)
  have HQ : Hid (∀ w', Below (w.heap.size + 1) (w.alloc (.cells C 27)) w' → Blk w' w.heap.size #[.slice a n c, .int .u64 x0, .int .u64 x1, .int .u64 x2, .int .u64 x3, .int .u64 x4, .int .u64 x5, .int .u64 x6] 27 ∧ w.heap.size + 1 ≤ w'.heap.size) := Lib.hid (fun w' hb =>
    ⟨hC ▸ (Blk.new w _ _).below hb (Nat.lt_succ_self _), by have := hb.size; simp at this; omega⟩)
  have H1 : Hid (∀ w', Below (w.heap.size + 1) (w.alloc (.cells C 27)) w' → Nus w' B a n N) := Lib.hid (fun w' h => (h1.below (HBW.out.mono hB)).below (h.mono (by omega)))
  have HNL := Lib.hid h1.hl
  have HNA := Lib.hid (fun i hi => h1.at (i := i) hi)
  have HFIN : Hid (∀ w' v, Below (w.heap.size + 1) (w.alloc (.cells C 27)) w' → w'.ownsRow (w.heap.size + 1) 5 1 v (16 * (n + (sevenD V 7).length) + 16) ((entsB (needs N ++ sevenD V 7) ++ entB (0, 0)).map (Value.int .u8)) → (∃ u, (Ending.returned v) = .returned u ∧ w'.ownsRow w.heap.size 5 1 u (putBy N V).length ((putBy N V).map (Value.int .u8))) ∧ Below w.heap.size w w') := Lib.hid (fun w' v hb ho => by
    obtain ⟨e1, e2⟩ := HPE.out
    rw [e1, e2] at ho
    exact ⟨⟨_, rfl, own_base ho (Nat.le_succ _)⟩, HBW.out.trans (hb.mono (by omega))⟩)
  clear h1
  subst hC
  go_enter Try.func10, Try.ntmps10
  go_wp2
  go_loopw [3, 9] (fun v i wr => ∃ k : Nat, k ≤ n ∧ i = .int .i64 k ∧ wr.ownsRow (w.heap.size + 1) 5 1 v (16 * k) ((entsB (needs (N.take k))).map (Value.int .u8)) ∧ Below (w.heap.size + 1) (w.alloc (.cells #[.slice a n c, .int .u64 x0, .int .u64 x1, .int .u64 x2, .int .u64 x3, .int .u64 x4, .int .u64 x5, .int .u64 x6] 27)) wr) (fun _ i _ => n - (intOf i).toNat)
  case atStart => exact ⟨0, Nat.zero_le _, rfl, World.ownsRow_nil _ _ _ _, Below.refl _ _⟩
  case round =>
    obtain ⟨k, hk, rfl, hown, hbel⟩ := hrel
    by_cases hlt : k < n
    · obtain ⟨ab, ao, rfl, haB, hac⟩ := (H1.out _ hbel).hc (by omega)
      have e1 := hac k hlt
      have hki : (k : Int) < n := by omega
      have hbd := HNA.out k hlt
      have HST := Lib.hid (needs_step (N := N) (k := k) (by have := HNL.out; omega))
      have HOW := Lib.hid hown
      have HBE := Lib.hid hbel
      generalize N.getD k 0 = x at e1 hbd HST
      clear hac hown hbel
      go_wp2_with fail
      refine (add_ok (w.heap.size + 1) _ (16 * k) _ 1 x _ HOW.out (HQ.out _ HBE.out).2 (by omega) (by decide) (by decide) hbd.1 hbd.2).mono ?_
      rintro r w2 ⟨v2, rfl, ho, hb⟩
      rw [← entsB_snoc, ← HST.out] at ho
      have HO2 : Hid (w2.ownsRow (w.heap.size + 1) 5 1 v2 (16 * (k + 1)) ((entsB (needs (N.take (k + 1)))).map (Value.int .u8))) := Lib.hid ho
      have HB2 := Lib.hid (HBE.out.trans hb)
      clear ho hb
      go_wp2
      go_roundw
      case rel => exact ⟨k + 1, by omega, by go_num, HO2.out, HB2.out⟩
      case measure => (simp [intOf] <;> omega)
    · obtain rfl : n = k := by omega
      have htk : N.take n = N := List.take_of_length_le (by have := HNL.out; omega)
      rw [htk] at hown
      have HO0 : Hid (wr.ownsRow (w.heap.size + 1) 5 1 _ (16 * (n + (sevenD V 0).length)) ((entsB (needs N ++ sevenD V 0)).map (Value.int .u8))) := Lib.hid (by
        have e : sevenD V 0 = [] := rfl
        rw [e, List.append_nil]; exact hown)
      have HB0 := Lib.hid hbel
      obtain ⟨q0, q1, q2, q3, q4, q5, q6, q7⟩ := c8 (HQ.out _ hbel).1
      clear hown hbel htk hk hlt
      by_cases hz0 : x0 = 0
      · have hzb0 : (x0 == 0) = true := by simpa using hz0
        have HO1 := Lib.hid (sev_not (HK0.out.trans (by rw [if_pos hz0, List.append_nil])) HO0.out)
        have HB1 := HB0
        go_wp2_with fail
        refine (add_ok (w.heap.size + 1) _ (16 * (n + (sevenD V 1).length)) _ 5 x1 _ HO1.out (HQ.out _ HB1.out).2 (by have := HL.out 1; omega) (by decide) (by decide) b1.1 b1.2).mono ?_
        rintro r w2 ⟨v2, rfl, ho, hb⟩
        have HO2 := Lib.hid (sev_add HK1.out ho)
        have HB2 := Lib.hid (HB1.out.trans hb)
        obtain ⟨q0, q1, q2, q3, q4, q5, q6, q7⟩ := c8 (HQ.out _ HB2.out).1
        clear ho hb
        go_wp2_with fail
        refine (add_ok (w.heap.size + 1) _ (16 * (n + (sevenD V 2).length)) _ 10 x2 _ HO2.out (HQ.out _ HB2.out).2 (by have := HL.out 2; omega) (by decide) (by decide) b2.1 b2.2).mono ?_
        rintro r w2 ⟨v2, rfl, ho, hb⟩
        have HO3 := Lib.hid (sev_add HK2.out ho)
        have HB3 := Lib.hid (HB2.out.trans hb)
        obtain ⟨q0, q1, q2, q3, q4, q5, q6, q7⟩ := c8 (HQ.out _ HB3.out).1
        clear ho hb
        by_cases hz4 : x4 = 0
        · have hzb4 : (x4 == 0) = true := by simpa using hz4
          have HO4 := Lib.hid (sev_not (HK3.out.trans (by rw [if_pos hz4, List.append_nil])) HO3.out)
          have HB4 := HB3
          have HO5 := Lib.hid (sev_not (HK4.out.trans (by rw [if_pos hz4, List.append_nil])) HO4.out)
          have HB5 := HB4
          by_cases hz6 : x6 = 0
          · have hzb6 : (x6 == 0) = true := by simpa using hz6
            have HO6 := Lib.hid (sev_not (HK5.out.trans (by rw [if_pos hz6, List.append_nil])) HO5.out)
            have HB6 := HB5
            have HO7 := Lib.hid (sev_not (HK6.out.trans (by rw [if_pos hz6, List.append_nil])) HO6.out)
            have HB7 := HB6
            go_wp2_with fail
            refine (add_ok (w.heap.size + 1) _ (16 * (n + (sevenD V 7).length)) _ 0 0 _ HO7.out (HQ.out _ HB7.out).2 (by have := HL.out 7; omega) (by decide) (by decide) (by decide) (by decide)).mono ?_
            rintro r w2 ⟨v2, rfl, ho, hb⟩
            have HF := Lib.hid (HFIN.out _ _ (HB7.out.trans hb) ho)
            clear ho hb
            go_wp2
            go_ret
            exact HF.out
          · have hzb6 : (x6 == 0) = false := by simpa using hz6
            go_wp2_with fail
            refine (add_ok (w.heap.size + 1) _ (16 * (n + (sevenD V 5).length)) _ 7 x5 _ HO5.out (HQ.out _ HB5.out).2 (by have := HL.out 5; omega) (by decide) (by decide) b5.1 b5.2).mono ?_
            rintro r w2 ⟨v2, rfl, ho, hb⟩
            have HO8 := Lib.hid (sev_add (HK5.out.trans (by rw [if_neg hz6])) ho)
            have HB8 := Lib.hid (HB5.out.trans hb)
            obtain ⟨q0, q1, q2, q3, q4, q5, q6, q7⟩ := c8 (HQ.out _ HB8.out).1
            clear ho hb
            go_wp2_with fail
            refine (add_ok (w.heap.size + 1) _ (16 * (n + (sevenD V 6).length)) _ 8 x6 _ HO8.out (HQ.out _ HB8.out).2 (by have := HL.out 6; omega) (by decide) (by decide) b6.1 b6.2).mono ?_
            rintro r w2 ⟨v2, rfl, ho, hb⟩
            have HO9 := Lib.hid (sev_add (HK6.out.trans (by rw [if_neg hz6])) ho)
            have HB9 := Lib.hid (HB8.out.trans hb)
            obtain ⟨q0, q1, q2, q3, q4, q5, q6, q7⟩ := c8 (HQ.out _ HB9.out).1
            clear ho hb
            go_wp2_with fail
            refine (add_ok (w.heap.size + 1) _ (16 * (n + (sevenD V 7).length)) _ 0 0 _ HO9.out (HQ.out _ HB9.out).2 (by have := HL.out 7; omega) (by decide) (by decide) (by decide) (by decide)).mono ?_
            rintro r w2 ⟨v2, rfl, ho, hb⟩
            have HF := Lib.hid (HFIN.out _ _ (HB9.out.trans hb) ho)
            clear ho hb
            go_wp2
            go_ret
            exact HF.out
        · have hzb4 : (x4 == 0) = false := by simpa using hz4
          go_wp2_with fail
          refine (add_ok (w.heap.size + 1) _ (16 * (n + (sevenD V 3).length)) _ 6 x3 _ HO3.out (HQ.out _ HB3.out).2 (by have := HL.out 3; omega) (by decide) (by decide) b3.1 b3.2).mono ?_
          rintro r w2 ⟨v2, rfl, ho, hb⟩
          have HO10 := Lib.hid (sev_add (HK3.out.trans (by rw [if_neg hz4])) ho)
          have HB10 := Lib.hid (HB3.out.trans hb)
          obtain ⟨q0, q1, q2, q3, q4, q5, q6, q7⟩ := c8 (HQ.out _ HB10.out).1
          clear ho hb
          go_wp2_with fail
          refine (add_ok (w.heap.size + 1) _ (16 * (n + (sevenD V 4).length)) _ 1610612749 x4 _ HO10.out (HQ.out _ HB10.out).2 (by have := HL.out 4; omega) (by decide) (by decide) b4.1 b4.2).mono ?_
          rintro r w2 ⟨v2, rfl, ho, hb⟩
          have HO11 := Lib.hid (sev_add (HK4.out.trans (by rw [if_neg hz4])) ho)
          have HB11 := Lib.hid (HB10.out.trans hb)
          obtain ⟨q0, q1, q2, q3, q4, q5, q6, q7⟩ := c8 (HQ.out _ HB11.out).1
          clear ho hb
          by_cases hz6 : x6 = 0
          · have hzb6 : (x6 == 0) = true := by simpa using hz6
            have HO12 := Lib.hid (sev_not (HK5.out.trans (by rw [if_pos hz6, List.append_nil])) HO11.out)
            have HB12 := HB11
            have HO13 := Lib.hid (sev_not (HK6.out.trans (by rw [if_pos hz6, List.append_nil])) HO12.out)
            have HB13 := HB12
            go_wp2_with fail
            refine (add_ok (w.heap.size + 1) _ (16 * (n + (sevenD V 7).length)) _ 0 0 _ HO13.out (HQ.out _ HB13.out).2 (by have := HL.out 7; omega) (by decide) (by decide) (by decide) (by decide)).mono ?_
            rintro r w2 ⟨v2, rfl, ho, hb⟩
            have HF := Lib.hid (HFIN.out _ _ (HB13.out.trans hb) ho)
            clear ho hb
            go_wp2
            go_ret
            exact HF.out
          · have hzb6 : (x6 == 0) = false := by simpa using hz6
            go_wp2_with fail
            refine (add_ok (w.heap.size + 1) _ (16 * (n + (sevenD V 5).length)) _ 7 x5 _ HO11.out (HQ.out _ HB11.out).2 (by have := HL.out 5; omega) (by decide) (by decide) b5.1 b5.2).mono ?_
            rintro r w2 ⟨v2, rfl, ho, hb⟩
            have HO14 := Lib.hid (sev_add (HK5.out.trans (by rw [if_neg hz6])) ho)
            have HB14 := Lib.hid (HB11.out.trans hb)
            obtain ⟨q0, q1, q2, q3, q4, q5, q6, q7⟩ := c8 (HQ.out _ HB14.out).1
            clear ho hb
            go_wp2_with fail
            refine (add_ok (w.heap.size + 1) _ (16 * (n + (sevenD V 6).length)) _ 8 x6 _ HO14.out (HQ.out _ HB14.out).2 (by have := HL.out 6; omega) (by decide) (by decide) b6.1 b6.2).mono ?_
            rintro r w2 ⟨v2, rfl, ho, hb⟩
            have HO15 := Lib.hid (sev_add (HK6.out.trans (by rw [if_neg hz6])) ho)
            have HB15 := Lib.hid (HB14.out.trans hb)
            obtain ⟨q0, q1, q2, q3, q4, q5, q6, q7⟩ := c8 (HQ.out _ HB15.out).1
            clear ho hb
            go_wp2_with fail
            refine (add_ok (w.heap.size + 1) _ (16 * (n + (sevenD V 7).length)) _ 0 0 _ HO15.out (HQ.out _ HB15.out).2 (by have := HL.out 7; omega) (by decide) (by decide) (by decide) (by decide)).mono ?_
            rintro r w2 ⟨v2, rfl, ho, hb⟩
            have HF := Lib.hid (HFIN.out _ _ (HB15.out.trans hb) ho)
            clear ho hb
            go_wp2
            go_ret
            exact HF.out
      · have hzb0 : (x0 == 0) = false := by simpa using hz0
        go_wp2_with fail
        refine (add_ok (w.heap.size + 1) _ (16 * (n + (sevenD V 0).length)) _ 14 x0 _ HO0.out (HQ.out _ HB0.out).2 (by have := HL.out 0; omega) (by decide) (by decide) b0.1 b0.2).mono ?_
        rintro r w2 ⟨v2, rfl, ho, hb⟩
        have HO16 := Lib.hid (sev_add (HK0.out.trans (by rw [if_neg hz0])) ho)
        have HB16 := Lib.hid (HB0.out.trans hb)
        obtain ⟨q0, q1, q2, q3, q4, q5, q6, q7⟩ := c8 (HQ.out _ HB16.out).1
        clear ho hb
        go_wp2_with fail
        refine (add_ok (w.heap.size + 1) _ (16 * (n + (sevenD V 1).length)) _ 5 x1 _ HO16.out (HQ.out _ HB16.out).2 (by have := HL.out 1; omega) (by decide) (by decide) b1.1 b1.2).mono ?_
        rintro r w2 ⟨v2, rfl, ho, hb⟩
        have HO17 := Lib.hid (sev_add HK1.out ho)
        have HB17 := Lib.hid (HB16.out.trans hb)
        obtain ⟨q0, q1, q2, q3, q4, q5, q6, q7⟩ := c8 (HQ.out _ HB17.out).1
        clear ho hb
        go_wp2_with fail
        refine (add_ok (w.heap.size + 1) _ (16 * (n + (sevenD V 2).length)) _ 10 x2 _ HO17.out (HQ.out _ HB17.out).2 (by have := HL.out 2; omega) (by decide) (by decide) b2.1 b2.2).mono ?_
        rintro r w2 ⟨v2, rfl, ho, hb⟩
        have HO18 := Lib.hid (sev_add HK2.out ho)
        have HB18 := Lib.hid (HB17.out.trans hb)
        obtain ⟨q0, q1, q2, q3, q4, q5, q6, q7⟩ := c8 (HQ.out _ HB18.out).1
        clear ho hb
        by_cases hz4 : x4 = 0
        · have hzb4 : (x4 == 0) = true := by simpa using hz4
          have HO19 := Lib.hid (sev_not (HK3.out.trans (by rw [if_pos hz4, List.append_nil])) HO18.out)
          have HB19 := HB18
          have HO20 := Lib.hid (sev_not (HK4.out.trans (by rw [if_pos hz4, List.append_nil])) HO19.out)
          have HB20 := HB19
          by_cases hz6 : x6 = 0
          · have hzb6 : (x6 == 0) = true := by simpa using hz6
            have HO21 := Lib.hid (sev_not (HK5.out.trans (by rw [if_pos hz6, List.append_nil])) HO20.out)
            have HB21 := HB20
            have HO22 := Lib.hid (sev_not (HK6.out.trans (by rw [if_pos hz6, List.append_nil])) HO21.out)
            have HB22 := HB21
            go_wp2_with fail
            refine (add_ok (w.heap.size + 1) _ (16 * (n + (sevenD V 7).length)) _ 0 0 _ HO22.out (HQ.out _ HB22.out).2 (by have := HL.out 7; omega) (by decide) (by decide) (by decide) (by decide)).mono ?_
            rintro r w2 ⟨v2, rfl, ho, hb⟩
            have HF := Lib.hid (HFIN.out _ _ (HB22.out.trans hb) ho)
            clear ho hb
            go_wp2
            go_ret
            exact HF.out
          · have hzb6 : (x6 == 0) = false := by simpa using hz6
            go_wp2_with fail
            refine (add_ok (w.heap.size + 1) _ (16 * (n + (sevenD V 5).length)) _ 7 x5 _ HO20.out (HQ.out _ HB20.out).2 (by have := HL.out 5; omega) (by decide) (by decide) b5.1 b5.2).mono ?_
            rintro r w2 ⟨v2, rfl, ho, hb⟩
            have HO23 := Lib.hid (sev_add (HK5.out.trans (by rw [if_neg hz6])) ho)
            have HB23 := Lib.hid (HB20.out.trans hb)
            obtain ⟨q0, q1, q2, q3, q4, q5, q6, q7⟩ := c8 (HQ.out _ HB23.out).1
            clear ho hb
            go_wp2_with fail
            refine (add_ok (w.heap.size + 1) _ (16 * (n + (sevenD V 6).length)) _ 8 x6 _ HO23.out (HQ.out _ HB23.out).2 (by have := HL.out 6; omega) (by decide) (by decide) b6.1 b6.2).mono ?_
            rintro r w2 ⟨v2, rfl, ho, hb⟩
            have HO24 := Lib.hid (sev_add (HK6.out.trans (by rw [if_neg hz6])) ho)
            have HB24 := Lib.hid (HB23.out.trans hb)
            obtain ⟨q0, q1, q2, q3, q4, q5, q6, q7⟩ := c8 (HQ.out _ HB24.out).1
            clear ho hb
            go_wp2_with fail
            refine (add_ok (w.heap.size + 1) _ (16 * (n + (sevenD V 7).length)) _ 0 0 _ HO24.out (HQ.out _ HB24.out).2 (by have := HL.out 7; omega) (by decide) (by decide) (by decide) (by decide)).mono ?_
            rintro r w2 ⟨v2, rfl, ho, hb⟩
            have HF := Lib.hid (HFIN.out _ _ (HB24.out.trans hb) ho)
            clear ho hb
            go_wp2
            go_ret
            exact HF.out
        · have hzb4 : (x4 == 0) = false := by simpa using hz4
          go_wp2_with fail
          refine (add_ok (w.heap.size + 1) _ (16 * (n + (sevenD V 3).length)) _ 6 x3 _ HO18.out (HQ.out _ HB18.out).2 (by have := HL.out 3; omega) (by decide) (by decide) b3.1 b3.2).mono ?_
          rintro r w2 ⟨v2, rfl, ho, hb⟩
          have HO25 := Lib.hid (sev_add (HK3.out.trans (by rw [if_neg hz4])) ho)
          have HB25 := Lib.hid (HB18.out.trans hb)
          obtain ⟨q0, q1, q2, q3, q4, q5, q6, q7⟩ := c8 (HQ.out _ HB25.out).1
          clear ho hb
          go_wp2_with fail
          refine (add_ok (w.heap.size + 1) _ (16 * (n + (sevenD V 4).length)) _ 1610612749 x4 _ HO25.out (HQ.out _ HB25.out).2 (by have := HL.out 4; omega) (by decide) (by decide) b4.1 b4.2).mono ?_
          rintro r w2 ⟨v2, rfl, ho, hb⟩
          have HO26 := Lib.hid (sev_add (HK4.out.trans (by rw [if_neg hz4])) ho)
          have HB26 := Lib.hid (HB25.out.trans hb)
          obtain ⟨q0, q1, q2, q3, q4, q5, q6, q7⟩ := c8 (HQ.out _ HB26.out).1
          clear ho hb
          by_cases hz6 : x6 = 0
          · have hzb6 : (x6 == 0) = true := by simpa using hz6
            have HO27 := Lib.hid (sev_not (HK5.out.trans (by rw [if_pos hz6, List.append_nil])) HO26.out)
            have HB27 := HB26
            have HO28 := Lib.hid (sev_not (HK6.out.trans (by rw [if_pos hz6, List.append_nil])) HO27.out)
            have HB28 := HB27
            go_wp2_with fail
            refine (add_ok (w.heap.size + 1) _ (16 * (n + (sevenD V 7).length)) _ 0 0 _ HO28.out (HQ.out _ HB28.out).2 (by have := HL.out 7; omega) (by decide) (by decide) (by decide) (by decide)).mono ?_
            rintro r w2 ⟨v2, rfl, ho, hb⟩
            have HF := Lib.hid (HFIN.out _ _ (HB28.out.trans hb) ho)
            clear ho hb
            go_wp2
            go_ret
            exact HF.out
          · have hzb6 : (x6 == 0) = false := by simpa using hz6
            go_wp2_with fail
            refine (add_ok (w.heap.size + 1) _ (16 * (n + (sevenD V 5).length)) _ 7 x5 _ HO26.out (HQ.out _ HB26.out).2 (by have := HL.out 5; omega) (by decide) (by decide) b5.1 b5.2).mono ?_
            rintro r w2 ⟨v2, rfl, ho, hb⟩
            have HO29 := Lib.hid (sev_add (HK5.out.trans (by rw [if_neg hz6])) ho)
            have HB29 := Lib.hid (HB26.out.trans hb)
            obtain ⟨q0, q1, q2, q3, q4, q5, q6, q7⟩ := c8 (HQ.out _ HB29.out).1
            clear ho hb
            go_wp2_with fail
            refine (add_ok (w.heap.size + 1) _ (16 * (n + (sevenD V 6).length)) _ 8 x6 _ HO29.out (HQ.out _ HB29.out).2 (by have := HL.out 6; omega) (by decide) (by decide) b6.1 b6.2).mono ?_
            rintro r w2 ⟨v2, rfl, ho, hb⟩
            have HO30 := Lib.hid (sev_add (HK6.out.trans (by rw [if_neg hz6])) ho)
            have HB30 := Lib.hid (HB29.out.trans hb)
            obtain ⟨q0, q1, q2, q3, q4, q5, q6, q7⟩ := c8 (HQ.out _ HB30.out).1
            clear ho hb
            go_wp2_with fail
            refine (add_ok (w.heap.size + 1) _ (16 * (n + (sevenD V 7).length)) _ 0 0 _ HO30.out (HQ.out _ HB30.out).2 (by have := HL.out 7; omega) (by decide) (by decide) (by decide) (by decide)).mono ?_
            rintro r w2 ⟨v2, rfl, ho, hb⟩
            have HF := Lib.hid (HFIN.out _ _ (HB30.out.trans hb) ho)
            clear ho hb
            go_wp2
            go_ret
            exact HF.out
end Go.Proofs.Ytngjnbfjlchfgaa
