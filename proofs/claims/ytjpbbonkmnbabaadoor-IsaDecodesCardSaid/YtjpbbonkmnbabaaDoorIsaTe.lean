/-
  What is proved here: Text of package isa.
  Conditions: the listed variables hold what they hold (Tb); numbers of their types.
-/
import Derived.Test.YtjpbbonkmnbabaaDoorIsaTx
import Derived.Test.YtjpbbonkmnbabaaDoorIsaCd
namespace Go.Proofs.YtjpbbonkmnbabaaDoor
open Go.RowKit
set_option linter.unusedVariables false
set_option linter.unusedSimpArgs false

theorem fr36 (y : Nat → Value) : frameOf 36 y = #[y 0, y 1, y 2, y 3, y 4, y 5, y 6, y 7, y 8, y 9, y 10, y 11, y 12, y 13, y 14, y 15, y 16, y 17, y 18, y 19, y 20, y 21, y 22, y 23, y 24, y 25, y 26, y 27, y 28, y 29, y 30, y 31, y 32, y 33, y 34, y 35] := rfl
/-- What one field adds. -/
theorem add_yes {s : ByteArray} {h op a b c m x : Int} {k : Nat} (hk : k < 4) (hx : [a, b, c, m].getD k 0 = x) (hu : hasK h k % 2 = 1) : textK s h a b c m (k + 1) = textK s h a b c m k ++ (⟨#[32]⟩ ++ numberI x) := by
  subst hx
  obtain rfl | rfl | rfl | rfl : k = 0 ∨ k = 1 ∨ k = 2 ∨ k = 3 := by omega
  all_goals exact addF_yes hu
theorem add_no {s : ByteArray} {h op a b c m : Int} {k : Nat} (hk : k < 4) (hu : ¬ hasK h k % 2 = 1) : textK s h a b c m (k + 1) = textK s h a b c m k := by
  obtain rfl | rfl | rfl | rfl : k = 0 ∨ k = 1 ∨ k = 2 ∨ k = 3 := by omega
  all_goals exact addF_no hu
set_option maxRecDepth 100000 in
set_option maxHeartbeats 3200000 in
theorem itext_any (i : In) (w : World) (h : i.Ok32) (hT : Tb w) :
    Calls Tryd.prog 14 #[i.ival] w fun r w' => r = .returned (.tuple #[.string (textI i).1, .int .i64 (textI i).2]) ∧ Below w.heap.size w w' := by
  have HO := Lib.hid (fun w1 h1 => opof_ok i w1 h h1)
  have HNU := Lib.hid (fun w1 => numbers_ok i w1 h)
  have HT1 : Hid (∀ w1, Below w.heap.size w w1 → Tb w1) := Lib.hid (fun w1 hb => hT.later hb)
  have HK0 : Hid (Blk (w.alloc (.cells #[.int .i64 i.op, .int .i64 i.a, .int .i64 i.b, .int .i64 i.c, .int .i32 i.imm] 24)) w.heap.size #[.int .i64 i.op, .int .i64 i.a, .int .i64 i.b, .int .i64 i.c, .int .i32 i.imm] 24) := Lib.hid (Blk.new w _ _)
  have HB0 := Lib.hid (fun o1 => bal1 w o1)
  cases hM : mayI i with
  | false =>
    have hE := textI_no hM
    rw [hE]
    unfold opVal at HO
    rw [hM] at HO
    simp only [Orow.zero, Orow.val, Bool.false_eq_true, if_false] at HO
    obtain ⟨op, a, b, c, m⟩ := i
    simp only [In.ival] at HO HK0 ⊢
    clear hM hE h hT HNU
    go_enter Tryd.func14, Tryd.ntmps14
    go_wp2_with fail
    refine (HO.out _ (HT1.out _ (HB0.out _))).mono ?_
    rintro e w1 ⟨rfl, hb1⟩
    have HBB := Lib.hid (fun o => bal ((HB0.out (.cells #[.int .i64 op, .int .i64 a, .int .i64 b, .int .i64 c, .int .i32 m] 24)).trans (hb1.mono (HB0.out _).size)) o)
    clear hb1
    go_wp2
    go_ret2
    exact ⟨rfl, HBB.out _⟩
  | true =>
    have hE := textI_yes hM
    rw [hE]
    have hbd := mayI_bd hM
    have hw : (wordI i.op).size ≠ 0 := fun e => by rw [mayI_word e] at hM; cases hM
    unfold opVal at HO
    rw [hM] at HO
    have HUS := Lib.hid (fun k (hk : k < 4) => uses_has hw k hk)
    have HUC := Lib.hid (fun k w1 => uses_ok (rowOf i.op) (fieldF k) w1)
    have hws := wordI_size i.op
    have hop : rowOf i.op = ⟨i.op, wordI i.op, lettersI i.op⟩ := rfl
    obtain ⟨op, a, b, c, m⟩ := i
    simp only [In.ival] at HO HK0 HNU hbd HUS HUC hop hws hw ⊢
    rw [hop] at HO HUS HUC
    obtain ⟨⟨p0, p1⟩, ⟨a0, a1⟩, ⟨b0, b1⟩, ⟨c0, c1⟩, m0, m1⟩ := hbd
    have HTS := Lib.hid (fun k => textK_size (wordI op) (hasI op) a b c m k)
    have hT0 : textK (wordI op) (hasI op) a b c m 0 = wordI op := rfl
    have HAY := Lib.hid (fun k x (hk : k < 4) hx hu => @add_yes (wordI op) (hasI op) op a b c m x k hk hx hu)
    have HAN := Lib.hid (fun k (hk : k < 4) hu => @add_no (wordI op) (hasI op) op a b c m k hk hu)
    obtain ⟨TK, hTK⟩ : ∃ TK : Nat → ByteArray, textK (wordI op) (hasI op) a b c m = TK := ⟨_, rfl⟩
    rw [hTK] at HTS hT0 HAY HAN ⊢
    obtain ⟨HH, hHH⟩ : ∃ HH : Nat → Int, hasK (hasI op) = HH := ⟨_, rfl⟩
    rw [hHH] at HUS HAY HAN
    obtain ⟨nm, hnm⟩ : ∃ nm, wordI op = nm := ⟨_, rfl⟩
    obtain ⟨lt, hlt⟩ : ∃ lt, lettersI op = lt := ⟨_, rfl⟩
    rw [hnm] at HO HUS HUC hT0 HTS hws
    rw [hlt] at HO HUS HUC
    subst hT0
    obtain ⟨UB, hUB⟩ : ∃ UB : Nat → Bool, (fun k => useB ⟨op, TK 0, lt⟩ (fieldF k)) = UB := ⟨_, rfl⟩
    have hub : ∀ k, useB ⟨op, TK 0, lt⟩ (fieldF k) = UB k := fun k => by rw [← hUB]
    have HUS2 : Hid (∀ k, k < 4 → UB k = decide (HH k % 2 = 1)) := Lib.hid (fun k hk => by rw [← hub k]; exact HUS.out k hk)
    have HU0 := Lib.hid (HUC.out 0)
    have HU1 := Lib.hid (HUC.out 1)
    have HU2 := Lib.hid (HUC.out 2)
    have HU3 := Lib.hid (HUC.out 3)
    rw [hub] at HU0 HU1 HU2 HU3
    have HAY0 : Hid (∀ k x, k < 4 → [a, b, c, m].getD k 0 = x → UB k = true → TK (k + 1) = TK k ++ (⟨#[32]⟩ ++ numberI x)) := Lib.hid (fun k x hk hx hu => HAY.out k x hk hx (by rw [HUS2.out k hk] at hu; simpa using hu))
    have HAN0 : Hid (∀ k, k < 4 → UB k = false → TK (k + 1) = TK k) := Lib.hid (fun k hk hu => HAN.out k hk (by rw [HUS2.out k hk] at hu; simpa using hu))
    simp only [Orow.val, Frow.val, fieldF, if_true] at HO HU0 HU1 HU2 HU3
    have HFM := Lib.hid (fun n (h0 : -9223372036854775808 ≤ n) h1 w1 h2 => fmt_ok n h0 h1 w1 h2)
    have HBD : Hid ((0 ≤ a ∧ a ≤ 31) ∧ (0 ≤ b ∧ b ≤ 31) ∧ (0 ≤ c ∧ c ≤ 31) ∧ -2147483648 ≤ m ∧ m ≤ 2147483647) := Lib.hid ⟨⟨a0, a1⟩, ⟨b0, b1⟩, ⟨c0, c1⟩, m0, m1⟩
    clear hM hE h hT hw hop hTK hHH hnm hlt hUB hub HUS HUC HAY HAN HUS2 a0 a1 b0 b1 c0 c1 m0 m1 p0 p1
    have HWS := Lib.hid hws
    clear hws
    have ia0 : ∀ w, (Instr.index 61 (.agg #[.int .i64 a, .int .i64 b, .int .i64 c, .int .i64 m]) (.int .i64 0)).run Tryd.prog w = .ok (.int .i64 a) w := fun _ => by kernel_rfl
    have ia1 : ∀ w, (Instr.index 61 (.agg #[.int .i64 a, .int .i64 b, .int .i64 c, .int .i64 m]) (.int .i64 1)).run Tryd.prog w = .ok (.int .i64 b) w := fun _ => by kernel_rfl
    have ia2 : ∀ w, (Instr.index 61 (.agg #[.int .i64 a, .int .i64 b, .int .i64 c, .int .i64 m]) (.int .i64 2)).run Tryd.prog w = .ok (.int .i64 c) w := fun _ => by kernel_rfl
    have ia3 : ∀ w, (Instr.index 61 (.agg #[.int .i64 a, .int .i64 b, .int .i64 c, .int .i64 m]) (.int .i64 3)).run Tryd.prog w = .ok (.int .i64 m) w := fun _ => by kernel_rfl
    obtain ⟨nm, hnm⟩ : ∃ nm, TK 0 = nm := ⟨_, rfl⟩
    have HNM := Lib.hid hnm
    rw [hnm] at HO HU0 HU1 HU2 HU3 HTS HWS
    clear hnm
    go_enter Tryd.func14, Tryd.ntmps14
    go_wp2_with fail
    refine (HO.out _ (HT1.out _ (HB0.out _))).mono ?_
    rintro e w1 ⟨rfl, hb1⟩
    have hk1 := (HK0.out.later hb1).alloc (.cells #[.int .i64 op, .string nm, .string lt] 56)
    obtain ⟨q0, q1, q2, q3, q4⟩ := cells5e hk1
    have HKO := Lib.hid (Blk.new w1 #[.int .i64 op, .string nm, .string lt] 56)
    have HBB := Lib.hid (fun o => bal ((HB0.out (.cells #[.int .i64 op, .int .i64 a, .int .i64 b, .int .i64 c, .int .i32 m] 24)).trans (hb1.mono (HB0.out _).size)) o)
    clear hb1 hk1 HK0 HO
    go_wp2_with fail
    refine (HNU.out _).mono ?_
    rintro e w2 ⟨rfl, hb2⟩
    have HKO2 := Lib.hid (HKO.out.later hb2)
    have HBW2 := Lib.hid ((HBB.out (.cells #[.int .i64 op, .string nm, .string lt] 56)).trans (hb2.mono (HBB.out _).size))
    clear hb2 HKO HBB HNU HB0 q0 q1 q2 q3 q4
    go_wp2
    go_loopw [6, 7, 8, 20] (fun s _ _ y wr => ∃ k : Nat, k ≤ 4 ∧ y = .int .i64 k ∧ s = .string (TK k) ∧ Blk wr w1.heap.size #[.int .i64 op, .string nm, .string lt] 56 ∧ Below w.heap.size w wr) (fun _ _ _ y _ => 4 - (intOf y).toNat)
    case atStart => exact ⟨0, by decide, rfl, by rw [HNM.out], HKO2.out, HBW2.out⟩
    case round =>
      clear HKO2 HBW2
      obtain ⟨k, hk, rfl, rfl, hko, hbel⟩ := hrel
      have HKO := Lib.hid hko
      have HBE := Lib.hid hbel
      clear hko hbel
      obtain rfl | rfl | rfl | rfl | rfl : k = 0 ∨ k = 1 ∨ k = 2 ∨ k = 3 ∨ k = 4 := by omega
      · have HKX : Hid (∀ w', Stays wr.drew w' → Blk w' w1.heap.size #[.int .i64 op, .string nm, .string lt] 56) := Lib.hid (fun w' h => HKO.out.drew.later h)
        have HTX : Hid (∀ w', Stays wr.drew w' → Tb w') := Lib.hid (fun w' h => HT1.out _ (HBE.out.drew.trans (Below.mono h HBE.out.size)))
        have HY := Lib.hid (HAY0.out 0 a (by decide) rfl)
        have HN := Lib.hid (HAN0.out 0 (by decide))
        obtain ⟨B, hB⟩ : ∃ B, UB 0 = B := ⟨_, rfl⟩
        rw [hB] at HU0 HY HN
        clear hB
        go_wp2
        refine wp_region_facts (by kernel_rfl) Stays Stays.refl Stays.trans 36 rfl [24, 25, 26, 27, 28] (factsOf [Is (.agg #[.int .i64 op, .string nm, .string lt]), Is (.int .i64 0), Is (.pointer (some ⟨0, 0, none⟩)), Is (.agg #[.string ⟨#[97]⟩, .int .i64 0, .int .i64 31]), Is (.bool B)]) (by kernel_rfl) (factsOf_mono (mono_cons (Is.mono _) (mono_cons (Is.mono _) (mono_cons (Is.mono _) (mono_cons (Is.mono _) (mono_cons (Is.mono _) mono_nil)))))) ?steps24 ?fin24
        case fin24 =>
          intro v w2 hb2 hF
          have hlast : v 4 = .bool B := hF 4 (by decide)
          have HB2 := Lib.hid (HBE.out.drew.trans (Below.mono hb2 HBE.out.size))
          have HK2 := Lib.hid (HKO.out.drew.later hb2)
          clear hb2 hF
          simp only [putAll, List.set_cons_succ, List.set_cons_zero, Nat.reduceAdd, hlast]
          cases B with
          | false =>
            have HN2 := Lib.hid (HN.out rfl)
            clear HY
            go_wp2
            go_roundw
            case rel => exact ⟨0 + 1, by decide, by rfl, by rw [HN2.out], HK2.out, HB2.out⟩
            case measure => decide
          | true =>
            have HY2 := Lib.hid (HY.out rfl)
            clear HN
            have z1 := HTS.out 0
            have z2 := numberI_size a
            have z3 := HWS.out
            obtain ⟨⟨a0, a1⟩, ⟨b0, b1⟩, ⟨c0, c1⟩, m0, m1⟩ := HBD.out
            have HF1 := Lib.hid (fun w1 h2 => HFM.out a (by omega) (by omega) w1 h2)
            generalize numberI a = NU at HY2 HF1 z2
            have y1 : (NU.size : Int) ≤ 2147483660 := by omega
            have y2 : ((TK 0).size : Int) ≤ 8589934592 := by omega
            have y3 : (((⟨#[32]⟩ : ByteArray) ++ NU).size : Int) ≤ 2147483661 := by
              rw [ByteArray.size_append]
              have h2 : ByteArray.size ⟨#[32]⟩ = 1 := rfl
              omega
            clear z1 z2 z3 a0 a1 b0 b1 c0 c1 m0 m1
            go_wp2_with fail
            refine (HF1.out _ (HT1.out _ HB2.out)).mono ?_
            rintro e w4 ⟨rfl, hb4⟩
            have HB4 := Lib.hid (HB2.out.trans (hb4.mono HB2.out.size))
            have HK4 := Lib.hid (HK2.out.later hb4)
            clear hb4
            go_wp2
            go_roundw
            case rel => exact ⟨0 + 1, by decide, by rfl, by rw [HY2.out], HK4.out, HB4.out⟩
            case measure => decide
        case steps24 =>
          refine ⟨?_, ?_, ?_, ?_, ?_, trivial⟩
          all_goals intro y w2 hb hy0 hp0
          all_goals have hy := Lib.hid hy0
          all_goals have hp := Lib.hid hp0
          all_goals have hst := Lib.hid hb
          all_goals clear hy0 hp0 hb
          · have e1 : y 4 = .pointer (some ⟨w1.heap.size, 0, none⟩) := hy.out 4 (by decide)
            obtain ⟨q0, q1, q2⟩ := (HKX.out _ hst.out).c3
            refine StepG.plain rfl fun K Q hK => ?_
            simp only [fr36] at hK ⊢
            rw [e1] at hK ⊢
            go_simp
            exact hK _ _ ⟨Stays.refl _, by first | rfl | simp [Is] | (simp [factsOf, Is]; done)⟩
          · have e1 : y 7 = .int .i64 0 := hy.out 7 (by decide)
            refine StepG.plain rfl fun K Q hK => ?_
            simp only [fr36] at hK ⊢
            rw [e1] at hK ⊢
            go_simp
            exact hK _ _ ⟨Stays.refl _, by first | rfl | simp [Is] | (simp [factsOf, Is]; done)⟩
          · have e1 : y 25 = .int .i64 0 := hp.out 1 (by decide)
            refine StepG.plain rfl fun K Q hK => ?_
            simp only [fr36] at hK ⊢
            rw [e1] at hK ⊢
            go_simp
            exact hK _ _ ⟨Stays.refl _, by first | rfl | simp [Is] | (simp [factsOf, Is]; done)⟩
          · have e1 : y 26 = .pointer (some ⟨0, 0, none⟩) := hp.out 2 (by decide)
            obtain ⟨q0, q1, q2⟩ := (HTX.out _ hst.out).f0
            refine StepG.plain rfl fun K Q hK => ?_
            simp only [fr36] at hK ⊢
            rw [e1] at hK ⊢
            go_simp
            exact hK _ _ ⟨Stays.refl _, by first | rfl | simp [Is] | (simp [factsOf, Is]; done)⟩
          · have e1 : y 24 = .agg #[.int .i64 op, .string nm, .string lt] := hp.out 0 (by decide)
            have e2 : y 27 = .agg #[.string ⟨#[97]⟩, .int .i64 0, .int .i64 31] := hp.out 3 (by decide)
            refine StepG.plain rfl fun K Q hK => ?_
            simp only [fr36] at hK ⊢
            rw [e1, e2] at hK ⊢
            go_simp
            go_at_call 25
            refine (HU0.out _).mono ?_
            rintro r w3 ⟨rfl, hb3⟩
            exact hK _ w3 ⟨hb3, rfl⟩
      · have HKX : Hid (∀ w', Stays wr.drew w' → Blk w' w1.heap.size #[.int .i64 op, .string nm, .string lt] 56) := Lib.hid (fun w' h => HKO.out.drew.later h)
        have HTX : Hid (∀ w', Stays wr.drew w' → Tb w') := Lib.hid (fun w' h => HT1.out _ (HBE.out.drew.trans (Below.mono h HBE.out.size)))
        have HY := Lib.hid (HAY0.out 1 b (by decide) rfl)
        have HN := Lib.hid (HAN0.out 1 (by decide))
        obtain ⟨B, hB⟩ : ∃ B, UB 1 = B := ⟨_, rfl⟩
        rw [hB] at HU1 HY HN
        clear hB
        go_wp2
        refine wp_region_facts (by kernel_rfl) Stays Stays.refl Stays.trans 36 rfl [24, 25, 26, 27, 28] (factsOf [Is (.agg #[.int .i64 op, .string nm, .string lt]), Is (.int .i64 1), Is (.pointer (some ⟨0, 3, none⟩)), Is (.agg #[.string ⟨#[98]⟩, .int .i64 0, .int .i64 31]), Is (.bool B)]) (by kernel_rfl) (factsOf_mono (mono_cons (Is.mono _) (mono_cons (Is.mono _) (mono_cons (Is.mono _) (mono_cons (Is.mono _) (mono_cons (Is.mono _) mono_nil)))))) ?steps24 ?fin24
        case fin24 =>
          intro v w2 hb2 hF
          have hlast : v 4 = .bool B := hF 4 (by decide)
          have HB2 := Lib.hid (HBE.out.drew.trans (Below.mono hb2 HBE.out.size))
          have HK2 := Lib.hid (HKO.out.drew.later hb2)
          clear hb2 hF
          simp only [putAll, List.set_cons_succ, List.set_cons_zero, Nat.reduceAdd, hlast]
          cases B with
          | false =>
            have HN2 := Lib.hid (HN.out rfl)
            clear HY
            go_wp2
            go_roundw
            case rel => exact ⟨1 + 1, by decide, by rfl, by rw [HN2.out], HK2.out, HB2.out⟩
            case measure => decide
          | true =>
            have HY2 := Lib.hid (HY.out rfl)
            clear HN
            have z1 := HTS.out 1
            have z2 := numberI_size b
            have z3 := HWS.out
            obtain ⟨⟨a0, a1⟩, ⟨b0, b1⟩, ⟨c0, c1⟩, m0, m1⟩ := HBD.out
            have HF1 := Lib.hid (fun w1 h2 => HFM.out b (by omega) (by omega) w1 h2)
            generalize numberI b = NU at HY2 HF1 z2
            have y1 : (NU.size : Int) ≤ 2147483660 := by omega
            have y2 : ((TK 1).size : Int) ≤ 8589934592 := by omega
            have y3 : (((⟨#[32]⟩ : ByteArray) ++ NU).size : Int) ≤ 2147483661 := by
              rw [ByteArray.size_append]
              have h2 : ByteArray.size ⟨#[32]⟩ = 1 := rfl
              omega
            clear z1 z2 z3 a0 a1 b0 b1 c0 c1 m0 m1
            go_wp2_with fail
            refine (HF1.out _ (HT1.out _ HB2.out)).mono ?_
            rintro e w4 ⟨rfl, hb4⟩
            have HB4 := Lib.hid (HB2.out.trans (hb4.mono HB2.out.size))
            have HK4 := Lib.hid (HK2.out.later hb4)
            clear hb4
            go_wp2
            go_roundw
            case rel => exact ⟨1 + 1, by decide, by rfl, by rw [HY2.out], HK4.out, HB4.out⟩
            case measure => decide
        case steps24 =>
          refine ⟨?_, ?_, ?_, ?_, ?_, trivial⟩
          all_goals intro y w2 hb hy0 hp0
          all_goals have hy := Lib.hid hy0
          all_goals have hp := Lib.hid hp0
          all_goals have hst := Lib.hid hb
          all_goals clear hy0 hp0 hb
          · have e1 : y 4 = .pointer (some ⟨w1.heap.size, 0, none⟩) := hy.out 4 (by decide)
            obtain ⟨q0, q1, q2⟩ := (HKX.out _ hst.out).c3
            refine StepG.plain rfl fun K Q hK => ?_
            simp only [fr36] at hK ⊢
            rw [e1] at hK ⊢
            go_simp
            exact hK _ _ ⟨Stays.refl _, by first | rfl | simp [Is] | (simp [factsOf, Is]; done)⟩
          · have e1 : y 7 = .int .i64 1 := hy.out 7 (by decide)
            refine StepG.plain rfl fun K Q hK => ?_
            simp only [fr36] at hK ⊢
            rw [e1] at hK ⊢
            go_simp
            exact hK _ _ ⟨Stays.refl _, by first | rfl | simp [Is] | (simp [factsOf, Is]; done)⟩
          · have e1 : y 25 = .int .i64 1 := hp.out 1 (by decide)
            refine StepG.plain rfl fun K Q hK => ?_
            simp only [fr36] at hK ⊢
            rw [e1] at hK ⊢
            go_simp
            exact hK _ _ ⟨Stays.refl _, by first | rfl | simp [Is] | (simp [factsOf, Is]; done)⟩
          · have e1 : y 26 = .pointer (some ⟨0, 3, none⟩) := hp.out 2 (by decide)
            obtain ⟨q0, q1, q2⟩ := (HTX.out _ hst.out).f1
            refine StepG.plain rfl fun K Q hK => ?_
            simp only [fr36] at hK ⊢
            rw [e1] at hK ⊢
            go_simp
            exact hK _ _ ⟨Stays.refl _, by first | rfl | simp [Is] | (simp [factsOf, Is]; done)⟩
          · have e1 : y 24 = .agg #[.int .i64 op, .string nm, .string lt] := hp.out 0 (by decide)
            have e2 : y 27 = .agg #[.string ⟨#[98]⟩, .int .i64 0, .int .i64 31] := hp.out 3 (by decide)
            refine StepG.plain rfl fun K Q hK => ?_
            simp only [fr36] at hK ⊢
            rw [e1, e2] at hK ⊢
            go_simp
            go_at_call 25
            refine (HU1.out _).mono ?_
            rintro r w3 ⟨rfl, hb3⟩
            exact hK _ w3 ⟨hb3, rfl⟩
      · have HKX : Hid (∀ w', Stays wr.drew w' → Blk w' w1.heap.size #[.int .i64 op, .string nm, .string lt] 56) := Lib.hid (fun w' h => HKO.out.drew.later h)
        have HTX : Hid (∀ w', Stays wr.drew w' → Tb w') := Lib.hid (fun w' h => HT1.out _ (HBE.out.drew.trans (Below.mono h HBE.out.size)))
        have HY := Lib.hid (HAY0.out 2 c (by decide) rfl)
        have HN := Lib.hid (HAN0.out 2 (by decide))
        obtain ⟨B, hB⟩ : ∃ B, UB 2 = B := ⟨_, rfl⟩
        rw [hB] at HU2 HY HN
        clear hB
        go_wp2
        refine wp_region_facts (by kernel_rfl) Stays Stays.refl Stays.trans 36 rfl [24, 25, 26, 27, 28] (factsOf [Is (.agg #[.int .i64 op, .string nm, .string lt]), Is (.int .i64 2), Is (.pointer (some ⟨0, 6, none⟩)), Is (.agg #[.string ⟨#[99]⟩, .int .i64 0, .int .i64 31]), Is (.bool B)]) (by kernel_rfl) (factsOf_mono (mono_cons (Is.mono _) (mono_cons (Is.mono _) (mono_cons (Is.mono _) (mono_cons (Is.mono _) (mono_cons (Is.mono _) mono_nil)))))) ?steps24 ?fin24
        case fin24 =>
          intro v w2 hb2 hF
          have hlast : v 4 = .bool B := hF 4 (by decide)
          have HB2 := Lib.hid (HBE.out.drew.trans (Below.mono hb2 HBE.out.size))
          have HK2 := Lib.hid (HKO.out.drew.later hb2)
          clear hb2 hF
          simp only [putAll, List.set_cons_succ, List.set_cons_zero, Nat.reduceAdd, hlast]
          cases B with
          | false =>
            have HN2 := Lib.hid (HN.out rfl)
            clear HY
            go_wp2
            go_roundw
            case rel => exact ⟨2 + 1, by decide, by rfl, by rw [HN2.out], HK2.out, HB2.out⟩
            case measure => decide
          | true =>
            have HY2 := Lib.hid (HY.out rfl)
            clear HN
            have z1 := HTS.out 2
            have z2 := numberI_size c
            have z3 := HWS.out
            obtain ⟨⟨a0, a1⟩, ⟨b0, b1⟩, ⟨c0, c1⟩, m0, m1⟩ := HBD.out
            have HF1 := Lib.hid (fun w1 h2 => HFM.out c (by omega) (by omega) w1 h2)
            generalize numberI c = NU at HY2 HF1 z2
            have y1 : (NU.size : Int) ≤ 2147483660 := by omega
            have y2 : ((TK 2).size : Int) ≤ 8589934592 := by omega
            have y3 : (((⟨#[32]⟩ : ByteArray) ++ NU).size : Int) ≤ 2147483661 := by
              rw [ByteArray.size_append]
              have h2 : ByteArray.size ⟨#[32]⟩ = 1 := rfl
              omega
            clear z1 z2 z3 a0 a1 b0 b1 c0 c1 m0 m1
            go_wp2_with fail
            refine (HF1.out _ (HT1.out _ HB2.out)).mono ?_
            rintro e w4 ⟨rfl, hb4⟩
            have HB4 := Lib.hid (HB2.out.trans (hb4.mono HB2.out.size))
            have HK4 := Lib.hid (HK2.out.later hb4)
            clear hb4
            go_wp2
            go_roundw
            case rel => exact ⟨2 + 1, by decide, by rfl, by rw [HY2.out], HK4.out, HB4.out⟩
            case measure => decide
        case steps24 =>
          refine ⟨?_, ?_, ?_, ?_, ?_, trivial⟩
          all_goals intro y w2 hb hy0 hp0
          all_goals have hy := Lib.hid hy0
          all_goals have hp := Lib.hid hp0
          all_goals have hst := Lib.hid hb
          all_goals clear hy0 hp0 hb
          · have e1 : y 4 = .pointer (some ⟨w1.heap.size, 0, none⟩) := hy.out 4 (by decide)
            obtain ⟨q0, q1, q2⟩ := (HKX.out _ hst.out).c3
            refine StepG.plain rfl fun K Q hK => ?_
            simp only [fr36] at hK ⊢
            rw [e1] at hK ⊢
            go_simp
            exact hK _ _ ⟨Stays.refl _, by first | rfl | simp [Is] | (simp [factsOf, Is]; done)⟩
          · have e1 : y 7 = .int .i64 2 := hy.out 7 (by decide)
            refine StepG.plain rfl fun K Q hK => ?_
            simp only [fr36] at hK ⊢
            rw [e1] at hK ⊢
            go_simp
            exact hK _ _ ⟨Stays.refl _, by first | rfl | simp [Is] | (simp [factsOf, Is]; done)⟩
          · have e1 : y 25 = .int .i64 2 := hp.out 1 (by decide)
            refine StepG.plain rfl fun K Q hK => ?_
            simp only [fr36] at hK ⊢
            rw [e1] at hK ⊢
            go_simp
            exact hK _ _ ⟨Stays.refl _, by first | rfl | simp [Is] | (simp [factsOf, Is]; done)⟩
          · have e1 : y 26 = .pointer (some ⟨0, 6, none⟩) := hp.out 2 (by decide)
            obtain ⟨q0, q1, q2⟩ := (HTX.out _ hst.out).f2
            refine StepG.plain rfl fun K Q hK => ?_
            simp only [fr36] at hK ⊢
            rw [e1] at hK ⊢
            go_simp
            exact hK _ _ ⟨Stays.refl _, by first | rfl | simp [Is] | (simp [factsOf, Is]; done)⟩
          · have e1 : y 24 = .agg #[.int .i64 op, .string nm, .string lt] := hp.out 0 (by decide)
            have e2 : y 27 = .agg #[.string ⟨#[99]⟩, .int .i64 0, .int .i64 31] := hp.out 3 (by decide)
            refine StepG.plain rfl fun K Q hK => ?_
            simp only [fr36] at hK ⊢
            rw [e1, e2] at hK ⊢
            go_simp
            go_at_call 25
            refine (HU2.out _).mono ?_
            rintro r w3 ⟨rfl, hb3⟩
            exact hK _ w3 ⟨hb3, rfl⟩
      · have HKX : Hid (∀ w', Stays wr.drew w' → Blk w' w1.heap.size #[.int .i64 op, .string nm, .string lt] 56) := Lib.hid (fun w' h => HKO.out.drew.later h)
        have HTX : Hid (∀ w', Stays wr.drew w' → Tb w') := Lib.hid (fun w' h => HT1.out _ (HBE.out.drew.trans (Below.mono h HBE.out.size)))
        have HY := Lib.hid (HAY0.out 3 m (by decide) rfl)
        have HN := Lib.hid (HAN0.out 3 (by decide))
        obtain ⟨B, hB⟩ : ∃ B, UB 3 = B := ⟨_, rfl⟩
        rw [hB] at HU3 HY HN
        clear hB
        go_wp2
        refine wp_region_facts (by kernel_rfl) Stays Stays.refl Stays.trans 36 rfl [24, 25, 26, 27, 28] (factsOf [Is (.agg #[.int .i64 op, .string nm, .string lt]), Is (.int .i64 3), Is (.pointer (some ⟨0, 9, none⟩)), Is (.agg #[.string ⟨#[105]⟩, .int .i64 (-2147483648), .int .i64 2147483647]), Is (.bool B)]) (by kernel_rfl) (factsOf_mono (mono_cons (Is.mono _) (mono_cons (Is.mono _) (mono_cons (Is.mono _) (mono_cons (Is.mono _) (mono_cons (Is.mono _) mono_nil)))))) ?steps24 ?fin24
        case fin24 =>
          intro v w2 hb2 hF
          have hlast : v 4 = .bool B := hF 4 (by decide)
          have HB2 := Lib.hid (HBE.out.drew.trans (Below.mono hb2 HBE.out.size))
          have HK2 := Lib.hid (HKO.out.drew.later hb2)
          clear hb2 hF
          simp only [putAll, List.set_cons_succ, List.set_cons_zero, Nat.reduceAdd, hlast]
          cases B with
          | false =>
            have HN2 := Lib.hid (HN.out rfl)
            clear HY
            go_wp2
            go_roundw
            case rel => exact ⟨3 + 1, by decide, by rfl, by rw [HN2.out], HK2.out, HB2.out⟩
            case measure => decide
          | true =>
            have HY2 := Lib.hid (HY.out rfl)
            clear HN
            have z1 := HTS.out 3
            have z2 := numberI_size m
            have z3 := HWS.out
            obtain ⟨⟨a0, a1⟩, ⟨b0, b1⟩, ⟨c0, c1⟩, m0, m1⟩ := HBD.out
            have HF1 := Lib.hid (fun w1 h2 => HFM.out m (by omega) (by omega) w1 h2)
            generalize numberI m = NU at HY2 HF1 z2
            have y1 : (NU.size : Int) ≤ 2147483660 := by omega
            have y2 : ((TK 3).size : Int) ≤ 8589934592 := by omega
            have y3 : (((⟨#[32]⟩ : ByteArray) ++ NU).size : Int) ≤ 2147483661 := by
              rw [ByteArray.size_append]
              have h2 : ByteArray.size ⟨#[32]⟩ = 1 := rfl
              omega
            clear z1 z2 z3 a0 a1 b0 b1 c0 c1 m0 m1
            go_wp2_with fail
            refine (HF1.out _ (HT1.out _ HB2.out)).mono ?_
            rintro e w4 ⟨rfl, hb4⟩
            have HB4 := Lib.hid (HB2.out.trans (hb4.mono HB2.out.size))
            have HK4 := Lib.hid (HK2.out.later hb4)
            clear hb4
            go_wp2
            go_roundw
            case rel => exact ⟨3 + 1, by decide, by rfl, by rw [HY2.out], HK4.out, HB4.out⟩
            case measure => decide
        case steps24 =>
          refine ⟨?_, ?_, ?_, ?_, ?_, trivial⟩
          all_goals intro y w2 hb hy0 hp0
          all_goals have hy := Lib.hid hy0
          all_goals have hp := Lib.hid hp0
          all_goals have hst := Lib.hid hb
          all_goals clear hy0 hp0 hb
          · have e1 : y 4 = .pointer (some ⟨w1.heap.size, 0, none⟩) := hy.out 4 (by decide)
            obtain ⟨q0, q1, q2⟩ := (HKX.out _ hst.out).c3
            refine StepG.plain rfl fun K Q hK => ?_
            simp only [fr36] at hK ⊢
            rw [e1] at hK ⊢
            go_simp
            exact hK _ _ ⟨Stays.refl _, by first | rfl | simp [Is] | (simp [factsOf, Is]; done)⟩
          · have e1 : y 7 = .int .i64 3 := hy.out 7 (by decide)
            refine StepG.plain rfl fun K Q hK => ?_
            simp only [fr36] at hK ⊢
            rw [e1] at hK ⊢
            go_simp
            exact hK _ _ ⟨Stays.refl _, by first | rfl | simp [Is] | (simp [factsOf, Is]; done)⟩
          · have e1 : y 25 = .int .i64 3 := hp.out 1 (by decide)
            refine StepG.plain rfl fun K Q hK => ?_
            simp only [fr36] at hK ⊢
            rw [e1] at hK ⊢
            go_simp
            exact hK _ _ ⟨Stays.refl _, by first | rfl | simp [Is] | (simp [factsOf, Is]; done)⟩
          · have e1 : y 26 = .pointer (some ⟨0, 9, none⟩) := hp.out 2 (by decide)
            obtain ⟨q0, q1, q2⟩ := (HTX.out _ hst.out).f3
            refine StepG.plain rfl fun K Q hK => ?_
            simp only [fr36] at hK ⊢
            rw [e1] at hK ⊢
            go_simp
            exact hK _ _ ⟨Stays.refl _, by first | rfl | simp [Is] | (simp [factsOf, Is]; done)⟩
          · have e1 : y 24 = .agg #[.int .i64 op, .string nm, .string lt] := hp.out 0 (by decide)
            have e2 : y 27 = .agg #[.string ⟨#[105]⟩, .int .i64 (-2147483648), .int .i64 2147483647] := hp.out 3 (by decide)
            refine StepG.plain rfl fun K Q hK => ?_
            simp only [fr36] at hK ⊢
            rw [e1, e2] at hK ⊢
            go_simp
            go_at_call 25
            refine (HU3.out _).mono ?_
            rintro r w3 ⟨rfl, hb3⟩
            exact hK _ w3 ⟨hb3, rfl⟩
      · go_wp2
        go_ret2
        exact ⟨rfl, HBE.out⟩
end Go.Proofs.YtjpbbonkmnbabaaDoor
