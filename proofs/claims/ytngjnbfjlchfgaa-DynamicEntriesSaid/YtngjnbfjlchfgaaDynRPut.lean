/-
  What is proved here: Put of the reference of dynamic: the entries' bytes, in new memory.
  Conditions: at most 1000 values of Needed.
-/
import Derived.Test.YtngjnbfjlchfgaaDynRef
namespace Go.Proofs.Ytngjnbfjlchfgaa
open Go.RowKit
set_option linter.unusedVariables false
set_option linter.unusedSimpArgs false

def needs (N : List Int) : List (Int × Int) := N.map fun x => (1, x)
theorem needs_len (N : List Int) : (needs N).length = N.length := by simp [needs]
theorem needs_step {N : List Int} {k : Nat} (h : k < N.length) : needs (N.take (k + 1)) = needs (N.take k) ++ [(1, N.getD k 0)] := by
  unfold needs
  rw [List.take_succ_eq_append_getElem h, List.map_append, List.getD_eq_getElem?_getD, List.getElem?_eq_getElem h]
  rfl
theorem putBy_eq (N V : List Int) : putBy N V = entsB (needs N ++ sevenD V 7) ++ entB (0, 0) := by
  rw [← entsB_snoc]; unfold putBy putEs needs; rw [List.append_assoc]
theorem putBy_len (N V : List Int) : (putBy N V).length = 16 * (N.length + (sevenD V 7).length) + 16 := by
  rw [putBy_eq, List.length_append, entsB_len, entB_len, List.length_append, needs_len]
theorem seven_le (V : List Int) (k : Nat) : (sevenD V k).length ≤ k := by
  unfold sevenD
  rw [List.length_map]
  exact Nat.le_trans (List.length_filter_le _ _) (by simp)

theorem list7 {V : List Int} (h : V.length = 7) : ∃ x0 x1 x2 x3 x4 x5 x6, V = [x0, x1, x2, x3, x4, x5, x6] := by
  rcases V with _ | ⟨c0, _ | ⟨c1, _ | ⟨c2, _ | ⟨c3, _ | ⟨c4, _ | ⟨c5, _ | ⟨c6, _ | ⟨c7, cs⟩⟩⟩⟩⟩⟩⟩⟩
  all_goals first | exact ⟨_, _, _, _, _, _, _, rfl⟩ | (simp at h; try omega)
set_option maxRecDepth 100000 in
set_option maxHeartbeats 3200000 in
theorem rput5_ok (B : Nat) (a va : Option Addr) (n c vc : Nat) (N V : List Int) (w : World) (h1 : Nus w B a n N) (h2 : Nus w B va 7 V) (hB : B ≤ w.heap.size) (hn : n ≤ 1000) :
    Calls Try.prog 11 #[.agg #[.slice a n c, .slice va 7 vc]] w fun r w' => (∃ u, r = .returned u ∧ w'.ownsRow w.heap.size 5 1 u (putBy N V).length ((putBy N V).map (Value.int .u8))) ∧ Below w.heap.size w w' := by
  have hni : (n : Int) ≤ 1000 := by omega
  obtain ⟨x0, x1, x2, x3, x4, x5, x6, hV⟩ := list7 h2.hl
  have HBW : Hid (Below w.heap.size w (w.alloc (.cells #[.slice a n c, .slice va 7 vc] 32))) := Lib.hid ((Below.refl _ _).alloc (Nat.le_refl _) _)
  have HQ : Hid (∀ w', Below (w.heap.size + 1) (w.alloc (.cells #[.slice a n c, .slice va 7 vc] 32)) w' → Blk w' w.heap.size #[.slice a n c, .slice va 7 vc] 32 ∧ w.heap.size + 1 ≤ w'.heap.size) := Lib.hid (fun w' hb =>
    ⟨(Blk.new w _ _).below hb (Nat.lt_succ_self _), by have := hb.size; simp at this; omega⟩)
  have H1 : Hid (∀ w', Below (w.heap.size + 1) (w.alloc (.cells #[.slice a n c, .slice va 7 vc] 32)) w' → Nus w' B a n N) := Lib.hid (fun w' h => (h1.below (HBW.out.mono hB)).below (h.mono (by omega)))
  have H2 : Hid (∀ w', Below (w.heap.size + 1) (w.alloc (.cells #[.slice a n c, .slice va 7 vc] 32)) w' → Nus w' B va 7 V) := Lib.hid (fun w' h => (h2.below (HBW.out.mono hB)).below (h.mono (by omega)))
  have HNL := Lib.hid h1.hl
  have HNA := Lib.hid (fun i hi => h1.at (i := i) hi)
  have HVA := Lib.hid (fun i hi => h2.at (i := i) hi)
  clear h1 h2
  go_enter Try.func11, Try.ntmps11
  go_wp2
  go_loopw [3, 4] (fun v i wr => ∃ k : Nat, k ≤ n ∧ i = .int .i64 k ∧ wr.ownsRow (w.heap.size + 1) 5 1 v (16 * k) ((entsB (needs (N.take k))).map (Value.int .u8)) ∧ Below (w.heap.size + 1) (w.alloc (.cells #[.slice a n c, .slice va 7 vc] 32)) wr) (fun _ i _ => n - (intOf i).toNat)
  case atStart => exact ⟨0, Nat.zero_le _, rfl, World.ownsRow_nil _ _ _ _, Below.refl _ _⟩
  case round =>
    obtain ⟨k, hk, rfl, hown, hbel⟩ := hrel
    obtain ⟨p0, p1⟩ := b2 (HQ.out _ hbel).1
    by_cases hlt : k < n
    · obtain ⟨ab, ao, rfl, haB, hac⟩ := (H1.out _ hbel).hc (by omega)
      have e1 := hac k hlt
      have hki : (k : Int) < n := by omega
      have hbd := HNA.out k hlt
      have HST := Lib.hid (needs_step (N := N) (k := k) (by have := HNL.out; omega))
      have HOW := Lib.hid hown
      have HBE := Lib.hid hbel
      generalize N.getD k 0 = x at e1 hbd HST
      clear hac hown hbel
      go_wp2_with fail
      refine (entry_ok (w.heap.size + 1) _ (16 * k) _ 1 x _ HOW.out (HQ.out _ HBE.out).2 (by omega) (by decide) (by decide) hbd.1 hbd.2).mono ?_
      rintro r w2 ⟨v2, rfl, ho, hb⟩
      rw [← entsB_snoc, ← HST.out] at ho
      have HO2 : Hid (w2.ownsRow (w.heap.size + 1) 5 1 v2 (16 * (k + 1)) ((entsB (needs (N.take (k + 1)))).map (Value.int .u8))) := Lib.hid ho
      have HB2 := Lib.hid (HBE.out.trans hb)
      clear ho hb
      go_wp2
      go_roundw
      case rel => exact ⟨k + 1, by omega, by go_num, HO2.out, HB2.out⟩
      case measure => (simp [intOf] <;> omega)
    · obtain rfl : n = k := by omega
      have htk : N.take n = N := List.take_of_length_le (by have := HNL.out; omega)
      rw [htk] at hown
      have HOW : Hid (wr.ownsRow (w.heap.size + 1) 5 1 _ (16 * (n + (sevenD V 0).length)) ((entsB (needs N ++ sevenD V 0)).map (Value.int .u8))) := Lib.hid (by
        have e : sevenD V 0 = [] := rfl
        rw [e, List.append_nil]; exact hown)
      have HBE := Lib.hid hbel
      clear hown hbel htk
      go_wp2
      go_loopw [3, 5, 6] (fun v i _ wx => ∃ k : Nat, k ≤ 7 ∧ i = .int .i64 k ∧ wx.ownsRow (w.heap.size + 1) 5 1 v (16 * (n + (sevenD V k).length)) ((entsB (needs N ++ sevenD V k)).map (Value.int .u8)) ∧ Below (w.heap.size + 1) (w.alloc (.cells #[.slice a n c, .slice va 7 vc] 32)) wx) (fun _ i _ _ => 7 - (intOf i).toNat)
      case atStart => exact ⟨0, Nat.zero_le _, rfl, HOW.out, HBE.out⟩
      case round =>
        obtain ⟨k, hk, rfl, hown, hbel⟩ := hrel
        obtain ⟨p0, p1⟩ := b2 (HQ.out _ hbel).1
        obtain ⟨vb, vo, rfl, hvB, hvc⟩ := (H2.out _ hbel).hc (by decide)
        have c0 : wr.cell? ⟨vb, vo, none⟩ = some (.int .u64 x0) := by have := hvc 0 (by decide); rw [hV] at this; exact this
        have c1 : wr.cell? ⟨vb, vo + 1, none⟩ = some (.int .u64 x1) := by have := hvc 1 (by decide); rw [hV] at this; exact this
        have c2 : wr.cell? ⟨vb, vo + 2, none⟩ = some (.int .u64 x2) := by have := hvc 2 (by decide); rw [hV] at this; exact this
        have c3 : wr.cell? ⟨vb, vo + 3, none⟩ = some (.int .u64 x3) := by have := hvc 3 (by decide); rw [hV] at this; exact this
        have c4 : wr.cell? ⟨vb, vo + 4, none⟩ = some (.int .u64 x4) := by have := hvc 4 (by decide); rw [hV] at this; exact this
        have c5 : wr.cell? ⟨vb, vo + 5, none⟩ = some (.int .u64 x5) := by have := hvc 5 (by decide); rw [hV] at this; exact this
        have c6 : wr.cell? ⟨vb, vo + 6, none⟩ = some (.int .u64 x6) := by have := hvc 6 (by decide); rw [hV] at this; exact this
        have HOW := Lib.hid hown
        have HBE := Lib.hid hbel
        have HSL := Lib.hid (seven_le V k)
        clear hvc hown hbel
        obtain rfl | rfl | rfl | rfl | rfl | rfl | rfl | rfl : k = 0 ∨ k = 1 ∨ k = 2 ∨ k = 3 ∨ k = 4 ∨ k = 5 ∨ k = 6 ∨ k = 7 := by omega
        · rw [show ((0 : Nat) : Int) = 0 from rfl]
          by_cases hz : x0 = 0
          · have hzb : (x0 == 0) = true := by simpa using hz
            have HK : Hid (sevenD V 1 = sevenD V 0) := Lib.hid (by rw [sevenD_succ, if_neg (by rw [hV]; simp [keepD, hz]), List.append_nil])
            rw [← HK.out] at HOW
            clear HK
            go_wp2
            go_roundw
            case rel => exact ⟨1, by decide, by go_num, HOW.out, HBE.out⟩
            case measure => (simp [intOf] <;> omega)
          · have hzb : (x0 == 0) = false := by simpa using hz
            have HK : Hid (sevenD V 1 = sevenD V 0 ++ [(tagsD.getD 0 0, x0)]) := Lib.hid (by rw [sevenD_succ, if_pos (by rw [hV]; simp [keepD, hz]), hV]; rfl)
            have hx : 0 ≤ x0 ∧ x0 ≤ 18446744073709551615 := by have := HVA.out 0 (by decide); rw [hV] at this; exact this
            go_wp2_with fail
            refine (tags_any _).mono ?_
            rintro r w2 ⟨rfl, hnu, hb2⟩
            obtain ⟨tb, tof, ht, _, htc⟩ := hnu.hc (by decide)
            injection ht with ht; injection ht with ht1 ht2; subst ht1; subst ht2
            have ct := htc 0 (by decide)
            have HB2 := Lib.hid (HBE.out.trans (hb2.mono (HQ.out _ HBE.out).2))
            have HO2 := Lib.hid (own_below HOW.out hb2)
            clear hnu htc hb2
            simp only [Nat.zero_add] at ct
            rw [show tagsD.getD 0 0 = 14 from rfl] at ct HK
            go_wp2_with fail
            refine (entry_ok (w.heap.size + 1) _ _ _ 14 x0 _ HO2.out (HQ.out _ HB2.out).2 (by have := HSL.out; omega) (by decide) (by decide) hx.1 hx.2).mono ?_
            rintro r w3 ⟨v3, rfl, ho, hb3⟩
            rw [← entsB_snoc, List.append_assoc, ← HK.out] at ho
            have HO3 : Hid (w3.ownsRow (w.heap.size + 1) 5 1 v3 (16 * (n + (sevenD V 1).length)) ((entsB (needs N ++ sevenD V 1)).map (Value.int .u8))) := Lib.hid (by
              rw [HK.out, List.length_append] at *
              exact ho)
            have HB3 := Lib.hid (HB2.out.trans hb3)
            clear ho hb3
            go_wp2
            go_roundw
            case rel => exact ⟨1, by decide, by go_num, HO3.out, HB3.out⟩
            case measure => (simp [intOf] <;> omega)
        · rw [show ((1 : Nat) : Int) = 1 from rfl]
          have HK : Hid (sevenD V 2 = sevenD V 1 ++ [(tagsD.getD 1 0, x1)]) := Lib.hid (by rw [sevenD_succ, if_pos (by rw [hV]; simp [keepD]), hV]; rfl)
          have hx : 0 ≤ x1 ∧ x1 ≤ 18446744073709551615 := by have := HVA.out 1 (by decide); rw [hV] at this; exact this
          go_wp2_with fail
          refine (tags_any _).mono ?_
          rintro r w2 ⟨rfl, hnu, hb2⟩
          obtain ⟨tb, tof, ht, _, htc⟩ := hnu.hc (by decide)
          injection ht with ht; injection ht with ht1 ht2; subst ht1; subst ht2
          have ct := htc 1 (by decide)
          have HB2 := Lib.hid (HBE.out.trans (hb2.mono (HQ.out _ HBE.out).2))
          have HO2 := Lib.hid (own_below HOW.out hb2)
          clear hnu htc hb2
          simp only [Nat.zero_add] at ct
          rw [show tagsD.getD 1 0 = 5 from rfl] at ct HK
          go_wp2_with fail
          refine (entry_ok (w.heap.size + 1) _ _ _ 5 x1 _ HO2.out (HQ.out _ HB2.out).2 (by have := HSL.out; omega) (by decide) (by decide) hx.1 hx.2).mono ?_
          rintro r w3 ⟨v3, rfl, ho, hb3⟩
          rw [← entsB_snoc, List.append_assoc, ← HK.out] at ho
          have HO3 : Hid (w3.ownsRow (w.heap.size + 1) 5 1 v3 (16 * (n + (sevenD V 2).length)) ((entsB (needs N ++ sevenD V 2)).map (Value.int .u8))) := Lib.hid (by
            rw [HK.out, List.length_append] at *
            exact ho)
          have HB3 := Lib.hid (HB2.out.trans hb3)
          clear ho hb3
          go_wp2
          go_roundw
          case rel => exact ⟨2, by decide, by go_num, HO3.out, HB3.out⟩
          case measure => (simp [intOf] <;> omega)
        · rw [show ((2 : Nat) : Int) = 2 from rfl]
          have HK : Hid (sevenD V 3 = sevenD V 2 ++ [(tagsD.getD 2 0, x2)]) := Lib.hid (by rw [sevenD_succ, if_pos (by rw [hV]; simp [keepD]), hV]; rfl)
          have hx : 0 ≤ x2 ∧ x2 ≤ 18446744073709551615 := by have := HVA.out 2 (by decide); rw [hV] at this; exact this
          go_wp2_with fail
          refine (tags_any _).mono ?_
          rintro r w2 ⟨rfl, hnu, hb2⟩
          obtain ⟨tb, tof, ht, _, htc⟩ := hnu.hc (by decide)
          injection ht with ht; injection ht with ht1 ht2; subst ht1; subst ht2
          have ct := htc 2 (by decide)
          have HB2 := Lib.hid (HBE.out.trans (hb2.mono (HQ.out _ HBE.out).2))
          have HO2 := Lib.hid (own_below HOW.out hb2)
          clear hnu htc hb2
          simp only [Nat.zero_add] at ct
          rw [show tagsD.getD 2 0 = 10 from rfl] at ct HK
          go_wp2_with fail
          refine (entry_ok (w.heap.size + 1) _ _ _ 10 x2 _ HO2.out (HQ.out _ HB2.out).2 (by have := HSL.out; omega) (by decide) (by decide) hx.1 hx.2).mono ?_
          rintro r w3 ⟨v3, rfl, ho, hb3⟩
          rw [← entsB_snoc, List.append_assoc, ← HK.out] at ho
          have HO3 : Hid (w3.ownsRow (w.heap.size + 1) 5 1 v3 (16 * (n + (sevenD V 3).length)) ((entsB (needs N ++ sevenD V 3)).map (Value.int .u8))) := Lib.hid (by
            rw [HK.out, List.length_append] at *
            exact ho)
          have HB3 := Lib.hid (HB2.out.trans hb3)
          clear ho hb3
          go_wp2
          go_roundw
          case rel => exact ⟨3, by decide, by go_num, HO3.out, HB3.out⟩
          case measure => (simp [intOf] <;> omega)
        · rw [show ((3 : Nat) : Int) = 3 from rfl]
          by_cases hz : x4 = 0
          · have hzb : (x4 == 0) = true := by simpa using hz
            have HK : Hid (sevenD V 4 = sevenD V 3) := Lib.hid (by rw [sevenD_succ, if_neg (by rw [hV]; simp [keepD, hz]), List.append_nil])
            rw [← HK.out] at HOW
            clear HK
            go_wp2
            go_roundw
            case rel => exact ⟨4, by decide, by go_num, HOW.out, HBE.out⟩
            case measure => (simp [intOf] <;> omega)
          · have hzb : (x4 == 0) = false := by simpa using hz
            have HK : Hid (sevenD V 4 = sevenD V 3 ++ [(tagsD.getD 3 0, x3)]) := Lib.hid (by rw [sevenD_succ, if_pos (by rw [hV]; simp [keepD, hz]), hV]; rfl)
            have hx : 0 ≤ x3 ∧ x3 ≤ 18446744073709551615 := by have := HVA.out 3 (by decide); rw [hV] at this; exact this
            go_wp2_with fail
            refine (tags_any _).mono ?_
            rintro r w2 ⟨rfl, hnu, hb2⟩
            obtain ⟨tb, tof, ht, _, htc⟩ := hnu.hc (by decide)
            injection ht with ht; injection ht with ht1 ht2; subst ht1; subst ht2
            have ct := htc 3 (by decide)
            have HB2 := Lib.hid (HBE.out.trans (hb2.mono (HQ.out _ HBE.out).2))
            have HO2 := Lib.hid (own_below HOW.out hb2)
            clear hnu htc hb2
            simp only [Nat.zero_add] at ct
            rw [show tagsD.getD 3 0 = 6 from rfl] at ct HK
            go_wp2_with fail
            refine (entry_ok (w.heap.size + 1) _ _ _ 6 x3 _ HO2.out (HQ.out _ HB2.out).2 (by have := HSL.out; omega) (by decide) (by decide) hx.1 hx.2).mono ?_
            rintro r w3 ⟨v3, rfl, ho, hb3⟩
            rw [← entsB_snoc, List.append_assoc, ← HK.out] at ho
            have HO3 : Hid (w3.ownsRow (w.heap.size + 1) 5 1 v3 (16 * (n + (sevenD V 4).length)) ((entsB (needs N ++ sevenD V 4)).map (Value.int .u8))) := Lib.hid (by
              rw [HK.out, List.length_append] at *
              exact ho)
            have HB3 := Lib.hid (HB2.out.trans hb3)
            clear ho hb3
            go_wp2
            go_roundw
            case rel => exact ⟨4, by decide, by go_num, HO3.out, HB3.out⟩
            case measure => (simp [intOf] <;> omega)
        · rw [show ((4 : Nat) : Int) = 4 from rfl]
          by_cases hz : x4 = 0
          · have hzb : (x4 == 0) = true := by simpa using hz
            have HK : Hid (sevenD V 5 = sevenD V 4) := Lib.hid (by rw [sevenD_succ, if_neg (by rw [hV]; simp [keepD, hz]), List.append_nil])
            rw [← HK.out] at HOW
            clear HK
            go_wp2
            go_roundw
            case rel => exact ⟨5, by decide, by go_num, HOW.out, HBE.out⟩
            case measure => (simp [intOf] <;> omega)
          · have hzb : (x4 == 0) = false := by simpa using hz
            have HK : Hid (sevenD V 5 = sevenD V 4 ++ [(tagsD.getD 4 0, x4)]) := Lib.hid (by rw [sevenD_succ, if_pos (by rw [hV]; simp [keepD, hz]), hV]; rfl)
            have hx : 0 ≤ x4 ∧ x4 ≤ 18446744073709551615 := by have := HVA.out 4 (by decide); rw [hV] at this; exact this
            go_wp2_with fail
            refine (tags_any _).mono ?_
            rintro r w2 ⟨rfl, hnu, hb2⟩
            obtain ⟨tb, tof, ht, _, htc⟩ := hnu.hc (by decide)
            injection ht with ht; injection ht with ht1 ht2; subst ht1; subst ht2
            have ct := htc 4 (by decide)
            have HB2 := Lib.hid (HBE.out.trans (hb2.mono (HQ.out _ HBE.out).2))
            have HO2 := Lib.hid (own_below HOW.out hb2)
            clear hnu htc hb2
            simp only [Nat.zero_add] at ct
            rw [show tagsD.getD 4 0 = 1610612749 from rfl] at ct HK
            go_wp2_with fail
            refine (entry_ok (w.heap.size + 1) _ _ _ 1610612749 x4 _ HO2.out (HQ.out _ HB2.out).2 (by have := HSL.out; omega) (by decide) (by decide) hx.1 hx.2).mono ?_
            rintro r w3 ⟨v3, rfl, ho, hb3⟩
            rw [← entsB_snoc, List.append_assoc, ← HK.out] at ho
            have HO3 : Hid (w3.ownsRow (w.heap.size + 1) 5 1 v3 (16 * (n + (sevenD V 5).length)) ((entsB (needs N ++ sevenD V 5)).map (Value.int .u8))) := Lib.hid (by
              rw [HK.out, List.length_append] at *
              exact ho)
            have HB3 := Lib.hid (HB2.out.trans hb3)
            clear ho hb3
            go_wp2
            go_roundw
            case rel => exact ⟨5, by decide, by go_num, HO3.out, HB3.out⟩
            case measure => (simp [intOf] <;> omega)
        · rw [show ((5 : Nat) : Int) = 5 from rfl]
          by_cases hz : x6 = 0
          · have hzb : (x6 == 0) = true := by simpa using hz
            have HK : Hid (sevenD V 6 = sevenD V 5) := Lib.hid (by rw [sevenD_succ, if_neg (by rw [hV]; simp [keepD, hz]), List.append_nil])
            rw [← HK.out] at HOW
            clear HK
            go_wp2
            go_roundw
            case rel => exact ⟨6, by decide, by go_num, HOW.out, HBE.out⟩
            case measure => (simp [intOf] <;> omega)
          · have hzb : (x6 == 0) = false := by simpa using hz
            have HK : Hid (sevenD V 6 = sevenD V 5 ++ [(tagsD.getD 5 0, x5)]) := Lib.hid (by rw [sevenD_succ, if_pos (by rw [hV]; simp [keepD, hz]), hV]; rfl)
            have hx : 0 ≤ x5 ∧ x5 ≤ 18446744073709551615 := by have := HVA.out 5 (by decide); rw [hV] at this; exact this
            go_wp2_with fail
            refine (tags_any _).mono ?_
            rintro r w2 ⟨rfl, hnu, hb2⟩
            obtain ⟨tb, tof, ht, _, htc⟩ := hnu.hc (by decide)
            injection ht with ht; injection ht with ht1 ht2; subst ht1; subst ht2
            have ct := htc 5 (by decide)
            have HB2 := Lib.hid (HBE.out.trans (hb2.mono (HQ.out _ HBE.out).2))
            have HO2 := Lib.hid (own_below HOW.out hb2)
            clear hnu htc hb2
            simp only [Nat.zero_add] at ct
            rw [show tagsD.getD 5 0 = 7 from rfl] at ct HK
            go_wp2_with fail
            refine (entry_ok (w.heap.size + 1) _ _ _ 7 x5 _ HO2.out (HQ.out _ HB2.out).2 (by have := HSL.out; omega) (by decide) (by decide) hx.1 hx.2).mono ?_
            rintro r w3 ⟨v3, rfl, ho, hb3⟩
            rw [← entsB_snoc, List.append_assoc, ← HK.out] at ho
            have HO3 : Hid (w3.ownsRow (w.heap.size + 1) 5 1 v3 (16 * (n + (sevenD V 6).length)) ((entsB (needs N ++ sevenD V 6)).map (Value.int .u8))) := Lib.hid (by
              rw [HK.out, List.length_append] at *
              exact ho)
            have HB3 := Lib.hid (HB2.out.trans hb3)
            clear ho hb3
            go_wp2
            go_roundw
            case rel => exact ⟨6, by decide, by go_num, HO3.out, HB3.out⟩
            case measure => (simp [intOf] <;> omega)
        · rw [show ((6 : Nat) : Int) = 6 from rfl]
          by_cases hz : x6 = 0
          · have hzb : (x6 == 0) = true := by simpa using hz
            have HK : Hid (sevenD V 7 = sevenD V 6) := Lib.hid (by rw [sevenD_succ, if_neg (by rw [hV]; simp [keepD, hz]), List.append_nil])
            rw [← HK.out] at HOW
            clear HK
            go_wp2
            go_roundw
            case rel => exact ⟨7, by decide, by go_num, HOW.out, HBE.out⟩
            case measure => (simp [intOf] <;> omega)
          · have hzb : (x6 == 0) = false := by simpa using hz
            have HK : Hid (sevenD V 7 = sevenD V 6 ++ [(tagsD.getD 6 0, x6)]) := Lib.hid (by rw [sevenD_succ, if_pos (by rw [hV]; simp [keepD, hz]), hV]; rfl)
            have hx : 0 ≤ x6 ∧ x6 ≤ 18446744073709551615 := by have := HVA.out 6 (by decide); rw [hV] at this; exact this
            go_wp2_with fail
            refine (tags_any _).mono ?_
            rintro r w2 ⟨rfl, hnu, hb2⟩
            obtain ⟨tb, tof, ht, _, htc⟩ := hnu.hc (by decide)
            injection ht with ht; injection ht with ht1 ht2; subst ht1; subst ht2
            have ct := htc 6 (by decide)
            have HB2 := Lib.hid (HBE.out.trans (hb2.mono (HQ.out _ HBE.out).2))
            have HO2 := Lib.hid (own_below HOW.out hb2)
            clear hnu htc hb2
            simp only [Nat.zero_add] at ct
            rw [show tagsD.getD 6 0 = 8 from rfl] at ct HK
            go_wp2_with fail
            refine (entry_ok (w.heap.size + 1) _ _ _ 8 x6 _ HO2.out (HQ.out _ HB2.out).2 (by have := HSL.out; omega) (by decide) (by decide) hx.1 hx.2).mono ?_
            rintro r w3 ⟨v3, rfl, ho, hb3⟩
            rw [← entsB_snoc, List.append_assoc, ← HK.out] at ho
            have HO3 : Hid (w3.ownsRow (w.heap.size + 1) 5 1 v3 (16 * (n + (sevenD V 7).length)) ((entsB (needs N ++ sevenD V 7)).map (Value.int .u8))) := Lib.hid (by
              rw [HK.out, List.length_append] at *
              exact ho)
            have HB3 := Lib.hid (HB2.out.trans hb3)
            clear ho hb3
            go_wp2
            go_roundw
            case rel => exact ⟨7, by decide, by go_num, HO3.out, HB3.out⟩
            case measure => (simp [intOf] <;> omega)
        · rw [show ((7 : Nat) : Int) = 7 from rfl]
          have HPE := Lib.hid (putBy_eq N V)
          have HPL := Lib.hid (putBy_len N V)
          have HNE := Lib.hid HNL.out
          go_wp2_with fail
          refine (entry_ok (w.heap.size + 1) _ _ _ 0 0 _ HOW.out (HQ.out _ HBE.out).2 (by have := HSL.out; omega) (by decide) (by decide) (by decide) (by decide)).mono ?_
          rintro r w3 ⟨v3, rfl, ho, hb3⟩
          rw [← HPE.out] at ho
          have HO3 : Hid (w3.ownsRow (w.heap.size + 1) 5 1 v3 (putBy N V).length ((putBy N V).map (Value.int .u8))) := Lib.hid (by
            rw [HPL.out, HNE.out]; exact ho)
          have HB3 := Lib.hid (HBW.out.trans ((HBE.out.trans hb3).mono (Nat.le_succ _)))
          clear ho hb3
          go_wp2
          go_ret
          exact ⟨⟨_, rfl, own_base HO3.out (Nat.le_succ _)⟩, HB3.out⟩
end Go.Proofs.Ytngjnbfjlchfgaa
