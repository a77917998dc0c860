/-
  What is proved here: HeadGets: any bytes, and a head's with some turned, are the head that the document says, or refused, as the reference tells.
  Conditions: none of our own; the law's row says what its input is.
-/
import Derived.Test.YtmhigmfifpbmaaaRows
import Derived.Test.YtmhigmfifpbmaaaHeaGot
import Derived.Test.YtmhigmfifpbmaaaMask
import Derived.WalkKit
import Derived.ProofKit
import Derived.OpenShut
import Derived.ShutString
import Derived.ChangeOld
import Derived.Below
namespace Go.Proofs.Ytmhigmfifpbmaaa.headGets
open Go.ChangeShapes Go.WideShapes Go.ChangeAt Go.RowKit
open Go.ChangeMaps (open_string shut_string)
set_option linter.unusedVariables false

theorem own : ownKnob Try.prog.godebug = none := by kernel_rfl
theorem laidOut : laidOutB Try.prog = true := by kernel_rfl

/-- The cells of a slice of integers that came in. -/
theorem row_cells {k : IntKind} {w : World} {a : Option Addr} {len cap : Nat} {zs : List Int} (h : IsRow k w a len cap zs) (h0 : 0 < len) :
    len ≤ cap ∧ ∃ b off, a = some ⟨b, off, none⟩ ∧ b < w.heap.size ∧ ∀ i, i < len → w.cell? ⟨b, off + i, none⟩ = some (.int k (zs.getD i 0)) := by
  rcases h with ⟨rfl, rfl, rfl, rfl⟩ | ⟨⟨b, off, spot⟩, rfl, hl, hm, hz, hc, hw⟩
  · omega
  · refine ⟨hl, ?_⟩
    have h1 := hc 0 (by omega)
    have hs : spot = none := by simpa [Addr.add] using World.cell?_spot h1
    subst hs
    rw [add_none] at h1
    refine ⟨b, off, rfl, block_lt h1, fun i hi => ?_⟩
    have h2 := hc i (by omega)
    rwa [add_none] at h2
theorem set_bd {zs : List Int} (h : ∀ n ∈ zs, 0 ≤ n ∧ n ≤ 255) (i : Nat) {x : Int} (h0 : 0 ≤ x) (h1 : x ≤ 255) : ∀ n ∈ zs.set i x, 0 ≤ n ∧ n ≤ 255 := by
  intro n hn
  rcases List.mem_or_eq_of_mem_set hn with h' | rfl
  · exact h n h'
  · exact ⟨h0, h1⟩
theorem fr94 (y : Nat → Value) : frameOf 94 y = #[y 0, y 1, y 2, y 3, y 4, y 5, y 6, y 7, y 8, y 9, y 10, y 11, y 12, y 13, y 14, y 15, y 16, y 17, y 18, y 19, y 20, y 21, y 22, y 23, y 24, y 25, y 26, y 27, y 28, y 29, y 30, y 31, y 32, y 33, y 34, y 35, y 36, y 37, y 38, y 39, y 40, y 41, y 42, y 43, y 44, y 45, y 46, y 47, y 48, y 49, y 50, y 51, y 52, y 53, y 54, y 55, y 56, y 57, y 58, y 59, y 60, y 61, y 62, y 63, y 64, y 65, y 66, y 67, y 68, y 69, y 70, y 71, y 72, y 73, y 74, y 75, y 76, y 77, y 78, y 79, y 80, y 81, y 82, y 83, y 84, y 85, y 86, y 87, y 88, y 89, y 90, y 91, y 92, y 93] := rfl
set_option maxRecDepth 100000 in
set_option maxHeartbeats 1600000 in
theorem walk (a0 : Option Addr) (len0 cap0 : Nat) (z0 : List Int) (a1 : Int) (a2 : Int) (a3 : Option Addr) (len3 cap3 : Nat) (z3 : List Int) (w : World) (w0 : IsRow .u8 w a0 len0 cap0 z0) (w1 : (Lit.int .u64 a1).wf = true) (w2 : (Lit.int .u64 a2).wf = true) (w3 : IsRow .i64 w a3 len3 cap3 z3) :
    Calls Try.prog 4 #[.slice a0 len0 cap0, .int .u64 a1, .int .u64 a2, .slice a3 len3 cap3] w fun e w' => e = .returned (.bool true) ∧ Below w.heap.size w w' := by
  obtain ⟨hb, hcap, hcm⟩ := w0.bys
  have HROW : Hid (0 < len3 → len3 ≤ cap3 ∧ ∃ b off, a3 = some ⟨b, off, none⟩ ∧ b < w.heap.size ∧ ∀ i, i < len3 → w.cell? ⟨b, off + i, none⟩ = some (.int .i64 (z3.getD i 0))) := Lib.hid (row_cells w3)
  have hl3 : (len3 : Int) ≤ 9223372036854775807 := by
    rcases w3 with ⟨_, rfl, _⟩ | ⟨x, _, hl, hm, _⟩
    · decide
    · unfold maxLen at hm; omega
  obtain ⟨e0, e1⟩ := bd_u64 w1
  obtain ⟨s0, s1⟩ := bd_u64 w2
  clear w0 w1 w2 w3
  have RR : Hid (∀ w1, Calls Try.prog 9 #[.agg #[.int .i64 3, .int .u64 a1, .int .u64 a2, .int .i64 2]] w1 fun r w' => (∃ u, r = .returned (.tuple #[u, .int .i64 0]) ∧ w'.ownsRow w1.heap.size 5 1 u 64 ((enc 3 a1 a2 2).map (Value.int .u8))) ∧ Below w1.heap.size w1 w') := Lib.hid (fun w1 => rput_ok 3 a1 a2 2 w1 (by decide) e0 e1 s0 s1)
  have HEL := Lib.hid (enc_len 3 a1 a2 2)
  have HEB := Lib.hid (enc_bd 3 a1 a2 2)
  obtain ⟨k, e, s, n, er, hf⟩ := getV_form (z0.take len0)
  have RM : Hid (∀ w1, Calls Try.prog 10 #[.agg #[.int .i64 k, .int .u64 e, .int .u64 s, .int .i64 n]] w1 fun r w' => r = .returned (.agg #[.int .i64 k, .int .u64 e, .int .u64 s, .int .i64 n]) ∧ Below w1.heap.size w1 w') := Lib.hid (fun w1 => model_any k e s n w1)
  have G1 : Hid (∀ W, Below w.heap.size w W → Calls Try.prog 11 #[.slice a0 len0 cap0] W fun r w' => r = .returned (.tuple #[.agg #[.int .i64 k, .int .u64 e, .int .u64 s, .int .i64 n], .int .i64 er]) ∧ Below W.heap.size W w') := Lib.hid (fun W hW => hget_f hf w.heap.size _ len0 cap0 W (hb.below hW) hW.size hcap hcm)
  have G2 : Hid (∀ W, Below w.heap.size w W → Calls Try.prog 12 #[.slice a0 len0 cap0] W fun r w' => r = .returned (.tuple #[.agg #[.int .i64 k, .int .u64 e, .int .u64 s, .int .i64 n], .int .i64 er]) ∧ Below W.heap.size W w') := Lib.hid (fun W hW => rhget_f hf w.heap.size _ len0 cap0 W (hb.below hW) hW.size hcap hcm)
  clear hb hf
  go_enter Try.func4, Try.ntmps4
  go_wp2_with fail
  refine (awake_any _).mono ?_
  rintro r v1 ⟨rfl, hb1⟩
  have HB1 := Lib.hid hb1
  clear hb1
  go_wp2_with (go_at_call 11; refine (G1.out _ HB1.out).mono ?_)
  rintro r v2 ⟨rfl, hb2⟩
  have HB2 : Hid (Below w.heap.size w (v2.alloc (.cells #[.int .i64 k, .int .u64 e, .int .u64 s, .int .i64 n] 25))) := Lib.hid (by
    have h := HB1.out.trans (hb2.mono HB1.out.size)
    exact h.alloc h.size _)
  have HK1 := Lib.hid (Blk.new v2 #[.int .i64 k, .int .u64 e, .int .u64 s, .int .i64 n] 25)
  clear hb2
  go_wp2_with (go_at_call 12; refine (G2.out _ HB2.out).mono ?_)
  rintro r v3 ⟨rfl, hb3⟩
  obtain ⟨B, hBe⟩ : ∃ B, (v3.alloc (.cells #[.int .i64 k, .int .u64 e, .int .u64 s, .int .i64 n] 31)).heap.size = B := ⟨_, rfl⟩
  obtain ⟨B, hBe⟩ : ∃ B, (v3.alloc (.cells #[.int .i64 k, .int .u64 e, .int .u64 s, .int .i64 n] 31)).heap.size = B := ⟨_, rfl⟩
  obtain ⟨B, hBe⟩ : ∃ B, (v3.alloc (.cells #[.int .i64 k, .int .u64 e, .int .u64 s, .int .i64 n] 31)).heap.size = B := ⟨_, rfl⟩
  have htw := two_of ((HK1.out.later hb3).alloc (.cells #[.int .i64 k, .int .u64 e, .int .u64 s, .int .i64 n] 31)) (Blk.new v3 #[.int .i64 k, .int .u64 e, .int .u64 s, .int .i64 n] 31)
  have HTL : Hid (∀ w', Below B (v3.alloc (.cells #[.int .i64 k, .int .u64 e, .int .u64 s, .int .i64 n] 31)).drew w' → Two w' v2.heap.size v3.heap.size k e s n) := Lib.hid (by rw [← hBe]; exact htw.2)
  have HBE := Lib.hid hBe
  have HB3 : Hid (Below w.heap.size w (v3.alloc (.cells #[.int .i64 k, .int .u64 e, .int .u64 s, .int .i64 n] 31))) := Lib.hid (by
    have h := HB2.out.trans (hb3.mono HB2.out.size)
    exact h.alloc h.size _)
  clear hb3 hBe htw
  go_wp2
  refine wp_region_vals (by kernel_rfl) B 94 rfl [34, 35, 36, 37, 38, 39, 40, 41, 42] [.int .i64 er, .int .i64 er, .bool false, .bool false, .agg #[.int .i64 k, .int .u64 e, .int .u64 s, .int .i64 n], .agg #[.int .i64 k, .int .u64 e, .int .u64 s, .int .i64 n], .agg #[.int .i64 k, .int .u64 e, .int .u64 s, .int .i64 n], .bool false, .bool false] (by kernel_rfl) ?steps34 ?fin34
  case steps34 =>
    refine ⟨?_, ?_, ?_, ?_, ?_, ?_, ?_, ?_, ?_, trivial⟩
    all_goals intro y w2 hb hy0 hp0
    all_goals have hy := Lib.hid hy0
    all_goals have hp := Lib.hid hp0
    all_goals clear hy0 hp0
    · have e1 : y 11 = .int .i64 er := hy.out 11 (by decide)
      refine StepG.plain rfl fun K Q hK => ?_
      simp only [fr94] at hK ⊢
      rw [e1] at hK ⊢
      go_simp
      exact hK _ _ ⟨Below.refl _ _, rfl⟩
    · have e1 : y 13 = .int .i64 er := hy.out 13 (by decide)
      refine StepG.plain rfl fun K Q hK => ?_
      simp only [fr94] at hK ⊢
      rw [e1] at hK ⊢
      go_simp
      exact hK _ _ ⟨Below.refl _ _, rfl⟩
    · have e1 : y 34 = .int .i64 er := hp.out 0 (by decide)
      have e2 : y 35 = .int .i64 er := hp.out 1 (by decide)
      refine StepG.plain rfl fun K Q hK => ?_
      simp only [fr94] at hK ⊢
      rw [e1, e2] at hK ⊢
      go_simp
      exact hK _ _ ⟨Below.refl _ _, by simp⟩
    · have e1 : y 36 = .bool false := hp.out 2 (by decide)
      refine StepG.plain rfl fun K Q hK => ?_
      simp only [fr94] at hK ⊢
      rw [e1] at hK ⊢
      go_simp
      exact hK _ _ ⟨Below.refl _ _, rfl⟩
    · have e1 : y 10 = .pointer (some ⟨v2.heap.size, 0, none⟩) := hy.out 10 (by decide)
      obtain ⟨c0, c1, c2, c3, d0, d1, d2, d3⟩ := HTL.out _ hb
      refine StepG.yes (b := false) (t := 37) rfl rfl rfl (by decide) (hp.out 3 (by decide)) fun K Q hK => ?_
      simp only [fr94] at hK ⊢
      rw [e1] at hK ⊢
      go_simp
      exact hK _ _ ⟨Below.refl _ _, rfl⟩
    · have e1 : y 38 = .agg #[.int .i64 k, .int .u64 e, .int .u64 s, .int .i64 n] := hp.out 4 (by decide)
      refine StepG.yes (b := false) (t := 37) rfl rfl rfl (by decide) (hp.out 3 (by decide)) fun K Q hK => ?_
      simp only [fr94] at hK ⊢
      rw [e1] at hK ⊢
      go_simp
      go_at_call 10
      refine (RM.out _).mono ?_
      rintro r w3 ⟨rfl, hb3⟩
      exact hK _ w3 ⟨hb3.mono (HBE.out ▸ hb.size), rfl⟩
    · have e1 : y 12 = .pointer (some ⟨v3.heap.size, 0, none⟩) := hy.out 12 (by decide)
      obtain ⟨c0, c1, c2, c3, d0, d1, d2, d3⟩ := HTL.out _ hb
      refine StepG.yes (b := false) (t := 37) rfl rfl rfl (by decide) (hp.out 3 (by decide)) fun K Q hK => ?_
      simp only [fr94] at hK ⊢
      rw [e1] at hK ⊢
      go_simp
      exact hK _ _ ⟨Below.refl _ _, rfl⟩
    · have e1 : y 39 = .agg #[.int .i64 k, .int .u64 e, .int .u64 s, .int .i64 n] := hp.out 5 (by decide)
      have e2 : y 40 = .agg #[.int .i64 k, .int .u64 e, .int .u64 s, .int .i64 n] := hp.out 6 (by decide)
      refine StepG.yes (b := false) (t := 37) rfl rfl rfl (by decide) (hp.out 3 (by decide)) fun K Q hK => ?_
      simp only [fr94] at hK ⊢
      rw [e1, e2] at hK ⊢
      go_simp
      exact hK _ _ ⟨Below.refl _ _, by simp⟩
    · have e1 : y 37 = .bool false := hp.out 3 (by decide)
      have e2 : y 41 = .bool false := hp.out 7 (by decide)
      refine StepG.plain rfl fun K Q hK => ?_
      simp only [fr94] at hK ⊢
      rw [e1, e2] at hK ⊢
      go_simp
      exact hK _ _ ⟨Below.refl _ _, rfl⟩
  case fin34 =>
    intro v4 hb4
    simp only [putAll, List.set_cons_succ, List.set_cons_zero, Nat.reduceAdd, List.getD_cons_succ, List.getD_cons_zero]
    have HB4 : Hid (Below w.heap.size w v4) := Lib.hid (HB3.out.drew.trans (hb4.mono (HBE.out ▸ HB3.out.size)))
    clear hb4
    go_wp2_with (go_at_call 9; refine (RR.out _).mono ?_)
    rintro r v5 ⟨⟨u, rfl, ho⟩, hb5⟩
    obtain ⟨g, c, rfl, hg⟩ := own_some ho (by decide)
    have hcap5 : 64 ≤ c ∧ (c : Int) ≤ 9223372036854775807 := by
      rcases ho.2 with ⟨hx, _⟩ | ⟨g, c, cur, hx, _, _, h3, h4, _⟩
      · cases hx
      · injection hx with _ _ hx; subst hx; exact ⟨h3, by unfold maxLen at h4; omega⟩
    have HO := Lib.hid ho
    have HB5 := Lib.hid hb5
    have HG := Lib.hid hg
    have HCAP := Lib.hid hcap5
    clear ho hb5 hg hcap5
    go_wp2
    go_loopw [16] (fun i wr => ∃ (j : Nat) (L : List Int), j ≤ 7 ∧ i = .int .i64 j ∧ L.length = 64 ∧ (∀ x ∈ L, 0 ≤ x ∧ x ≤ 255) ∧ wr.ownsRow v4.heap.size 5 1 (.slice (some ⟨g, 0, none⟩) 64 c) 64 (L.map (Value.int .u8)) ∧ Below v4.heap.size v4 wr) (fun i _ => 8 - (intOf i).toNat)
    case atStart => exact ⟨0, _, by decide, rfl, HEL.out, HEB.out, HO.out, HB5.out⟩
    case round =>
      obtain ⟨j, L, hj, rfl, hLl, hLb, hown, hbel⟩ := hrel
      have HLL := Lib.hid hLl
      have HLB := Lib.hid hLb
      have HOW := Lib.hid hown
      have HBL := Lib.hid hbel
      clear hLl hLb hown hbel
      by_cases h1 : j + 1 < len3
      · have h1i : (j : Int) + 1 < len3 := by omega
        by_cases h2 : j < 6
        · obtain ⟨hlc, b, off, rfl, hbB, hcell⟩ := HROW.out (by omega)
          have hbw := HB4.out.trans (HBL.out.mono HB4.out.size)
          have c1 := (hbw.cell (p := ⟨b, off + j, none⟩) hbB).trans (hcell j (by omega))
          have c2 := (hbw.cell (p := ⟨b, off + (j + 1), none⟩) hbB).trans (hcell (j + 1) (by omega))
          generalize z3.getD j 0 = x1 at c1
          generalize z3.getD (j + 1) 0 = x2 at c2
          obtain ⟨m1, hm1, hx1⟩ := i64_mask x1 63 (by decide)
          obtain ⟨m2, hm2, hx2⟩ := i64_mask x2 255 (by decide)
          have hx1' : bits .and .i64 x1 63 = (m1 : Int) := hx1
          have hx2' : bits .and .i64 x2 255 = (m2 : Int) := hx2
          have hw2 : IntKind.u8.wrap (m2 : Int) = (m2 : Int) := by rw [IntKind.wrap_u8]; omega
          have hm1i : (m1 : Int) < 64 := by omega
          have hc := HOW.out.cellAt m1 (by omega)
          rw [getElem_map_u8 (by rw [HLL.out]; omega)] at hc
          have hfz := HOW.out.frozenAt m1
          have hst := (HOW.out.stored m1 (.int .u8 (m2 : Int))).1
          rw [map_set_u8] at hst
          have HST := Lib.hid hst
          have HBS := Lib.hid (HBL.out.setCell (p := ⟨g, m1, none⟩) HG.out (.int .u8 (m2 : Int)))
          have HLB2 := Lib.hid (set_bd HLB.out m1 (x := (m2 : Int)) (by omega) (by omega))
          have HLL2 : Hid ((L.set m1 (m2 : Int)).length = 64) := Lib.hid (by rw [List.length_set]; exact HLL.out)
          clear hcell hbw hst hx1 hx2
          go_wp2
          go_region
          go_wp2
          go_roundw
          case rel => exact ⟨j + 2, L.set m1 (m2 : Int), by omega, by go_num, HLL2.out, HLB2.out, HST.out, HBS.out.drew⟩
          case measure => simp [intOf]; omega
        · have h2i : (6 : Int) ≤ j := by omega
          obtain ⟨k2, e2, s2, n2, er2, hf2⟩ := getV_form L
          have RM2 : Hid (∀ w1, Calls Try.prog 10 #[.agg #[.int .i64 k2, .int .u64 e2, .int .u64 s2, .int .i64 n2]] w1 fun r w' => r = .returned (.agg #[.int .i64 k2, .int .u64 e2, .int .u64 s2, .int .i64 n2]) ∧ Below w1.heap.size w1 w') := Lib.hid (fun w1 => model_any k2 e2 s2 n2 w1)
          have G3 : Hid (Calls Try.prog 11 #[.slice (some ⟨g, 0, none⟩) 64 c] wr fun r w' => r = .returned (.tuple #[.agg #[.int .i64 k2, .int .u64 e2, .int .u64 s2, .int .i64 n2], .int .i64 er2]) ∧ Below wr.heap.size wr w') := Lib.hid (hget_f hf2 _ _ 64 c wr (Bys.own HLB.out HOW.out) (Nat.le_refl _) HCAP.out.1 HCAP.out.2)
          have G4 : Hid (∀ W, Below wr.heap.size wr W → Calls Try.prog 12 #[.slice (some ⟨g, 0, none⟩) 64 c] W fun r w' => r = .returned (.tuple #[.agg #[.int .i64 k2, .int .u64 e2, .int .u64 s2, .int .i64 n2], .int .i64 er2]) ∧ Below W.heap.size W w') := Lib.hid (fun W hW => rhget_f hf2 wr.heap.size _ 64 c W ((Bys.own HLB.out HOW.out).below hW) hW.size HCAP.out.1 HCAP.out.2)
          clear hf2
          go_wp2_with fail
          refine G3.out.mono ?_
          rintro r v6 ⟨rfl, hb6⟩
          have HB6 : Hid (Below wr.heap.size wr (v6.alloc (.cells #[.int .i64 k2, .int .u64 e2, .int .u64 s2, .int .i64 n2] 25))) := Lib.hid (hb6.alloc hb6.size _)
          have HK6 := Lib.hid (Blk.new v6 #[.int .i64 k2, .int .u64 e2, .int .u64 s2, .int .i64 n2] 25)
          clear hb6
          go_wp2_with fail
          refine (G4.out _ HB6.out).mono ?_
          rintro r v7 ⟨rfl, hb7⟩
          obtain ⟨B2, hBe2⟩ : ∃ B, (v7.alloc (.cells #[.int .i64 k2, .int .u64 e2, .int .u64 s2, .int .i64 n2] 31)).heap.size = B := ⟨_, rfl⟩
          have htw := two_of ((HK6.out.later hb7).alloc (.cells #[.int .i64 k2, .int .u64 e2, .int .u64 s2, .int .i64 n2] 31)) (Blk.new v7 #[.int .i64 k2, .int .u64 e2, .int .u64 s2, .int .i64 n2] 31)
          have HTL2 : Hid (∀ w', Below B2 (v7.alloc (.cells #[.int .i64 k2, .int .u64 e2, .int .u64 s2, .int .i64 n2] 31)).drew w' → Two w' v6.heap.size v7.heap.size k2 e2 s2 n2) := Lib.hid (by rw [← hBe2]; exact htw.2)
          have HBE2 := Lib.hid hBe2
          have HB7 : Hid (Below w.heap.size w (v7.alloc (.cells #[.int .i64 k2, .int .u64 e2, .int .u64 s2, .int .i64 n2] 31))) := Lib.hid (by
            have h0 := HB4.out.trans (HBL.out.mono HB4.out.size)
            have h1 := h0.trans (HB6.out.mono h0.size)
            have h := h1.trans (hb7.mono h1.size)
            exact h.alloc h.size _)
          clear hb7 hBe2 htw
          go_wp2
          refine wp_region_vals (by kernel_rfl) B2 94 rfl [85, 86, 87, 88, 89, 90, 91, 92, 93, 8] [.int .i64 er2, .int .i64 er2, .bool true, .bool true, .agg #[.int .i64 k2, .int .u64 e2, .int .u64 s2, .int .i64 n2], .agg #[.int .i64 k2, .int .u64 e2, .int .u64 s2, .int .i64 n2], .agg #[.int .i64 k2, .int .u64 e2, .int .u64 s2, .int .i64 n2], .bool true, .bool true, .bool true] (by kernel_rfl) ?steps85 ?fin85
          case steps85 =>
            refine ⟨?_, ?_, ?_, ?_, ?_, ?_, ?_, ?_, ?_, ?_, trivial⟩
            all_goals intro y w2 hb hy0 hp0
            all_goals have hy := Lib.hid hy0
            all_goals have hp := Lib.hid hp0
            all_goals clear hy0 hp0
            · have e1 : y 18 = .int .i64 er2 := hy.out 18 (by decide)
              refine StepG.plain rfl fun K Q hK => ?_
              simp only [fr94] at hK ⊢
              rw [e1] at hK ⊢
              go_simp
              exact hK _ _ ⟨Below.refl _ _, rfl⟩
            · have e1 : y 20 = .int .i64 er2 := hy.out 20 (by decide)
              refine StepG.plain rfl fun K Q hK => ?_
              simp only [fr94] at hK ⊢
              rw [e1] at hK ⊢
              go_simp
              exact hK _ _ ⟨Below.refl _ _, rfl⟩
            · have e1 : y 85 = .int .i64 er2 := hp.out 0 (by decide)
              have e2 : y 86 = .int .i64 er2 := hp.out 1 (by decide)
              refine StepG.plain rfl fun K Q hK => ?_
              simp only [fr94] at hK ⊢
              rw [e1, e2] at hK ⊢
              go_simp
              exact hK _ _ ⟨Below.refl _ _, by simp⟩
            · have e1 : y 87 = .bool true := hp.out 2 (by decide)
              refine StepG.plain rfl fun K Q hK => ?_
              simp only [fr94] at hK ⊢
              rw [e1] at hK ⊢
              go_simp
              exact hK _ _ ⟨Below.refl _ _, rfl⟩
            · have e1 : y 17 = .pointer (some ⟨v6.heap.size, 0, none⟩) := hy.out 17 (by decide)
              obtain ⟨c0, c1, c2, c3, d0, d1, d2, d3⟩ := HTL2.out _ hb
              refine StepG.yes (b := true) (t := 88) rfl rfl rfl (by decide) (hp.out 3 (by decide)) fun K Q hK => ?_
              simp only [fr94] at hK ⊢
              rw [e1] at hK ⊢
              go_simp
              exact hK _ _ ⟨Below.refl _ _, rfl⟩
            · have e1 : y 89 = .agg #[.int .i64 k2, .int .u64 e2, .int .u64 s2, .int .i64 n2] := hp.out 4 (by decide)
              refine StepG.yes (b := true) (t := 88) rfl rfl rfl (by decide) (hp.out 3 (by decide)) fun K Q hK => ?_
              simp only [fr94] at hK ⊢
              rw [e1] at hK ⊢
              go_simp
              go_at_call 10
              refine (RM2.out _).mono ?_
              rintro r w3 ⟨rfl, hb3⟩
              exact hK _ w3 ⟨hb3.mono (HBE2.out ▸ hb.size), rfl⟩
            · have e1 : y 19 = .pointer (some ⟨v7.heap.size, 0, none⟩) := hy.out 19 (by decide)
              obtain ⟨c0, c1, c2, c3, d0, d1, d2, d3⟩ := HTL2.out _ hb
              refine StepG.yes (b := true) (t := 88) rfl rfl rfl (by decide) (hp.out 3 (by decide)) fun K Q hK => ?_
              simp only [fr94] at hK ⊢
              rw [e1] at hK ⊢
              go_simp
              exact hK _ _ ⟨Below.refl _ _, rfl⟩
            · have e1 : y 90 = .agg #[.int .i64 k2, .int .u64 e2, .int .u64 s2, .int .i64 n2] := hp.out 5 (by decide)
              have e2 : y 91 = .agg #[.int .i64 k2, .int .u64 e2, .int .u64 s2, .int .i64 n2] := hp.out 6 (by decide)
              refine StepG.yes (b := true) (t := 88) rfl rfl rfl (by decide) (hp.out 3 (by decide)) fun K Q hK => ?_
              simp only [fr94] at hK ⊢
              rw [e1, e2] at hK ⊢
              go_simp
              exact hK _ _ ⟨Below.refl _ _, by simp⟩
            · have e1 : y 88 = .bool true := hp.out 3 (by decide)
              have e2 : y 92 = .bool true := hp.out 7 (by decide)
              refine StepG.plain rfl fun K Q hK => ?_
              simp only [fr94] at hK ⊢
              rw [e1, e2] at hK ⊢
              go_simp
              exact hK _ _ ⟨Below.refl _ _, rfl⟩
            · have e1 : y 93 = .bool true := hp.out 8 (by decide)
              refine StepG.plain rfl fun K Q hK => ?_
              simp only [fr94] at hK ⊢
              rw [e1] at hK ⊢
              go_simp
              exact hK _ _ ⟨Below.refl _ _, rfl⟩
          case fin85 =>
            intro v8 hb8
            simp only [putAll, List.set_cons_succ, List.set_cons_zero, Nat.reduceAdd, List.getD_cons_succ, List.getD_cons_zero]
            have HB8 : Hid (Below w.heap.size w v8) := Lib.hid (HB7.out.drew.trans (hb8.mono (HBE2.out ▸ HB7.out.size)))
            clear hb8
            go_wp2
            go_ret
            exact ⟨rfl, HB8.out⟩
      · have h1i : (len3 : Int) ≤ (j : Int) + 1 := by omega
        obtain ⟨k2, e2, s2, n2, er2, hf2⟩ := getV_form L
        have RM2 : Hid (∀ w1, Calls Try.prog 10 #[.agg #[.int .i64 k2, .int .u64 e2, .int .u64 s2, .int .i64 n2]] w1 fun r w' => r = .returned (.agg #[.int .i64 k2, .int .u64 e2, .int .u64 s2, .int .i64 n2]) ∧ Below w1.heap.size w1 w') := Lib.hid (fun w1 => model_any k2 e2 s2 n2 w1)
        have G3 : Hid (Calls Try.prog 11 #[.slice (some ⟨g, 0, none⟩) 64 c] wr fun r w' => r = .returned (.tuple #[.agg #[.int .i64 k2, .int .u64 e2, .int .u64 s2, .int .i64 n2], .int .i64 er2]) ∧ Below wr.heap.size wr w') := Lib.hid (hget_f hf2 _ _ 64 c wr (Bys.own HLB.out HOW.out) (Nat.le_refl _) HCAP.out.1 HCAP.out.2)
        have G4 : Hid (∀ W, Below wr.heap.size wr W → Calls Try.prog 12 #[.slice (some ⟨g, 0, none⟩) 64 c] W fun r w' => r = .returned (.tuple #[.agg #[.int .i64 k2, .int .u64 e2, .int .u64 s2, .int .i64 n2], .int .i64 er2]) ∧ Below W.heap.size W w') := Lib.hid (fun W hW => rhget_f hf2 wr.heap.size _ 64 c W ((Bys.own HLB.out HOW.out).below hW) hW.size HCAP.out.1 HCAP.out.2)
        clear hf2
        go_wp2_with fail
        refine G3.out.mono ?_
        rintro r v6 ⟨rfl, hb6⟩
        have HB6 : Hid (Below wr.heap.size wr (v6.alloc (.cells #[.int .i64 k2, .int .u64 e2, .int .u64 s2, .int .i64 n2] 25))) := Lib.hid (hb6.alloc hb6.size _)
        have HK6 := Lib.hid (Blk.new v6 #[.int .i64 k2, .int .u64 e2, .int .u64 s2, .int .i64 n2] 25)
        clear hb6
        go_wp2_with fail
        refine (G4.out _ HB6.out).mono ?_
        rintro r v7 ⟨rfl, hb7⟩
        obtain ⟨B2, hBe2⟩ : ∃ B, (v7.alloc (.cells #[.int .i64 k2, .int .u64 e2, .int .u64 s2, .int .i64 n2] 31)).heap.size = B := ⟨_, rfl⟩
        have htw := two_of ((HK6.out.later hb7).alloc (.cells #[.int .i64 k2, .int .u64 e2, .int .u64 s2, .int .i64 n2] 31)) (Blk.new v7 #[.int .i64 k2, .int .u64 e2, .int .u64 s2, .int .i64 n2] 31)
        have HTL2 : Hid (∀ w', Below B2 (v7.alloc (.cells #[.int .i64 k2, .int .u64 e2, .int .u64 s2, .int .i64 n2] 31)).drew w' → Two w' v6.heap.size v7.heap.size k2 e2 s2 n2) := Lib.hid (by rw [← hBe2]; exact htw.2)
        have HBE2 := Lib.hid hBe2
        have HB7 : Hid (Below w.heap.size w (v7.alloc (.cells #[.int .i64 k2, .int .u64 e2, .int .u64 s2, .int .i64 n2] 31))) := Lib.hid (by
          have h0 := HB4.out.trans (HBL.out.mono HB4.out.size)
          have h1 := h0.trans (HB6.out.mono h0.size)
          have h := h1.trans (hb7.mono h1.size)
          exact h.alloc h.size _)
        clear hb7 hBe2 htw
        go_wp2
        refine wp_region_vals (by kernel_rfl) B2 94 rfl [85, 86, 87, 88, 89, 90, 91, 92, 93, 8] [.int .i64 er2, .int .i64 er2, .bool true, .bool true, .agg #[.int .i64 k2, .int .u64 e2, .int .u64 s2, .int .i64 n2], .agg #[.int .i64 k2, .int .u64 e2, .int .u64 s2, .int .i64 n2], .agg #[.int .i64 k2, .int .u64 e2, .int .u64 s2, .int .i64 n2], .bool true, .bool true, .bool true] (by kernel_rfl) ?steps85 ?fin85
        case steps85 =>
          refine ⟨?_, ?_, ?_, ?_, ?_, ?_, ?_, ?_, ?_, ?_, trivial⟩
          all_goals intro y w2 hb hy0 hp0
          all_goals have hy := Lib.hid hy0
          all_goals have hp := Lib.hid hp0
          all_goals clear hy0 hp0
          · have e1 : y 18 = .int .i64 er2 := hy.out 18 (by decide)
            refine StepG.plain rfl fun K Q hK => ?_
            simp only [fr94] at hK ⊢
            rw [e1] at hK ⊢
            go_simp
            exact hK _ _ ⟨Below.refl _ _, rfl⟩
          · have e1 : y 20 = .int .i64 er2 := hy.out 20 (by decide)
            refine StepG.plain rfl fun K Q hK => ?_
            simp only [fr94] at hK ⊢
            rw [e1] at hK ⊢
            go_simp
            exact hK _ _ ⟨Below.refl _ _, rfl⟩
          · have e1 : y 85 = .int .i64 er2 := hp.out 0 (by decide)
            have e2 : y 86 = .int .i64 er2 := hp.out 1 (by decide)
            refine StepG.plain rfl fun K Q hK => ?_
            simp only [fr94] at hK ⊢
            rw [e1, e2] at hK ⊢
            go_simp
            exact hK _ _ ⟨Below.refl _ _, by simp⟩
          · have e1 : y 87 = .bool true := hp.out 2 (by decide)
            refine StepG.plain rfl fun K Q hK => ?_
            simp only [fr94] at hK ⊢
            rw [e1] at hK ⊢
            go_simp
            exact hK _ _ ⟨Below.refl _ _, rfl⟩
          · have e1 : y 17 = .pointer (some ⟨v6.heap.size, 0, none⟩) := hy.out 17 (by decide)
            obtain ⟨c0, c1, c2, c3, d0, d1, d2, d3⟩ := HTL2.out _ hb
            refine StepG.yes (b := true) (t := 88) rfl rfl rfl (by decide) (hp.out 3 (by decide)) fun K Q hK => ?_
            simp only [fr94] at hK ⊢
            rw [e1] at hK ⊢
            go_simp
            exact hK _ _ ⟨Below.refl _ _, rfl⟩
          · have e1 : y 89 = .agg #[.int .i64 k2, .int .u64 e2, .int .u64 s2, .int .i64 n2] := hp.out 4 (by decide)
            refine StepG.yes (b := true) (t := 88) rfl rfl rfl (by decide) (hp.out 3 (by decide)) fun K Q hK => ?_
            simp only [fr94] at hK ⊢
            rw [e1] at hK ⊢
            go_simp
            go_at_call 10
            refine (RM2.out _).mono ?_
            rintro r w3 ⟨rfl, hb3⟩
            exact hK _ w3 ⟨hb3.mono (HBE2.out ▸ hb.size), rfl⟩
          · have e1 : y 19 = .pointer (some ⟨v7.heap.size, 0, none⟩) := hy.out 19 (by decide)
            obtain ⟨c0, c1, c2, c3, d0, d1, d2, d3⟩ := HTL2.out _ hb
            refine StepG.yes (b := true) (t := 88) rfl rfl rfl (by decide) (hp.out 3 (by decide)) fun K Q hK => ?_
            simp only [fr94] at hK ⊢
            rw [e1] at hK ⊢
            go_simp
            exact hK _ _ ⟨Below.refl _ _, rfl⟩
          · have e1 : y 90 = .agg #[.int .i64 k2, .int .u64 e2, .int .u64 s2, .int .i64 n2] := hp.out 5 (by decide)
            have e2 : y 91 = .agg #[.int .i64 k2, .int .u64 e2, .int .u64 s2, .int .i64 n2] := hp.out 6 (by decide)
            refine StepG.yes (b := true) (t := 88) rfl rfl rfl (by decide) (hp.out 3 (by decide)) fun K Q hK => ?_
            simp only [fr94] at hK ⊢
            rw [e1, e2] at hK ⊢
            go_simp
            exact hK _ _ ⟨Below.refl _ _, by simp⟩
          · have e1 : y 88 = .bool true := hp.out 3 (by decide)
            have e2 : y 92 = .bool true := hp.out 7 (by decide)
            refine StepG.plain rfl fun K Q hK => ?_
            simp only [fr94] at hK ⊢
            rw [e1, e2] at hK ⊢
            go_simp
            exact hK _ _ ⟨Below.refl _ _, rfl⟩
          · have e1 : y 93 = .bool true := hp.out 8 (by decide)
            refine StepG.plain rfl fun K Q hK => ?_
            simp only [fr94] at hK ⊢
            rw [e1] at hK ⊢
            go_simp
            exact hK _ _ ⟨Below.refl _ _, rfl⟩
        case fin85 =>
          intro v8 hb8
          simp only [putAll, List.set_cons_succ, List.set_cons_zero, Nat.reduceAdd, List.getD_cons_succ, List.getD_cons_zero]
          have HB8 : Hid (Below w.heap.size w v8) := Lib.hid (HB7.out.drew.trans (hb8.mono (HBE2.out ▸ HB7.out.size)))
          clear hb8
          go_wp2
          go_ret
          exact ⟨rfl, HB8.out⟩

set_option maxRecDepth 100000 in
theorem lifted (os : Os) (started : os.Started) (H : Type) (enc : TypeId × Value → H) :
    ReturnsInHanded {} Try.checked os 4 .any (Rows.headGetsSpec.pre6 enc Try.prog Try.f4 Rows.headGetsRow.domain false) (Rows.headGetsSpec.post enc Try.prog Try.f4 false true false false) := by
  refine returnsInHanded_of_change (C := Try.checked) own started (by kernel_rfl) Try.func4
    (ChangeSpec.witness6 (enc := enc) (C := Try.checked) false ⟨#[], #[.slice none 0 0, .int .u64 0, .int .u64 0, .slice none 0 0], []⟩ 8 (by kernel_rfl) (by kernel_rfl) (by kernel_rfl) (by kernel_rfl)) ?_
  intro W base args ds gs before hval0 hW hcnd _
  have hval : ∀ (j : Nat) t v, Try.f4.params[j]? = some t → args[j]? = some v → Value.okWide Try.prog W .any base t v := hval0
  have hW' := hW
  obtain ⟨p, q, hA0, hV, rfl, hfz, hnd⟩ := hW
  have hA : DataW.TrodAll enc Try.prog W 0 (fun _ => true) true Try.f4.params.toList args.toList ds p := hA0
  rw [Try.params4] at hA hval
  obtain ⟨v0, vs0, d0, ds0, p0, q0, hargs, rfl, rfl, h0, r0⟩ := trodAll_cons hA
  obtain ⟨v1, vs1, d1, ds1, p1, q1, rfl, rfl, rfl, h1, r1⟩ := trodAll_cons r0
  obtain ⟨v2, vs2, d2, ds2, p2, q2, rfl, rfl, rfl, h2, r2⟩ := trodAll_cons r1
  obtain ⟨v3, vs3, d3, ds3, p3, q3, rfl, rfl, rfl, h3, r3⟩ := trodAll_cons r2
  obtain ⟨rfl, rfl, rfl⟩ := trodAll_nil r3
  obtain rfl : args = #[v0, v1, v2, v3] := by cases args; simp_all
  obtain ⟨rfl, rfl⟩ := trodVars_none hV
  obtain ⟨a0, len0, cap0, rfl⟩ := okWide_slice Try.underlying26 (hval 0 26 v0 rfl rfl)
  have k0 := h0
  have lt0 : ∀ x ∈ p0, x.block < W.heap.size := by obtain ⟨m, hm⟩ := k0; exact DataW.trod_lt m _ _ _ hm
  obtain ⟨z0, w0⟩ : ∃ zs, IsRow .u8 W a0 len0 cap0 zs := by
    obtain ⟨fuel, hf⟩ := h0
    rcases open_ints Try.underlying26 Try.underlying5 (by kernel_rfl) hf with ⟨hcs, _⟩ | ⟨x, l, c, zs, hcs, _, hl, hm, hz, _, hcell, hwz⟩
    · simp [Value.cells] at hcs
      obtain ⟨rfl, rfl, rfl⟩ := hcs
      exact ⟨[], .inl ⟨rfl, rfl, rfl, rfl⟩⟩
    · simp [Value.cells] at hcs
      obtain ⟨rfl, rfl, rfl⟩ := hcs
      exact ⟨zs, .inr ⟨_, rfl, hl, hm, by simpa using hz, hcell, hwz⟩⟩
  obtain ⟨a1, rfl, rfl, rfl, w1⟩ := open_int Try.underlying22 (hval 1 22 v1 rfl rfl) h1
  obtain ⟨a2, rfl, rfl, rfl, w2⟩ := open_int Try.underlying22 (hval 2 22 v2 rfl rfl) h2
  obtain ⟨a3, len3, cap3, rfl⟩ := okWide_slice Try.underlying34 (hval 3 34 v3 rfl rfl)
  have k3 := h3
  have lt3 : ∀ x ∈ p3, x.block < W.heap.size := by obtain ⟨m, hm⟩ := k3; exact DataW.trod_lt m _ _ _ hm
  obtain ⟨z3, w3⟩ : ∃ zs, IsRow .i64 W a3 len3 cap3 zs := by
    obtain ⟨fuel, hf⟩ := h3
    rcases open_ints Try.underlying34 Try.underlying3 (by kernel_rfl) hf with ⟨hcs, _⟩ | ⟨x, l, c, zs, hcs, _, hl, hm, hz, _, hcell, hwz⟩
    · simp [Value.cells] at hcs
      obtain ⟨rfl, rfl, rfl⟩ := hcs
      exact ⟨[], .inl ⟨rfl, rfl, rfl, rfl⟩⟩
    · simp [Value.cells] at hcs
      obtain ⟨rfl, rfl, rfl⟩ := hcs
      exact ⟨zs, .inr ⟨_, rfl, hl, hm, by simpa using hz, hcell, hwz⟩⟩
  clear hA0 hval0
  refine (walk a0 len0 cap0 z0 a1 a2 a3 len3 cap3 z3 W w0 w1 w2 w3).mono fun e W' ⟨he, bel⟩ => ?_
  subst he
  exact ⟨_, rfl, _, _, _, [], _, [], hW', trodAll_mk1 (shut_bool Try.underlying4 _), (trodAll_cons_mk (Below.trod laidOut (by kernel_rfl) (of_decide_eq_true (by kernel_rfl)) k0 bel lt0) (trodAll_cons_mk (shut_int Try.underlying22 w1) (trodAll_cons_mk (shut_int Try.underlying22 w2) (trodAll_cons_mk (Below.trod laidOut (by kernel_rfl) (of_decide_eq_true (by kernel_rfl)) k3 bel lt3) trodAll_mk0)))), rfl, bel.frame _, fun h => by cases h⟩

theorem over : Rows.headGetsRow.holds Try.pinned (OpenSpec.ofChange Rows.headGetsSpec) :=
  OpenClaim.holds_of_wide 4 Try.f4 rfl rfl rfl rfl rfl rfl rfl ⟨rfl, rfl, rfl, rfl, rfl⟩ rfl rfl rfl rfl rfl (by kernel_rfl) Try.func4 (by kernel_rfl)
    (of_decide_eq_true (by kernel_rfl)) (by unfold Func.isWrapper; first | (rw [if_pos (by decide +kernel)]; kernel_rfl) | (rw [if_neg (by decide +kernel)]; exact ⟨rfl, rfl⟩))
    (fun os started H enc _ => lifted os started H enc)

theorem proved : Rows.HeadGetsSaid := over
#print axioms proved
end Go.Proofs.Ytmhigmfifpbmaaa.headGets
