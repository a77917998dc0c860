/-
  What is proved here: Table of the reference of symbols: the symbols that lie one behind the other, in new memory, or the error that the document names.
  Conditions: slices of at most 2^47 bytes.
-/
import Derived.Test.YtpodnhieaboddaaSymRPut
import Derived.Test.YtpodnhieaboddaaORGet
import Derived.Test.YtpodnhieaboddaaFRun
namespace Go.Proofs.Ytpodnhieaboddaa
open Go.RowKit
set_option linter.unusedVariables false
set_option linter.unusedSimpArgs false

theorem info_sym : (Try.prog.info? 26).map (fun i => (i.zero, i.size, i.bytes)) = some (some (.agg #[.int .u32 0, .int .u8 0, .int .u8 0, .int .u16 0, .int .u64 0, .int .u64 0]), 6, 24) := by kernel_rfl
theorem fr76 (y : Nat → Value) : frameOf 76 y = #[y 0, y 1, y 2, y 3, y 4, y 5, y 6, y 7, y 8, y 9, y 10, y 11, y 12, y 13, y 14, y 15, y 16, y 17, y 18, y 19, y 20, y 21, y 22, y 23, y 24, y 25, y 26, y 27, y 28, y 29, y 30, y 31, y 32, y 33, y 34, y 35, y 36, y 37, y 38, y 39, y 40, y 41, y 42, y 43, y 44, y 45, y 46, y 47, y 48, y 49, y 50, y 51, y 52, y 53, y 54, y 55, y 56, y 57, y 58, y 59, y 60, y 61, y 62, y 63, y 64, y 65, y 66, y 67, y 68, y 69, y 70, y 71, y 72, y 73, y 74, y 75] := rfl
theorem one_cells (s : Sy) : ∀ u ∈ [Value.int .u32 s.na, .int .u8 s.inf, .int .u8 s.ot, .int .u16 s.se, .int .u64 s.va, .int .u64 s.si], u.oneCell' = true := by
  intro u hu
  simp only [List.mem_cons, List.not_mem_nil, or_false] at hu
  rcases hu with rfl | rfl | rfl | rfl | rfl | rfl <;> rfl
set_option maxRecDepth 100000 in
set_option maxHeartbeats 3200000 in
theorem rtable6_any (B : Nat) (a : Option Addr) (len cap : Nat) (zs : List Int) (w : World) (hb : Bys w B a len zs) (hB : B ≤ w.heap.size) (hl : len ≤ 140737488355328) :
    Calls Try.prog 15 #[.slice a len cap] w fun r w' => (∃ u, r = .returned (.tuple #[u, .int .i64 (tabY zs).1]) ∧ w'.ownsRow w.heap.size 26 6 u (tabY zs).2.length (Sy.flat (tabY zs).2)) ∧ Below w.heap.size w w' := by
  obtain ⟨i0, hi, hz0, hz1, hz2⟩ := info_parts info_sym
  have HI := Lib.hid hi
  have HZ0 := Lib.hid hz0
  have HZ1 := Lib.hid hz1
  have HZ2 := Lib.hid hz2
  have HZB := Lib.hid hb.2.1
  have HZL := Lib.hid hb.1
  have HBY := Lib.hid hb
  have hli : (len : Int) ≤ 140737488355328 := by omega
  clear hi hz0 hz1 hz2
  by_cases hm : len % 24 = 0
  · have HR : Hid (tabY zs = (0, tabS zs (len / 24))) := Lib.hid (by unfold tabY; rw [HZL.out, if_pos hm])
    rw [HR.out]
    have hmi : (len : Int) % 24 = 0 := by omega
    have HTL := Lib.hid (tabS_len zs (len / 24))
    obtain ⟨n, hn⟩ : ∃ n, len / 24 = n := ⟨_, rfl⟩
    rw [hn] at HTL HR ⊢
    have hln1 : len ≤ 24 * n := by omega
    have hln2 : 24 * n ≤ len := by omega
    clear hb hn hm
    go_enter Try.func15, Try.ntmps15
    go_wp2
    simp only [hmi]
    go_loopw [4, 5] (fun v i wr => ∃ k : Nat, k ≤ n ∧ i = .int .i64 (24 * (k : Int)) ∧ wr.ownsRow w.heap.size 26 6 v k (Sy.flat (tabS zs k)) ∧ Below w.heap.size w wr) (fun _ i _ => 24 * n - (intOf i).toNat)
    case atStart => exact ⟨0, Nat.zero_le _, rfl, World.ownsRow_nil _ _ _ _, Below.refl _ _⟩
    case round =>
      obtain ⟨k, hk, rfl, hown, hbel⟩ := hrel
      by_cases hlt : k < n
      · have hki : 24 * (k : Int) < 24 * n := by omega
        have hkl : 24 * (k : Int) < len := by omega
        have hkl2 : 24 * (k : Int) + 24 ≤ len := by omega
        have HBYW := Lib.hid (HBY.out.below (hbel.mono hB))
        obtain ⟨b, off, rfl, hbB, hcell⟩ := HBYW.out.2.2 (by omega)
        have hsz := hbel.size
        have hbw : b < w.heap.size := by omega
        have HG1 : Hid (Calls Try.prog 22 #[.slice (some ⟨b, off, none⟩) len cap, .int .u64 (24 * (k : Int)), .int .i64 4] wr fun e w' => e = .returned (.tuple #[.int .u64 (symAt zs k).na, .int .i64 0]) ∧ wr = w') := Lib.hid (by
          have h := rget_ok B _ len cap zs (24 * k) 4 wr HBYW.out (by decide) (by omega) (by omega)
          rw [show ((24 * k : Nat) : Int) = 24 * (k : Int) by omega] at h
          exact h)
        have HG2 : Hid (Calls Try.prog 22 #[.slice (some ⟨b, off, none⟩) len cap, .int .u64 (24 * (k : Int) + 6), .int .i64 2] wr fun e w' => e = .returned (.tuple #[.int .u64 (symAt zs k).se, .int .i64 0]) ∧ wr = w') := Lib.hid (by
          have h := rget_ok B _ len cap zs (24 * k + 6) 2 wr HBYW.out (by decide) (by omega) (by omega)
          rw [show ((24 * k + 6 : Nat) : Int) = 24 * (k : Int) + 6 by omega] at h
          exact h)
        have HG3 : Hid (Calls Try.prog 22 #[.slice (some ⟨b, off, none⟩) len cap, .int .u64 (24 * (k : Int) + 8), .int .i64 8] wr fun e w' => e = .returned (.tuple #[.int .u64 (symAt zs k).va, .int .i64 0]) ∧ wr = w') := Lib.hid (by
          have h := rget_ok B _ len cap zs (24 * k + 8) 8 wr HBYW.out (by decide) (by omega) (by omega)
          rw [show ((24 * k + 8 : Nat) : Int) = 24 * (k : Int) + 8 by omega] at h
          exact h)
        have HG4 : Hid (Calls Try.prog 22 #[.slice (some ⟨b, off, none⟩) len cap, .int .u64 (24 * (k : Int) + 16), .int .i64 8] wr fun e w' => e = .returned (.tuple #[.int .u64 (symAt zs k).si, .int .i64 0]) ∧ wr = w') := Lib.hid (by
          have h := rget_ok B _ len cap zs (24 * k + 16) 8 wr HBYW.out (by decide) (by omega) (by omega)
          rw [show ((24 * k + 16 : Nat) : Int) = 24 * (k : Int) + 16 by omega] at h
          exact h)
        have HC1 : Hid (∀ w', Below w.heap.size wr w' → w'.cell? ⟨b, off + (24 * k + 4), none⟩ = some (.int .u8 (symAt zs k).inf)) := Lib.hid (fun w' h => (h.cell (p := ⟨b, off + (24 * k + 4), none⟩) hbw).trans (hcell (24 * k + 4) (by omega)))
        have HC2 : Hid (∀ w', Below w.heap.size wr w' → w'.cell? ⟨b, off + (24 * k + 5), none⟩ = some (.int .u8 (symAt zs k).ot)) := Lib.hid (fun w' h => (h.cell (p := ⟨b, off + (24 * k + 5), none⟩) hbw).trans (hcell (24 * k + 5) (by omega)))
        have HTS := Lib.hid (tabS_succ zs k)
        obtain ⟨⟨a0, a1⟩, ⟨b0, b1⟩, ⟨c0, c1⟩, ⟨d0, d1⟩, ⟨e0, e1⟩, ⟨f0, f1⟩⟩ := symAt_ok (zs := zs) (k := k) HZB.out (by rw [HZL.out]; omega)
        generalize symAt zs k = s at HG1 HG2 HG3 HG4 HC1 HC2 HTS a0 a1 b0 b1 c0 c1 d0 d1 e0 e1 f0 f1
        have HOC := Lib.hid (one_cells s)
        obtain ⟨na, inf, ot, se, va, si⟩ := s
        simp only at HG1 HG2 HG3 HG4 HC1 HC2 HOC a0 a1 b0 b1 c0 c1 d0 d1 e0 e1 f0 f1
        obtain ⟨W1, hW1⟩ : ∃ W1, W1 = (wr.alloc (.cells #[.int .u32 na, .int .u8 inf, .int .u8 ot, .int .u16 se, .int .u64 va, .int .u64 si] 26)).drew := ⟨_, rfl⟩
        have hsW1 : wr.heap.size ≤ W1.heap.size := by rw [hW1]; show wr.heap.size ≤ (wr.alloc _).heap.size; rw [World.size_alloc]; omega
        obtain ⟨v', W2, hrun, hown2, hg2, -⟩ := run_append_own (P := Try.prog) W1 w.heap.size 32 32 26 i0 _ 6 24 Try.underlying32 HI.out HZ0.out HZ1.out HZ2.out rfl (by decide) _ k _ (by rw [hW1]; exact (World.ownsRow.alloc hown _)) ⟨wr.heap.size, 0, none⟩ 1 1 [.int .u32 na, .int .u8 inf, .int .u8 ot, .int .u16 se, .int .u64 va, .int .u64 si] rfl (by rw [hW1]; exact cells_new wr _ _ _ rfl) HOC.out (by unfold maxLen; omega) (by omega) (by omega)
        have HRUN := Lib.hid hrun
        have hbW1 : Below w.heap.size wr W1 := by rw [hW1]; exact ((Below.refl _ _).alloc hsz _).drew
        have hbW2 : Below w.heap.size wr W2 := hbW1.grown hg2 (by omega) (fun q e => (hown.lt q e).1)
        have HBW : Hid (∀ L x, J2 18 19 wr.drew W1 W2 L x → Below w.heap.size wr x) := Lib.hid (fun L x h => h.all (p := fun x => Below w.heap.size wr x) (Below.refl _ _).drew hbW1 hbW2)
        have HO2 : Hid (W2.ownsRow w.heap.size 26 6 v' (k + 1) (Sy.flat (tabS zs (k + 1)))) := Lib.hid (by
          rw [HTS.out, Sy.flat_snoc]; exact hown2)
        have HB2 := Lib.hid (hbel.trans hbW2)
        have HW1 := Lib.hid hW1
        clear hrun hown2 hg2 hbW1 hbW2 hW1 hown hbel hcell
        go_wp2_with (first | (go_at_call 22; with_reducible refine HG1.out.mono ?_; rintro e w' ⟨rfl, rfl⟩) | (go_at_call 22; with_reducible refine HG2.out.mono ?_; rintro e w' ⟨rfl, rfl⟩) | (go_at_call 22; with_reducible refine HG3.out.mono ?_; rintro e w' ⟨rfl, rfl⟩) | (go_at_call 22; with_reducible refine HG4.out.mono ?_; rintro e w' ⟨rfl, rfl⟩))
        have hw1 : IntKind.u32.wrap na = na := by rw [IntKind.wrap_u32]; omega
        have hw2 : IntKind.u16.wrap se = se := by rw [IntKind.wrap_u16]; omega
        have hw3 : IntKind.i64.wrap (24 * (k : Int) + 4) = 24 * (k : Int) + 4 := by rw [IntKind.wrap_i64]; omega
        have hw4 : IntKind.i64.wrap (24 * (k : Int) + 5) = 24 * (k : Int) + 5 := by rw [IntKind.wrap_i64]; omega
        have hn4 : (24 * (k : Int) + 4).toNat = 24 * k + 4 := by omega
        have hn5 : (24 * (k : Int) + 5).toNat = 24 * k + 5 := by omega
        refine wp_region_run (by kernel_rfl) 76 rfl [55, 56, 57, 58, 59, 60, 61, 62, 63, 64, 65, 66, 67, 68, 69, 70, 71, 72, 73, 74, 4] [u4, .int .u64 na, .int .u32 na, .slice (some ⟨b, off, none⟩) len cap, .int .i64 (24 * (k : Int)), .int .i64 (24 * (k : Int) + 4), .pointer (some ⟨b, off + (24 * k + 4), none⟩), .int .u8 inf, .slice (some ⟨b, off, none⟩) len cap, .int .i64 (24 * (k : Int)), .int .i64 (24 * (k : Int) + 5), .pointer (some ⟨b, off + (24 * k + 5), none⟩), .int .u8 ot, .int .u64 se, .int .u16 se, .int .u64 va, .int .u64 si, .agg #[.int .u32 na, .int .u8 inf, .int .u8 ot, .int .u16 se, .int .u64 va, .int .u64 si], .slice (some ⟨wr.heap.size, 0, none⟩) 1 1, v', v'] (J2 18 19 wr.drew W1 W2) ?hj (by kernel_rfl) ?start ?steps ?fin
        case hj => exact J2.congr (by decide) (by decide)
        case start => exact rfl
        case fin =>
          intro L w3 hJ hall
          obtain rfl := hJ.done (hall 19 (by decide))
          clear hJ hall
          simp only [putAll, List.set_cons_succ, List.set_cons_zero, Nat.reduceAdd, List.getD_cons_succ, List.getD_cons_zero]
          go_wp2
          go_roundw
          case rel => exact ⟨k + 1, by omega, by go_num, HO2.out, HB2.out⟩
          case measure => (simp [intOf] <;> omega)
        case steps =>
          refine ⟨?_, ?_, ?_, ?_, ?_, ?_, ?_, ?_, ?_, ?_, ?_, ?_, ?_, ?_, ?_, ?_, ?_, ?_, ?_, ?_, ?_, trivial⟩
          all_goals intro L y w3 hJ hL hy0 hp0 hcl hun
          all_goals have hy := Lib.hid hy0
          all_goals have hp := Lib.hid hp0
          all_goals have hb3 := Lib.hid (HBW.out _ _ hJ)
          all_goals clear hy0 hp0
          · have hL20 : L 20 = false := by
              cases h : L 20 with
              | false => rfl
              | true => have := hcl 20 _ rfl h 0 (by decide); rw [hL] at this; cases this
            exact step_move (.tmp 4) (.inl rfl) ⟨fun _ => (eval_frame 76 y _ (by decide)).trans (hun 20 (by decide) hL20 (by decide)), hJ.pure (by decide) (by decide)⟩
          · have e1 : y 6 = .int .u64 na := hy.out 6 (by decide)
            have hJ3 := Lib.hid (hJ.pure (show (18 : Nat) ≠ 1 by decide) (show (19 : Nat) ≠ 1 by decide))
            intro K Q hK
            simp only [fr76] at hK ⊢
            rw [e1] at hK ⊢
            clear hcl hun hJ
            go_simp
            exact hK _ _ ⟨fun _ => rfl, hJ3.out⟩
          · have e1 : y 56 = .int .u64 na := (hp.out 1 (by decide)).2 (by decide)
            have hJ3 := Lib.hid (hJ.pure (show (18 : Nat) ≠ 2 by decide) (show (19 : Nat) ≠ 2 by decide))
            intro K Q hK
            simp only [fr76] at hK ⊢
            rw [e1] at hK ⊢
            clear hcl hun hJ
            go_simp
            exact hK _ _ ⟨fun _ => rfl, hJ3.out⟩
          · have e1 : y 0 = .slice (some ⟨b, off, none⟩) len cap := hy.out 0 (by decide)
            have hJ3 := Lib.hid (hJ.pure (show (18 : Nat) ≠ 3 by decide) (show (19 : Nat) ≠ 3 by decide))
            intro K Q hK
            simp only [fr76] at hK ⊢
            rw [e1] at hK ⊢
            clear hcl hun hJ
            go_simp
            exact hK _ _ ⟨fun _ => rfl, hJ3.out⟩
          · have e1 : y 5 = .int .i64 (24 * (k : Int)) := hy.out 5 (by decide)
            have hJ3 := Lib.hid (hJ.pure (show (18 : Nat) ≠ 4 by decide) (show (19 : Nat) ≠ 4 by decide))
            intro K Q hK
            simp only [fr76] at hK ⊢
            rw [e1] at hK ⊢
            clear hcl hun hJ
            go_simp
            exact hK _ _ ⟨fun _ => rfl, hJ3.out⟩
          · have e1 : y 59 = .int .i64 (24 * (k : Int)) := (hp.out 4 (by decide)).2 (by decide)
            have hJ3 := Lib.hid (hJ.pure (show (18 : Nat) ≠ 5 by decide) (show (19 : Nat) ≠ 5 by decide))
            intro K Q hK
            simp only [fr76] at hK ⊢
            rw [e1] at hK ⊢
            clear hcl hun hJ
            go_simp
            exact hK _ _ ⟨fun _ => rfl, hJ3.out⟩
          · have e1 : y 58 = .slice (some ⟨b, off, none⟩) len cap := (hp.out 3 (by decide)).2 (by decide)
            have e2 : y 60 = .int .i64 (24 * (k : Int) + 4) := (hp.out 5 (by decide)).2 (by decide)
            have hJ3 := Lib.hid (hJ.pure (show (18 : Nat) ≠ 6 by decide) (show (19 : Nat) ≠ 6 by decide))
            intro K Q hK
            simp only [fr76] at hK ⊢
            rw [e1, e2] at hK ⊢
            clear hcl hun hJ
            go_simp
            rw [if_pos ⟨by omega, by omega⟩]
            exact hK _ _ ⟨fun _ => rfl, hJ3.out⟩
          · have e1 : y 61 = .pointer (some ⟨b, off + (24 * k + 4), none⟩) := (hp.out 6 (by decide)).2 (by decide)
            have hJ3 := Lib.hid (hJ.pure (show (18 : Nat) ≠ 7 by decide) (show (19 : Nat) ≠ 7 by decide))
            have hce := HC1.out _ hb3.out
            intro K Q hK
            simp only [fr76] at hK ⊢
            rw [e1] at hK ⊢
            clear hcl hun hJ
            go_simp
            exact hK _ _ ⟨fun _ => rfl, hJ3.out⟩
          · have e1 : y 0 = .slice (some ⟨b, off, none⟩) len cap := hy.out 0 (by decide)
            have hJ3 := Lib.hid (hJ.pure (show (18 : Nat) ≠ 8 by decide) (show (19 : Nat) ≠ 8 by decide))
            intro K Q hK
            simp only [fr76] at hK ⊢
            rw [e1] at hK ⊢
            clear hcl hun hJ
            go_simp
            exact hK _ _ ⟨fun _ => rfl, hJ3.out⟩
          · have e1 : y 5 = .int .i64 (24 * (k : Int)) := hy.out 5 (by decide)
            have hJ3 := Lib.hid (hJ.pure (show (18 : Nat) ≠ 9 by decide) (show (19 : Nat) ≠ 9 by decide))
            intro K Q hK
            simp only [fr76] at hK ⊢
            rw [e1] at hK ⊢
            clear hcl hun hJ
            go_simp
            exact hK _ _ ⟨fun _ => rfl, hJ3.out⟩
          · have e1 : y 64 = .int .i64 (24 * (k : Int)) := (hp.out 9 (by decide)).2 (by decide)
            have hJ3 := Lib.hid (hJ.pure (show (18 : Nat) ≠ 10 by decide) (show (19 : Nat) ≠ 10 by decide))
            intro K Q hK
            simp only [fr76] at hK ⊢
            rw [e1] at hK ⊢
            clear hcl hun hJ
            go_simp
            exact hK _ _ ⟨fun _ => rfl, hJ3.out⟩
          · have e1 : y 63 = .slice (some ⟨b, off, none⟩) len cap := (hp.out 8 (by decide)).2 (by decide)
            have e2 : y 65 = .int .i64 (24 * (k : Int) + 5) := (hp.out 10 (by decide)).2 (by decide)
            have hJ3 := Lib.hid (hJ.pure (show (18 : Nat) ≠ 11 by decide) (show (19 : Nat) ≠ 11 by decide))
            intro K Q hK
            simp only [fr76] at hK ⊢
            rw [e1, e2] at hK ⊢
            clear hcl hun hJ
            go_simp
            rw [if_pos ⟨by omega, by omega⟩]
            exact hK _ _ ⟨fun _ => rfl, hJ3.out⟩
          · have e1 : y 66 = .pointer (some ⟨b, off + (24 * k + 5), none⟩) := (hp.out 11 (by decide)).2 (by decide)
            have hJ3 := Lib.hid (hJ.pure (show (18 : Nat) ≠ 12 by decide) (show (19 : Nat) ≠ 12 by decide))
            have hce := HC2.out _ hb3.out
            intro K Q hK
            simp only [fr76] at hK ⊢
            rw [e1] at hK ⊢
            clear hcl hun hJ
            go_simp
            exact hK _ _ ⟨fun _ => rfl, hJ3.out⟩
          · have e1 : y 8 = .int .u64 se := hy.out 8 (by decide)
            have hJ3 := Lib.hid (hJ.pure (show (18 : Nat) ≠ 13 by decide) (show (19 : Nat) ≠ 13 by decide))
            intro K Q hK
            simp only [fr76] at hK ⊢
            rw [e1] at hK ⊢
            clear hcl hun hJ
            go_simp
            exact hK _ _ ⟨fun _ => rfl, hJ3.out⟩
          · have e1 : y 68 = .int .u64 se := (hp.out 13 (by decide)).2 (by decide)
            have hJ3 := Lib.hid (hJ.pure (show (18 : Nat) ≠ 14 by decide) (show (19 : Nat) ≠ 14 by decide))
            intro K Q hK
            simp only [fr76] at hK ⊢
            rw [e1] at hK ⊢
            clear hcl hun hJ
            go_simp
            exact hK _ _ ⟨fun _ => rfl, hJ3.out⟩
          · have e1 : y 10 = .int .u64 va := hy.out 10 (by decide)
            have hJ3 := Lib.hid (hJ.pure (show (18 : Nat) ≠ 15 by decide) (show (19 : Nat) ≠ 15 by decide))
            intro K Q hK
            simp only [fr76] at hK ⊢
            rw [e1] at hK ⊢
            clear hcl hun hJ
            go_simp
            exact hK _ _ ⟨fun _ => rfl, hJ3.out⟩
          · have e1 : y 12 = .int .u64 si := hy.out 12 (by decide)
            have hJ3 := Lib.hid (hJ.pure (show (18 : Nat) ≠ 16 by decide) (show (19 : Nat) ≠ 16 by decide))
            intro K Q hK
            simp only [fr76] at hK ⊢
            rw [e1] at hK ⊢
            clear hcl hun hJ
            go_simp
            exact hK _ _ ⟨fun _ => rfl, hJ3.out⟩
          · have e1 : y 57 = .int .u32 na := (hp.out 2 (by decide)).2 (by decide)
            have e2 : y 62 = .int .u8 inf := (hp.out 7 (by decide)).2 (by decide)
            have e3 : y 67 = .int .u8 ot := (hp.out 12 (by decide)).2 (by decide)
            have e4 : y 69 = .int .u16 se := (hp.out 14 (by decide)).2 (by decide)
            have e5 : y 70 = .int .u64 va := (hp.out 15 (by decide)).2 (by decide)
            have e6 : y 71 = .int .u64 si := (hp.out 16 (by decide)).2 (by decide)
            have hJ3 := Lib.hid (hJ.pure (show (18 : Nat) ≠ 17 by decide) (show (19 : Nat) ≠ 17 by decide))
            intro K Q hK
            simp only [fr76] at hK ⊢
            rw [e1, e2, e3, e4, e5, e6] at hK ⊢
            clear hcl hun hJ
            go_simp
            exact hK _ _ ⟨fun _ => rfl, hJ3.out⟩
          · have e1 : y 72 = .agg #[.int .u32 na, .int .u8 inf, .int .u8 ot, .int .u16 se, .int .u64 va, .int .u64 si] := (hp.out 17 (by decide)).2 (by decide)
            have hJ2 := hJ.first (by decide) hL (fun h => hcl 19 _ rfl h 18 (by decide))
            obtain ⟨rfl, hJ3⟩ := hJ2
            intro K Q hK
            simp only [fr76] at hK ⊢
            rw [e1] at hK ⊢
            clear hcl hun hJ
            go_simp
            rw [← HW1.out]
            exact hK _ _ ⟨fun _ => rfl, hJ3⟩
          · have e1 := (hp.out 0 (by decide)).2 (by decide)
            have e2 : y 73 = .slice (some ⟨wr.heap.size, 0, none⟩) 1 1 := (hp.out 18 (by decide)).2 (by decide)
            obtain ⟨rfl, hJ3⟩ := hJ.second (by decide) hL (hp.out 18 (by decide)).1
            exact step_append 32 (.tmp 55) (.tmp 73) rfl _ _ ((eval_frame 76 y _ (by decide)).trans e1) ((eval_frame 76 y _ (by decide)).trans e2) (HRUN.out) ⟨fun _ => rfl, hJ3⟩
          · have e1 : y 74 = v' := (hp.out 19 (by decide)).2 (by decide)
            have hJ3 := Lib.hid (hJ.pure (show (18 : Nat) ≠ 20 by decide) (show (19 : Nat) ≠ 20 by decide))
            intro K Q hK
            simp only [fr76] at hK ⊢
            rw [e1] at hK ⊢
            clear hcl hun hJ
            go_simp
            exact hK _ _ ⟨fun _ => rfl, hJ3.out⟩
      · obtain rfl : n = k := by omega
        have hkl : ¬ 24 * (n : Int) < len := by omega
        have HO2 : Hid (wr.ownsRow w.heap.size 26 6 _ (tabS zs n).length (Sy.flat (tabS zs n))) := Lib.hid (by rw [HTL.out]; exact hown)
        clear hown
        go_wp2
        go_ret2
        exact ⟨⟨_, rfl, HO2.out⟩, hbel⟩
  · have HR : Hid (tabY zs = (10, [])) := Lib.hid (by unfold tabY; rw [HZL.out, if_neg hm])
    rw [HR.out]
    have hmi : ¬ (len : Int) % 24 = 0 := by omega
    have hmb : ((len : Int) % 24 == 0) = false := by simpa using hmi
    clear hb
    go_enter Try.func15, Try.ntmps15
    go_wp2
    go_ret2
    exact ⟨⟨_, rfl, World.ownsRow_nil _ _ _ _⟩, Below.refl _ _⟩
end Go.Proofs.Ytpodnhieaboddaa
