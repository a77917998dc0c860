/-
  What is proved here: Get of the reference of head: the head that bytes begin with, or the error that the document names; nothing that was there is written.
  Conditions: slices of at most 2^47 bytes.
-/
import Derived.Test.YtmhigmfifpbmaaaHeaRef
import Derived.Test.YtmhigmfifpbmaaaORGet
import Derived.Test.YtmhigmfifpbmaaaBlk
namespace Go.Proofs.Ytmhigmfifpbmaaa
open Go.RowKit
set_option linter.unusedVariables false

theorem Bys.drewN {w : World} {B : Nat} {a : Option Addr} {len : Nat} {zs : List Int} (h : Bys w B a len zs) (n : Nat) : Bys (w.drewN n) B a len zs := h.below (below_drewN (Below.refl B w) n)

set_option maxHeartbeats 400000 in
theorem rhget_short (a : Option Addr) (len cap : Nat) (w : World) (h : len < 64) :
    Calls Try.prog 12 #[.slice a len cap] w fun r w' => r = .returned (.tuple #[headV 0 0 0 0, .int .i64 10]) ∧ Below w.heap.size w w' := by
  have hi : (len : Int) < 64 := by omega
  unfold headV
  go_enter Try.func12, Try.ntmps12
  go_wp2
  refine bodyPost_ret (v := .tuple #[.agg #[.int .i64 0, .int .u64 0, .int .u64 0, .int .i64 0], .int .i64 10]) (by simp [results, Try.results12, go_sem]) rfl ⟨rfl, ?_⟩
  first | exact (Below.refl _ _).alloc (Nat.le_refl _) _ | exact ((Below.refl _ _).alloc (Nat.le_refl _) _).setCell (Nat.le_refl _) _

set_option maxRecDepth 100000 in
set_option maxHeartbeats 1600000 in
theorem rhget_no (B : Nat) (a : Option Addr) (len cap : Nat) (zs : List Int) (w : World) (hb : Bys w B a len zs) (hB : B ≤ w.heap.size) (hcap : len ≤ cap) (hcm : (cap : Int) ≤ 9223372036854775807) (h : 64 ≤ len) (hv : validB (kOf zs) (cOf zs) = false) :
    Calls Try.prog 12 #[.slice a len cap] w fun r w' => r = .returned (.tuple #[headV 0 0 0 0, .int .i64 11]) ∧ Below w.heap.size w w' := by
  have hi : (64 : Int) ≤ len := by omega
  have hli : (len : Int) ≤ 9223372036854775807 := by omega
  have HV := Lib.hid hv
  have hk := kOf_bd hb.2.1 (by have := hb.1; omega)
  have hc := cOf_bd hb.2.1 (by have := hb.1; omega)
  have hR : ∀ w1, Below w.heap.size w w1 → Bys w1 B a len zs := fun w1 h1 => hb.below (h1.mono hB)
  have R1 : Hid (∀ w1, Below w.heap.size w w1 → Calls Try.prog 19 #[.slice a len cap, .int .u64 16, .int .i64 2] w1 fun e w' => e = .returned (.tuple #[.int .u64 (kOf zs), .int .i64 0]) ∧ w1 = w') := Lib.hid (fun w1 h1 => rget_ok B a len cap zs 16 2 w1 (hR w1 h1) (by decide) hli (by omega))
  have R2 : Hid (∀ w1, Below w.heap.size w w1 → Calls Try.prog 19 #[.slice a len cap, .int .u64 24, .int .i64 8] w1 fun e w' => e = .returned (.tuple #[.int .u64 (eOf zs), .int .i64 0]) ∧ w1 = w') := Lib.hid (fun w1 h1 => rget_ok B a len cap zs 24 8 w1 (hR w1 h1) (by decide) hli (by omega))
  have R3 : Hid (∀ w1, Below w.heap.size w w1 → Calls Try.prog 19 #[.slice a len cap, .int .u64 32, .int .i64 8] w1 fun e w' => e = .returned (.tuple #[.int .u64 (sOf zs), .int .i64 0]) ∧ w1 = w') := Lib.hid (fun w1 h1 => rget_ok B a len cap zs 32 8 w1 (hR w1 h1) (by decide) hli (by omega))
  have R4 : Hid (∀ w1, Below w.heap.size w w1 → Calls Try.prog 19 #[.slice a len cap, .int .u64 56, .int .i64 2] w1 fun e w' => e = .returned (.tuple #[.int .u64 (cOf zs), .int .i64 0]) ∧ w1 = w') := Lib.hid (fun w1 h1 => rget_ok B a len cap zs 56 2 w1 (hR w1 h1) (by decide) hli (by omega))
  obtain ⟨hk0, hk1⟩ := hk
  obtain ⟨hc0, hc1⟩ := hc
  have HBL : Hid (∀ o o', Below w.heap.size w ((w.alloc o).alloc o')) := Lib.hid (fun o o' => ((Below.refl _ _).alloc (Nat.le_refl _) o).alloc (by simp) o')
  clear hb hv hR
  unfold headV at *
  go_enter Try.func12, Try.ntmps12
  go_wp2_with (first | (go_at_call 19; with_reducible refine (R1.out _ (HBL.out _ _)).mono ?_; rintro r w' ⟨rfl, rfl⟩) | (go_at_call 19; with_reducible refine (R2.out _ (HBL.out _ _)).mono ?_; rintro r w' ⟨rfl, rfl⟩) | (go_at_call 19; with_reducible refine (R3.out _ (HBL.out _ _)).mono ?_; rintro r w' ⟨rfl, rfl⟩) | (go_at_call 19; with_reducible refine (R4.out _ (HBL.out _ _)).mono ?_; rintro r w' ⟨rfl, rfl⟩) | (go_at_call 9; refine Calls.mono (rput_arg _ _ _ _ _ HV.out) ?_))
  rintro r w2 ⟨rfl, hb⟩
  have hbb : Below w.heap.size w w2 := (((Below.refl _ _).alloc (Nat.le_refl _) _).alloc (by simp) _).trans (hb.mono (by simp; omega))
  obtain ⟨q0, q1, q2, q3⟩ := (((Blk.new w _ _).alloc _).later hb).c4
  obtain ⟨f0, f1, f2, f3⟩ := (((Blk.new w _ _).alloc _).later hb).f4
  clear hb
  go_wp2
  go_quiet (fail)
  go_wp2
  refine bodyPost_ret (v := .tuple #[.agg #[.int .i64 0, .int .u64 0, .int .u64 0, .int .i64 0], .int .i64 11]) (by simp [results, Try.results12, go_sem, q0, q1, q2, q3]) rfl ⟨rfl, ?_⟩
  exact ((((below_drewN hbb _).setCell (Nat.le_refl _) _).setCell (Nat.le_refl _) _).setCell (Nat.le_refl _) _).setCell (Nat.le_refl _) _

set_option maxRecDepth 100000 in
set_option maxHeartbeats 1600000 in
theorem rhget_yes (B : Nat) (a : Option Addr) (len cap : Nat) (zs : List Int) (w : World) (hb : Bys w B a len zs) (hB : B ≤ w.heap.size) (hcap : len ≤ cap) (hcm : (cap : Int) ≤ 9223372036854775807) (h : 64 ≤ len) (hv : validB (kOf zs) (cOf zs) = true) (y : Bool) (hy : decide (enc (kOf zs) (eOf zs) (sOf zs) (cOf zs) = piece zs 0 64) = y) :
    Calls Try.prog 12 #[.slice a len cap] w fun r w' => r = .returned (if y then .tuple #[headV (kOf zs) (eOf zs) (sOf zs) (cOf zs), .int .i64 0] else .tuple #[headV 0 0 0 0, .int .i64 11]) ∧ Below w.heap.size w w' := by
  have hi : (64 : Int) ≤ len := by omega
  have hli : (len : Int) ≤ 9223372036854775807 := by omega
  have hci : (64 : Int) ≤ cap := by omega
  obtain ⟨b, off, rfl, -, -⟩ := hb.2.2 (by omega)
  have hk := kOf_bd hb.2.1 (by have := hb.1; omega)
  have hc := cOf_bd hb.2.1 (by have := hb.1; omega)
  have he := eOf_bd hb.2.1 (by have := hb.1; omega)
  have hs := sOf_bd hb.2.1 (by have := hb.1; omega)
  have hR : ∀ w1, Below w.heap.size w w1 → Bys w1 B (some ⟨b, off, none⟩) len zs := fun w1 h1 => hb.below (h1.mono hB)
  have R1 : Hid (∀ w1, Below w.heap.size w w1 → Calls Try.prog 19 #[.slice (some ⟨b, off, none⟩) len cap, .int .u64 16, .int .i64 2] w1 fun e w' => e = .returned (.tuple #[.int .u64 (kOf zs), .int .i64 0]) ∧ w1 = w') := Lib.hid (fun w1 h1 => rget_ok B _ len cap zs 16 2 w1 (hR w1 h1) (by decide) hli (by omega))
  have R2 : Hid (∀ w1, Below w.heap.size w w1 → Calls Try.prog 19 #[.slice (some ⟨b, off, none⟩) len cap, .int .u64 24, .int .i64 8] w1 fun e w' => e = .returned (.tuple #[.int .u64 (eOf zs), .int .i64 0]) ∧ w1 = w') := Lib.hid (fun w1 h1 => rget_ok B _ len cap zs 24 8 w1 (hR w1 h1) (by decide) hli (by omega))
  have R3 : Hid (∀ w1, Below w.heap.size w w1 → Calls Try.prog 19 #[.slice (some ⟨b, off, none⟩) len cap, .int .u64 32, .int .i64 8] w1 fun e w' => e = .returned (.tuple #[.int .u64 (sOf zs), .int .i64 0]) ∧ w1 = w') := Lib.hid (fun w1 h1 => rget_ok B _ len cap zs 32 8 w1 (hR w1 h1) (by decide) hli (by omega))
  have R4 : Hid (∀ w1, Below w.heap.size w w1 → Calls Try.prog 19 #[.slice (some ⟨b, off, none⟩) len cap, .int .u64 56, .int .i64 2] w1 fun e w' => e = .returned (.tuple #[.int .u64 (cOf zs), .int .i64 0]) ∧ w1 = w') := Lib.hid (fun w1 h1 => rget_ok B _ len cap zs 56 2 w1 (hR w1 h1) (by decide) hli (by omega))
  have RP : Hid (∀ w1, Calls Try.prog 9 #[headV (kOf zs) (eOf zs) (sOf zs) (cOf zs)] w1 fun r w' => (∃ u, r = .returned (.tuple #[u, .int .i64 0]) ∧ w'.ownsRow w1.heap.size 5 1 u 64 ((enc (kOf zs) (eOf zs) (sOf zs) (cOf zs)).map (Value.int .u8))) ∧ Below w1.heap.size w1 w') := Lib.hid (fun w1 => rput_ok _ _ _ _ w1 hv he.1 he.2 hs.1 hs.2)
  have HR := Lib.hid hR
  have hq1 : ((strOfNums (enc (kOf zs) (eOf zs) (sOf zs) (cOf zs))).toList == (strOfNums (piece zs 0 64)).toList) = y := by
    rw [← hy]
    by_cases h : enc (kOf zs) (eOf zs) (sOf zs) (cOf zs) = piece zs 0 64
    · rw [h]; simp
    · have h3 : ¬ (strOfNums (enc (kOf zs) (eOf zs) (sOf zs) (cOf zs))).toList = (strOfNums (piece zs 0 64)).toList := fun e => h ((strOfNums_eq (enc_bd _ _ _ _) (piece_mem hb.2.1)).1 (toList_inj e))
      simp [h, h3]
  have hq2 : ((strOfNums (enc (kOf zs) (eOf zs) (sOf zs) (cOf zs))).toList != (strOfNums (piece zs 0 64)).toList) = !y := by
    unfold bne; rw [hq1]
  obtain ⟨S2, hS2⟩ : ∃ S, strOfNums (piece zs 0 64) = S := ⟨_, rfl⟩
  rw [hS2] at hq1 hq2
  obtain ⟨hk0, hk1⟩ := hk
  obtain ⟨hc0, hc1⟩ := hc
  have HBL : Hid (∀ o o', Below w.heap.size w ((w.alloc o).alloc o')) := Lib.hid (fun o o' => ((Below.refl _ _).alloc (Nat.le_refl _) o).alloc (by simp) o')
  clear hb hv hR hy he hs
  unfold headV at *
  go_enter Try.func12, Try.ntmps12
  go_wp2_with (first | (go_at_call 19; with_reducible refine (R1.out _ (HBL.out _ _)).mono ?_; rintro r w' ⟨rfl, rfl⟩) | (go_at_call 19; with_reducible refine (R2.out _ (HBL.out _ _)).mono ?_; rintro r w' ⟨rfl, rfl⟩) | (go_at_call 19; with_reducible refine (R3.out _ (HBL.out _ _)).mono ?_; rintro r w' ⟨rfl, rfl⟩) | (go_at_call 19; with_reducible refine (R4.out _ (HBL.out _ _)).mono ?_; rintro r w' ⟨rfl, rfl⟩) | (go_at_call 9; refine Calls.mono (RP.out _) ?_))
  rintro r w2 ⟨⟨u, rfl, hm⟩, hb⟩
  obtain ⟨ua, uc, rfl⟩ := own_slice hm
  have hbb : Below w.heap.size w w2 := (((Below.refl _ _).alloc (Nat.le_refl _) _).alloc (by simp) _).trans (hb.mono (by simp; omega))
  obtain ⟨q0, q1, q2, q3⟩ := (((Blk.new w _ _).alloc _).later hb).c4
  obtain ⟨f0, f1, f2, f3⟩ := (((Blk.new w _ _).alloc _).later hb).f4
  obtain ⟨p0, p1, p2, p3⟩ := ((Blk.new (w.alloc _) _ _).later hb).c4
  simp only [World.size_alloc] at p0 p1 p2 p3
  have hv1 := fun n => ((Bys.own (enc_bd _ _ _ _) hm).drewN n).conv uc
  have hv2 := fun n => (((HR.out w2 hbb).sub (p := 0) (n := 64) (by omega)).drewN n).conv cap
  simp only [Nat.add_zero, hS2] at hv2
  obtain ⟨S1, hS1⟩ : ∃ S, strOfNums (enc (kOf zs) (eOf zs) (sOf zs) (cOf zs)) = S := ⟨_, rfl⟩
  simp only [hS1] at hv1 hq1 hq2
  have HBB := Lib.hid hbb
  clear hb hm hbb hS1 hS2
  cases y with
  | true =>
    go_wp2
    go_quiet (fail)
    go_wp2
    refine bodyPost_ret (v := .tuple #[.agg #[.int .i64 (kOf zs), .int .u64 (eOf zs), .int .u64 (sOf zs), .int .i64 (cOf zs)], .int .i64 0]) (by simp [results, Try.results12, go_sem, q0, q1, q2, q3]) rfl ⟨rfl, ?_⟩
    exact ((((below_drewN HBB.out _).setCell (Nat.le_refl _) _).setCell (Nat.le_refl _) _).setCell (Nat.le_refl _) _).setCell (Nat.le_refl _) _
  | false =>
    go_wp2
    go_quiet (fail)
    go_wp2
    refine bodyPost_ret (v := .tuple #[.agg #[.int .i64 0, .int .u64 0, .int .u64 0, .int .i64 0], .int .i64 11]) (by simp [results, Try.results12, go_sem, q0, q1, q2, q3]) rfl ⟨rfl, ?_⟩
    exact ((((below_drewN HBB.out _).setCell (Nat.le_refl _) _).setCell (Nat.le_refl _) _).setCell (Nat.le_refl _) _).setCell (Nat.le_refl _) _

theorem rhget_any (B : Nat) (a : Option Addr) (len cap : Nat) (zs : List Int) (w : World) (hb : Bys w B a len zs) (hB : B ≤ w.heap.size) (hcap : len ≤ cap) (hcm : (cap : Int) ≤ 9223372036854775807) :
    Calls Try.prog 12 #[.slice a len cap] w fun r w' => r = .returned (getV zs) ∧ Below w.heap.size w w' := by
  have hz := hb.1
  unfold getV
  by_cases h : zs.length < 64
  · rw [if_pos h]
    exact rhget_short a len cap w (by omega)
  · rw [if_neg h]
    cases hv : validB (kOf zs) (cOf zs) with
    | false =>
      have : isHead zs = false := by unfold isHead; rw [hv]; rfl
      rw [this]
      exact rhget_no B a len cap zs w hb hB hcap hcm (by omega) hv
    | true =>
      have : isHead zs = decide (enc (kOf zs) (eOf zs) (sOf zs) (cOf zs) = piece zs 0 64) := by unfold isHead; rw [hv]; rfl
      exact rhget_yes B a len cap zs w hb hB hcap hcm (by omega) hv (isHead zs) this.symm
end Go.Proofs.Ytmhigmfifpbmaaa
