/-
  What is proved here: Get of package head: the head that bytes begin with, or the error that the document names; nothing that was there is written.
  Conditions: slices of at most 2^47 bytes.
-/
import Derived.Test.YtmhigmfifpbmaaaHeaPut
import Derived.Test.YtmhigmfifpbmaaaBlk
namespace Go.Proofs.Ytmhigmfifpbmaaa
open Go.RowKit
set_option linter.unusedVariables false

set_option maxHeartbeats 400000 in
theorem hget_short (a : Option Addr) (len cap : Nat) (w : World) (h : len < 64) :
    Calls Try.prog 11 #[.slice a len cap] w fun r w' => r = .returned (.tuple #[headV 0 0 0 0, .int .i64 10]) ∧ Below w.heap.size w w' := by
  have hi : (len : Int) < 64 := by omega
  unfold headV
  go_enter Try.func11, Try.ntmps11
  go_wp2
  refine bodyPost_ret (v := .tuple #[.agg #[.int .i64 0, .int .u64 0, .int .u64 0, .int .i64 0], .int .i64 10]) (by simp [results, Try.results11, go_sem]) rfl ⟨rfl, ?_⟩
  first | exact (Below.refl _ _).alloc (Nat.le_refl _) _ | exact ((Below.refl _ _).alloc (Nat.le_refl _) _).setCell (Nat.le_refl _) _

set_option maxRecDepth 100000 in
set_option maxHeartbeats 800000 in
theorem hget_no (B : Nat) (a : Option Addr) (len cap : Nat) (zs : List Int) (w : World) (hb : Bys w B a len zs) (hB : B ≤ w.heap.size) (hcap : len ≤ cap) (hcm : (cap : Int) ≤ 9223372036854775807) (h : 64 ≤ len) (hv : validB (kOf zs) (cOf zs) = false) :
    Calls Try.prog 11 #[.slice a len cap] w fun r w' => r = .returned (.tuple #[headV 0 0 0 0, .int .i64 11]) ∧ Below w.heap.size w w' := by
  have hi : (64 : Int) ≤ len := by omega
  have hli : (len : Int) ≤ 9223372036854775807 := by omega
  have HBY := Lib.hid hb
  have HV := Lib.hid hv
  have hk := kOf_bd hb.2.1 (by have := hb.1; omega)
  have hc := cOf_bd hb.2.1 (by have := hb.1; omega)
  have hR : ∀ w1, Below w.heap.size w w1 → Bys w1 B a len zs := fun w1 h1 => hb.below (h1.mono hB)
  have HR := Lib.hid hR
  have R1 : Hid (∀ w1, Below w.heap.size w w1 → Calls Try.prog 17 #[.slice a len cap, .int .u64 16, .int .i64 2] w1 fun e w' => e = .returned (.int .u64 (kOf zs)) ∧ w1 = w') := Lib.hid (fun w1 h1 => read_ok B a len cap zs 16 2 w1 (hR w1 h1) (by decide) hli (by omega))
  have R2 : Hid (∀ w1, Below w.heap.size w w1 → Calls Try.prog 17 #[.slice a len cap, .int .u64 24, .int .i64 8] w1 fun e w' => e = .returned (.int .u64 (eOf zs)) ∧ w1 = w') := Lib.hid (fun w1 h1 => read_ok B a len cap zs 24 8 w1 (hR w1 h1) (by decide) hli (by omega))
  have R3 : Hid (∀ w1, Below w.heap.size w w1 → Calls Try.prog 17 #[.slice a len cap, .int .u64 32, .int .i64 8] w1 fun e w' => e = .returned (.int .u64 (sOf zs)) ∧ w1 = w') := Lib.hid (fun w1 h1 => read_ok B a len cap zs 32 8 w1 (hR w1 h1) (by decide) hli (by omega))
  have R4 : Hid (∀ w1, Below w.heap.size w w1 → Calls Try.prog 17 #[.slice a len cap, .int .u64 56, .int .i64 2] w1 fun e w' => e = .returned (.int .u64 (cOf zs)) ∧ w1 = w') := Lib.hid (fun w1 h1 => read_ok B a len cap zs 56 2 w1 (hR w1 h1) (by decide) hli (by omega))
  obtain ⟨hk0, hk1⟩ := hk
  obtain ⟨hc0, hc1⟩ := hc
  have HBL : Hid (∀ o, Below w.heap.size w (w.alloc o)) := Lib.hid (fun o => (Below.refl _ _).alloc (Nat.le_refl _) o)
  clear hb hv hR
  unfold headV at *
  go_enter Try.func11, Try.ntmps11
  go_wp2_with (first | (go_at_call 17; with_reducible refine (R1.out _ (HBL.out _)).mono ?_; rintro r w' ⟨rfl, rfl⟩) | (go_at_call 17; with_reducible refine (R2.out _ (HBL.out _)).mono ?_; rintro r w' ⟨rfl, rfl⟩) | (go_at_call 17; with_reducible refine (R3.out _ (HBL.out _)).mono ?_; rintro r w' ⟨rfl, rfl⟩) | (go_at_call 17; with_reducible refine (R4.out _ (HBL.out _)).mono ?_; rintro r w' ⟨rfl, rfl⟩) | (go_at_call 8; refine Calls.mono (put_arg _ _ _ _ _ HV.out) ?_))
  rintro r w2 ⟨rfl, hb⟩
  have hbb : Below w.heap.size w w2 := (((Below.refl _ _).alloc (Nat.le_refl _) _).alloc (by simp) _).trans (hb.mono (by simp; omega))
  obtain ⟨q0, q1, q2, q3⟩ := (((Blk.new w _ _).alloc _).later hb).c4
  obtain ⟨f0, f1, f2, f3⟩ := (((Blk.new w _ _).alloc _).later hb).f4
  clear hb
  go_wp2
  refine bodyPost_ret (v := .tuple #[.agg #[.int .i64 0, .int .u64 0, .int .u64 0, .int .i64 0], .int .i64 11]) (by simp [results, Try.results11, go_sem, q0, q1, q2, q3]) rfl ⟨rfl, ?_⟩
  exact (((hbb.setCell (Nat.le_refl _) _).setCell (Nat.le_refl _) _).setCell (Nat.le_refl _) _).setCell (Nat.le_refl _) _

set_option maxRecDepth 100000 in
set_option maxHeartbeats 800000 in
theorem hget_yes (B : Nat) (a : Option Addr) (len cap : Nat) (zs : List Int) (w : World) (hb : Bys w B a len zs) (hB : B ≤ w.heap.size) (hcap : len ≤ cap) (hcm : (cap : Int) ≤ 9223372036854775807) (h : 64 ≤ len) (hv : validB (kOf zs) (cOf zs) = true) (y : Bool) (hy : decide (enc (kOf zs) (eOf zs) (sOf zs) (cOf zs) = piece zs 0 64) = y) :
    Calls Try.prog 11 #[.slice a len cap] w fun r w' => r = .returned (if y then .tuple #[headV (kOf zs) (eOf zs) (sOf zs) (cOf zs), .int .i64 0] else .tuple #[headV 0 0 0 0, .int .i64 11]) ∧ Below w.heap.size w w' := by
  have hi : (64 : Int) ≤ len := by omega
  have hli : (len : Int) ≤ 9223372036854775807 := by omega
  have hci : (64 : Int) ≤ cap := by omega
  obtain ⟨b, off, rfl, -, -⟩ := hb.2.2 (by omega)
  have hk := kOf_bd hb.2.1 (by have := hb.1; omega)
  have hc := cOf_bd hb.2.1 (by have := hb.1; omega)
  have he := eOf_bd hb.2.1 (by have := hb.1; omega)
  have hs := sOf_bd hb.2.1 (by have := hb.1; omega)
  have hR : ∀ w1, Below w.heap.size w w1 → Bys w1 B (some ⟨b, off, none⟩) len zs := fun w1 h1 => hb.below (h1.mono hB)
  have R1 : Hid (∀ w1, Below w.heap.size w w1 → Calls Try.prog 17 #[.slice (some ⟨b, off, none⟩) len cap, .int .u64 16, .int .i64 2] w1 fun e w' => e = .returned (.int .u64 (kOf zs)) ∧ w1 = w') := Lib.hid (fun w1 h1 => read_ok B _ len cap zs 16 2 w1 (hR w1 h1) (by decide) hli (by omega))
  have R2 : Hid (∀ w1, Below w.heap.size w w1 → Calls Try.prog 17 #[.slice (some ⟨b, off, none⟩) len cap, .int .u64 24, .int .i64 8] w1 fun e w' => e = .returned (.int .u64 (eOf zs)) ∧ w1 = w') := Lib.hid (fun w1 h1 => read_ok B _ len cap zs 24 8 w1 (hR w1 h1) (by decide) hli (by omega))
  have R3 : Hid (∀ w1, Below w.heap.size w w1 → Calls Try.prog 17 #[.slice (some ⟨b, off, none⟩) len cap, .int .u64 32, .int .i64 8] w1 fun e w' => e = .returned (.int .u64 (sOf zs)) ∧ w1 = w') := Lib.hid (fun w1 h1 => read_ok B _ len cap zs 32 8 w1 (hR w1 h1) (by decide) hli (by omega))
  have R4 : Hid (∀ w1, Below w.heap.size w w1 → Calls Try.prog 17 #[.slice (some ⟨b, off, none⟩) len cap, .int .u64 56, .int .i64 2] w1 fun e w' => e = .returned (.int .u64 (cOf zs)) ∧ w1 = w') := Lib.hid (fun w1 h1 => read_ok B _ len cap zs 56 2 w1 (hR w1 h1) (by decide) hli (by omega))
  have RP : Hid (∀ w1, Calls Try.prog 8 #[headV (kOf zs) (eOf zs) (sOf zs) (cOf zs)] w1 fun r w' => (∃ u, r = .returned (.tuple #[u, .int .i64 0]) ∧ Made (enc (kOf zs) (eOf zs) (sOf zs) (cOf zs)) u w') ∧ Below w1.heap.size w1 w') := Lib.hid (fun w1 => put_ok _ _ _ _ w1 hv he.1 he.2 hs.1 hs.2)
  have RE : Hid (∀ w1 g c, Below w.heap.size w w1 → Bys w1 w1.heap.size (some ⟨g, 0, none⟩) 64 (enc (kOf zs) (eOf zs) (sOf zs) (cOf zs)) → Calls Try.prog 18 #[.slice (some ⟨g, 0, none⟩) 64 c, .slice (some ⟨b, off, none⟩) 64 cap] w1 fun r w' => r = .returned (.bool y) ∧ w1 = w') := Lib.hid (fun w1 g c h1 hm => by
    have := equal_any _ _ _ _ 64 64 c cap _ _ w1 hm ((hR w1 h1).sub (p := 0) (n := 64) (by omega))
    rw [hy] at this
    exact this)
  obtain ⟨hk0, hk1⟩ := hk
  obtain ⟨hc0, hc1⟩ := hc
  have HBL : Hid (∀ o, Below w.heap.size w (w.alloc o)) := Lib.hid (fun o => (Below.refl _ _).alloc (Nat.le_refl _) o)
  have HEL := Lib.hid (enc_len (kOf zs) (eOf zs) (sOf zs) (cOf zs))
  clear hb hv hR hy he hs
  unfold headV at *
  go_enter Try.func11, Try.ntmps11
  go_wp2_with (first | (go_at_call 17; with_reducible refine (R1.out _ (HBL.out _)).mono ?_; rintro r w' ⟨rfl, rfl⟩) | (go_at_call 17; with_reducible refine (R2.out _ (HBL.out _)).mono ?_; rintro r w' ⟨rfl, rfl⟩) | (go_at_call 17; with_reducible refine (R3.out _ (HBL.out _)).mono ?_; rintro r w' ⟨rfl, rfl⟩) | (go_at_call 17; with_reducible refine (R4.out _ (HBL.out _)).mono ?_; rintro r w' ⟨rfl, rfl⟩) | (go_at_call 8; refine Calls.mono (RP.out _) ?_))
  rintro r w2 ⟨⟨u, rfl, g, c, rfl, _, _, hm⟩, hb⟩
  rw [HEL.out] at hm ⊢
  have hbb : Below w.heap.size w w2 := (((Below.refl _ _).alloc (Nat.le_refl _) _).alloc (by simp) _).trans (hb.mono (by simp; omega))
  obtain ⟨q0, q1, q2, q3⟩ := (((Blk.new w _ _).alloc _).later hb).c4
  obtain ⟨f0, f1, f2, f3⟩ := (((Blk.new w _ _).alloc _).later hb).f4
  obtain ⟨p0, p1, p2, p3⟩ := ((Blk.new (w.alloc _) _ _).later hb).c4
  simp only [World.size_alloc] at p0 p1 p2 p3
  have HM := Lib.hid hm
  have HBB := Lib.hid hbb
  clear hb hm hbb
  cases y with
  | true =>
    go_wp2_with (go_at_call 18; refine (RE.out _ _ _ HBB.out HM.out).mono ?_; rintro r w' ⟨rfl, rfl⟩)
    refine bodyPost_ret (v := .tuple #[.agg #[.int .i64 (kOf zs), .int .u64 (eOf zs), .int .u64 (sOf zs), .int .i64 (cOf zs)], .int .i64 0]) (by simp [results, Try.results11, go_sem, q0, q1, q2, q3]) rfl ⟨rfl, ?_⟩
    exact (((HBB.out.setCell (Nat.le_refl _) _).setCell (Nat.le_refl _) _).setCell (Nat.le_refl _) _).setCell (Nat.le_refl _) _
  | false =>
    go_wp2_with (go_at_call 18; refine (RE.out _ _ _ HBB.out HM.out).mono ?_; rintro r w' ⟨rfl, rfl⟩)
    refine bodyPost_ret (v := .tuple #[.agg #[.int .i64 0, .int .u64 0, .int .u64 0, .int .i64 0], .int .i64 11]) (by simp [results, Try.results11, go_sem, q0, q1, q2, q3]) rfl ⟨rfl, ?_⟩
    exact (((HBB.out.setCell (Nat.le_refl _) _).setCell (Nat.le_refl _) _).setCell (Nat.le_refl _) _).setCell (Nat.le_refl _) _

theorem hget_any (B : Nat) (a : Option Addr) (len cap : Nat) (zs : List Int) (w : World) (hb : Bys w B a len zs) (hB : B ≤ w.heap.size) (hcap : len ≤ cap) (hcm : (cap : Int) ≤ 9223372036854775807) :
    Calls Try.prog 11 #[.slice a len cap] w fun r w' => r = .returned (getV zs) ∧ Below w.heap.size w w' := by
  have hz := hb.1
  unfold getV
  by_cases h : zs.length < 64
  · rw [if_pos h]
    exact hget_short a len cap w (by omega)
  · rw [if_neg h]
    cases hv : validB (kOf zs) (cOf zs) with
    | false =>
      have : isHead zs = false := by unfold isHead; rw [hv]; rfl
      rw [this]
      exact hget_no B a len cap zs w hb hB hcap hcm (by omega) hv
    | true =>
      have : isHead zs = decide (enc (kOf zs) (eOf zs) (sOf zs) (cOf zs) = piece zs 0 64) := by unfold isHead; rw [hv]; rfl
      exact hget_yes B a len cap zs w hb hB hcap hcm (by omega) hv (isHead zs) this.symm
end Go.Proofs.Ytmhigmfifpbmaaa
