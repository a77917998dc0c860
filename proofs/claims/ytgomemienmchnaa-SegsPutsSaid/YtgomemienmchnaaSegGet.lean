/-
  What is proved here: Get of package segs and of its reference: the segment that bytes begin with, or the error that the document names; nothing that was there is written.
  Conditions: slices of at most 2^47 bytes.
-/
import Derived.Test.YtgomemienmchnaaSegPlain
namespace Go.Proofs.Ytgomemienmchnaa
open Go.RowKit
set_option linter.unusedVariables false
set_option linter.unusedSimpArgs false

theorem Bys.drewN {w : World} {B : Nat} {a : Option Addr} {len : Nat} {zs : List Int} (h : Bys w B a len zs) (n : Nat) : Bys (w.drewN n) B a len zs := h.below (below_drewN (Below.refl B w) n)

set_option maxHeartbeats 400000 in
theorem sget_short (a : Option Addr) (len cap : Nat) (w : World) (h : len < 56) :
    Calls Try.prog 13 #[.slice a len cap] w fun r w' => r = .returned (.tuple #[sg0.val, .int .i64 10]) ∧ Below w.heap.size w w' := by
  have hi : (len : Int) < 56 := by omega
  unfold sg0 Sg.val
  go_enter Try.func13, Try.ntmps13
  go_wp2
  refine bodyPost_ret (v := .tuple #[.agg #[.int .u32 0, .int .u32 0, .int .u64 0, .int .u64 0, .int .u64 0, .int .u64 0, .int .u64 0], .int .i64 10]) (by simp [results, Try.results13, go_sem]) rfl ⟨rfl, ?_⟩
  exact (Below.refl _ _).alloc (Nat.le_refl _) _

set_option maxHeartbeats 400000 in
theorem rget4_short (a : Option Addr) (len cap : Nat) (w : World) (h : len < 56) :
    Calls Try.prog 15 #[.slice a len cap] w fun r w' => r = .returned (.tuple #[sg0.val, .int .i64 10]) ∧ Below w.heap.size w w' := by
  have hi : (len : Int) < 56 := by omega
  unfold sg0 Sg.val
  go_enter Try.func15, Try.ntmps15
  go_wp2
  refine bodyPost_ret (v := .tuple #[.agg #[.int .u32 0, .int .u32 0, .int .u64 0, .int .u64 0, .int .u64 0, .int .u64 0, .int .u64 0], .int .i64 10]) (by simp [results, Try.results15, go_sem]) rfl ⟨rfl, ?_⟩
  exact (Below.refl _ _).alloc (Nat.le_refl _) _

set_option maxRecDepth 100000 in
set_option maxHeartbeats 1600000 in
theorem sget_whole (B : Nat) (a : Option Addr) (len cap : Nat) (zs : List Int) (w : World) (hb : Bys w B a len zs) (hB : B ≤ w.heap.size) (hcap : len ≤ cap) (hcm : (cap : Int) ≤ 9223372036854775807) (h : 56 ≤ len) (y : Bool) (hy : (againS zs != (getS zs).va) = y) :
    Calls Try.prog 13 #[.slice a len cap] w fun r w' => r = .returned (if y then .tuple #[sg0.val, .int .i64 11] else .tuple #[(getS zs).val, .int .i64 0]) ∧ Below w.heap.size w w' := by
  have hi : (56 : Int) ≤ len := by omega
  have hli : (len : Int) ≤ 9223372036854775807 := by omega
  have hR : ∀ w1, Below w.heap.size w w1 → Bys w1 B a len zs := fun w1 h1 => hb.below (h1.mono hB)
  have R0 : Hid (∀ w1, Below w.heap.size w w1 → Calls Try.prog 27 #[.slice a len cap, .int .u64 0, .int .i64 4] w1 fun e w' => e = .returned (.int .u64 (getS zs).ty) ∧ w1 = w') := Lib.hid (fun w1 h1 => read_ok B a len cap zs 0 4 w1 (hR w1 h1) (by decide) hli (by omega))
  have R1 : Hid (∀ w1, Below w.heap.size w w1 → Calls Try.prog 27 #[.slice a len cap, .int .u64 4, .int .i64 4] w1 fun e w' => e = .returned (.int .u64 (getS zs).fl) ∧ w1 = w') := Lib.hid (fun w1 h1 => read_ok B a len cap zs 4 4 w1 (hR w1 h1) (by decide) hli (by omega))
  have R2 : Hid (∀ w1, Below w.heap.size w w1 → Calls Try.prog 27 #[.slice a len cap, .int .u64 8, .int .i64 8] w1 fun e w' => e = .returned (.int .u64 (getS zs).ot) ∧ w1 = w') := Lib.hid (fun w1 h1 => read_ok B a len cap zs 8 8 w1 (hR w1 h1) (by decide) hli (by omega))
  have R3 : Hid (∀ w1, Below w.heap.size w w1 → Calls Try.prog 27 #[.slice a len cap, .int .u64 16, .int .i64 8] w1 fun e w' => e = .returned (.int .u64 (getS zs).va) ∧ w1 = w') := Lib.hid (fun w1 h1 => read_ok B a len cap zs 16 8 w1 (hR w1 h1) (by decide) hli (by omega))
  have R4 : Hid (∀ w1, Below w.heap.size w w1 → Calls Try.prog 27 #[.slice a len cap, .int .u64 32, .int .i64 8] w1 fun e w' => e = .returned (.int .u64 (getS zs).fi) ∧ w1 = w') := Lib.hid (fun w1 h1 => read_ok B a len cap zs 32 8 w1 (hR w1 h1) (by decide) hli (by omega))
  have R5 : Hid (∀ w1, Below w.heap.size w w1 → Calls Try.prog 27 #[.slice a len cap, .int .u64 40, .int .i64 8] w1 fun e w' => e = .returned (.int .u64 (getS zs).me) ∧ w1 = w') := Lib.hid (fun w1 h1 => read_ok B a len cap zs 40 8 w1 (hR w1 h1) (by decide) hli (by omega))
  have R6 : Hid (∀ w1, Below w.heap.size w w1 → Calls Try.prog 27 #[.slice a len cap, .int .u64 48, .int .i64 8] w1 fun e w' => e = .returned (.int .u64 (getS zs).al) ∧ w1 = w') := Lib.hid (fun w1 h1 => read_ok B a len cap zs 48 8 w1 (hR w1 h1) (by decide) hli (by omega))
  have R7 : Hid (∀ w1, Below w.heap.size w w1 → Calls Try.prog 27 #[.slice a len cap, .int .u64 24, .int .i64 8] w1 fun e w' => e = .returned (.int .u64 (againS zs)) ∧ w1 = w') := Lib.hid (fun w1 h1 => read_ok B a len cap zs 24 8 w1 (hR w1 h1) (by decide) hli (by omega))
  obtain ⟨hok, hag0, hag1⟩ := getS_bd hb.2.1 (by have := hb.1; omega)
  obtain ⟨S, hS⟩ : ∃ S, getS zs = S := ⟨_, rfl⟩
  obtain ⟨A, hA⟩ : ∃ A, againS zs = A := ⟨_, rfl⟩
  rw [hS] at R0 R1 R2 R3 R4 R5 R6 hok hy ⊢
  rw [hA] at R7 hag0 hag1 hy
  obtain ⟨ty, fl, ot, va, fi, me, al⟩ := S
  obtain ⟨⟨t0, t1⟩, ⟨t2, t3⟩, ⟨o0, o1⟩, ⟨v0, v1⟩, ⟨e0, e1⟩, ⟨m0, m1⟩, ⟨l0, l1⟩⟩ := hok
  simp only at R0 R1 R2 R3 R4 R5 R6 t0 t1 t2 t3 o0 o1 v0 v1 e0 e1 m0 m1 l0 l1 hy
  have HBL : Hid (∀ o, Below w.heap.size w (w.alloc o)) := Lib.hid (fun o => (Below.refl _ _).alloc (Nat.le_refl _) o)
  have HBL2 : Hid (∀ o o', Below w.heap.size w ((w.alloc o).alloc o')) := Lib.hid (fun o o' => ((Below.refl _ _).alloc (Nat.le_refl _) o).alloc (by simp) o')
  clear hb hR hS hA
  unfold sg0 Sg.val at *
  go_enter Try.func13, Try.ntmps13
  go_wp2_with (first | (go_at_call 27; with_reducible refine (R0.out _ (HBL.out _)).mono ?_; rintro r w' ⟨rfl, rfl⟩) | (go_at_call 27; with_reducible refine (R1.out _ (HBL.out _)).mono ?_; rintro r w' ⟨rfl, rfl⟩) | (go_at_call 27; with_reducible refine (R2.out _ (HBL.out _)).mono ?_; rintro r w' ⟨rfl, rfl⟩) | (go_at_call 27; with_reducible refine (R3.out _ (HBL.out _)).mono ?_; rintro r w' ⟨rfl, rfl⟩) | (go_at_call 27; with_reducible refine (R4.out _ (HBL.out _)).mono ?_; rintro r w' ⟨rfl, rfl⟩) | (go_at_call 27; with_reducible refine (R5.out _ (HBL.out _)).mono ?_; rintro r w' ⟨rfl, rfl⟩) | (go_at_call 27; with_reducible refine (R6.out _ (HBL.out _)).mono ?_; rintro r w' ⟨rfl, rfl⟩))
  go_quiet (first | (go_at_call 27; refine Calls.quiet_of_same ((R7.out _ (below_drewN (HBL2.out _ _) _)).mono fun _ _ h => ⟨h.1, h.2.symm⟩)))
  cases y with
  | true =>
    go_wp2
    refine bodyPost_ret (v := .tuple #[.agg #[.int .u32 0, .int .u32 0, .int .u64 0, .int .u64 0, .int .u64 0, .int .u64 0, .int .u64 0], .int .i64 11]) (by simp [results, Try.results13, go_sem]) rfl ⟨rfl, ?_⟩
    exact ((((((((below_drewN (HBL2.out _ _) _).setCell (Nat.le_refl _) _).setCell (Nat.le_refl _) _).setCell (Nat.le_refl _) _).setCell (Nat.le_refl _) _).setCell (Nat.le_refl _) _).setCell (Nat.le_refl _) _).setCell (Nat.le_refl _) _)
  | false =>
    go_wp2
    refine bodyPost_ret (v := .tuple #[.agg #[.int .u32 ty, .int .u32 fl, .int .u64 ot, .int .u64 va, .int .u64 fi, .int .u64 me, .int .u64 al], .int .i64 0]) (by simp [results, Try.results13, go_sem]) rfl ⟨rfl, ?_⟩
    exact ((((((((below_drewN (HBL2.out _ _) _).setCell (Nat.le_refl _) _).setCell (Nat.le_refl _) _).setCell (Nat.le_refl _) _).setCell (Nat.le_refl _) _).setCell (Nat.le_refl _) _).setCell (Nat.le_refl _) _).setCell (Nat.le_refl _) _)

set_option maxRecDepth 100000 in
set_option maxHeartbeats 1600000 in
theorem rget4_whole (B : Nat) (a : Option Addr) (len cap : Nat) (zs : List Int) (w : World) (hb : Bys w B a len zs) (hB : B ≤ w.heap.size) (hcap : len ≤ cap) (hcm : (cap : Int) ≤ 9223372036854775807) (h : 56 ≤ len) (y : Bool) (hy : ((getS zs).va != againS zs) = y) :
    Calls Try.prog 15 #[.slice a len cap] w fun r w' => r = .returned (if y then .tuple #[sg0.val, .int .i64 11] else .tuple #[(getS zs).val, .int .i64 0]) ∧ Below w.heap.size w w' := by
  have hi : (56 : Int) ≤ len := by omega
  have hli : (len : Int) ≤ 9223372036854775807 := by omega
  have hR : ∀ w1, Below w.heap.size w w1 → Bys w1 B a len zs := fun w1 h1 => hb.below (h1.mono hB)
  have R0 : Hid (∀ w1, Below w.heap.size w w1 → Calls Try.prog 29 #[.slice a len cap, .int .u64 0, .int .i64 4] w1 fun e w' => e = .returned (.int .u64 (getS zs).ty) ∧ w1 = w') := Lib.hid (fun w1 h1 => rat_ok B a len cap zs 0 4 w1 (hR w1 h1) (by decide) hli (by omega))
  have R1 : Hid (∀ w1, Below w.heap.size w w1 → Calls Try.prog 29 #[.slice a len cap, .int .u64 4, .int .i64 4] w1 fun e w' => e = .returned (.int .u64 (getS zs).fl) ∧ w1 = w') := Lib.hid (fun w1 h1 => rat_ok B a len cap zs 4 4 w1 (hR w1 h1) (by decide) hli (by omega))
  have R2 : Hid (∀ w1, Below w.heap.size w w1 → Calls Try.prog 29 #[.slice a len cap, .int .u64 8, .int .i64 8] w1 fun e w' => e = .returned (.int .u64 (getS zs).ot) ∧ w1 = w') := Lib.hid (fun w1 h1 => rat_ok B a len cap zs 8 8 w1 (hR w1 h1) (by decide) hli (by omega))
  have R3 : Hid (∀ w1, Below w.heap.size w w1 → Calls Try.prog 29 #[.slice a len cap, .int .u64 16, .int .i64 8] w1 fun e w' => e = .returned (.int .u64 (getS zs).va) ∧ w1 = w') := Lib.hid (fun w1 h1 => rat_ok B a len cap zs 16 8 w1 (hR w1 h1) (by decide) hli (by omega))
  have R4 : Hid (∀ w1, Below w.heap.size w w1 → Calls Try.prog 29 #[.slice a len cap, .int .u64 32, .int .i64 8] w1 fun e w' => e = .returned (.int .u64 (getS zs).fi) ∧ w1 = w') := Lib.hid (fun w1 h1 => rat_ok B a len cap zs 32 8 w1 (hR w1 h1) (by decide) hli (by omega))
  have R5 : Hid (∀ w1, Below w.heap.size w w1 → Calls Try.prog 29 #[.slice a len cap, .int .u64 40, .int .i64 8] w1 fun e w' => e = .returned (.int .u64 (getS zs).me) ∧ w1 = w') := Lib.hid (fun w1 h1 => rat_ok B a len cap zs 40 8 w1 (hR w1 h1) (by decide) hli (by omega))
  have R6 : Hid (∀ w1, Below w.heap.size w w1 → Calls Try.prog 29 #[.slice a len cap, .int .u64 48, .int .i64 8] w1 fun e w' => e = .returned (.int .u64 (getS zs).al) ∧ w1 = w') := Lib.hid (fun w1 h1 => rat_ok B a len cap zs 48 8 w1 (hR w1 h1) (by decide) hli (by omega))
  have R7 : Hid (∀ w1, Below w.heap.size w w1 → Calls Try.prog 29 #[.slice a len cap, .int .u64 24, .int .i64 8] w1 fun e w' => e = .returned (.int .u64 (againS zs)) ∧ w1 = w') := Lib.hid (fun w1 h1 => rat_ok B a len cap zs 24 8 w1 (hR w1 h1) (by decide) hli (by omega))
  obtain ⟨hok, hag0, hag1⟩ := getS_bd hb.2.1 (by have := hb.1; omega)
  obtain ⟨S, hS⟩ : ∃ S, getS zs = S := ⟨_, rfl⟩
  obtain ⟨A, hA⟩ : ∃ A, againS zs = A := ⟨_, rfl⟩
  rw [hS] at R0 R1 R2 R3 R4 R5 R6 hok hy ⊢
  rw [hA] at R7 hag0 hag1 hy
  obtain ⟨ty, fl, ot, va, fi, me, al⟩ := S
  obtain ⟨⟨t0, t1⟩, ⟨t2, t3⟩, ⟨o0, o1⟩, ⟨v0, v1⟩, ⟨e0, e1⟩, ⟨m0, m1⟩, ⟨l0, l1⟩⟩ := hok
  simp only at R0 R1 R2 R3 R4 R5 R6 t0 t1 t2 t3 o0 o1 v0 v1 e0 e1 m0 m1 l0 l1 hy
  have HBL : Hid (∀ o, Below w.heap.size w (w.alloc o)) := Lib.hid (fun o => (Below.refl _ _).alloc (Nat.le_refl _) o)
  have HBL2 : Hid (∀ o o', Below w.heap.size w ((w.alloc o).alloc o')) := Lib.hid (fun o o' => ((Below.refl _ _).alloc (Nat.le_refl _) o).alloc (by simp) o')
  clear hb hR hS hA
  unfold sg0 Sg.val at *
  cases y with
  | true =>
    go_enter Try.func15, Try.ntmps15
    go_wp2_with (first | (go_at_call 29; with_reducible refine (R3.out _ (HBL.out _)).mono ?_; rintro r w' ⟨rfl, rfl⟩) | (go_at_call 29; with_reducible refine (R7.out _ (HBL.out _)).mono ?_; rintro r w' ⟨rfl, rfl⟩) | (go_at_call 29; with_reducible refine (R0.out _ (HBL.out _)).mono ?_; rintro r w' ⟨rfl, rfl⟩) | (go_at_call 29; with_reducible refine (R1.out _ (HBL.out _)).mono ?_; rintro r w' ⟨rfl, rfl⟩) | (go_at_call 29; with_reducible refine (R2.out _ (HBL.out _)).mono ?_; rintro r w' ⟨rfl, rfl⟩) | (go_at_call 29; with_reducible refine (R4.out _ (HBL.out _)).mono ?_; rintro r w' ⟨rfl, rfl⟩) | (go_at_call 29; with_reducible refine (R5.out _ (HBL.out _)).mono ?_; rintro r w' ⟨rfl, rfl⟩) | (go_at_call 29; with_reducible refine (R6.out _ (HBL.out _)).mono ?_; rintro r w' ⟨rfl, rfl⟩))
    refine bodyPost_ret (v := .tuple #[.agg #[.int .u32 0, .int .u32 0, .int .u64 0, .int .u64 0, .int .u64 0, .int .u64 0, .int .u64 0], .int .i64 11]) (by simp [results, Try.results15, go_sem]) rfl ⟨rfl, ?_⟩
    exact HBL.out _
  | false =>
    go_enter Try.func15, Try.ntmps15
    go_wp2_with (first | (go_at_call 29; with_reducible refine (R3.out _ (HBL.out _)).mono ?_; rintro r w' ⟨rfl, rfl⟩) | (go_at_call 29; with_reducible refine (R7.out _ (HBL.out _)).mono ?_; rintro r w' ⟨rfl, rfl⟩) | (go_at_call 29; with_reducible refine (R0.out _ (HBL.out _)).mono ?_; rintro r w' ⟨rfl, rfl⟩) | (go_at_call 29; with_reducible refine (R1.out _ (HBL.out _)).mono ?_; rintro r w' ⟨rfl, rfl⟩) | (go_at_call 29; with_reducible refine (R2.out _ (HBL.out _)).mono ?_; rintro r w' ⟨rfl, rfl⟩) | (go_at_call 29; with_reducible refine (R4.out _ (HBL.out _)).mono ?_; rintro r w' ⟨rfl, rfl⟩) | (go_at_call 29; with_reducible refine (R5.out _ (HBL.out _)).mono ?_; rintro r w' ⟨rfl, rfl⟩) | (go_at_call 29; with_reducible refine (R6.out _ (HBL.out _)).mono ?_; rintro r w' ⟨rfl, rfl⟩))
    refine bodyPost_ret (v := .tuple #[.agg #[.int .u32 ty, .int .u32 fl, .int .u64 ot, .int .u64 va, .int .u64 fi, .int .u64 me, .int .u64 al], .int .i64 0]) (by simp [results, Try.results15, go_sem]) rfl ⟨rfl, ?_⟩
    exact HBL.out _

theorem sget_any (B : Nat) (a : Option Addr) (len cap : Nat) (zs : List Int) (w : World) (hb : Bys w B a len zs) (hB : B ≤ w.heap.size) (hcap : len ≤ cap) (hcm : (cap : Int) ≤ 9223372036854775807) :
    Calls Try.prog 13 #[.slice a len cap] w fun r w' => r = .returned (getV zs) ∧ Below w.heap.size w w' := by
  have hz := hb.1
  unfold getV
  by_cases h : zs.length < 56
  · rw [if_pos h]
    exact sget_short a len cap w (by omega)
  · rw [if_neg h]
    by_cases hv : againS zs = (getS zs).va
    · rw [if_pos hv]
      exact sget_whole B a len cap zs w hb hB hcap hcm (by omega) false (by simpa using hv)
    · rw [if_neg hv]
      exact sget_whole B a len cap zs w hb hB hcap hcm (by omega) true (by simpa using hv)
theorem rget4_any (B : Nat) (a : Option Addr) (len cap : Nat) (zs : List Int) (w : World) (hb : Bys w B a len zs) (hB : B ≤ w.heap.size) (hcap : len ≤ cap) (hcm : (cap : Int) ≤ 9223372036854775807) :
    Calls Try.prog 15 #[.slice a len cap] w fun r w' => r = .returned (getV zs) ∧ Below w.heap.size w w' := by
  have hz := hb.1
  unfold getV
  by_cases h : zs.length < 56
  · rw [if_pos h]
    exact rget4_short a len cap w (by omega)
  · rw [if_neg h]
    by_cases hv : againS zs = (getS zs).va
    · rw [if_pos hv]
      exact rget4_whole B a len cap zs w hb hB hcap hcm (by omega) false (by simpa using hv.symm)
    · rw [if_neg hv]
      exact rget4_whole B a len cap zs w hb hB hcap hcm (by omega) true (by simpa using fun h => hv h.symm)
end Go.Proofs.Ytgomemienmchnaa
