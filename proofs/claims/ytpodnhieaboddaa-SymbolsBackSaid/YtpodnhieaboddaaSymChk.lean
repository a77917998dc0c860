/-
  What is proved here: package symbols' Check: what the document says of a list of symbols; what tells of one symbol its bind, its kind, whether it stands for something.
  Conditions: none but that the arguments are values of their types.
-/
import Derived.Test.YtpodnhieaboddaaSymMath
import Derived.Test.YtpodnhieaboddaaBaseP
import Derived.Test.YtpodnhieaboddaaSymRCheck
namespace Go.Proofs.Ytpodnhieaboddaa
open Go.RowKit
set_option linter.unusedVariables false
set_option linter.unusedSimpArgs false

set_option maxHeartbeats 800000 in
theorem bind_eq (na inf ot se va si : Int) (w : World) (b0 : 0 ≤ inf) (b1 : inf ≤ 255) :
    Calls Try.prog 11 #[.agg #[.int .u32 na, .int .u8 inf, .int .u8 ot, .int .u16 se, .int .u64 va, .int .u64 si]] w fun r w' => r = .returned (.int .i64 (inf / 16)) ∧ w' = w.alloc (.cells #[.int .u32 na, .int .u8 inf, .int .u8 ot, .int .u16 se, .int .u64 va, .int .u64 si] 26) := by
  go_enter Try.func11, Try.ntmps11
  go_wp2
  go_ret
  exact ⟨rfl, rfl⟩
set_option maxHeartbeats 800000 in
theorem kind_eq (na inf ot se va si : Int) (w : World) (b0 : 0 ≤ inf) (b1 : inf ≤ 255) :
    Calls Try.prog 12 #[.agg #[.int .u32 na, .int .u8 inf, .int .u8 ot, .int .u16 se, .int .u64 va, .int .u64 si]] w fun r w' => r = .returned (.int .i64 (inf % 16)) ∧ w' = w.alloc (.cells #[.int .u32 na, .int .u8 inf, .int .u8 ot, .int .u16 se, .int .u64 va, .int .u64 si] 26) := by
  go_enter Try.func12, Try.ntmps12
  go_wp2
  go_ret
  exact ⟨rfl, rfl⟩
set_option maxHeartbeats 800000 in
theorem defined_eq (na inf ot se va si : Int) (w : World)  :
    Calls Try.prog 13 #[.agg #[.int .u32 na, .int .u8 inf, .int .u8 ot, .int .u16 se, .int .u64 va, .int .u64 si]] w fun r w' => r = .returned (.bool (se != 0)) ∧ w' = w.alloc (.cells #[.int .u32 na, .int .u8 inf, .int .u8 ot, .int .u16 se, .int .u64 va, .int .u64 si] 26) := by
  go_enter Try.func13, Try.ntmps13
  go_wp2
  go_ret
  exact ⟨rfl, rfl⟩
theorem bind_any (s : Sy) (w : World) (h : s.Ok) :
    Calls Try.prog 11 #[s.val] w fun r w' => r = .returned (.int .i64 (s.inf / 16)) ∧ Below w.heap.size w w' :=
  (bind_eq _ _ _ _ _ _ w h.inf.1 h.inf.2).mono fun _ _ h => ⟨h.1, by rw [h.2]; exact (Below.refl _ _).alloc (Nat.le_refl _) _⟩
theorem kind_any (s : Sy) (w : World) (h : s.Ok) :
    Calls Try.prog 12 #[s.val] w fun r w' => r = .returned (.int .i64 (s.inf % 16)) ∧ Below w.heap.size w w' :=
  (kind_eq _ _ _ _ _ _ w h.inf.1 h.inf.2).mono fun _ _ h => ⟨h.1, by rw [h.2]; exact (Below.refl _ _).alloc (Nat.le_refl _) _⟩
theorem defined_any (s : Sy) (w : World) (h : s.Ok) :
    Calls Try.prog 13 #[s.val] w fun r w' => r = .returned (.bool (decide (0 < s.se))) ∧ Below w.heap.size w w' := by
  have he : decide (0 < s.se) = (s.se != 0) := by
    have := h.se
    by_cases q : s.se = 0
    · rw [q]; rfl
    · have : 0 < s.se := by omega
      simp [this, q]
  rw [he]
  exact (defined_eq _ _ _ _ _ _ w).mono fun _ _ h => ⟨h.1, by rw [h.2]; exact (Below.refl _ _).alloc (Nat.le_refl _) _⟩
def knownY (k : Int) : Bool := decide (k = 0 ∨ k = 1 ∨ k = 2 ∨ k = 6)
set_option maxHeartbeats 800000 in
theorem known_any (k : Int) (w : World) : Calls Try.prog 28 #[.int .i64 k] w fun r w' => r = .returned (.bool (knownY k)) ∧ w = w' := by
  obtain ⟨b, hb⟩ : ∃ b, knownY k = b := ⟨_, rfl⟩
  rw [hb]
  have HB := Lib.hid hb
  clear hb
  go_enter Try.func28, Try.ntmps28
  go_wp2
  all_goals (try simp only [beq_eq_false_iff_ne, beq_iff_eq, bne_iff_ne, bne_eq_false_iff_eq, ne_eq] at *)
  all_goals go_ret
  all_goals refine ⟨ret_bool ?_, rfl⟩
  all_goals rw [← HB.out]
  all_goals unfold knownY
  all_goals first | (symm; rw [decide_eq_true_eq]; omega) | (symm; rw [decide_eq_false_iff_not]; omega)
set_option maxRecDepth 100000 in
set_option maxHeartbeats 3200000 in
theorem valid_any (s : Sy) (w : World) (h : s.Ok) : Calls Try.prog 23 #[s.val] w fun r w' => r = .returned (.bool (!badY 1 s)) ∧ Below w.heap.size w w' := by
  obtain ⟨r, hr⟩ : ∃ r, (!badY 1 s) = r := ⟨_, rfl⟩
  rw [hr]
  have HR := Lib.hid hr
  have HKN := Lib.hid (fun w1 => known_any (s.inf % 16) w1)
  have HKB : Hid (knownY (s.inf % 16) = decide (s.inf % 16 = 0 ∨ s.inf % 16 = 1 ∨ s.inf % 16 = 2 ∨ s.inf % 16 = 6)) := Lib.hid rfl
  generalize knownY (s.inf % 16) = kn at HKN HKB
  clear hr
  obtain ⟨⟨a0, a1⟩, ⟨b0, b1⟩, ⟨c0, c1⟩, ⟨d0, d1⟩, ⟨e0, e1⟩, ⟨f0, f1⟩⟩ := h
  obtain ⟨na, inf, ot, se, va, si⟩ := s
  unfold Sy.val
  simp only at *
  have HBE : Hid (∀ o, Below w.heap.size w (w.alloc o)) := Lib.hid (fun o => (Below.refl _ _).alloc (Nat.le_refl _) o)
  have HKB2 : Hid ((inf % 16 = 0 ∨ inf % 16 = 1 ∨ inf % 16 = 2 ∨ inf % 16 = 6) ↔ kn = true) := Lib.hid (by rw [HKB.out, decide_eq_true_eq])
  clear HKB
  cases kn
  all_goals go_enter Try.func23, Try.ntmps23
  all_goals go_wp2_with (first | (go_at_call 11; refine (bind_eq _ _ _ _ _ _ _ b0 b1).mono ?_; rintro e w' ⟨rfl, rfl⟩) | (go_at_call 12; refine (kind_eq _ _ _ _ _ _ _ b0 b1).mono ?_; rintro e w' ⟨rfl, rfl⟩) | (go_at_call 28; refine (HKN.out _).mono ?_; rintro e w' ⟨rfl, rfl⟩) | (go_at_call 13; refine (defined_eq _ _ _ _ _ _ _).mono ?_; rintro e w' ⟨rfl, rfl⟩))
  all_goals go_ret
  all_goals refine ⟨ret_bool ?_, ?_⟩
  all_goals first
    | exact (Below.refl _ _).alloc (Nat.le_refl _) _
    | exact ((Below.refl _ _).alloc (Nat.le_refl _) _).alloc (by simp) _
    | exact (((Below.refl _ _).alloc (Nat.le_refl _) _).alloc (by simp) _).alloc (by simp; omega) _
    | exact ((((Below.refl _ _).alloc (Nat.le_refl _) _).alloc (by simp) _).alloc (by simp; omega) _).alloc (by simp; omega) _
    | exact (((((Below.refl _ _).alloc (Nat.le_refl _) _).alloc (by simp) _).alloc (by simp; omega) _).alloc (by simp; omega) _).alloc (by simp; omega) _
    | skip
  all_goals have hk2 := HKB2.out
  all_goals simp only [iff_true, Bool.false_eq_true, iff_false] at hk2
  all_goals rw [← HR.out]
  all_goals clear HR HKB2 HBE
  all_goals unfold badY
  all_goals rw [if_neg (by decide)]
  all_goals (try simp only [beq_eq_false_iff_ne, beq_iff_eq, bne_iff_ne, bne_eq_false_iff_eq, ne_eq] at *)
  all_goals rw [Bool.eq_iff_iff]
  all_goals simp only [Bool.not_eq_true', decide_eq_false_iff_not, bne_iff_ne, ne_eq, iff_true, true_iff, Bool.false_eq_true, false_iff, Decidable.not_not]
  all_goals omega

set_option maxRecDepth 100000 in
set_option maxHeartbeats 3200000 in
theorem scheck_any (B : Nat) (a : Option Addr) (len cap : Nat) (L : List Sy) (w : World) (hs : Sy.Sl w B a len L) (hB : B ≤ w.heap.size) (hcap : len ≤ cap) (hcm : (cap : Int) ≤ 9223372036854775807) :
    Calls Try.prog 16 #[.slice a len cap] w fun r w' => r = .returned (.int .i64 (checkY L)) ∧ Below w.heap.size w w' := by
  obtain ⟨r, hr⟩ : ∃ r, checkY L = r := ⟨_, rfl⟩
  rw [hr]
  have hl : (len : Int) ≤ 9223372036854775807 := by omega
  have HG : Hid ((∀ k, k < len → badY k (L.getD k Sy.zero) = false) → r = 0) := Lib.hid (fun h => hr ▸ checkY_good (by rw [hs.hl]; exact h))
  have HX : Hid (∀ k, k < len → badY k (L.getD k Sy.zero) = true → r = 11) := Lib.hid (fun k hk h => hr ▸ checkY_bad (by rw [hs.hl]; exact hk) h)
  have HS := Lib.hid hs
  clear hr hs
  go_enter Try.func16, Try.ntmps16
  go_wp2
  go_loopw [3, 4, 5, 8] (fun _ _ _ i wr => ∃ k : Nat, k ≤ len ∧ i = .int .i64 k ∧ (∀ j, j < k → badY j (L.getD j Sy.zero) = false) ∧ Below w.heap.size w wr) (fun _ _ _ i _ => len - (intOf i).toNat)
  case atStart => exact ⟨0, Nat.zero_le _, rfl, fun j hj => absurd hj (by omega), Below.refl _ _⟩
  case round =>
    obtain ⟨k, hk, rfl, hno, hbel⟩ := hrel
    by_cases hlt : k < len
    · obtain ⟨b, off, rfl, hbB, hcell⟩ := HS.out.hc (by omega)
      obtain ⟨c0, c1, c2, c3, c4, c5⟩ := (hcell k hlt).below (hbel.mono hB) hbB
      have hok := HS.out.okAt hlt
      have HNX := Lib.hid (bad_upto hno)
      have HBD := Lib.hid (HX.out k hlt)
      have hlti : (k : Int) < len := by omega
      have hbs := hbel.size
      have HBE : Hid (∀ o, Below w.heap.size w (wr.alloc o)) := Lib.hid (fun o => hbel.alloc hbs o)
      have HB1 : k ≠ 0 → badY k (L.getD k Sy.zero) = badY 1 (L.getD k Sy.zero) := fun h => by unfold badY; rw [if_neg h, if_neg (by decide)]
      generalize L.getD k Sy.zero = s at c0 c1 c2 c3 c4 c5 hok HNX HBD HB1
      have HV := Lib.hid (fun w1 => valid_any s w1 hok)
      obtain ⟨⟨a0, a1⟩, ⟨b0, b1⟩, ⟨o0, o1⟩, ⟨d0, d1⟩, ⟨e0, e1⟩, ⟨f0, f1⟩⟩ := hok
      obtain ⟨na, inf, ot, se, va, si⟩ := s
      unfold Sy.val at HV
      simp only at c0 c1 c2 c3 c4 c5 a0 a1 b0 b1 o0 o1 d0 d1 e0 e1 f0 f1 HV
      have hbw : b < wr.heap.size := by omega
      clear hcell hno hbel
      by_cases hk0 : k = 0
      · subst hk0
        rw [show ((0 : Nat) : Int) = 0 from rfl]
        simp only [Nat.zero_mul, Nat.add_zero] at c0 c1 c2 c3 c4 c5
        clear HV HB1
        go_wp2
        all_goals (try simp only [beq_eq_false_iff_ne, beq_iff_eq, bne_iff_ne, bne_eq_false_iff_eq, ne_eq] at *)
        all_goals first
          | (go_ret
             refine ⟨ret_i64 (HBD.out ?_).symm, HBE.out _⟩
             unfold badY
             rw [if_pos rfl, decide_eq_true_eq]
             simp only
             omega)
          | (refine ⟨⟨1, by omega, by go_num, HNX.out ?_, HBE.out _⟩, by (simp [intOf] <;> omega)⟩
             unfold badY
             rw [if_pos rfl, decide_eq_false_iff_not]
             simp only
             omega)
      · have hk0b : ((k : Int) == 0) = false := by simpa using hk0
        rw [HB1 hk0] at HBD HNX
        generalize badY 1 ⟨na, inf, ot, se, va, si⟩ = y at HV HBD HNX
        cases y
        · go_wp2_with fail
          refine (HV.out _).mono ?_
          rintro e w2 ⟨rfl, hb2⟩
          have HB2 := Lib.hid ((HBE.out _).trans (hb2.mono (by simp; omega)))
          clear hb2
          go_wp2
          go_roundw
          case rel => exact ⟨k + 1, by omega, by go_num, HNX.out (by trivial), HB2.out⟩
          case measure => (simp [intOf] <;> omega)
        · go_wp2_with fail
          refine (HV.out _).mono ?_
          rintro e w2 ⟨rfl, hb2⟩
          have HB2 := Lib.hid ((HBE.out _).trans (hb2.mono (by simp; omega)))
          clear hb2
          go_wp2
          go_ret
          exact ⟨ret_i64 (HBD.out (by trivial)).symm, HB2.out⟩
    · obtain rfl : k = len := by omega
      have HB := Lib.hid hbel
      have HN := Lib.hid (HG.out hno)
      clear hbel hno
      go_wp2
      go_ret
      exact ⟨ret_i64 HN.out.symm, HB.out⟩
end Go.Proofs.Ytpodnhieaboddaa
