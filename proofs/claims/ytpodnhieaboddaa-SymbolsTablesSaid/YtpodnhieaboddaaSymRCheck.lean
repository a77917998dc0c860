/-
  What is proved here: Check of the reference of symbols: what the document says of a list of symbols.
  Conditions: none but that the arguments are values of their types.
-/
import Derived.Test.YtpodnhieaboddaaSymMath
import Derived.Test.YtpodnhieaboddaaBaseP
namespace Go.Proofs.Ytpodnhieaboddaa
open Go.RowKit
set_option linter.unusedVariables false
set_option linter.unusedSimpArgs false

theorem ret_i64 {a b : Int} (h : a = b) : Ending.returned (.int .i64 a) = .returned (.int .i64 b) := by rw [h]
set_option maxRecDepth 100000 in
set_option maxHeartbeats 3200000 in
theorem rcheck6_any (B : Nat) (a : Option Addr) (len cap : Nat) (L : List Sy) (w : World) (hs : Sy.Sl w B a len L) (hB : B ≤ w.heap.size) (hl : (len : Int) ≤ 9223372036854775807) :
    Calls Try.prog 17 #[.slice a len cap] w fun e w' => e = .returned (.int .i64 (checkY L)) ∧ Below w.heap.size w w' := by
  obtain ⟨r, hr⟩ : ∃ r, checkY L = r := ⟨_, rfl⟩
  rw [hr]
  have HG : Hid ((∀ k, k < len → badY k (L.getD k Sy.zero) = false) → r = 0) := Lib.hid (fun h => hr ▸ checkY_good (by rw [hs.hl]; exact h))
  have HX : Hid (∀ k, k < len → badY k (L.getD k Sy.zero) = true → r = 11) := Lib.hid (fun k hk h => hr ▸ checkY_bad (by rw [hs.hl]; exact hk) h)
  have HS := Lib.hid hs
  clear hr hs
  go_enter Try.func17, Try.ntmps17
  go_wp2
  go_loopw [3] (fun i wr => ∃ k : Nat, k ≤ len ∧ i = .int .i64 k ∧ (∀ j, j < k → badY j (L.getD j Sy.zero) = false) ∧ Below w.heap.size w wr) (fun i _ => len - (intOf i).toNat)
  case atStart => exact ⟨0, Nat.zero_le _, rfl, fun j hj => absurd hj (by omega), Below.refl _ _⟩
  case round =>
    obtain ⟨k, hk, rfl, hno, hbel⟩ := hrel
    by_cases hlt : k < len
    · obtain ⟨b, off, rfl, hbB, hcell⟩ := HS.out.hc (by omega)
      obtain ⟨c0, c1, c2, c3, c4, c5⟩ := (hcell k hlt).below (hbel.mono hB) hbB
      have hok := HS.out.okAt hlt
      have HNX := Lib.hid (bad_upto hno)
      have HBD := Lib.hid (HX.out k hlt)
      have hlti : (k : Int) < len := by omega
      have HBE : Hid (∀ o, Below w.heap.size w (wr.alloc o)) := Lib.hid (fun o => hbel.alloc hbel.size o)
      generalize L.getD k Sy.zero = s at c0 c1 c2 c3 c4 c5 hok HNX HBD
      obtain ⟨⟨a0, a1⟩, ⟨b0, b1⟩, ⟨o0, o1⟩, ⟨d0, d1⟩, ⟨e0, e1⟩, ⟨f0, f1⟩⟩ := hok
      obtain ⟨na, inf, ot, se, va, si⟩ := s
      simp only at c0 c1 c2 c3 c4 c5 a0 a1 b0 b1 o0 o1 d0 d1 e0 e1 f0 f1
      have hbw : b < wr.heap.size := by have := hbel.size; omega
      clear hcell hno hbel
      by_cases hk0 : k = 0
      · subst hk0
        rw [show ((0 : Nat) : Int) = 0 from rfl]
        simp only [Nat.zero_mul, Nat.add_zero] at c0 c1 c2 c3 c4 c5
        go_wp2
        all_goals (try simp only [beq_eq_false_iff_ne, beq_iff_eq, bne_iff_ne, bne_eq_false_iff_eq, ne_eq] at *)
        all_goals first
          | (go_ret
             refine ⟨ret_i64 (HBD.out ?_).symm, HBE.out _⟩
             unfold badY
             rw [if_pos rfl, decide_eq_true_eq]
             simp only
             omega)
          | (refine ⟨⟨1, by omega, by go_num, HNX.out ?_, HBE.out _⟩, by (simp [intOf] <;> omega)⟩
             unfold badY
             rw [if_pos rfl, decide_eq_false_iff_not]
             simp only
             omega)
      · have hk0b : ((k : Int) == 0) = false := by simpa using hk0
        go_wp2
        all_goals (try simp only [beq_eq_false_iff_ne, beq_iff_eq, bne_iff_ne, bne_eq_false_iff_eq, ne_eq] at *)
        all_goals first
          | (go_ret
             refine ⟨ret_i64 (HBD.out ?_).symm, HBE.out _⟩
             unfold badY
             rw [if_neg hk0, decide_eq_true_eq]
             simp only
             omega)
          | (refine ⟨⟨k + 1, by omega, by go_num, HNX.out ?_, HBE.out _⟩, by (simp [intOf] <;> omega)⟩
             unfold badY
             rw [if_neg hk0, decide_eq_false_iff_not]
             simp only
             omega)
    · obtain rfl : k = len := by omega
      have HB := Lib.hid hbel
      have HN := Lib.hid (HG.out hno)
      clear hbel hno
      go_wp2
      go_ret
      exact ⟨ret_i64 HN.out.symm, HB.out⟩
end Go.Proofs.Ytpodnhieaboddaa
