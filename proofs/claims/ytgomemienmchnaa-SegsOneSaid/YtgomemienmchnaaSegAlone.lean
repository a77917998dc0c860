/-
  What is proved here: what is wrong with one segment by itself, of package segs and of its reference; the pages of a segment.
  Conditions: none but that the arguments are values of their types; the pages: of a segment that may be.
-/
import Derived.Test.YtgomemienmchnaaSegPlain
import Derived.Test.YtgomemienmchnaaOUp
namespace Go.Proofs.Ytgomemienmchnaa
open Go.RowKit
set_option linter.unusedVariables false
set_option linter.unusedSimpArgs false

theorem known0 : knownB 0 = true := rfl
theorem known1 : knownB 1 = true := rfl
theorem ret_i64 {a b : Int} (h : a = b) : Ending.returned (.int .i64 a) = .returned (.int .i64 b) := by rw [h]
set_option maxRecDepth 100000 in
set_option maxHeartbeats 1600000 in
theorem alone_any (s : Sg) (size : Int) (w : World) (h : s.Ok) (s0 : 0 ≤ size) (s1 : size ≤ 18446744073709551615) :
    Calls Try.prog 32 #[s.val, .int .u64 size] w fun e w' => e = .returned (.int .i64 (aloneS s size)) ∧ Below w.heap.size w w' := by
  obtain ⟨⟨a0, a1⟩, ⟨b0, b1⟩, ⟨c0, c1⟩, ⟨d0, d1⟩, ⟨e0, e1⟩, ⟨f0, f1⟩, ⟨g0, g1⟩⟩ := h
  obtain ⟨r, hr⟩ : ∃ r, aloneS s size = r := ⟨_, rfl⟩
  rw [hr]
  have HR := Lib.hid hr
  clear hr
  obtain ⟨ty, fl, ot, va, fi, me, al⟩ := s
  simp only at a0 a1 b0 b1 c0 c1 d0 d1 e0 e1 f0 f1 g0 g1
  unfold Sg.val
  have hbl : ∀ o, Below w.heap.size w (w.alloc o) := fun o => (Below.refl _ _).alloc (Nat.le_refl _) o
  have K := Lib.hid (known_any ty)
  obtain ⟨kb, hk⟩ : ∃ kb, knownB ty = kb := ⟨_, rfl⟩
  rw [hk] at K
  go_enter Try.func32, Try.ntmps32
  go_wp2_with (go_at_call 47; refine (K.out _).mono ?_; rintro e w' ⟨rfl, rfl⟩)
  all_goals go_ret
  all_goals refine ⟨ret_i64 ?_, hbl _⟩
  all_goals (try simp only [beq_eq_false_iff_ne, beq_iff_eq, bne_iff_ne, bne_eq_false_iff_eq, ne_eq] at *)
  all_goals (rw [← HR.out]; simp [aloneS, known0, known1, *] <;> (repeat' split) <;> omega)

set_option maxRecDepth 100000 in
set_option maxHeartbeats 1600000 in
theorem ralone_any (s : Sg) (size : Int) (w : World) (h : s.Ok) (s0 : 0 ≤ size) (s1 : size ≤ 18446744073709551615) :
    Calls Try.prog 35 #[s.val, .int .u64 size] w fun e w' => e = .returned (.int .i64 (aloneS s size)) ∧ Below w.heap.size w w' := by
  obtain ⟨⟨a0, a1⟩, ⟨b0, b1⟩, ⟨c0, c1⟩, ⟨d0, d1⟩, ⟨e0, e1⟩, ⟨f0, f1⟩, ⟨g0, g1⟩⟩ := h
  obtain ⟨r, hr⟩ : ∃ r, aloneS s size = r := ⟨_, rfl⟩
  rw [hr]
  have HR := Lib.hid hr
  clear hr
  obtain ⟨ty, fl, ot, va, fi, me, al⟩ := s
  simp only at a0 a1 b0 b1 c0 c1 d0 d1 e0 e1 f0 f1 g0 g1
  unfold Sg.val
  have hbl : ∀ o, Below w.heap.size w (w.alloc o) := fun o => (Below.refl _ _).alloc (Nat.le_refl _) o
  go_enter Try.func35, Try.ntmps35
  go_wp2
  all_goals go_ret
  all_goals refine ⟨ret_i64 ?_, hbl _⟩
  all_goals (try simp only [beq_eq_false_iff_ne, beq_iff_eq, bne_iff_ne, bne_eq_false_iff_eq, ne_eq] at *)
  all_goals (rw [← HR.out]; simp [aloneS, knownB, *] <;> (repeat' split) <;> omega)

theorem p2_256 : IsP2 256 := ⟨8, by decide, by decide⟩
/-- The pages of one that may be. -/
theorem behind_up {x : Int} (h0 : 0 ≤ x) : x / 256 * 256 = x → (x + 255) / 256 * 256 = x := by omega
set_option maxHeartbeats 800000 in
theorem pages_ok (s : Sg) (w : World) (h : s.Ok) (hv : s.va ≤ 4294967296 ∧ s.me ≤ 4294967296 - s.va) :
    Calls Try.prog 33 #[s.val] w fun e w' => e = .returned (.tuple #[.int .u64 (firstS s), .int .u64 (behindS s)]) ∧ Below w.heap.size w w' := by
  obtain ⟨-, -, -, ⟨d0, d1⟩, -, ⟨f0, f1⟩, -⟩ := h
  obtain ⟨v0, v1⟩ := hv
  obtain ⟨r, hr⟩ : ∃ r, behindS s = r := ⟨_, rfl⟩
  obtain ⟨ty, fl, ot, va, fi, me, al⟩ := s
  simp only at d0 d1 f0 f1 v0 v1
  have hsum : IntKind.u64.wrap (va + me) = va + me := by rw [IntKind.wrap_u64]; omega
  have RD : Hid (∀ w1, Calls Try.prog 48 #[.int .u64 va, .int .u64 256] w1 fun e w' => e = .returned (.tuple #[.int .u64 (va / 256 * 256), .int .i64 0]) ∧ w1 = w') := Lib.hid (fun w1 => down_ok va 256 w1 d0 d1 p2_256)
  have RU : Hid (∀ w1, Calls Try.prog 49 #[.int .u64 (va + me), .int .u64 256] w1 fun e w' => e = .returned (.tuple #[.int .u64 r, .int .i64 0]) ∧ w1 = w') := Lib.hid (fun w1 => by
    simp only [behindS] at hr
    by_cases hx : (va + me) / 256 * 256 = va + me
    · have : r = va + me := by omega
      subst this
      rw [← hr]
      have := up_same (va + me) 256 w1 (by omega) (by omega) p2_256 hx
      rw [show (va + me + 255) / 256 * 256 = va + me by omega]
      exact this
    · have := up_next (va + me) 256 w1 (by omega) (by omega) p2_256 hx (by omega)
      rw [← hr, show (va + me + 255) / 256 * 256 = (va + me) / 256 * 256 + 256 by omega]
      exact this)
  have hbl : ∀ o, Below w.heap.size w (w.alloc o) := fun o => (Below.refl _ _).alloc (Nat.le_refl _) o
  rw [hr]
  simp only [firstS]
  unfold Sg.val
  clear hr
  go_enter Try.func33, Try.ntmps33
  go_wp2_with (first | (go_at_call 48; refine (RD.out _).mono ?_; rintro e w' ⟨rfl, rfl⟩) | (go_at_call 49; refine (RU.out _).mono ?_; rintro e w' ⟨rfl, rfl⟩))
  go_ret2
  exact ⟨rfl, hbl _⟩
set_option maxHeartbeats 400000 in
theorem first_any (s : Sg) (w : World) (h : s.Ok) :
    Calls Try.prog 36 #[s.val] w fun e w' => e = .returned (.int .u64 (firstS s)) ∧ Below w.heap.size w w' := by
  obtain ⟨-, -, -, ⟨d0, d1⟩, -, ⟨f0, f1⟩, -⟩ := h
  obtain ⟨ty, fl, ot, va, fi, me, al⟩ := s
  simp only at d0 d1 f0 f1
  have hbl : ∀ o, Below w.heap.size w (w.alloc o) := fun o => (Below.refl _ _).alloc (Nat.le_refl _) o
  have hw : IntKind.u64.wrap (va / 256 * 256) = va / 256 * 256 := by rw [IntKind.wrap_u64]; omega
  simp only [firstS]
  unfold Sg.val
  go_enter Try.func36, Try.ntmps36
  go_wp2
  go_ret
  exact ⟨rfl, hbl _⟩
set_option maxHeartbeats 400000 in
theorem behind_ok (s : Sg) (w : World) (h : s.Ok) (hv : s.va ≤ 4294967296 ∧ s.me ≤ 4294967296 - s.va) :
    Calls Try.prog 37 #[s.val] w fun e w' => e = .returned (.int .u64 (behindS s)) ∧ Below w.heap.size w w' := by
  obtain ⟨-, -, -, ⟨d0, d1⟩, -, ⟨f0, f1⟩, -⟩ := h
  obtain ⟨v0, v1⟩ := hv
  obtain ⟨ty, fl, ot, va, fi, me, al⟩ := s
  simp only at d0 d1 f0 f1 v0 v1
  have hbl : ∀ o, Below w.heap.size w (w.alloc o) := fun o => (Below.refl _ _).alloc (Nat.le_refl _) o
  have hw1 : IntKind.u64.wrap (va + me) = va + me := by rw [IntKind.wrap_u64]; omega
  have hw2 : IntKind.u64.wrap (va + me + 255) = va + me + 255 := by rw [IntKind.wrap_u64]; omega
  have hw : IntKind.u64.wrap ((va + me + 255) / 256 * 256) = (va + me + 255) / 256 * 256 := by rw [IntKind.wrap_u64]; omega
  simp only [behindS]
  unfold Sg.val
  go_enter Try.func37, Try.ntmps37
  go_wp2
  go_ret
  exact ⟨rfl, hbl _⟩
end Go.Proofs.Ytgomemienmchnaa
