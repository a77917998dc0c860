/-
  What is proved here: package rela's Check and Value: what the document says of a list of relocations, and what one writes; which types there are.
  Conditions: none but that the arguments are values of their types.
-/
import Derived.Test.YtdfghnnpjoikeaaRelBase
import Derived.Test.YtdfghnnpjoikeaaBaseP
namespace Go.Proofs.Ytdfghnnpjoikeaa
open Go.RowKit
set_option linter.unusedVariables false
set_option linter.unusedSimpArgs false

set_option maxHeartbeats 1600000 in
theorem lknown_any (t : Int) (w : World) : Calls Try.prog 30 #[.int .u32 t] w fun r w' => r = .returned (.bool (knownL t)) ∧ w = w' := by
  obtain ⟨b, hb⟩ : ∃ b, knownL t = b := ⟨_, rfl⟩
  rw [hb]
  have HB := Lib.hid hb
  clear hb
  go_enter Try.func30, Try.ntmps30
  go_wp2
  all_goals (try simp only [beq_eq_false_iff_ne, beq_iff_eq, bne_iff_ne, bne_eq_false_iff_eq, ne_eq] at *)
  all_goals go_ret
  all_goals refine ⟨ret_bool ?_, rfl⟩
  all_goals rw [← HB.out]
  all_goals unfold knownL
  all_goals first | (symm; rw [decide_eq_true_eq]; omega) | (symm; rw [decide_eq_false_iff_not]; omega)
/-- No symbol goes with such a type. -/
def aloneL (t : Int) : Bool := decide (t = 0 ∨ t = 8)
set_option maxHeartbeats 1600000 in
theorem lalone_any (t : Int) (w : World) : Calls Try.prog 31 #[.int .u32 t] w fun r w' => r = .returned (.bool (aloneL t)) ∧ w = w' := by
  obtain ⟨b, hb⟩ : ∃ b, aloneL t = b := ⟨_, rfl⟩
  rw [hb]
  have HB := Lib.hid hb
  clear hb
  go_enter Try.func31, Try.ntmps31
  go_wp2
  all_goals (try simp only [beq_eq_false_iff_ne, beq_iff_eq, bne_iff_ne, bne_eq_false_iff_eq, ne_eq] at *)
  all_goals go_ret
  all_goals refine ⟨ret_bool ?_, rfl⟩
  all_goals rw [← HB.out]
  all_goals unfold aloneL
  all_goals (rw [Bool.eq_iff_iff]; simp only [decide_eq_true_eq, beq_iff_eq, Bool.false_eq_true, Bool.true_eq_false, true_iff, false_iff, iff_true, iff_false])
  all_goals (try rw [Bool.or_eq_true, beq_iff_eq, beq_iff_eq])
  all_goals (try omega)
set_option maxHeartbeats 1600000 in
theorem lvalue_any (t base symbol add : Int) (w : World) (t0 : 0 ≤ t) (t1 : t ≤ 4294967295) (s0 : 0 ≤ symbol) (s1 : symbol ≤ 18446744073709551615) (b0 : 0 ≤ base) (b1 : base ≤ 18446744073709551615) (a0 : -9223372036854775808 ≤ add) (a1 : add ≤ 9223372036854775807) :
    Calls Try.prog 16 #[.int .u32 t, .int .u64 base, .int .u64 symbol, .int .i64 add] w fun r w' => r = .returned (.tuple #[.int .u64 (valL t base symbol add).1, .int .i64 (valL t base symbol add).2]) ∧ Below w.heap.size w w' := by
  obtain ⟨v, hv⟩ : ∃ v, valL t base symbol add = v := ⟨_, rfl⟩
  rw [hv]
  have HV := Lib.hid hv
  clear hv
  go_enter Try.func16, Try.ntmps16
  go_wp2
  all_goals (try simp only [beq_eq_false_iff_ne, beq_iff_eq, bne_iff_ne, bne_eq_false_iff_eq, ne_eq] at *)
  all_goals go_ret2
  all_goals refine ⟨?_, Below.refl _ _⟩
  all_goals rw [← HV.out]
  all_goals clear HV
  all_goals first
    | (have e : t = 1 := (by assumption); subst e; rfl)
    | (have e : t = 17 := (by assumption); subst e; rfl)
    | (have e : t = 18 := (by assumption); subst e; rfl)
    | (have e : t = 6 := (by assumption); subst e; rfl)
    | (have e : t = 7 := (by assumption); subst e; rfl)
    | (have e : t = 16 := (by assumption); subst e; rfl)
    | (have e : t = 8 := (by assumption); subst e; rfl)
    | (have e : t = 0 := (by assumption); subst e; rfl)
    | (unfold valL; rw [if_pos (by unfold knownL; rw [decide_eq_false_iff_not]; omega)]; rfl)

/-- What is wrong with one of a known type, by cases. -/
theorem errL_cases {s : Rl} {n : Int} (hk : knownL s.ty = true) (h0 : 0 ≤ s.sy) :
    (s.sy = 0 → aloneL s.ty = false → errL s n = 11) ∧ (s.sy = 0 → aloneL s.ty = true → errL s n = 0) ∧ (s.sy ≠ 0 → n ≤ s.sy → errL s n = 10) ∧
    (s.sy ≠ 0 → s.sy < n → aloneL s.ty = true → errL s n = 11) ∧ (s.sy ≠ 0 → s.sy < n → aloneL s.ty = false → errL s n = 0) := by
  have e : errL s n = if 0 < s.sy ∧ (n < 0 ∨ n ≤ s.sy) then 10 else if ((s.ty = 0 ∨ s.ty = 8) ∧ s.sy ≠ 0) ∨ (¬ (s.ty = 0 ∨ s.ty = 8) ∧ s.sy = 0) then 11 else 0 := by
    unfold errL
    rw [if_neg (by rw [hk]; decide)]
  rw [e]
  unfold aloneL
  simp only [decide_eq_true_eq, decide_eq_false_iff_not]
  refine ⟨fun a b => ?_, fun a b => ?_, fun a b => ?_, fun a b c => ?_, fun a b c => ?_⟩
  · rw [if_neg (by omega), if_pos (by omega)]
  · rw [if_neg (by omega), if_neg (by omega)]
  · rw [if_pos (by omega)]
  · rw [if_neg (by omega), if_pos (by omega)]
  · rw [if_neg (by omega), if_neg (by omega)]
set_option maxHeartbeats 1600000 in
/-- What is wrong with one. -/
theorem lchk_any (s : Rl) (n : Int) (w : World) (h : s.Ok) (hn0 : -9223372036854775808 ≤ n) (hn1 : n ≤ 9223372036854775807) :
    Calls Try.prog 24 #[s.val, .int .i64 n] w fun r w' => r = .returned (.int .i64 (errL s n)) ∧ Below w.heap.size w w' := by
  have hcs := fun hk => errL_cases (n := n) hk h.sy.1
  have hbad : knownL s.ty = false → errL s n = 33 := fun h => by unfold errL; rw [if_pos h]
  generalize errL s n = r at hcs hbad
  have HKN := Lib.hid (fun w1 => lknown_any s.ty w1)
  have HAL := Lib.hid (fun w1 => lalone_any s.ty w1)
  obtain ⟨⟨a0, a1⟩, ⟨b0, b1⟩, ⟨c0, c1⟩, ⟨d0, d1⟩⟩ := h
  obtain ⟨of, ty, sy, ad⟩ := s
  unfold Rl.val
  simp only at *
  have HBE : Hid (∀ o, Below w.heap.size w (w.alloc o)) := Lib.hid (fun o => (Below.refl _ _).alloc (Nat.le_refl _) o)
  generalize knownL ty = kn at HKN hcs hbad
  generalize aloneL ty = al at HAL hcs
  cases kn
  · obtain rfl := hbad rfl
    clear hcs hbad
    go_enter Try.func24, Try.ntmps24
    go_wp2_with (go_at_call 30; refine (HKN.out _).mono ?_; rintro e w' ⟨rfl, rfl⟩)
    go_ret
    exact ⟨rfl, HBE.out _⟩
  · obtain ⟨h1, h2, h3, h4, h5⟩ := hcs rfl
    clear hcs hbad
    by_cases h0 : sy = 0
    · subst h0
      have hr : r = if al then 0 else 11 := by cases al; exact h1 rfl rfl; exact h2 rfl rfl
      clear h1 h2 h3 h4 h5
      cases al
      all_goals obtain rfl := hr
      all_goals go_enter Try.func24, Try.ntmps24
      all_goals go_wp2_with (go_at_call 30; refine (HKN.out _).mono ?_; rintro e w' ⟨rfl, rfl⟩)
      all_goals go_quiet (first | (go_at_call 31; refine Calls.quiet_of_same ((HAL.out _).mono fun _ _ h => ⟨h.1, h.2.symm⟩)))
      all_goals go_wp2
      all_goals go_ret
      all_goals exact ⟨rfl, below_drewN (HBE.out _) _⟩
    · have hs : (sy != 0) = true := by rw [bne_iff_ne]; exact h0
      have hs2 : (sy == 0) = false := by rw [beq_eq_false_iff_ne]; exact h0
      by_cases hge : n ≤ sy
      · obtain rfl := h3 h0 hge
        clear h1 h2 h3 h4 h5 h0
        go_enter Try.func24, Try.ntmps24
        go_wp2_with (go_at_call 30; refine (HKN.out _).mono ?_; rintro e w' ⟨rfl, rfl⟩)
        go_ret
        exact ⟨rfl, HBE.out _⟩
      · have hr : r = if al then 11 else 0 := by cases al; exact h5 h0 (by omega) rfl; exact h4 h0 (by omega) rfl
        clear h1 h2 h3 h4 h5 h0
        cases al
        all_goals obtain rfl := hr
        all_goals go_enter Try.func24, Try.ntmps24
        all_goals go_wp2_with (go_at_call 30; refine (HKN.out _).mono ?_; rintro e w' ⟨rfl, rfl⟩)
        all_goals go_quiet (first | (go_at_call 31; refine Calls.quiet_of_same ((HAL.out _).mono fun _ _ h => ⟨h.1, h.2.symm⟩)))
        all_goals go_wp2
        all_goals go_ret
        all_goals exact ⟨rfl, below_drewN (HBE.out _) _⟩

set_option maxRecDepth 100000 in
set_option maxHeartbeats 3200000 in
theorem lcheck_any (B : Nat) (a : Option Addr) (len cap : Nat) (L : List Rl) (n : Int) (w : World) (hs : Rl.Sl w B a len L) (hB : B ≤ w.heap.size) (hcap : len ≤ cap) (hcm : (cap : Int) ≤ 9223372036854775807) (hn0 : -9223372036854775808 ≤ n) (hn1 : n ≤ 9223372036854775807) :
    Calls Try.prog 14 #[.slice a len cap, .int .i64 n] w fun r w' => r = .returned (.int .i64 (checkL L n)) ∧ Below w.heap.size w w' := by
  obtain ⟨r, hr⟩ : ∃ r, checkL L n = r := ⟨_, rfl⟩
  rw [hr]
  have hl : (len : Int) ≤ 9223372036854775807 := by omega
  have HG : Hid ((∀ k, k < len → errL (L.getD k Rl.zero) n = 0) → r = 0) := Lib.hid (fun h => hr ▸ checkL_good (by rw [hs.hl]; exact h))
  have HX : Hid (∀ k, k < len → (∀ j, j < k → errL (L.getD j Rl.zero) n = 0) → errL (L.getD k Rl.zero) n ≠ 0 → r = errL (L.getD k Rl.zero) n) := Lib.hid (fun k hk h0 h => hr ▸ checkL_bad (by rw [hs.hl]; exact hk) h0 h)
  have HS := Lib.hid hs
  clear hr hs
  go_enter Try.func14, Try.ntmps14
  go_wp2
  go_loopw [6, 7, 10] (fun _ _ i wr => ∃ k : Nat, k ≤ len ∧ i = .int .i64 k ∧ (∀ j, j < k → errL (L.getD j Rl.zero) n = 0) ∧ Below w.heap.size w wr) (fun _ _ i _ => len - (intOf i).toNat)
  case atStart => exact ⟨0, Nat.zero_le _, rfl, fun j hj => absurd hj (by omega), Below.refl _ _⟩
  case round =>
    obtain ⟨k, hk, rfl, hno, hbel⟩ := hrel
    by_cases hlt : k < len
    · obtain ⟨b, off, rfl, hbB, hcell⟩ := HS.out.hc (by omega)
      obtain ⟨c0, c1, c2, c3⟩ := (hcell k hlt).below (hbel.mono hB) hbB
      have hok := HS.out.okAt hlt
      have HNX := Lib.hid (good_upto hno)
      have HBD := Lib.hid (HX.out k hlt hno)
      have hlti : (k : Int) < len := by omega
      have hbs := hbel.size
      have HBE : Hid (∀ o, Below w.heap.size w (wr.alloc o)) := Lib.hid (fun o => hbel.alloc hbs o)
      generalize L.getD k Rl.zero = s at c0 c1 c2 c3 hok HNX HBD
      have HV := Lib.hid (fun w1 => lchk_any s n w1 hok hn0 hn1)
      obtain ⟨⟨a0, a1⟩, ⟨b0, b1⟩, ⟨o0, o1⟩, ⟨d0, d1⟩⟩ := hok
      obtain ⟨of, ty, sy, ad⟩ := s
      unfold Rl.val at HV
      simp only at c0 c1 c2 c3 a0 a1 b0 b1 o0 o1 d0 d1 HV
      have hbw : b < wr.heap.size := by omega
      clear hcell hno hbel
      generalize errL ⟨of, ty, sy, ad⟩ n = y at HV HBD HNX
      by_cases hy : y = 0
      · subst hy
        go_wp2_with fail
        refine (HV.out _).mono ?_
        rintro e w2 ⟨rfl, hb2⟩
        have HB2 := Lib.hid ((HBE.out _).trans (hb2.mono (by simp; omega)))
        clear hb2
        go_wp2
        go_roundw
        case rel => exact ⟨k + 1, by omega, by go_num, HNX.out (by trivial), HB2.out⟩
        case measure => (simp [intOf] <;> omega)
      · have hyb : (y != 0) = true := by rw [bne_iff_ne]; exact hy
        have HRY := Lib.hid (HBD.out hy)
        clear hy
        go_wp2_with fail
        refine (HV.out _).mono ?_
        rintro e w2 ⟨rfl, hb2⟩
        have HB2 := Lib.hid ((HBE.out _).trans (hb2.mono (by simp; omega)))
        clear hb2
        go_wp2
        go_ret
        exact ⟨ret_i64 HRY.out.symm, HB2.out⟩
    · obtain rfl : k = len := by omega
      have HB := Lib.hid hbel
      have HN := Lib.hid (HG.out hno)
      clear hbel hno
      go_wp2
      go_ret
      exact ⟨ret_i64 HN.out.symm, HB.out⟩
end Go.Proofs.Ytdfghnnpjoikeaa
