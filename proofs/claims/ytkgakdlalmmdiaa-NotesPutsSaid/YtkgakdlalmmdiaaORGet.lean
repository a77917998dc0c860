/-
  What is proved here: Get of the reference of octets, and what it asks first.
  Conditions: none but that the arguments are values of their types.
-/
import Derived.Test.YtkgakdlalmmdiaaBaseP
import Derived.Test.YtkgakdlalmmdiaaNum
namespace Go.Proofs.Ytkgakdlalmmdiaa
open Go.RowKit
set_option linter.unusedVariables false

set_option maxHeartbeats 400000 in
theorem inside_yes (len : Int) (p s : Int) (w : World) (hl0 : 0 ≤ len) (hl : len ≤ 9223372036854775807) (hp0 : 0 ≤ p) (hs0 : 0 ≤ s) (h : p + s ≤ len) :
    Calls Try.prog 26 #[.int .i64 len, .int .u64 p, .int .u64 s] w fun e w' => e = .returned (.bool true) ∧ w = w' := by
  go_enter Try.func26, Try.ntmps26
  go_wp2
  all_goals go_ret
  exact ⟨ret_bool (by simp; omega), rfl⟩

set_option maxHeartbeats 400000 in
theorem inside_no (len : Int) (p s : Int) (w : World) (hl0 : 0 ≤ len) (hl : len ≤ 9223372036854775807) (hp0 : 0 ≤ p) (hp1 : p ≤ 18446744073709551615) (hs0 : 0 ≤ s) (hs1 : s ≤ 18446744073709551615) (h : len < p + s) :
    Calls Try.prog 26 #[.int .i64 len, .int .u64 p, .int .u64 s] w fun e w' => e = .returned (.bool false) ∧ w = w' := by
  go_enter Try.func26, Try.ntmps26
  go_wp2
  all_goals go_ret
  · exact ⟨rfl, rfl⟩
  · exact ⟨ret_bool (by simp; omega), rfl⟩

set_option maxHeartbeats 400000 in
theorem width_yes (n : Int) (w : World) (h : n = 1 ∨ n = 2 ∨ n = 4 ∨ n = 8) :
    Calls Try.prog 38 #[.int .i64 n] w fun e w' => e = .returned (.bool true) ∧ w = w' := by
  rcases h with rfl | rfl | rfl | rfl
  all_goals go_enter Try.func38, Try.ntmps38
  all_goals go_wp2
  all_goals go_ret
  all_goals exact ⟨rfl, rfl⟩

set_option maxHeartbeats 400000 in
theorem width_no (n : Int) (w : World) (h1 : n ≠ 1) (h2 : n ≠ 2) (h4 : n ≠ 4) (h8 : n ≠ 8) :
    Calls Try.prog 38 #[.int .i64 n] w fun e w' => e = .returned (.bool false) ∧ w = w' := by
  have e1 : (n == 1) = false := by simpa using h1
  have e2 : (n == 2) = false := by simpa using h2
  have e4 : (n == 4) = false := by simpa using h4
  have e8 : (n == 8) = false := by simpa using h8
  clear h1 h2 h4 h8
  go_enter Try.func38, Try.ntmps38
  go_wp2
  all_goals go_ret
  all_goals exact ⟨rfl, rfl⟩

set_option maxHeartbeats 400000 in
theorem rget_arg (a : Option Addr) (len cap : Nat) (p n : Int) (w : World) (h1 : n ≠ 1) (h2 : n ≠ 2) (h4 : n ≠ 4) (h8 : n ≠ 8) :
    Calls Try.prog 27 #[.slice a len cap, .int .u64 p, .int .i64 n] w fun e w' => e = .returned (.tuple #[.int .u64 0, .int .i64 1]) ∧ w = w' := by
  go_enter Try.func27, Try.ntmps27
  go_wp2_with (go_at_call 38; refine (width_no _ _ h1 h2 h4 h8).mono ?_; rintro e w' ⟨rfl, rfl⟩)
  go_ret2
  exact ⟨rfl, rfl⟩

set_option maxHeartbeats 400000 in
theorem rget_range (a : Option Addr) (len cap : Nat) (p n : Int) (w : World) (h : n = 1 ∨ n = 2 ∨ n = 4 ∨ n = 8) (hl : (len : Int) ≤ 9223372036854775807) (hp0 : 0 ≤ p) (hp1 : p ≤ 18446744073709551615) (hs : (len : Int) < p + n) :
    Calls Try.prog 27 #[.slice a len cap, .int .u64 p, .int .i64 n] w fun e w' => e = .returned (.tuple #[.int .u64 0, .int .i64 10]) ∧ w = w' := by
  have H := Lib.hid h
  have hn0 : 0 ≤ n := by omega
  have hn1 : n ≤ 8 := by omega
  clear h
  go_enter Try.func27, Try.ntmps27
  go_wp2_with (first | (go_at_call 38; refine (width_yes _ _ H.out).mono ?_; rintro e w' ⟨rfl, rfl⟩) | (go_at_call 26; refine (inside_no _ _ _ _ (by omega) hl hp0 hp1 (by omega) (by omega) hs).mono ?_; rintro e w' ⟨rfl, rfl⟩))
  go_ret2
  exact ⟨rfl, rfl⟩

set_option maxHeartbeats 800000 in
theorem rget_ok (B : Nat) (a : Option Addr) (len cap : Nat) (zs : List Int) (p n : Nat) (w : World) (hb : Bys w B a len zs) (h : n = 1 ∨ n = 2 ∨ n = 4 ∨ n = 8) (hl : (len : Int) ≤ 9223372036854775807) (hs : p + n ≤ len) :
    Calls Try.prog 27 #[.slice a len cap, .int .u64 p, .int .i64 n] w fun e w' => e = .returned (.tuple #[.int .u64 (num (piece zs p n)), .int .i64 0]) ∧ w = w' := by
  obtain ⟨hz, hbd, hat⟩ := hb
  obtain ⟨b, off, rfl, _, hcell⟩ := hat (by omega)
  clear hat
  have hn8 : n ≤ 8 := by omega
  have hsi : (p : Int) + (n : Int) ≤ (len : Int) := by omega
  have Hn : Hid ((n : Int) = 1 ∨ (n : Int) = 2 ∨ (n : Int) = 4 ∨ (n : Int) = 8) := Lib.hid (by omega)
  have HC := Lib.hid hcell
  have HB := Lib.hid hbd
  have HZ := Lib.hid hz
  clear h hcell hbd hz
  go_enter Try.func27, Try.ntmps27
  go_wp2_with (first | (go_at_call 38; refine (width_yes _ _ Hn.out).mono ?_; rintro e w' ⟨rfl, rfl⟩) | (go_at_call 26; refine (inside_yes _ _ _ _ (by omega) hl (by omega) (by omega) hsi).mono ?_; rintro e w' ⟨rfl, rfl⟩))
  go_loop [9, 10] (fun x i => ∃ k : Nat, k ≤ n ∧ i = .int .i64 ((k : Int) - 1) ∧ x = .int .u64 (num (piece zs (p + k) (n - k)))) (fun _ i => (intOf i + 1).toNat)
  case atStart => exact ⟨n, Nat.le_refl _, rfl, by rw [Nat.sub_self]; rfl⟩
  case round =>
    obtain ⟨k, hk, rfl, rfl⟩ := hrel
    by_cases hlt : 1 ≤ k
    · obtain ⟨j, rfl⟩ : ∃ j, k = j + 1 := ⟨k - 1, by omega⟩
      have hc := HC.out (p + j) (by omega)
      have hcb := getD_bd HB.out (p + j)
      have hst := num_piece_cons (zs := zs) (p := p + j) (k := n - (j + 1)) (by have := HZ.out; omega)
      have hx := num_piece_lt (p := p + (j + 1)) (k := n - (j + 1)) HB.out (by have := HZ.out; omega)
      generalize zs.getD (p + j) 0 = c at hc hcb hst
      rw [show n - (j + 1) + 1 = n - j from by omega, show p + j + 1 = p + (j + 1) from by omega] at hst
      generalize num (piece zs (p + (j + 1)) (n - (j + 1))) = y at hx hst ⊢
      obtain ⟨y0, y1, y2⟩ := mul_step (m := n - (j + 1)) (by omega) hx.1 hx.2 hcb.1 hcb.2
      have HS := Lib.hid hst
      obtain ⟨hc0, hc1⟩ := hcb
      have hx0 := hx.1
      clear hst hx
      go_wp2
      go_round
      case rel => exact ⟨j, by omega, by go_num, by rw [HS.out]; go_num⟩
      case measure => simp [intOf] <;> omega
    · obtain rfl : k = 0 := by omega
      go_wp2
      go_ret2
      exact ⟨rfl, rfl⟩
end Go.Proofs.Ytkgakdlalmmdiaa
