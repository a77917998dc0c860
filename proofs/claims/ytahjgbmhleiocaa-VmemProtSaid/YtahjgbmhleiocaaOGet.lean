/-
  What is proved here: Get of package octets, and what it asks first: the number of the n bytes at the place, or the error that the document names.
  Conditions: none but that the arguments are values of their types.
-/
import Derived.Test.YtahjgbmhleiocaaBaseP
import Derived.Test.YtahjgbmhleiocaaNum
namespace Go.Proofs.Ytahjgbmhleiocaa
open Go.RowKit
set_option linter.unusedVariables false

set_option maxHeartbeats 400000 in
theorem contains_yes (a : Option Addr) (len cap : Nat) (p s : Int) (w : World) (hl : (len : Int) ≤ 9223372036854775807) (hp0 : 0 ≤ p) (hs0 : 0 ≤ s) (h : p + s ≤ (len : Int)) :
    Calls Try.prog 58 #[.slice a len cap, .int .u64 p, .int .u64 s] w fun e w' => e = .returned (.bool true) ∧ w = w' := by
  go_enter Try.func58, Try.ntmps58
  go_wp2
  all_goals go_ret
  exact ⟨ret_bool (by simp; omega), rfl⟩

set_option maxHeartbeats 400000 in
theorem contains_no (a : Option Addr) (len cap : Nat) (p s : Int) (w : World) (hl : (len : Int) ≤ 9223372036854775807) (hp0 : 0 ≤ p) (hp1 : p ≤ 18446744073709551615) (hs0 : 0 ≤ s) (hs1 : s ≤ 18446744073709551615) (h : (len : Int) < p + s) :
    Calls Try.prog 58 #[.slice a len cap, .int .u64 p, .int .u64 s] w fun e w' => e = .returned (.bool false) ∧ w = w' := by
  go_enter Try.func58, Try.ntmps58
  go_wp2
  all_goals go_ret
  · exact ⟨ret_bool (by simp; omega), rfl⟩
  · exact ⟨rfl, rfl⟩

set_option maxHeartbeats 400000 in
theorem check_arg (a : Option Addr) (len cap : Nat) (p n : Int) (w : World) (h1 : n ≠ 1) (h2 : n ≠ 2) (h4 : n ≠ 4) (h8 : n ≠ 8) :
    Calls Try.prog 51 #[.slice a len cap, .int .u64 p, .int .i64 n] w fun e w' => e = .returned (.int .i64 1) ∧ w = w' := by
  have e1 : (n != 1) = true := by simpa using h1
  have e2 : (n != 2) = true := by simpa using h2
  have e4 : (n != 4) = true := by simpa using h4
  have e8 : (n != 8) = true := by simpa using h8
  clear h1 h2 h4 h8
  go_enter Try.func51, Try.ntmps51
  go_wp2_with fail
  all_goals go_ret
  all_goals exact ⟨rfl, rfl⟩

set_option maxHeartbeats 400000 in
theorem check_ok (a : Option Addr) (len cap : Nat) (p n : Int) (w : World) (h : n = 1 ∨ n = 2 ∨ n = 4 ∨ n = 8) (hl : (len : Int) ≤ 9223372036854775807) (hp0 : 0 ≤ p) (hs : p + n ≤ (len : Int)) :
    Calls Try.prog 51 #[.slice a len cap, .int .u64 p, .int .i64 n] w fun e w' => e = .returned (.int .i64 0) ∧ w = w' := by
  rcases h with rfl | rfl | rfl | rfl
  all_goals go_enter Try.func51, Try.ntmps51
  all_goals go_wp2_with (go_at_call 58; refine (contains_yes _ _ _ _ _ _ hl hp0 (by omega) (by omega)).mono ?_; rintro e w' ⟨rfl, rfl⟩)
  all_goals go_ret
  all_goals exact ⟨rfl, rfl⟩

set_option maxHeartbeats 400000 in
theorem check_range (a : Option Addr) (len cap : Nat) (p n : Int) (w : World) (h : n = 1 ∨ n = 2 ∨ n = 4 ∨ n = 8) (hl : (len : Int) ≤ 9223372036854775807) (hp0 : 0 ≤ p) (hp1 : p ≤ 18446744073709551615) (hs : (len : Int) < p + n) :
    Calls Try.prog 51 #[.slice a len cap, .int .u64 p, .int .i64 n] w fun e w' => e = .returned (.int .i64 10) ∧ w = w' := by
  rcases h with rfl | rfl | rfl | rfl
  all_goals go_enter Try.func51, Try.ntmps51
  all_goals go_wp2_with (go_at_call 58; refine (contains_no _ _ _ _ _ _ hl hp0 hp1 (by omega) (by omega) (by omega)).mono ?_; rintro e w' ⟨rfl, rfl⟩)
  all_goals go_ret
  all_goals exact ⟨rfl, rfl⟩

set_option maxHeartbeats 400000 in
theorem get_arg (a : Option Addr) (len cap : Nat) (p n : Int) (w : World) (h1 : n ≠ 1) (h2 : n ≠ 2) (h4 : n ≠ 4) (h8 : n ≠ 8) :
    Calls Try.prog 49 #[.slice a len cap, .int .u64 p, .int .i64 n] w fun e w' => e = .returned (.tuple #[.int .u64 0, .int .i64 1]) ∧ w = w' := by
  go_enter Try.func49, Try.ntmps49
  go_wp2_with (go_at_call 51; refine (check_arg _ _ _ _ _ _ h1 h2 h4 h8).mono ?_; rintro e w' ⟨rfl, rfl⟩)
  go_ret2
  exact ⟨rfl, rfl⟩

set_option maxHeartbeats 400000 in
theorem get_range (a : Option Addr) (len cap : Nat) (p n : Int) (w : World) (h : n = 1 ∨ n = 2 ∨ n = 4 ∨ n = 8) (hl : (len : Int) ≤ 9223372036854775807) (hp0 : 0 ≤ p) (hp1 : p ≤ 18446744073709551615) (hs : (len : Int) < p + n) :
    Calls Try.prog 49 #[.slice a len cap, .int .u64 p, .int .i64 n] w fun e w' => e = .returned (.tuple #[.int .u64 0, .int .i64 10]) ∧ w = w' := by
  have H := Lib.hid h
  clear h
  go_enter Try.func49, Try.ntmps49
  go_wp2_with (go_at_call 51; refine (check_range _ _ _ _ _ _ H.out hl hp0 hp1 hs).mono ?_; rintro e w' ⟨rfl, rfl⟩)
  go_ret2
  exact ⟨rfl, rfl⟩

set_option maxHeartbeats 800000 in
theorem get_ok (B : Nat) (a : Option Addr) (len cap : Nat) (zs : List Int) (p n : Nat) (w : World) (hb : Bys w B a len zs) (h : n = 1 ∨ n = 2 ∨ n = 4 ∨ n = 8) (hl : (len : Int) ≤ 9223372036854775807) (hs : p + n ≤ len) :
    Calls Try.prog 49 #[.slice a len cap, .int .u64 p, .int .i64 n] w fun e w' => e = .returned (.tuple #[.int .u64 (num (piece zs p n)), .int .i64 0]) ∧ w = w' := by
  obtain ⟨hz, hbd, hat⟩ := hb
  obtain ⟨b, off, rfl, _, hcell⟩ := hat (by omega)
  clear hat
  have hn8 : n ≤ 8 := by omega
  have hsi : (p : Int) + (n : Int) ≤ (len : Int) := by omega
  have Hn : Hid ((n : Int) = 1 ∨ (n : Int) = 2 ∨ (n : Int) = 4 ∨ (n : Int) = 8) := Lib.hid (by omega)
  have HC := Lib.hid hcell
  have HB := Lib.hid hbd
  have HZ := Lib.hid hz
  clear h hcell hbd hz
  go_enter Try.func49, Try.ntmps49
  go_wp2_with (go_at_call 51; refine (check_ok _ _ _ _ _ _ Hn.out hl (by omega) hsi).mono ?_; rintro e w' ⟨rfl, rfl⟩)
  go_loop [9, 10, 19] (fun x _ i => ∃ k : Nat, k ≤ n ∧ i = .int .i64 k ∧ x = .int .u64 (num (piece zs p k))) (fun _ _ i => n - (intOf i).toNat)
  case atStart => exact ⟨0, Nat.zero_le _, rfl, rfl⟩
  case round =>
    obtain ⟨k, hk, rfl, rfl⟩ := hrel
    by_cases hlt : k < n
    · have hc := HC.out (p + k) (by omega)
      have hcb := getD_bd HB.out (p + k)
      have hst := num_piece_succ (zs := zs) (p := p) (k := k) (by have := HZ.out; omega)
      have hx := num_piece_lt (p := p) (k := k) HB.out (by have := HZ.out; omega)
      generalize zs.getD (p + k) 0 = c at hc hcb hst
      have hor := or_step (k := k) (by omega) hx.1 hx.2 hcb.1 hcb.2
      rw [← hst] at hor
      have HO := Lib.hid hor
      obtain ⟨hc0, hc1⟩ := hcb
      clear hst hor hx
      go_wp2
      go_round
      case rel => exact ⟨k + 1, by omega, by go_num, by rw [HO.out]⟩
      case measure => simp [intOf]; omega
    · obtain rfl : k = n := by omega
      go_wp2
      go_ret2
      exact ⟨rfl, rfl⟩
end Go.Proofs.Ytahjgbmhleiocaa
