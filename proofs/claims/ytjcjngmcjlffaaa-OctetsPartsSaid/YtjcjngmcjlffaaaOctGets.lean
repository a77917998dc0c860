/-
  What is proved here: Get of package octets and Get of its reference return the number of the n bytes at the place, the lowest first, or the error that the document names.
  Conditions: none but that the arguments are values of their types.
-/
import Derived.Test.YtjcjngmcjlffaaaOctPlain
namespace Go.Proofs.Ytjcjngmcjlffaaa
open Go.RowKit
set_option linter.unusedVariables false

set_option maxHeartbeats 400000 in
theorem get_arg (a : Option Addr) (len cap : Nat) (p n : Int) (w : World) (h1 : n ≠ 1) (h2 : n ≠ 2) (h4 : n ≠ 4) (h8 : n ≠ 8) :
    Calls Try.prog 12 #[.slice a len cap, .int .u64 p, .int .i64 n] w fun e w' => e = .returned (.tuple #[.int .u64 0, .int .i64 1]) ∧ w = w' := by
  go_enter Try.func12, Try.ntmps12
  go_wp2_with (go_at_call 24; refine (check_arg _ _ _ _ _ _ h1 h2 h4 h8).mono ?_; rintro e w' ⟨rfl, rfl⟩)
  go_ret2
  exact ⟨rfl, rfl⟩

set_option maxHeartbeats 400000 in
theorem get_range (a : Option Addr) (len cap : Nat) (p n : Int) (w : World) (h : n = 1 ∨ n = 2 ∨ n = 4 ∨ n = 8) (hl : (len : Int) ≤ 9223372036854775807) (hp0 : 0 ≤ p) (hp1 : p ≤ 18446744073709551615) (hs : (len : Int) < p + n) :
    Calls Try.prog 12 #[.slice a len cap, .int .u64 p, .int .i64 n] w fun e w' => e = .returned (.tuple #[.int .u64 0, .int .i64 10]) ∧ w = w' := by
  have H := Lib.hid h
  clear h
  go_enter Try.func12, Try.ntmps12
  go_wp2_with (go_at_call 24; refine (check_range _ _ _ _ _ _ H.out hl hp0 hp1 hs).mono ?_; rintro e w' ⟨rfl, rfl⟩)
  go_ret2
  exact ⟨rfl, rfl⟩

set_option maxHeartbeats 800000 in
theorem get_ok (B : Nat) (a : Option Addr) (len cap : Nat) (zs : List Int) (p n : Nat) (w : World) (hb : Bys w B a len zs) (h : n = 1 ∨ n = 2 ∨ n = 4 ∨ n = 8) (hl : (len : Int) ≤ 9223372036854775807) (hs : p + n ≤ len) :
    Calls Try.prog 12 #[.slice a len cap, .int .u64 p, .int .i64 n] w fun e w' => e = .returned (.tuple #[.int .u64 (num (piece zs p n)), .int .i64 0]) ∧ w = w' := by
  obtain ⟨hz, hbd, hat⟩ := hb
  obtain ⟨b, off, rfl, _, hcell⟩ := hat (by omega)
  clear hat
  have hn8 : n ≤ 8 := by omega
  have hsi : (p : Int) + (n : Int) ≤ (len : Int) := by omega
  have Hn : Hid ((n : Int) = 1 ∨ (n : Int) = 2 ∨ (n : Int) = 4 ∨ (n : Int) = 8) := Lib.hid (by omega)
  have HC := Lib.hid hcell
  have HB := Lib.hid hbd
  have HZ := Lib.hid hz
  clear h hcell hbd hz
  go_enter Try.func12, Try.ntmps12
  go_wp2_with (go_at_call 24; refine (check_ok _ _ _ _ _ _ Hn.out hl (by omega) hsi).mono ?_; rintro e w' ⟨rfl, rfl⟩)
  go_loop [9, 10, 19] (fun x _ i => ∃ k : Nat, k ≤ n ∧ i = .int .i64 k ∧ x = .int .u64 (num (piece zs p k))) (fun _ _ i => n - (intOf i).toNat)
  case atStart => exact ⟨0, Nat.zero_le _, rfl, rfl⟩
  case round =>
    obtain ⟨k, hk, rfl, rfl⟩ := hrel
    by_cases hlt : k < n
    · have hc := HC.out (p + k) (by omega)
      have hcb := getD_bd HB.out (p + k)
      have hst := num_piece_succ (zs := zs) (p := p) (k := k) (by have := HZ.out; omega)
      have hx := num_piece_lt (p := p) (k := k) HB.out (by have := HZ.out; omega)
      generalize zs.getD (p + k) 0 = c at hc hcb hst
      have hor := or_step (k := k) (by omega) hx.1 hx.2 hcb.1 hcb.2
      rw [← hst] at hor
      have HO := Lib.hid hor
      obtain ⟨hc0, hc1⟩ := hcb
      clear hst hor hx
      go_wp2
      go_round
      case rel => exact ⟨k + 1, by omega, by go_num, by rw [HO.out]⟩
      case measure => simp [intOf]; omega
    · obtain rfl : k = n := by omega
      go_wp2
      go_ret2
      exact ⟨rfl, rfl⟩

set_option maxHeartbeats 400000 in
theorem rget_arg (a : Option Addr) (len cap : Nat) (p n : Int) (w : World) (h1 : n ≠ 1) (h2 : n ≠ 2) (h4 : n ≠ 4) (h8 : n ≠ 8) :
    Calls Try.prog 13 #[.slice a len cap, .int .u64 p, .int .i64 n] w fun e w' => e = .returned (.tuple #[.int .u64 0, .int .i64 1]) ∧ w = w' := by
  go_enter Try.func13, Try.ntmps13
  go_wp2_with (go_at_call 25; refine (width_no _ _ h1 h2 h4 h8).mono ?_; rintro e w' ⟨rfl, rfl⟩)
  go_ret2
  exact ⟨rfl, rfl⟩

set_option maxHeartbeats 400000 in
theorem rget_range (a : Option Addr) (len cap : Nat) (p n : Int) (w : World) (h : n = 1 ∨ n = 2 ∨ n = 4 ∨ n = 8) (hl : (len : Int) ≤ 9223372036854775807) (hp0 : 0 ≤ p) (hp1 : p ≤ 18446744073709551615) (hs : (len : Int) < p + n) :
    Calls Try.prog 13 #[.slice a len cap, .int .u64 p, .int .i64 n] w fun e w' => e = .returned (.tuple #[.int .u64 0, .int .i64 10]) ∧ w = w' := by
  have H := Lib.hid h
  have hn0 : 0 ≤ n := by omega
  have hn1 : n ≤ 8 := by omega
  clear h
  go_enter Try.func13, Try.ntmps13
  go_wp2_with (first | (go_at_call 25; refine (width_yes _ _ H.out).mono ?_; rintro e w' ⟨rfl, rfl⟩) | (go_at_call 26; refine (inside_no _ _ _ _ (by omega) hl hp0 hp1 (by omega) (by omega) hs).mono ?_; rintro e w' ⟨rfl, rfl⟩))
  go_ret2
  exact ⟨rfl, rfl⟩

/-- A byte more at the front: the walk's own form. -/
theorem mul_step {y c : Int} {m : Nat} (hm : m < 8) (h0 : 0 ≤ y) (h1 : y < 256 ^ m) (c0 : 0 ≤ c) (c1 : c ≤ 255) : 0 ≤ y * 256 ∧ y * 256 ≤ 18446744073709551615 ∧ y * 256 + c ≤ 18446744073709551615 := by
  have : m = 0 ∨ m = 1 ∨ m = 2 ∨ m = 3 ∨ m = 4 ∨ m = 5 ∨ m = 6 ∨ m = 7 := by omega
  rcases this with rfl | rfl | rfl | rfl | rfl | rfl | rfl | rfl <;> omega

set_option maxHeartbeats 800000 in
theorem rget_ok (B : Nat) (a : Option Addr) (len cap : Nat) (zs : List Int) (p n : Nat) (w : World) (hb : Bys w B a len zs) (h : n = 1 ∨ n = 2 ∨ n = 4 ∨ n = 8) (hl : (len : Int) ≤ 9223372036854775807) (hs : p + n ≤ len) :
    Calls Try.prog 13 #[.slice a len cap, .int .u64 p, .int .i64 n] w fun e w' => e = .returned (.tuple #[.int .u64 (num (piece zs p n)), .int .i64 0]) ∧ w = w' := by
  obtain ⟨hz, hbd, hat⟩ := hb
  obtain ⟨b, off, rfl, _, hcell⟩ := hat (by omega)
  clear hat
  have hn8 : n ≤ 8 := by omega
  have hsi : (p : Int) + (n : Int) ≤ (len : Int) := by omega
  have Hn : Hid ((n : Int) = 1 ∨ (n : Int) = 2 ∨ (n : Int) = 4 ∨ (n : Int) = 8) := Lib.hid (by omega)
  have HC := Lib.hid hcell
  have HB := Lib.hid hbd
  have HZ := Lib.hid hz
  clear h hcell hbd hz
  go_enter Try.func13, Try.ntmps13
  go_wp2_with (first | (go_at_call 25; refine (width_yes _ _ Hn.out).mono ?_; rintro e w' ⟨rfl, rfl⟩) | (go_at_call 26; refine (inside_yes _ _ _ _ (by omega) hl (by omega) (by omega) hsi).mono ?_; rintro e w' ⟨rfl, rfl⟩))
  go_loop [9, 10] (fun x i => ∃ k : Nat, k ≤ n ∧ i = .int .i64 ((k : Int) - 1) ∧ x = .int .u64 (num (piece zs (p + k) (n - k)))) (fun _ i => (intOf i + 1).toNat)
  case atStart => exact ⟨n, Nat.le_refl _, rfl, by rw [Nat.sub_self]; rfl⟩
  case round =>
    obtain ⟨k, hk, rfl, rfl⟩ := hrel
    by_cases hlt : 1 ≤ k
    · obtain ⟨j, rfl⟩ : ∃ j, k = j + 1 := ⟨k - 1, by omega⟩
      have hc := HC.out (p + j) (by omega)
      have hcb := getD_bd HB.out (p + j)
      have hst := num_piece_cons (zs := zs) (p := p + j) (k := n - (j + 1)) (by have := HZ.out; omega)
      have hx := num_piece_lt (p := p + (j + 1)) (k := n - (j + 1)) HB.out (by have := HZ.out; omega)
      generalize zs.getD (p + j) 0 = c at hc hcb hst
      rw [show n - (j + 1) + 1 = n - j from by omega, show p + j + 1 = p + (j + 1) from by omega] at hst
      generalize num (piece zs (p + (j + 1)) (n - (j + 1))) = y at hx hst ⊢
      obtain ⟨y0, y1, y2⟩ := mul_step (m := n - (j + 1)) (by omega) hx.1 hx.2 hcb.1 hcb.2
      have HS := Lib.hid hst
      obtain ⟨hc0, hc1⟩ := hcb
      have hx0 := hx.1
      clear hst hx
      go_wp2
      go_round
      case rel => exact ⟨j, by omega, by go_num, by rw [HS.out]; go_num⟩
      case measure => simp [intOf] <;> omega
    · obtain rfl : k = 0 := by omega
      go_wp2
      go_ret2
      exact ⟨rfl, rfl⟩
end Go.Proofs.Ytjcjngmcjlffaaa
