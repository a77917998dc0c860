/-
  What is proved here: At of package names and of the reference return the name that begins at a place, or the error that the document names.
  Conditions: none but that the arguments are values of their types.
-/
import Derived.Test.YtncnmgmkmjikcaaNamPlain
import Derived.Test.YtncnmgmkmjikcaaBaseP
namespace Go.Proofs.Ytncnmgmkmjikcaa
open Go.RowKit
set_option linter.unusedVariables false

theorem piece_piece (zs : List Int) {p k n : Nat} (h : k ≤ n) : piece (piece zs p n) 0 k = piece zs p k := by
  unfold piece; rw [List.drop_zero, List.take_take, Nat.min_eq_left h]

set_option maxHeartbeats 400000 in
theorem at_ok (B : Nat) (a : Option Addr) (len cap : Nat) (zs : List Int) (p k : Nat) (w : World) (hb : Bys w B a len zs) (hcap : len ≤ cap) (hcm : (cap : Int) ≤ 9223372036854775807) (hp : p < len) (hz : FirstZ (piece zs p (len - p)) k) :
    Calls Try.prog 10 #[.slice a len cap, .int .u64 p] w fun e w' => e = .returned (.tuple #[.string (strOfNums (piece zs p k)), .int .i64 0]) ∧ w = w' := by
  obtain ⟨b, off, rfl, _, _⟩ := hb.2.2 (by omega)
  have HS := Lib.hid (hb.sub (p := p) (n := len - p) (by omega))
  have HI := Lib.hid (idx_some HS.out.2.1 hz)
  have hk : k < len - p := by have := hz.1; rw [HS.out.1] at this; exact this
  have hpi : (p : Int) < (len : Int) := by omega
  have hkc : k ≤ cap - p := by omega
  have hconv := (hb.sub (p := p) (n := k) (by omega)).conv (cap - p)
  clear hb hz
  go_enter Try.func10, Try.ntmps10
  go_wp2_with (go_at_call 17; refine (bidx_any _ _ _ _ _ _ _ HS.out (by omega) HI.out).mono ?_; rintro e w' ⟨rfl, rfl⟩)
  go_ret2
  exact ⟨rfl, rfl⟩

/-! ### the reference -/
set_option maxHeartbeats 400000 in
theorem rat_range (a : Option Addr) (len cap : Nat) (p : Int) (w : World) (hl : (len : Int) ≤ 9223372036854775807) (hp : (len : Int) ≤ p) :
    Calls Try.prog 11 #[.slice a len cap, .int .u64 p] w fun e w' => e = .returned (.tuple #[.string .empty, .int .i64 10]) ∧ w = w' := by
  go_enter Try.func11, Try.ntmps11
  go_wp2
  go_ret2
  exact ⟨rfl, rfl⟩
set_option maxHeartbeats 400000 in
theorem rat_form (B : Nat) (a : Option Addr) (len cap : Nat) (zs : List Int) (p : Nat) (w : World) (hb : Bys w B a len zs) (hcap : len ≤ cap) (hcm : (cap : Int) ≤ 9223372036854775807) (hp : p < len) (hz : NoZ (piece zs p (len - p))) :
    Calls Try.prog 11 #[.slice a len cap, .int .u64 p] w fun e w' => e = .returned (.tuple #[.string .empty, .int .i64 11]) ∧ w = w' := by
  obtain ⟨b, off, rfl, _, hcell⟩ := hb.2.2 (by omega)
  have HZ : Hid (∀ i, p + i < len → zs.getD (p + i) 0 ≠ 0) := Lib.hid (fun i hi => by
    have := hz i (by rw [piece_len (by have := hb.1; omega)]; omega)
    rwa [piece_getD (by omega)] at this)
  have HC := Lib.hid hcell
  have hpi : (p : Int) < (len : Int) := by omega
  clear hb hz hcell
  go_enter Try.func11, Try.ntmps11
  go_wp2
  go_loop [6] (fun i => ∃ j : Nat, p + j ≤ len ∧ i = .int .i64 ((p + j : Nat) : Int)) (fun i => len - (intOf i).toNat)
  case atStart => exact ⟨0, by omega, rfl⟩
  case round =>
    obtain ⟨j, hj, rfl⟩ := hrel
    obtain ⟨i, hi⟩ : ∃ i, i = p + j := ⟨_, rfl⟩
    rw [← hi] at hj ⊢
    by_cases hlt : i < len
    · have hc := HC.out i hlt
      have hne := HZ.out j (by omega)
      rw [← hi] at hne
      obtain ⟨y, hy⟩ : ∃ y, y = zs.getD i 0 := ⟨_, rfl⟩
      rw [← hy] at hc hne
      have HIJ := Lib.hid hi
      clear hi hy
      go_wp2
      go_round
      case rel => exact ⟨j + 1, by have := HIJ.out; omega, by rw [HIJ.out]; go_num⟩
      case measure => simp [intOf]; omega
    · clear hi
      go_wp2
      go_ret2
      exact ⟨rfl, rfl⟩
set_option maxHeartbeats 400000 in
theorem rat_ok (B : Nat) (a : Option Addr) (len cap : Nat) (zs : List Int) (p k : Nat) (w : World) (hb : Bys w B a len zs) (hcap : len ≤ cap) (hcm : (cap : Int) ≤ 9223372036854775807) (hp : p < len) (hz : FirstZ (piece zs p (len - p)) k) :
    Calls Try.prog 11 #[.slice a len cap, .int .u64 p] w fun e w' => e = .returned (.tuple #[.string (strOfNums (piece zs p k)), .int .i64 0]) ∧ w = w' := by
  obtain ⟨b, off, rfl, _, hcell⟩ := hb.2.2 (by omega)
  have hk : p + k < len := by have := hz.1; rw [piece_len (by have := hb.1; omega)] at this; omega
  have HZ : Hid (∀ i, i < k → zs.getD (p + i) 0 ≠ 0) := Lib.hid (fun i hi => by
    have := hz.2.2 i hi
    rwa [piece_getD (by omega)] at this)
  have HK : Hid (zs.getD (p + k) 0 = 0) := Lib.hid (by
    have := hz.2.1
    rwa [piece_getD (by omega)] at this)
  have HC := Lib.hid hcell
  have HCONV := Lib.hid ((hb.sub (p := p) (n := k) (by omega)).conv (cap - p))
  have hpi : (p : Int) < (len : Int) := by omega
  clear hb hz hcell
  go_enter Try.func11, Try.ntmps11
  go_wp2
  go_loop [6] (fun i => ∃ j : Nat, j ≤ k ∧ i = .int .i64 ((p + j : Nat) : Int)) (fun i => len - (intOf i).toNat)
  case atStart => exact ⟨0, by omega, rfl⟩
  case round =>
    obtain ⟨j, hj, rfl⟩ := hrel
    obtain ⟨i, hi⟩ : ∃ i, i = p + j := ⟨_, rfl⟩
    rw [← hi]
    by_cases hlt : j < k
    · have hc := HC.out i (by omega)
      have hne := HZ.out j (by omega)
      rw [← hi] at hne
      obtain ⟨y, hy⟩ : ∃ y, y = zs.getD i 0 := ⟨_, rfl⟩
      rw [← hy] at hc hne
      have hil : i < len := by omega
      have HIJ := Lib.hid hi
      clear hi hy
      go_wp2
      go_round
      case rel => exact ⟨j + 1, by omega, by rw [HIJ.out]; go_num⟩
      case measure => simp [intOf]; omega
    · obtain rfl : j = k := by omega
      have hc := HC.out i (by omega)
      rw [show zs.getD i 0 = 0 from hi ▸ HK.out] at hc
      have hil : i < len := by omega
      have hpi2 : p ≤ i := by omega
      have hconv := HCONV.out
      rw [show j = i - p from by omega] at hconv
      have HIJ := Lib.hid (show j = i - p from by omega)
      clear hi
      go_wp2
      go_ret2
      exact ⟨congrArg (fun q => Ending.returned (.tuple #[.string (strOfNums (piece zs p q)), .int .i64 0])) HIJ.out.symm, rfl⟩
end Go.Proofs.Ytncnmgmkmjikcaa
