/-
  What is proved here: Get of package octets, and what it asks first: the number of the n bytes at the place, or the error that the document names. · Set of package octets: the bytes that the document says, in new memory, or the error that it names; nothing that was there is written.
  Conditions: as they say.
-/
import Derived.Test.YtkhfmgifpppcmaaDoorBaseP
import Derived.Test.YtkhfmgifpppcmaaDoorNum
namespace Go.Proofs.YtkhfmgifpppcmaaDoor
open Go.RowKit
set_option linter.unusedVariables false

set_option maxHeartbeats 400000 in
theorem contains_yes (a : Option Addr) (len cap : Nat) (p s : Int) (w : World) (hl : (len : Int) ≤ 9223372036854775807) (hp0 : 0 ≤ p) (hs0 : 0 ≤ s) (h : p + s ≤ (len : Int)) :
    Calls Tryd.prog 51 #[.slice a len cap, .int .u64 p, .int .u64 s] w fun e w' => e = .returned (.bool true) ∧ w = w' := by
  go_enter Tryd.func51, Tryd.ntmps51
  go_wp2
  all_goals go_ret
  exact ⟨ret_bool (by simp; omega), rfl⟩

set_option maxHeartbeats 400000 in
theorem contains_no (a : Option Addr) (len cap : Nat) (p s : Int) (w : World) (hl : (len : Int) ≤ 9223372036854775807) (hp0 : 0 ≤ p) (hp1 : p ≤ 18446744073709551615) (hs0 : 0 ≤ s) (hs1 : s ≤ 18446744073709551615) (h : (len : Int) < p + s) :
    Calls Tryd.prog 51 #[.slice a len cap, .int .u64 p, .int .u64 s] w fun e w' => e = .returned (.bool false) ∧ w = w' := by
  go_enter Tryd.func51, Tryd.ntmps51
  go_wp2
  all_goals go_ret
  · exact ⟨ret_bool (by simp; omega), rfl⟩
  · exact ⟨rfl, rfl⟩

set_option maxHeartbeats 400000 in
theorem check_arg (a : Option Addr) (len cap : Nat) (p n : Int) (w : World) (h1 : n ≠ 1) (h2 : n ≠ 2) (h4 : n ≠ 4) (h8 : n ≠ 8) :
    Calls Tryd.prog 45 #[.slice a len cap, .int .u64 p, .int .i64 n] w fun e w' => e = .returned (.int .i64 1) ∧ w = w' := by
  have e1 : (n != 1) = true := by simpa using h1
  have e2 : (n != 2) = true := by simpa using h2
  have e4 : (n != 4) = true := by simpa using h4
  have e8 : (n != 8) = true := by simpa using h8
  clear h1 h2 h4 h8
  go_enter Tryd.func45, Tryd.ntmps45
  go_wp2_with fail
  all_goals go_ret
  all_goals exact ⟨rfl, rfl⟩

set_option maxHeartbeats 400000 in
theorem check_ok (a : Option Addr) (len cap : Nat) (p n : Int) (w : World) (h : n = 1 ∨ n = 2 ∨ n = 4 ∨ n = 8) (hl : (len : Int) ≤ 9223372036854775807) (hp0 : 0 ≤ p) (hs : p + n ≤ (len : Int)) :
    Calls Tryd.prog 45 #[.slice a len cap, .int .u64 p, .int .i64 n] w fun e w' => e = .returned (.int .i64 0) ∧ w = w' := by
  rcases h with rfl | rfl | rfl | rfl
  all_goals go_enter Tryd.func45, Tryd.ntmps45
  all_goals go_wp2_with (go_at_call 51; refine (contains_yes _ _ _ _ _ _ hl hp0 (by omega) (by omega)).mono ?_; rintro e w' ⟨rfl, rfl⟩)
  all_goals go_ret
  all_goals exact ⟨rfl, rfl⟩

set_option maxHeartbeats 400000 in
theorem check_range (a : Option Addr) (len cap : Nat) (p n : Int) (w : World) (h : n = 1 ∨ n = 2 ∨ n = 4 ∨ n = 8) (hl : (len : Int) ≤ 9223372036854775807) (hp0 : 0 ≤ p) (hp1 : p ≤ 18446744073709551615) (hs : (len : Int) < p + n) :
    Calls Tryd.prog 45 #[.slice a len cap, .int .u64 p, .int .i64 n] w fun e w' => e = .returned (.int .i64 10) ∧ w = w' := by
  rcases h with rfl | rfl | rfl | rfl
  all_goals go_enter Tryd.func45, Tryd.ntmps45
  all_goals go_wp2_with (go_at_call 51; refine (contains_no _ _ _ _ _ _ hl hp0 hp1 (by omega) (by omega) (by omega)).mono ?_; rintro e w' ⟨rfl, rfl⟩)
  all_goals go_ret
  all_goals exact ⟨rfl, rfl⟩

set_option maxHeartbeats 400000 in
theorem get_arg (a : Option Addr) (len cap : Nat) (p n : Int) (w : World) (h1 : n ≠ 1) (h2 : n ≠ 2) (h4 : n ≠ 4) (h8 : n ≠ 8) :
    Calls Tryd.prog 38 #[.slice a len cap, .int .u64 p, .int .i64 n] w fun e w' => e = .returned (.tuple #[.int .u64 0, .int .i64 1]) ∧ w = w' := by
  go_enter Tryd.func38, Tryd.ntmps38
  go_wp2_with (go_at_call 45; refine (check_arg _ _ _ _ _ _ h1 h2 h4 h8).mono ?_; rintro e w' ⟨rfl, rfl⟩)
  go_ret2
  exact ⟨rfl, rfl⟩

set_option maxHeartbeats 400000 in
theorem get_range (a : Option Addr) (len cap : Nat) (p n : Int) (w : World) (h : n = 1 ∨ n = 2 ∨ n = 4 ∨ n = 8) (hl : (len : Int) ≤ 9223372036854775807) (hp0 : 0 ≤ p) (hp1 : p ≤ 18446744073709551615) (hs : (len : Int) < p + n) :
    Calls Tryd.prog 38 #[.slice a len cap, .int .u64 p, .int .i64 n] w fun e w' => e = .returned (.tuple #[.int .u64 0, .int .i64 10]) ∧ w = w' := by
  have H := Lib.hid h
  clear h
  go_enter Tryd.func38, Tryd.ntmps38
  go_wp2_with (go_at_call 45; refine (check_range _ _ _ _ _ _ H.out hl hp0 hp1 hs).mono ?_; rintro e w' ⟨rfl, rfl⟩)
  go_ret2
  exact ⟨rfl, rfl⟩

set_option maxHeartbeats 800000 in
theorem get_ok (B : Nat) (a : Option Addr) (len cap : Nat) (zs : List Int) (p n : Nat) (w : World) (hb : Bys w B a len zs) (h : n = 1 ∨ n = 2 ∨ n = 4 ∨ n = 8) (hl : (len : Int) ≤ 9223372036854775807) (hs : p + n ≤ len) :
    Calls Tryd.prog 38 #[.slice a len cap, .int .u64 p, .int .i64 n] w fun e w' => e = .returned (.tuple #[.int .u64 (num (piece zs p n)), .int .i64 0]) ∧ w = w' := by
  obtain ⟨hz, hbd, hat⟩ := hb
  obtain ⟨b, off, rfl, _, hcell⟩ := hat (by omega)
  clear hat
  have hn8 : n ≤ 8 := by omega
  have hsi : (p : Int) + (n : Int) ≤ (len : Int) := by omega
  have Hn : Hid ((n : Int) = 1 ∨ (n : Int) = 2 ∨ (n : Int) = 4 ∨ (n : Int) = 8) := Lib.hid (by omega)
  have HC := Lib.hid hcell
  have HB := Lib.hid hbd
  have HZ := Lib.hid hz
  clear h hcell hbd hz
  go_enter Tryd.func38, Tryd.ntmps38
  go_wp2_with (go_at_call 45; refine (check_ok _ _ _ _ _ _ Hn.out hl (by omega) hsi).mono ?_; rintro e w' ⟨rfl, rfl⟩)
  go_loop [9, 10, 19] (fun x _ i => ∃ k : Nat, k ≤ n ∧ i = .int .i64 k ∧ x = .int .u64 (num (piece zs p k))) (fun _ _ i => n - (intOf i).toNat)
  case atStart => exact ⟨0, Nat.zero_le _, rfl, rfl⟩
  case round =>
    obtain ⟨k, hk, rfl, rfl⟩ := hrel
    by_cases hlt : k < n
    · have hc := HC.out (p + k) (by omega)
      have hcb := getD_bd HB.out (p + k)
      have hst := num_piece_succ (zs := zs) (p := p) (k := k) (by have := HZ.out; omega)
      have hx := num_piece_lt (p := p) (k := k) HB.out (by have := HZ.out; omega)
      generalize zs.getD (p + k) 0 = c at hc hcb hst
      have hor := or_step (k := k) (by omega) hx.1 hx.2 hcb.1 hcb.2
      rw [← hst] at hor
      have HO := Lib.hid hor
      obtain ⟨hc0, hc1⟩ := hcb
      clear hst hor hx
      go_wp2
      go_round
      case rel => exact ⟨k + 1, by omega, by go_num, by rw [HO.out]⟩
      case measure => simp [intOf]; omega
    · obtain rfl : k = n := by omega
      go_wp2
      go_ret2
      exact ⟨rfl, rfl⟩
end Go.Proofs.YtkhfmgifpppcmaaDoor
namespace Go.Proofs.YtkhfmgifpppcmaaDoor
open Go.RowKit
set_option linter.unusedVariables false

set_option maxHeartbeats 400000 in
theorem set_arg (a : Option Addr) (len cap : Nat) (p n x : Int) (w : World) (h1 : n ≠ 1) (h2 : n ≠ 2) (h4 : n ≠ 4) (h8 : n ≠ 8) :
    Calls Tryd.prog 41 #[.slice a len cap, .int .u64 p, .int .i64 n, .int .u64 x] w fun e w' => e = .returned (.tuple #[.slice none 0 0, .int .i64 1]) ∧ w = w' := by
  go_enter Tryd.func41, Tryd.ntmps41
  go_wp2_with (go_at_call 45; refine (check_arg _ _ _ _ _ _ h1 h2 h4 h8).mono ?_; rintro e w' ⟨rfl, rfl⟩)
  go_ret2
  exact ⟨rfl, rfl⟩

set_option maxHeartbeats 400000 in
theorem set_range (a : Option Addr) (len cap : Nat) (p n x : Int) (w : World) (h : n = 1 ∨ n = 2 ∨ n = 4 ∨ n = 8) (hl : (len : Int) ≤ 9223372036854775807) (hp0 : 0 ≤ p) (hp1 : p ≤ 18446744073709551615) (hs : (len : Int) < p + n) :
    Calls Tryd.prog 41 #[.slice a len cap, .int .u64 p, .int .i64 n, .int .u64 x] w fun e w' => e = .returned (.tuple #[.slice none 0 0, .int .i64 10]) ∧ w = w' := by
  have H := Lib.hid h
  clear h
  go_enter Tryd.func41, Tryd.ntmps41
  go_wp2_with (go_at_call 45; refine (check_range _ _ _ _ _ _ H.out hl hp0 hp1 hs).mono ?_; rintro e w' ⟨rfl, rfl⟩)
  go_ret2
  exact ⟨rfl, rfl⟩

set_option maxHeartbeats 800000 in
theorem set_ok (B : Nat) (a : Option Addr) (len cap : Nat) (zs : List Int) (p n : Nat) (x : Int) (w : World) (hb : Bys w B a len zs) (hB : B ≤ w.heap.size) (h : n = 1 ∨ n = 2 ∨ n = 4 ∨ n = 8) (hl : len ≤ 140737488355328) (hs : p + n ≤ len) (x0 : 0 ≤ x) (x1 : x ≤ 18446744073709551615) :
    Calls Tryd.prog 41 #[.slice a len cap, .int .u64 p, .int .i64 n, .int .u64 x] w fun e w' =>
      e = .returned (.tuple #[.slice (some ⟨w.heap.size, 0, none⟩) len len, .int .i64 0]) ∧ w'.ownsRow w.heap.size 5 1 (.slice (some ⟨w.heap.size, 0, none⟩) len len) len ((setB zs p x n).map (Value.int .u8)) ∧ Below w.heap.size w w' := by
  obtain ⟨i0, hi, hz0, hz1, hz2⟩ := info_parts info_u8
  obtain ⟨hz, hbd, hat⟩ := hb
  obtain ⟨b, off, rfl, hbB, hcell⟩ := hat (by omega)
  clear hat
  have hn8 : n ≤ 8 := by omega
  have hsi : (p : Int) + (n : Int) ≤ (len : Int) := by omega
  have hli : (len : Int) ≤ 9223372036854775807 := by omega
  have Hn : Hid ((n : Int) = 1 ∨ (n : Int) = 2 ∨ (n : Int) = 4 ∨ (n : Int) = 8) := Lib.hid (by omega)
  have HC := Lib.hid hcell
  have HBD := Lib.hid hbd
  have HZ := Lib.hid hz
  have HI := Lib.hid hi
  have HZ0 := Lib.hid hz0
  have HZ1 := Lib.hid hz1
  have HZ2 := Lib.hid hz2
  clear h hcell hbd hz hi hz0 hz1 hz2
  go_enter Tryd.func41, Tryd.ntmps41
  go_wp2_with (first | (go_at_call 45; refine (check_ok _ _ _ _ _ _ Hn.out hli (by omega) hsi).mono ?_; rintro e w' ⟨rfl, rfl⟩) | (at_make; refine wpList_make_full _ rfl _ _ 32 rfl w.heap.size 5 i0 (.int .u8 0) 1 Tryd.underlying32 HI.out HZ0.out HZ1.out .i64 .i64 _ _ len rfl rfl rfl rfl ?c1 ?c2 ?c3 ?_))
  case c1 => rw [HZ2.out]; omega
  case c2 => unfold maxLen; omega
  case c3 => exact Nat.le_refl _
  intro w1 hown hg
  have hb1 : Below w.heap.size w w1 := (Below.refl _ _).grown hg (Nat.le_refl _) (fun _ e => by cases e)
  have HW := Lib.hid (own_whole hown)
  rw [toList_madeCells_one] at HW
  clear hown hg
  have hsrc := Bys.src (w := w1) (b := b) (off := off) HZ.out (fun i hi => (hb1.cell (p := ⟨b, off + i, none⟩) (by show b < _; omega)).trans (HC.out i hi))
  have HSRC := Lib.hid hsrc
  clear hsrc HC
  go_wp2_with (with_reducible refine wpList_copy_splice rfl _ _ 32 32 rfl 5 Tryd.underlying32 size_u8 _ _ _ _ _ _ rfl rfl w.heap.size 0 (List.replicate len (.int .u8 0)) 5 HW.out (zs.map (Value.int .u8)) ?d1 (fun _ => ⟨rfl, _, rfl, HSRC.out⟩) ?d3 ?d4 w.heap.size w hb1 (Nat.le_refl _) ?_)
  case d1 => rw [List.length_map, HZ.out]; exact (Nat.min_self len).symm
  case d3 => rw [List.length_map, List.length_replicate, HZ.out]; omega
  case d4 => exact one_u8 zs
  intro w2 HG hb2
  have HO := HG.out
  rw [splice_all _ _ (by rw [List.length_map, List.length_replicate, HZ.out])] at HO
  have HOWN := Lib.hid (own_of_whole (base := w.heap.size) (n := len) (Nat.le_refl _) (by unfold maxLen; omega) (by rw [List.length_map, HZ.out]) HO)
  clear HG HO HW HSRC hb1
  go_wp2
  go_loopw [12, 27] (fun _ i wr => ∃ k : Nat, k ≤ n ∧ i = .int .i64 k ∧ wr.ownsRow w.heap.size 5 1 (.slice (some ⟨w.heap.size, 0, none⟩) len len) len ((setB zs p x k).map (Value.int .u8)) ∧ Below w.heap.size w wr) (fun _ i _ => n - (intOf i).toNat)
  case atStart => exact ⟨0, Nat.zero_le _, rfl, by rw [setB_zero]; exact HOWN.out, hb2⟩
  case round =>
    obtain ⟨k, hk, rfl, hown, hbel⟩ := hrel
    by_cases hlt : k < n
    · have hlen := HZ.out
      have hsl := setB_len (zs := zs) (p := p) (k := k) x (by omega)
      have hc := hown.cellAt (p + k) (by omega)
      rw [getElem_map_u8 (by omega)] at hc
      have hf := hown.frozenAt (p + k)
      have hst := hown.stored (p + k) (.int .u8 (x / 256 ^ k % 256))
      rw [map_set_u8, setB_succ x (by omega)] at hst
      have hbs := hbel.setCell (p := ⟨w.heap.size, p + k, none⟩) (Nat.le_refl _) (.int .u8 (x / 256 ^ k % 256))
      have HST := Lib.hid hst
      have HBS := Lib.hid hbs
      have HSB := Lib.hid (shr_byte x k)
      clear hown hbel hst hbs hlen hsl
      go_wp2
      go_roundw
      case rel => exact ⟨k + 1, by omega, by go_num, by rw [HSB.out]; exact HST.out.1, by rw [HSB.out]; exact HBS.out⟩
      case measure => simp [intOf]; omega
    · obtain rfl : k = n := by omega
      have HOW := Lib.hid hown
      clear hown
      go_wp2
      go_ret2
      exact ⟨rfl, HOW.out, hbel⟩
end Go.Proofs.YtkhfmgifpppcmaaDoor
