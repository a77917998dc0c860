/-
  What is proved here: Cut of package octets: the bytes that the document says, in new memory, or the error that it names; nothing that was there is written.
  Conditions: slices of at most 2^47 bytes, values of their types.
-/
import Derived.Test.YtkgakdlalmmdiaaOGet
namespace Go.Proofs.Ytkgakdlalmmdiaa
open Go.RowKit
set_option linter.unusedVariables false

set_option maxRecDepth 100000 in
set_option maxHeartbeats 400000 in
theorem cut_range (a : Option Addr) (len cap : Nat) (p s : Int) (w : World) (hl : (len : Int) ≤ 9223372036854775807) (hp0 : 0 ≤ p) (hp1 : p ≤ 18446744073709551615) (hs0 : 0 ≤ s) (hs1 : s ≤ 18446744073709551615) (h : (len : Int) < p + s) :
    Calls Try.prog 24 #[.slice a len cap, .int .u64 p, .int .u64 s] w fun e w' => e = .returned (.tuple #[.slice none 0 0, .int .i64 10]) ∧ w = w' := by
  go_enter Try.func24, Try.ntmps24
  go_wp2_with (go_at_call 34; refine (contains_no _ _ _ _ _ _ hl hp0 hp1 hs0 hs1 h).mono ?_; rintro e w' ⟨rfl, rfl⟩)
  go_ret2
  exact ⟨rfl, rfl⟩

set_option maxRecDepth 100000 in
set_option maxHeartbeats 800000 in
theorem cut_some (B : Nat) (a : Option Addr) (len cap : Nat) (zs : List Int) (p s : Nat) (w : World) (hb : Bys w B a len zs) (hB : B ≤ w.heap.size) (hcap : len ≤ cap) (hcm : (cap : Int) ≤ 9223372036854775807) (hl : len ≤ 140737488355328) (hs : p + s ≤ len) (h0 : 0 < s) :
    Calls Try.prog 24 #[.slice a len cap, .int .u64 p, .int .u64 s] w fun e w' =>
      e = .returned (.tuple #[.slice (some ⟨w.heap.size, 0, none⟩) s s, .int .i64 0]) ∧ w'.ownsRow w.heap.size 5 1 (.slice (some ⟨w.heap.size, 0, none⟩) s s) s ((piece zs p s).map (Value.int .u8)) ∧ Below w.heap.size w w' := by
  obtain ⟨i0, hi, hz0, hz1, hz2⟩ := info_parts info_u8
  have HBYS := Lib.hid hb
  have hsi : (p : Int) + (s : Int) ≤ (len : Int) := by omega
  have hli : (len : Int) ≤ 9223372036854775807 := by omega
  have hsl : s ≤ 140737488355328 := by omega
  have HI := Lib.hid hi
  have HZ0 := Lib.hid hz0
  have HZ1 := Lib.hid hz1
  have HZ2 := Lib.hid hz2
  have HPL := Lib.hid (piece_len (zs := zs) (p := p) (n := s) (by have := hb.1; omega))
  clear hb hi hz0 hz1 hz2
  go_enter Try.func24, Try.ntmps24
  go_wp2_with (first | (go_at_call 34; refine (contains_yes _ _ _ _ _ _ hli (by omega) (by omega) hsi).mono ?_; rintro e w' ⟨rfl, rfl⟩) | (at_make; refine wpList_make_full _ rfl _ _ 25 rfl w.heap.size 5 i0 (.int .u8 0) 1 Try.underlying25 HI.out HZ0.out HZ1.out .u64 .u64 _ _ s rfl rfl rfl rfl ?c1 ?c2 ?c3 ?_))
  case c1 => rw [HZ2.out]; omega
  case c2 => unfold maxLen; omega
  case c3 => exact Nat.le_refl _
  intro w1 hown hg
  have hb1 : Below w.heap.size w w1 := (Below.refl _ _).grown hg (Nat.le_refl _) (fun _ e => by cases e)
  have HW := Lib.hid (own_whole hown)
  rw [toList_madeCells_one] at HW
  clear hown hg
  obtain ⟨b, off, rfl, hbB, hcell⟩ := HBYS.out.2.2 (by omega)
  have HSRC := Lib.hid (Bys.src (w := w1) (b := b) (off := off + p) (zs := piece zs p s) (len := s) HPL.out (fun i hi => by
    rw [piece_getD hi, Nat.add_assoc]
    exact (hb1.cell (p := ⟨b, off + (p + i), none⟩) (by show b < _; omega)).trans (hcell (p + i) (by omega))))
  clear hcell
  go_wp2_with (with_reducible refine wpList_copy_splice rfl _ _ 25 25 rfl 5 Try.underlying25 size_u8 _ _ _ _ _ _ rfl rfl w.heap.size 0 (List.replicate s (.int .u8 0)) 5 HW.out ((piece zs p s).map (Value.int .u8)) ?d1 (fun _ => ⟨rfl, _, rfl, HSRC.out⟩) ?d3 ?d4 w.heap.size w hb1 (Nat.le_refl _) ?_)
  case d1 => rw [List.length_map, HPL.out]; rw [Nat.add_sub_cancel_left]; exact (Nat.min_self s).symm
  case d3 => rw [List.length_map, List.length_replicate, HPL.out]; omega
  case d4 => exact one_u8 _
  intro w2 HG hb2
  have HO := HG.out
  rw [splice_all _ _ (by rw [List.length_map, List.length_replicate, HPL.out])] at HO
  have HOWN := Lib.hid (own_of_whole (base := w.heap.size) (n := s) (Nat.le_refl _) (by unfold maxLen; omega) (by rw [List.length_map, HPL.out]) HO)
  clear HG HO HW HSRC hb1
  go_wp2
  go_ret2
  exact ⟨rfl, HOWN.out, hb2⟩

set_option maxRecDepth 100000 in
set_option maxHeartbeats 800000 in
theorem cut_none (B : Nat) (a : Option Addr) (len cap : Nat) (zs : List Int) (p s : Nat) (w : World) (hb : Bys w B a len zs) (hB : B ≤ w.heap.size) (hcap : len ≤ cap) (hcm : (cap : Int) ≤ 9223372036854775807) (hl : len ≤ 140737488355328) (hs : p + s ≤ len) (h0 : s = 0) :
    Calls Try.prog 24 #[.slice a len cap, .int .u64 p, .int .u64 s] w fun e w' =>
      e = .returned (.tuple #[.slice (some ⟨w.heap.size, 0, none⟩) s s, .int .i64 0]) ∧ w'.ownsRow w.heap.size 5 1 (.slice (some ⟨w.heap.size, 0, none⟩) s s) s ((piece zs p s).map (Value.int .u8)) ∧ Below w.heap.size w w' := by
  obtain ⟨i0, hi, hz0, hz1, hz2⟩ := info_parts info_u8
  have HBYS := Lib.hid hb
  have hsi : (p : Int) + (s : Int) ≤ (len : Int) := by omega
  have hli : (len : Int) ≤ 9223372036854775807 := by omega
  have hsl : s ≤ 140737488355328 := by omega
  have HI := Lib.hid hi
  have HZ0 := Lib.hid hz0
  have HZ1 := Lib.hid hz1
  have HZ2 := Lib.hid hz2
  have HPL := Lib.hid (piece_len (zs := zs) (p := p) (n := s) (by have := hb.1; omega))
  clear hb hi hz0 hz1 hz2
  clear HPL
  subst h0
  go_enter Try.func24, Try.ntmps24
  go_wp2_with (first | (go_at_call 34; refine (contains_yes _ _ _ _ _ _ hli (by omega) (by omega) hsi).mono ?_; rintro e w' ⟨rfl, rfl⟩) | (at_make; refine wpList_make_full _ rfl _ _ 25 rfl w.heap.size 5 i0 (.int .u8 0) 1 Try.underlying25 HI.out HZ0.out HZ1.out .u64 .u64 _ _ 0 rfl rfl rfl rfl ?c1 ?c2 ?c3 ?_))
  case c1 => rw [HZ2.out]; omega
  case c2 => unfold maxLen; omega
  case c3 => exact Nat.le_refl _
  intro w1 hown hg
  have hb1 : Below w.heap.size w w1 := (Below.refl _ _).grown hg (Nat.le_refl _) (fun _ e => by cases e)
  have HW := Lib.hid (own_whole hown)
  rw [toList_madeCells_one] at HW
  clear hown hg
  go_wp2_with (with_reducible refine wpList_copy_splice rfl _ _ 25 25 rfl 5 Try.underlying25 size_u8 _ _ _ _ _ _ rfl rfl w.heap.size 0 (List.replicate 0 (.int .u8 0)) 5 HW.out [] ?d1 (fun h => absurd h (by decide)) ?d3 ?d4 w.heap.size w hb1 (Nat.le_refl _) ?_)
  case d1 => rfl
  case d3 => exact Nat.le_refl _
  case d4 => exact fun _ h => by cases h
  all_goals
    intro w2 HG hb2
    have HOWN := Lib.hid (own_of_whole (xs := []) (base := w.heap.size) (n := 0) (Nat.le_refl _) (by unfold maxLen; omega) rfl (splice_all (List.replicate 0 (Value.int .u8 0)) [] rfl ▸ HG.out))
    clear HG HW hb1
    go_wp2
    go_ret2
    exact ⟨rfl, HOWN.out, hb2⟩

theorem cut_ok (B : Nat) (a : Option Addr) (len cap : Nat) (zs : List Int) (p s : Nat) (w : World) (hb : Bys w B a len zs) (hB : B ≤ w.heap.size) (hcap : len ≤ cap) (hcm : (cap : Int) ≤ 9223372036854775807) (hl : len ≤ 140737488355328) (hs : p + s ≤ len) :
    Calls Try.prog 24 #[.slice a len cap, .int .u64 p, .int .u64 s] w fun e w' =>
      e = .returned (.tuple #[.slice (some ⟨w.heap.size, 0, none⟩) s s, .int .i64 0]) ∧ w'.ownsRow w.heap.size 5 1 (.slice (some ⟨w.heap.size, 0, none⟩) s s) s ((piece zs p s).map (Value.int .u8)) ∧ Below w.heap.size w w' := by
  rcases Nat.eq_zero_or_pos s with h0 | h0
  · exact cut_none B a len cap zs p s w hb hB hcap hcm hl hs h0
  · exact cut_some B a len cap zs p s w hb hB hcap hcm hl hs h0
end Go.Proofs.Ytkgakdlalmmdiaa
