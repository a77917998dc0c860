/-
  What is proved here: Set and Cut of the reference return the bytes that the document says, in new memory, or the error that it names; nothing that was there is written.
  Conditions: slices of at most 2^47 bytes, values of their types.
-/
import Derived.Test.YtjcjngmcjlffaaaOctSets
namespace Go.Proofs.Ytjcjngmcjlffaaa
open Go.RowKit
set_option linter.unusedVariables false

theorem own_slice {w : World} {base n : Nat} {e : TypeId} {v : Value} {xs : List Value} (h : w.ownsRow base e 1 v n xs) : ∃ a c, v = .slice a n c := by
  rcases h.2 with ⟨hv, e0⟩ | ⟨g, c, cur, hv, _⟩
  · exact ⟨none, 0, by rw [hv, e0]⟩
  · exact ⟨_, _, hv⟩
theorem own_some {w : World} {base n : Nat} {e : TypeId} {v : Value} {xs : List Value} (h : w.ownsRow base e 1 v n xs) (hn : 0 < n) : ∃ g c, v = .slice (some ⟨g, 0, none⟩) n c ∧ base ≤ g := by
  rcases h.2 with ⟨hv, e0⟩ | ⟨g, c, cur, hv, hb, _⟩
  · omega
  · exact ⟨g, c, hv, hb⟩

set_option maxHeartbeats 400000 in
theorem rset_arg (a : Option Addr) (len cap : Nat) (p n x : Int) (w : World) (h1 : n ≠ 1) (h2 : n ≠ 2) (h4 : n ≠ 4) (h8 : n ≠ 8) :
    Calls Try.prog 15 #[.slice a len cap, .int .u64 p, .int .i64 n, .int .u64 x] w fun e w' => e = .returned (.tuple #[.slice none 0 0, .int .i64 1]) ∧ w = w' := by
  go_enter Try.func15, Try.ntmps15
  go_wp2_with (go_at_call 13; refine (rget_arg _ _ _ _ _ _ h1 h2 h4 h8).mono ?_; rintro e w' ⟨rfl, rfl⟩)
  go_ret2
  exact ⟨rfl, rfl⟩

set_option maxHeartbeats 400000 in
theorem rset_range (a : Option Addr) (len cap : Nat) (p n x : Int) (w : World) (h : n = 1 ∨ n = 2 ∨ n = 4 ∨ n = 8) (hl : (len : Int) ≤ 9223372036854775807) (hp0 : 0 ≤ p) (hp1 : p ≤ 18446744073709551615) (hs : (len : Int) < p + n) :
    Calls Try.prog 15 #[.slice a len cap, .int .u64 p, .int .i64 n, .int .u64 x] w fun e w' => e = .returned (.tuple #[.slice none 0 0, .int .i64 10]) ∧ w = w' := by
  have H := Lib.hid h
  clear h
  go_enter Try.func15, Try.ntmps15
  go_wp2_with (go_at_call 13; refine (rget_range _ _ _ _ _ _ H.out hl hp0 hp1 hs).mono ?_; rintro e w' ⟨rfl, rfl⟩)
  go_ret2
  exact ⟨rfl, rfl⟩

theorem div_step (x : Int) (k : Nat) : x / 256 ^ k / 256 = x / 256 ^ (k + 1) := by
  rw [Int.pow_succ, Int.ediv_ediv_of_nonneg (Int.pow_nonneg (by decide))]

set_option maxHeartbeats 800000 in
theorem rset_ok (B : Nat) (a : Option Addr) (len cap : Nat) (zs : List Int) (p n : Nat) (x : Int) (w : World) (hb : Bys w B a len zs) (hB : B ≤ w.heap.size) (h : n = 1 ∨ n = 2 ∨ n = 4 ∨ n = 8) (hl : len ≤ 140737488355328) (hs : p + n ≤ len) (x0 : 0 ≤ x) (x1 : x ≤ 18446744073709551615) :
    Calls Try.prog 15 #[.slice a len cap, .int .u64 p, .int .i64 n, .int .u64 x] w fun e w' =>
      ∃ g c, e = .returned (.tuple #[.slice (some ⟨g, 0, none⟩) len c, .int .i64 0]) ∧ w'.ownsRow w.heap.size 5 1 (.slice (some ⟨g, 0, none⟩) len c) len ((setB zs p x n).map (Value.int .u8)) ∧ Below w.heap.size w w' := by
  obtain ⟨i0, hi, hz0, hz1, hz2⟩ := info_parts info_u8
  have HBYS := Lib.hid hb
  obtain ⟨hz, hbd, hat⟩ := hb
  obtain ⟨b, off, rfl, hbB, hcell⟩ := hat (by omega)
  clear hat
  have hlp : 0 < len := by omega
  have hn8 : n ≤ 8 := by omega
  have hsi : (p : Int) + (n : Int) ≤ (len : Int) := by omega
  have hli : (len : Int) ≤ 9223372036854775807 := by omega
  have Hn : Hid (n = 1 ∨ n = 2 ∨ n = 4 ∨ n = 8) := Lib.hid (by omega)
  have HZ := Lib.hid hz
  have HI := Lib.hid hi
  have HZ0 := Lib.hid hz0
  have HZ1 := Lib.hid hz1
  have HZ2 := Lib.hid hz2
  have HSRC := Lib.hid (Bys.src hz hcell)
  clear h hcell hbd hz hi hz0 hz1 hz2
  go_enter Try.func15, Try.ntmps15
  go_wp2_with (first | (go_at_call 13; refine (rget_ok B _ _ _ zs _ _ _ HBYS.out Hn.out hli hs).mono ?_; rintro e w' ⟨rfl, rfl⟩) | (at_builtin; refine wpList_append_own _ rfl _ _ 22 rfl w.heap.size 5 i0 (.int .u8 0) 1 1 Try.underlying22 HI.out HZ0.out HZ1.out HZ2.out rfl (by decide) (.slice none 0 0) 0 [] rfl (World.ownsRow_nil _ _ _ _) ⟨b, off, none⟩ len cap (zs.map (Value.int .u8)) rfl ?c1 HSRC.out ?c2 ?c3 ?c4 ?c5 ?_))
  case c1 => rw [List.length_map, HZ.out]; omega
  case c2 => exact one_u8 zs
  case c3 => unfold maxLen; omega
  case c4 => omega
  case c5 => exact Nat.le_refl _
  intro v' w1 hown hg hnil
  have hb1 : Below w.heap.size w w1 := (Below.refl _ _).grown hg (Nat.le_refl _) (fun _ e => by cases e)
  obtain ⟨g, c, rfl, hbg⟩ := own_some hown hlp
  have HOWN := Lib.hid hown
  clear hown hg hnil HSRC
  go_wp2
  go_loopw [3, 13] (fun y i wr => ∃ k : Nat, k ≤ n ∧ i = .int .i64 k ∧ y = .int .u64 (x / 256 ^ k) ∧ wr.ownsRow w.heap.size 5 1 (.slice (some ⟨g, 0, none⟩) len c) len ((setB zs p x k).map (Value.int .u8)) ∧ Below w.heap.size w wr) (fun _ i _ => n - (intOf i).toNat)
  case atStart => exact ⟨0, Nat.zero_le _, rfl, by simp, by rw [setB_zero]; exact HOWN.out, hb1⟩
  case round =>
    obtain ⟨k, hk, rfl, rfl, hown, hbel⟩ := hrel
    by_cases hlt : k < n
    · have hlen := HZ.out
      have hsl := setB_len (zs := zs) (p := p) (k := k) x (by omega)
      have hc := hown.cellAt (p + k) (by omega)
      rw [getElem_map_u8 (by omega)] at hc
      have hf := hown.frozenAt (p + k)
      have hst := hown.stored (p + k) (.int .u8 (x / 256 ^ k % 256))
      rw [map_set_u8, setB_succ x (by omega)] at hst
      have hbs := hbel.setCell (p := ⟨g, p + k, none⟩) hbg (.int .u8 (x / 256 ^ k % 256))
      have hdv := div_step x k
      have hy0 : 0 ≤ x / 256 ^ k := Int.ediv_nonneg x0 (Int.pow_nonneg (by decide))
      have hy1 : x / 256 ^ k ≤ 18446744073709551615 := Int.le_trans (Int.ediv_le_self _ x0) x1
      generalize x / 256 ^ k = y at hst hbs hdv hy0 hy1 ⊢
      have HST := Lib.hid hst
      have HBS := Lib.hid hbs
      have HDV := Lib.hid hdv
      clear hown hbel hst hbs hlen hsl hdv
      go_wp2
      go_roundw
      case rel => exact ⟨k + 1, by omega, by go_num, by rw [HDV.out], HST.out.1, HBS.out⟩
      case measure => simp [intOf]; omega
    · obtain rfl : k = n := by omega
      have HOW := Lib.hid hown
      clear hown
      go_wp2
      go_ret2
      exact ⟨g, c, rfl, HOW.out, hbel⟩

set_option maxHeartbeats 400000 in
theorem rcut_range (a : Option Addr) (len cap : Nat) (p s : Int) (w : World) (hl : (len : Int) ≤ 9223372036854775807) (hp0 : 0 ≤ p) (hp1 : p ≤ 18446744073709551615) (hs0 : 0 ≤ s) (hs1 : s ≤ 18446744073709551615) (h : (len : Int) < p + s) :
    Calls Try.prog 17 #[.slice a len cap, .int .u64 p, .int .u64 s] w fun e w' => e = .returned (.tuple #[.slice none 0 0, .int .i64 10]) ∧ w = w' := by
  go_enter Try.func17, Try.ntmps17
  go_wp2_with (go_at_call 26; refine (inside_no _ _ _ _ (by omega) hl hp0 hp1 hs0 hs1 h).mono ?_; rintro e w' ⟨rfl, rfl⟩)
  go_ret2
  exact ⟨rfl, rfl⟩

set_option maxHeartbeats 800000 in
theorem rcut_ok (B : Nat) (a : Option Addr) (len cap : Nat) (zs : List Int) (p s : Nat) (w : World) (hb : Bys w B a len zs) (hB : B ≤ w.heap.size) (hl : len ≤ 140737488355328) (hs : p + s ≤ len) :
    Calls Try.prog 17 #[.slice a len cap, .int .u64 p, .int .u64 s] w fun e w' =>
      ∃ a' c, e = .returned (.tuple #[.slice a' s c, .int .i64 0]) ∧ w'.ownsRow w.heap.size 5 1 (.slice a' s c) s ((piece zs p s).map (Value.int .u8)) ∧ Below w.heap.size w w' := by
  obtain ⟨i0, hi, hz0, hz1, hz2⟩ := info_parts info_u8
  have HBYS := Lib.hid hb
  have hsi : (p : Int) + (s : Int) ≤ (len : Int) := by omega
  have hli : (len : Int) ≤ 9223372036854775807 := by omega
  have HZ := Lib.hid hb.1
  have HI := Lib.hid hi
  have HZ0 := Lib.hid hz0
  have HZ1 := Lib.hid hz1
  have HZ2 := Lib.hid hz2
  clear hb hi hz0 hz1 hz2
  go_enter Try.func17, Try.ntmps17
  go_wp2_with (go_at_call 26; refine (inside_yes _ _ _ _ (by omega) hli (by omega) (by omega) hsi).mono ?_; rintro e w' ⟨rfl, rfl⟩)
  go_loopw [9, 10] (fun v i wr => ∃ k : Nat, k ≤ s ∧ i = .int .u64 k ∧ wr.ownsRow w.heap.size 5 1 v k ((piece zs p k).map (Value.int .u8)) ∧ Below w.heap.size w wr) (fun _ i _ => s - (intOf i).toNat)
  case atStart => exact ⟨0, Nat.zero_le _, rfl, World.ownsRow_nil _ _ _ _, Below.refl _ _⟩
  case round =>
    obtain ⟨k, hk, rfl, hown, hbel⟩ := hrel
    by_cases hlt : k < s
    · obtain ⟨b, off, rfl, hbB, hcell⟩ := HBYS.out.2.2 (by omega)
      have hc := (hbel.cell (p := ⟨b, off + (p + k), none⟩) (by show b < _; omega)).trans (hcell (p + k) (by omega))
      have hps := piece_succ (zs := zs) (p := p) (k := k) (by have := HZ.out; omega)
      have hsz := hbel.size
      generalize zs.getD (p + k) 0 = y at hc hps
      have HPS := Lib.hid hps
      have HOWN := Lib.hid hown
      clear hcell hown hps
      go_wp2_with (at_builtin; refine wpList_append_own _ rfl _ _ 22 rfl w.heap.size 5 i0 (.int .u8 0) 1 1 Try.underlying22 HI.out HZ0.out HZ1.out HZ2.out rfl (by decide) _ k ((piece zs p k).map (Value.int .u8)) rfl (HOWN.out.alloc _) ⟨wr.heap.size, 0, none⟩ 1 1 [.int .u8 y] rfl rfl ?c1 ?c2 ?c3 ?c4 ?c5 ?_)
      case c1 => exact cell_one_new _ _ _
      case c2 => intro u hu; obtain rfl := List.mem_singleton.1 hu; rfl
      case c3 => unfold maxLen; omega
      case c4 => omega
      case c5 => simp; omega
      intro v' w2 hown2 hg2 hnil2
      have hb2 : Below w.heap.size w w2 := (hbel.alloc hsz _).grown hg2 (by simp; omega) (fun q e => (HOWN.out.lt q e).1)
      have HO2 : Hid (w2.ownsRow w.heap.size 5 1 v' (k + 1) ((piece zs p (k + 1)).map (Value.int .u8))) := by
        rw [HPS.out, List.map_append]; exact hown2
      clear hown2 hg2 hnil2 hc hbel
      go_wp2
      go_roundw
      case rel => exact ⟨k + 1, by omega, by go_num, HO2.out, hb2⟩
      case measure => simp [intOf]; omega
    · obtain rfl : k = s := by omega
      obtain ⟨a', c, rfl⟩ := own_slice hown
      have HOW := Lib.hid hown
      clear hown
      go_wp2
      go_ret2
      exact ⟨a', c, rfl, HOW.out, hbel⟩
end Go.Proofs.Ytjcjngmcjlffaaa
