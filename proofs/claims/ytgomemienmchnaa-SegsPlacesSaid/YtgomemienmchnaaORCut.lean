/-
  What is proved here: Cut of the reference of octets.
  Conditions: slices of at most 2^47 bytes, values of their types.
-/
import Derived.Test.YtgomemienmchnaaORGet
namespace Go.Proofs.Ytgomemienmchnaa
open Go.RowKit
set_option linter.unusedVariables false

set_option maxHeartbeats 400000 in
theorem rcut_range (a : Option Addr) (len cap : Nat) (p s : Int) (w : World) (hl : (len : Int) ≤ 9223372036854775807) (hp0 : 0 ≤ p) (hp1 : p ≤ 18446744073709551615) (hs0 : 0 ≤ s) (hs1 : s ≤ 18446744073709551615) (h : (len : Int) < p + s) :
    Calls Try.prog 31 #[.slice a len cap, .int .u64 p, .int .u64 s] w fun e w' => e = .returned (.tuple #[.slice none 0 0, .int .i64 10]) ∧ w = w' := by
  go_enter Try.func31, Try.ntmps31
  go_wp2_with (go_at_call 46; refine (inside_no _ _ _ _ (by omega) hl hp0 hp1 hs0 hs1 h).mono ?_; rintro e w' ⟨rfl, rfl⟩)
  go_ret2
  exact ⟨rfl, rfl⟩

set_option maxHeartbeats 800000 in
theorem rcut_ok (B : Nat) (a : Option Addr) (len cap : Nat) (zs : List Int) (p s : Nat) (w : World) (hb : Bys w B a len zs) (hB : B ≤ w.heap.size) (hl : len ≤ 140737488355328) (hs : p + s ≤ len) :
    Calls Try.prog 31 #[.slice a len cap, .int .u64 p, .int .u64 s] w fun e w' =>
      ∃ a' c, e = .returned (.tuple #[.slice a' s c, .int .i64 0]) ∧ w'.ownsRow w.heap.size 5 1 (.slice a' s c) s ((piece zs p s).map (Value.int .u8)) ∧ Below w.heap.size w w' := by
  obtain ⟨i0, hi, hz0, hz1, hz2⟩ := info_parts info_u8
  have HBYS := Lib.hid hb
  have hsi : (p : Int) + (s : Int) ≤ (len : Int) := by omega
  have hli : (len : Int) ≤ 9223372036854775807 := by omega
  have HZ := Lib.hid hb.1
  have HI := Lib.hid hi
  have HZ0 := Lib.hid hz0
  have HZ1 := Lib.hid hz1
  have HZ2 := Lib.hid hz2
  clear hb hi hz0 hz1 hz2
  go_enter Try.func31, Try.ntmps31
  go_wp2_with (go_at_call 46; refine (inside_yes _ _ _ _ (by omega) hli (by omega) (by omega) hsi).mono ?_; rintro e w' ⟨rfl, rfl⟩)
  go_loopw [9, 10] (fun v i wr => ∃ k : Nat, k ≤ s ∧ i = .int .u64 k ∧ wr.ownsRow w.heap.size 5 1 v k ((piece zs p k).map (Value.int .u8)) ∧ Below w.heap.size w wr) (fun _ i _ => s - (intOf i).toNat)
  case atStart => exact ⟨0, Nat.zero_le _, rfl, World.ownsRow_nil _ _ _ _, Below.refl _ _⟩
  case round =>
    obtain ⟨k, hk, rfl, hown, hbel⟩ := hrel
    by_cases hlt : k < s
    · obtain ⟨b, off, rfl, hbB, hcell⟩ := HBYS.out.2.2 (by omega)
      have hc := (hbel.cell (p := ⟨b, off + (p + k), none⟩) (by show b < _; omega)).trans (hcell (p + k) (by omega))
      have hps := piece_succ (zs := zs) (p := p) (k := k) (by have := HZ.out; omega)
      have hsz := hbel.size
      generalize zs.getD (p + k) 0 = y at hc hps
      have HPS := Lib.hid hps
      have HOWN := Lib.hid hown
      clear hcell hown hps
      go_wp2_with (at_builtin; refine wpList_append_own _ rfl _ _ 27 rfl w.heap.size 5 i0 (.int .u8 0) 1 1 Try.underlying27 HI.out HZ0.out HZ1.out HZ2.out rfl (by decide) _ k ((piece zs p k).map (Value.int .u8)) rfl (HOWN.out.alloc _) ⟨wr.heap.size, 0, none⟩ 1 1 [.int .u8 y] rfl rfl ?c1 ?c2 ?c3 ?c4 ?c5 ?_)
      case c1 => exact cell_one_new _ _ _
      case c2 => intro u hu; obtain rfl := List.mem_singleton.1 hu; rfl
      case c3 => unfold maxLen; omega
      case c4 => omega
      case c5 => simp; omega
      intro v' w2 hown2 hg2 hnil2
      have hb2 : Below w.heap.size w w2 := (hbel.alloc hsz _).grown hg2 (by simp; omega) (fun q e => (HOWN.out.lt q e).1)
      have HO2 : Hid (w2.ownsRow w.heap.size 5 1 v' (k + 1) ((piece zs p (k + 1)).map (Value.int .u8))) := by
        rw [HPS.out, List.map_append]; exact hown2
      clear hown2 hg2 hnil2 hc hbel
      go_wp2
      go_roundw
      case rel => exact ⟨k + 1, by omega, by go_num, HO2.out, hb2⟩
      case measure => simp [intOf]; omega
    · obtain rfl : k = s := by omega
      obtain ⟨a', c, rfl⟩ := own_slice hown
      have HOW := Lib.hid hown
      clear hown
      go_wp2
      go_ret2
      exact ⟨a', c, rfl, HOW.out, hbel⟩
end Go.Proofs.Ytgomemienmchnaa
