/-
  What is proved here: the small functions of the reference of notes: four, padded, up; one byte behind a row of the call's own.
  Conditions: none but that the arguments are values of their types, and a row of less than a million bytes.
-/
import Derived.Test.YtkgakdlalmmdiaaNotMath
import Derived.Test.YtkgakdlalmmdiaaBaseP
import Derived.Test.YtkgakdlalmmdiaaApp
namespace Go.Proofs.Ytkgakdlalmmdiaa
open Go.RowKit
set_option linter.unusedVariables false
set_option linter.unusedSimpArgs false

set_option maxRecDepth 100000 in
set_option maxHeartbeats 800000 in
theorem four8_ok (base : Nat) (v : Value) (m : Nat) (zs : List Int) (x : Int) (w : World) (ho : w.ownsRow base 5 1 v m (zs.map (Value.int .u8))) (hbase : base ≤ w.heap.size) (hm : m + 4 ≤ 1000000) (x0 : 0 ≤ x) (x1 : x ≤ 18446744073709551615) :
    Calls Try.prog 21 #[v, .int .u64 x] w fun r w' => ∃ v', r = .returned v' ∧ w'.ownsRow base 5 1 v' (m + 4) ((zs ++ digs x 4).map (Value.int .u8)) ∧ Below base w w' := by
  obtain ⟨i0, hi, hz0, hz1, hz2⟩ := info_parts info_u8
  have HO := Lib.hid ho
  have HI := Lib.hid hi
  have HZ0 := Lib.hid hz0
  have HZ1 := Lib.hid hz1
  have HZ2 := Lib.hid hz2
  clear ho hi hz0 hz1 hz2
  go_enter Try.func21, Try.ntmps21
  go_wp2
  go_loopw [0, 1, 5] (fun v' y i wr => ∃ k : Nat, k ≤ 4 ∧ i = .int .i64 k ∧ y = .int .u64 (x / 256 ^ k) ∧ wr.ownsRow base 5 1 v' (m + k) ((zs ++ digs x k).map (Value.int .u8)) ∧ Below base w wr) (fun _ _ i _ => 4 - (intOf i).toNat)
  case atStart => exact ⟨0, Nat.zero_le _, rfl, by simp, by simpa [digs] using HO.out, Below.refl _ _⟩
  case round =>
    obtain ⟨k, hk, rfl, rfl, hown, hbel⟩ := hrel
    by_cases hlt : k < 4
    · have hdv := Lib.hid (div_step x k)
      have hdg : Hid (digs x (k + 1) = digs x k ++ [x / 256 ^ k % 256]) := Lib.hid rfl
      have hy0 : 0 ≤ x / 256 ^ k := Int.ediv_nonneg x0 (Int.pow_nonneg (by decide))
      have hy1 : x / 256 ^ k ≤ 18446744073709551615 := Int.le_trans (Int.ediv_le_self _ x0) x1
      generalize x / 256 ^ k = y at hdv hdg hy0 hy1 ⊢
      have hsz := hbel.size
      have HOWN := Lib.hid hown
      clear hown
      go_wp2_with (at_builtin; refine wpList_append_own _ rfl _ _ 25 rfl base 5 i0 (.int .u8 0) 1 1 Try.underlying25 HI.out HZ0.out HZ1.out HZ2.out rfl (by decide) _ (m + k) _ rfl (HOWN.out.alloc _) ⟨wr.heap.size, 0, none⟩ 1 1 [.int .u8 (y % 256)] rfl rfl ?c1 ?c2 ?c3 ?c4 ?c5 ?_)
      case c1 => exact cell_one_new _ _ _
      case c2 => intro u hu; obtain rfl := List.mem_singleton.1 hu; rfl
      case c3 => unfold maxLen; omega
      case c4 => omega
      case c5 => simp; omega
      intro v2 w2 hown2 hg2 hnil2
      have hb2 : Below base w w2 := (hbel.alloc (by omega) _).grown hg2 (by simp; omega) (fun q e => (HOWN.out.lt q e).1)
      have HO2 : Hid (w2.ownsRow base 5 1 v2 (m + (k + 1)) ((zs ++ digs x (k + 1)).map (Value.int .u8))) := Lib.hid (by
        rw [hdg.out]; simpa only [List.map_append, List.append_assoc, List.map_cons, List.map_nil, Nat.add_assoc] using hown2)
      clear hown2 hg2 hnil2 hbel
      go_wp2
      go_roundw
      case rel => exact ⟨k + 1, by omega, by go_num, by rw [hdv.out], HO2.out, hb2⟩
      case measure => simp [intOf]; omega
    · obtain rfl : k = 4 := by omega
      have HOW := Lib.hid hown
      clear hown
      go_wp2
      go_ret
      exact ⟨_, rfl, HOW.out, hbel⟩

/-- The length of a slice. -/
def lenV : Value → Nat
  | .slice _ n _ => n
  | _ => 0
theorem up8_ok (n : Nat) (w : World) (hn : n ≤ 4294967295) :
    Calls Try.prog 28 #[.int .u64 n] w fun e w' => e = .returned (.int .u64 (upN n : Nat)) ∧ w = w' := by
  have hq : ((upN n : Nat) : Int) = (n + 3 : Int) / 4 * 4 := by unfold upN; omega
  rw [hq]
  go_enter Try.func28, Try.ntmps28
  go_wp2
  go_ret
  trivial

set_option maxRecDepth 100000 in
set_option maxHeartbeats 800000 in
theorem padded8_ok (base : Nat) (v : Value) (m : Nat) (zs : List Int) (w : World) (ho : w.ownsRow base 5 1 v m (zs.map (Value.int .u8))) (hbase : base ≤ w.heap.size) (hm : m + 4 ≤ 1000000) :
    Calls Try.prog 22 #[v] w fun r w' => ∃ v', r = .returned v' ∧ w'.ownsRow base 5 1 v' (upN m) ((padN zs).map (Value.int .u8)) ∧ Below base w w' := by
  obtain ⟨i0, hi, hz0, hz1, hz2⟩ := info_parts info_u8
  have hzl : zs.length = m := by have := ho.1; simpa using this
  have hup := upN_le m
  have HPD : Hid (padN zs = zs ++ List.replicate (upN m - m) 0) := Lib.hid (by unfold padN; rw [hzl])
  have HO := Lib.hid ho
  have HI := Lib.hid hi
  have HZ0 := Lib.hid hz0
  have HZ1 := Lib.hid hz1
  have HZ2 := Lib.hid hz2
  clear ho hi hz0 hz1 hz2
  obtain ⟨u, hu⟩ : ∃ u, upN m = u := ⟨_, rfl⟩
  rw [hu] at hup HPD ⊢
  go_enter Try.func22, Try.ntmps22
  go_wp2
  go_loopw [0] (fun v' wr => ∃ k : Nat, m + k ≤ u ∧ wr.ownsRow base 5 1 v' (m + k) ((zs ++ List.replicate k 0).map (Value.int .u8)) ∧ Below base w wr) (fun v' _ => u - lenV v')
  case atStart => exact ⟨0, by omega, by simpa using HO.out, Below.refl _ _⟩
  case round =>
    obtain ⟨k, hk, hown, hbel⟩ := hrel
    obtain ⟨a, c, rfl⟩ := own_slice hown
    by_cases hlt : m + k = u
    · have hb : ((m + k : Nat) : Int) % 4 = 0 := by omega
      obtain rfl : k = u - m := by omega
      have HF : Hid (wr.ownsRow base 5 1 (.slice a (m + (u - m)) c) u ((padN zs).map (Value.int .u8))) := Lib.hid (by
        rw [HPD.out]; rw [show m + (u - m) = u by omega] at hown ⊢; exact hown)
      clear hown
      go_wp2
      go_ret
      exact ⟨_, rfl, HF.out, hbel⟩
    · have hb : ¬ ((m + k : Nat) : Int) % 4 = 0 := by omega
      have hsz := hbel.size
      have HOWN := Lib.hid hown
      clear hown
      go_wp2_with (at_builtin; refine wpList_append_own _ rfl _ _ 25 rfl base 5 i0 (.int .u8 0) 1 1 Try.underlying25 HI.out HZ0.out HZ1.out HZ2.out rfl (by decide) _ (m + k) _ rfl (HOWN.out.alloc _) ⟨wr.heap.size, 0, none⟩ 1 1 [.int .u8 0] rfl rfl ?c1 ?c2 ?c3 ?c4 ?c5 ?_)
      case c1 => exact cell_one_new _ _ _
      case c2 => intro u hu; obtain rfl := List.mem_singleton.1 hu; rfl
      case c3 => unfold maxLen; omega
      case c4 => omega
      case c5 => simp; omega
      intro v2 w2 hown2 hg2 hnil2
      have hb2 : Below base w w2 := (hbel.alloc (by omega) _).grown hg2 (by simp; omega) (fun q e => (HOWN.out.lt q e).1)
      have HO2 : Hid (w2.ownsRow base 5 1 v2 (m + (k + 1)) ((zs ++ List.replicate (k + 1) 0).map (Value.int .u8))) := Lib.hid (by
        rw [List.map_append, List.map_replicate, List.replicate_succ']; exact hown2)
      have HV : Hid (lenV v2 = m + (k + 1)) := Lib.hid (by obtain ⟨a2, c2, rfl⟩ := own_slice HO2.out; rfl)
      clear hown2 hg2 hnil2 hbel
      go_wp2
      go_roundw
      case rel => exact ⟨k + 1, by omega, HO2.out, hb2⟩
      case measure => rw [HV.out]; simp [lenV]; omega
end Go.Proofs.Ytkgakdlalmmdiaa
