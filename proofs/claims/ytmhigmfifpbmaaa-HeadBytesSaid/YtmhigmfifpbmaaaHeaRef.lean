/-
  What is proved here: Put of the reference of head: the 64 bytes of a head that may be, in new memory, or the error that the document names; nothing that was there is written.
  Conditions: none but that the arguments are values of their types.
-/
import Derived.Test.YtmhigmfifpbmaaaHeaPlain
namespace Go.Proofs.Ytmhigmfifpbmaaa
open Go.RowKit
set_option linter.unusedVariables false

set_option maxRecDepth 100000 in
set_option maxHeartbeats 800000 in
theorem rnumber_ok (base : Nat) (v : Value) (m : Nat) (zs : List Int) (x : Int) (n : Nat) (w : World) (ho : w.ownsRow base 5 1 v m (zs.map (Value.int .u8))) (hbase : base ≤ w.heap.size) (hm : m + n ≤ 1000000) (x0 : 0 ≤ x) (x1 : x ≤ 18446744073709551615) :
    Calls Try.prog 16 #[v, .int .u64 x, .int .i64 n] w fun r w' => ∃ v', r = .returned v' ∧ w'.ownsRow base 5 1 v' (m + n) ((zs ++ digs x n).map (Value.int .u8)) ∧ Below base w w' := by
  obtain ⟨i0, hi, hz0, hz1, hz2⟩ := info_parts info_u8
  have HO := Lib.hid ho
  have HI := Lib.hid hi
  have HZ0 := Lib.hid hz0
  have HZ1 := Lib.hid hz1
  have HZ2 := Lib.hid hz2
  have hni : (n : Int) ≤ 1000000 := by omega
  clear ho hi hz0 hz1 hz2
  go_enter Try.func16, Try.ntmps16
  go_wp2
  go_loopw [0, 1, 7] (fun v' y i wr => ∃ k : Nat, k ≤ n ∧ i = .int .i64 k ∧ y = .int .u64 (x / 256 ^ k) ∧ wr.ownsRow base 5 1 v' (m + k) ((zs ++ digs x k).map (Value.int .u8)) ∧ Below base w wr) (fun _ _ i _ => n - (intOf i).toNat)
  case atStart => exact ⟨0, Nat.zero_le _, rfl, by simp, by simpa [digs] using HO.out, Below.refl _ _⟩
  case round =>
    obtain ⟨k, hk, rfl, rfl, hown, hbel⟩ := hrel
    by_cases hlt : k < n
    · have hdv := Lib.hid (div_step x k)
      have hdg : Hid (digs x (k + 1) = digs x k ++ [x / 256 ^ k % 256]) := Lib.hid rfl
      have hy0 : 0 ≤ x / 256 ^ k := Int.ediv_nonneg x0 (Int.pow_nonneg (by decide))
      have hy1 : x / 256 ^ k ≤ 18446744073709551615 := Int.le_trans (Int.ediv_le_self _ x0) x1
      generalize x / 256 ^ k = y at hdv hdg hy0 hy1 ⊢
      have hsz := hbel.size
      have HOWN := Lib.hid hown
      clear hown
      go_wp2_with (at_builtin; refine wpList_append_own _ rfl _ _ 26 rfl base 5 i0 (.int .u8 0) 1 1 Try.underlying26 HI.out HZ0.out HZ1.out HZ2.out rfl (by decide) _ (m + k) _ rfl (HOWN.out.alloc _) ⟨wr.heap.size, 0, none⟩ 1 1 [.int .u8 (y % 256)] rfl rfl ?c1 ?c2 ?c3 ?c4 ?c5 ?_)
      case c1 => exact cell_one_new _ _ _
      case c2 => intro u hu; obtain rfl := List.mem_singleton.1 hu; rfl
      case c3 => unfold maxLen; omega
      case c4 => omega
      case c5 => simp; omega
      intro v2 w2 hown2 hg2 hnil2
      have hb2 : Below base w w2 := (hbel.alloc (by omega) _).grown hg2 (by simp; omega) (fun q e => (HOWN.out.lt q e).1)
      have HO2 : Hid (w2.ownsRow base 5 1 v2 (m + (k + 1)) ((zs ++ digs x (k + 1)).map (Value.int .u8))) := Lib.hid (by
        rw [hdg.out]; simpa only [List.map_append, List.append_assoc, List.map_cons, List.map_nil, Nat.add_assoc] using hown2)
      clear hown2 hg2 hnil2 hbel
      go_wp2
      go_roundw
      case rel => exact ⟨k + 1, by omega, by go_num, by rw [hdv.out], HO2.out, hb2⟩
      case measure => simp [intOf]; omega
    · obtain rfl : k = n := by omega
      have HOW := Lib.hid hown
      clear hown
      go_wp2
      go_ret
      exact ⟨_, rfl, HOW.out, hbel⟩

set_option maxHeartbeats 800000 in
theorem rput_arg (k e s c : Int) (w : World) (h : validB k c = false) :
    Calls Try.prog 9 #[headV k e s c] w fun r w' => r = .returned (.tuple #[.slice none 0 0, .int .i64 1]) ∧ Below w.heap.size w w' := by
  have hbl : ∀ o, Below w.heap.size w (w.alloc o) := fun o => (Below.refl _ _).alloc (Nat.le_refl _) o
  have HN := Lib.hid h
  clear h
  unfold headV
  by_cases h1 : k < 2
  · go_enter Try.func9, Try.ntmps9
    go_wp2
    go_ret2
    exact ⟨rfl, hbl _⟩
  · by_cases h2 : 4 < k
    · go_enter Try.func9, Try.ntmps9
      go_wp2
      go_ret2
      exact ⟨rfl, hbl _⟩
    · by_cases h3 : c < 0
      · go_enter Try.func9, Try.ntmps9
        go_wp2
        go_ret2
        exact ⟨rfl, hbl _⟩
      · have h4 : 64 < c := by
          rcases Int.lt_or_le 64 c with h | h
          · exact h
          · have := (validB_iff (k := k) (c := c)).2 ⟨by omega, by omega, by omega, h⟩
            rw [HN.out] at this; cases this
        go_enter Try.func9, Try.ntmps9
        go_wp2
        go_ret2
        exact ⟨rfl, hbl _⟩

theorem noughts12 : digs 0 12 = digs 0 8 ++ digs 0 4 := by decide
theorem noughts6 : digs 0 6 = digs 0 2 ++ (digs 0 2 ++ digs 0 2) := by decide

/-- The first call, behind the head's box and the literal. -/
theorem rput_first (k e s c : Int) (w : World) (k0 : 2 ≤ k) (k1 : k ≤ 4) :
    Calls Try.prog 16 #[.slice (some ⟨w.heap.size + 1, 0, none⟩) 16 16, .int .u64 k, .int .i64 2]
      ((w.alloc (.cells #[.int .i64 k, .int .u64 e, .int .u64 s, .int .i64 c] 31)).alloc (.cells #[.int .u8 127, .int .u8 69, .int .u8 76, .int .u8 70, .int .u8 2, .int .u8 1, .int .u8 1, .int .u8 0, .int .u8 0, .int .u8 0, .int .u8 0, .int .u8 0, .int .u8 0, .int .u8 0, .int .u8 0, .int .u8 0] 5)) fun r w' =>
      ∃ v', r = .returned v' ∧ w'.ownsRow (w.heap.size + 1) 5 1 v' 18 ((hd0 ++ digs k 2).map (Value.int .u8)) ∧ Below w.heap.size w w' ∧ w.heap.size + 2 ≤ w'.heap.size ∧
        w'.cell? ⟨w.heap.size, 0, none⟩ = some (.int .i64 k) ∧ w'.cell? ⟨w.heap.size, 1, none⟩ = some (.int .u64 e) ∧ w'.cell? ⟨w.heap.size, 2, none⟩ = some (.int .u64 s) ∧ w'.cell? ⟨w.heap.size, 3, none⟩ = some (.int .i64 c) := by
  have ho := own_alloc (w.alloc (.cells #[.int .i64 k, .int .u64 e, .int .u64 s, .int .i64 c] 31)) (w.heap.size + 1) 5 (hd0.map (Value.int .u8)) (by simp) (by decide)
  have hb0 := (((Below.refl w.heap.size w).alloc (Nat.le_refl _) (.cells #[.int .i64 k, .int .u64 e, .int .u64 s, .int .i64 c] 31)).alloc (by simp) (.cells (hd0.map (Value.int .u8)).toArray 5))
  have hsz : ((w.alloc (.cells #[.int .i64 k, .int .u64 e, .int .u64 s, .int .i64 c] 31)).alloc (.cells (hd0.map (Value.int .u8)).toArray 5)).heap.size = w.heap.size + 2 := by simp
  have q0 : ((w.alloc (.cells #[.int .i64 k, .int .u64 e, .int .u64 s, .int .i64 c] 31)).alloc (.cells (hd0.map (Value.int .u8)).toArray 5)).cell? ⟨w.heap.size, 0, none⟩ = some (.int .i64 k) := by simp [World.cell?_alloc_past, World.cell?_alloc_at]
  have q1 : ((w.alloc (.cells #[.int .i64 k, .int .u64 e, .int .u64 s, .int .i64 c] 31)).alloc (.cells (hd0.map (Value.int .u8)).toArray 5)).cell? ⟨w.heap.size, 1, none⟩ = some (.int .u64 e) := by simp [World.cell?_alloc_past, World.cell?_alloc_at]
  have q2 : ((w.alloc (.cells #[.int .i64 k, .int .u64 e, .int .u64 s, .int .i64 c] 31)).alloc (.cells (hd0.map (Value.int .u8)).toArray 5)).cell? ⟨w.heap.size, 2, none⟩ = some (.int .u64 s) := by simp [World.cell?_alloc_past, World.cell?_alloc_at]
  have q3 : ((w.alloc (.cells #[.int .i64 k, .int .u64 e, .int .u64 s, .int .i64 c] 31)).alloc (.cells (hd0.map (Value.int .u8)).toArray 5)).cell? ⟨w.heap.size, 3, none⟩ = some (.int .i64 c) := by simp [World.cell?_alloc_past, World.cell?_alloc_at]
  rw [World.size_alloc] at ho
  refine (rnumber_ok (w.heap.size + 1) _ 16 hd0 k 2 _ ho (by omega) (by decide) (by omega) (by omega)).mono ?_
  rintro r w' ⟨v', hr, ho', hb'⟩
  exact ⟨v', hr, ho', hb0.trans (hb'.mono (Nat.le_succ _)), by rw [← hsz]; exact hb'.size, (hb'.cell (p := ⟨w.heap.size, 0, none⟩) (Nat.lt_succ_self _)).trans q0, (hb'.cell (p := ⟨w.heap.size, 1, none⟩) (Nat.lt_succ_self _)).trans q1, (hb'.cell (p := ⟨w.heap.size, 2, none⟩) (Nat.lt_succ_self _)).trans q2, (hb'.cell (p := ⟨w.heap.size, 3, none⟩) (Nat.lt_succ_self _)).trans q3⟩

set_option maxRecDepth 100000 in
set_option maxHeartbeats 1600000 in
theorem rput_ok (k e s c : Int) (w : World) (h : validB k c = true) (e0 : 0 ≤ e) (e1 : e ≤ 18446744073709551615) (s0 : 0 ≤ s) (s1 : s ≤ 18446744073709551615) :
    Calls Try.prog 9 #[headV k e s c] w fun r w' => (∃ u, r = .returned (.tuple #[u, .int .i64 0]) ∧ w'.ownsRow w.heap.size 5 1 u 64 ((enc k e s c).map (Value.int .u8))) ∧ Below w.heap.size w w' := by
  obtain ⟨k0, k1, c0, c1⟩ := validB_iff.1 h
  clear h
  unfold headV
  go_enter Try.func9, Try.ntmps9
  go_wp2_with (go_at_call 16; refine (rput_first k e s c w k0 k1).mono ?_)
  rintro r w1 ⟨v1, rfl, ho, hb, hs, q0, q1, q2, q3⟩
  have HO1 := Lib.hid ho
  have HBW := Lib.hid hb
  have HS1 := Lib.hid hs
  have HB1 : Hid (Below (w.heap.size + 1) w1 w1) := Lib.hid (Below.refl _ _)
  have HQ : Hid (∀ w', Below (w.heap.size + 1) w1 w' → w'.cell? ⟨w.heap.size, 0, none⟩ = some (.int .i64 k) ∧ w'.cell? ⟨w.heap.size, 1, none⟩ = some (.int .u64 e) ∧ w'.cell? ⟨w.heap.size, 2, none⟩ = some (.int .u64 s) ∧ w'.cell? ⟨w.heap.size, 3, none⟩ = some (.int .i64 c)) := Lib.hid (fun w' hb =>
    ⟨(hb.cell (p := ⟨w.heap.size, 0, none⟩) (Nat.lt_succ_self _)).trans q0, (hb.cell (p := ⟨w.heap.size, 1, none⟩) (Nat.lt_succ_self _)).trans q1, (hb.cell (p := ⟨w.heap.size, 2, none⟩) (Nat.lt_succ_self _)).trans q2, (hb.cell (p := ⟨w.heap.size, 3, none⟩) (Nat.lt_succ_self _)).trans q3⟩)
  clear ho hb hs
  go_wp2_with (go_at_call 16; refine (rnumber_ok (w.heap.size + 1) _ _ _ 19823 2 _ HO1.out (by have := HS1.out; have := HB1.out.size; omega) (by decide) (by decide) (by decide)).mono ?_)
  rintro r w2 ⟨v2, rfl, ho, hb⟩
  have HO2 := Lib.hid ho
  have HB2 := Lib.hid (HB1.out.trans hb)
  have ⟨q0, q1, q2, q3⟩ := HQ.out _ HB2.out
  clear ho hb
  go_wp2_with (go_at_call 16; refine (rnumber_ok (w.heap.size + 1) _ _ _ 1 4 _ HO2.out (by have := HS1.out; have := HB2.out.size; omega) (by decide) (by decide) (by decide)).mono ?_)
  rintro r w3 ⟨v3, rfl, ho, hb⟩
  have HO3 := Lib.hid ho
  have HB3 := Lib.hid (HB2.out.trans hb)
  have ⟨q0, q1, q2, q3⟩ := HQ.out _ HB3.out
  clear ho hb
  go_wp2_with (go_at_call 16; refine (rnumber_ok (w.heap.size + 1) _ _ _ e 8 _ HO3.out (by have := HS1.out; have := HB3.out.size; omega) (by decide) e0 e1).mono ?_)
  rintro r w4 ⟨v4, rfl, ho, hb⟩
  have HO4 := Lib.hid ho
  have HB4 := Lib.hid (HB3.out.trans hb)
  have ⟨q0, q1, q2, q3⟩ := HQ.out _ HB4.out
  clear ho hb
  go_wp2_with (go_at_call 16; refine (rnumber_ok (w.heap.size + 1) _ _ _ s 8 _ HO4.out (by have := HS1.out; have := HB4.out.size; omega) (by decide) s0 s1).mono ?_)
  rintro r w5 ⟨v5, rfl, ho, hb⟩
  have HO5 := Lib.hid ho
  have HB5 := Lib.hid (HB4.out.trans hb)
  have ⟨q0, q1, q2, q3⟩ := HQ.out _ HB5.out
  clear ho hb
  go_wp2_with (go_at_call 16; refine (rnumber_ok (w.heap.size + 1) _ _ _ 0 12 _ HO5.out (by have := HS1.out; have := HB5.out.size; omega) (by decide) (by decide) (by decide)).mono ?_)
  rintro r w6 ⟨v6, rfl, ho, hb⟩
  have HO6 := Lib.hid ho
  have HB6 := Lib.hid (HB5.out.trans hb)
  have ⟨q0, q1, q2, q3⟩ := HQ.out _ HB6.out
  clear ho hb
  go_wp2_with (go_at_call 16; refine (rnumber_ok (w.heap.size + 1) _ _ _ 64 2 _ HO6.out (by have := HS1.out; have := HB6.out.size; omega) (by decide) (by decide) (by decide)).mono ?_)
  rintro r w7 ⟨v7, rfl, ho, hb⟩
  have HO7 := Lib.hid ho
  have HB7 := Lib.hid (HB6.out.trans hb)
  have ⟨q0, q1, q2, q3⟩ := HQ.out _ HB7.out
  clear ho hb
  go_wp2_with (go_at_call 16; refine (rnumber_ok (w.heap.size + 1) _ _ _ 56 2 _ HO7.out (by have := HS1.out; have := HB7.out.size; omega) (by decide) (by decide) (by decide)).mono ?_)
  rintro r w8 ⟨v8, rfl, ho, hb⟩
  have HO8 := Lib.hid ho
  have HB8 := Lib.hid (HB7.out.trans hb)
  have ⟨q0, q1, q2, q3⟩ := HQ.out _ HB8.out
  clear ho hb
  go_wp2_with (go_at_call 16; refine (rnumber_ok (w.heap.size + 1) _ _ _ c 2 _ HO8.out (by have := HS1.out; have := HB8.out.size; omega) (by decide) (by omega) (by omega)).mono ?_)
  rintro r w9 ⟨v9, rfl, ho, hb⟩
  have HO9 := Lib.hid ho
  have HB9 := Lib.hid (HB8.out.trans hb)
  have ⟨q0, q1, q2, q3⟩ := HQ.out _ HB9.out
  clear ho hb
  go_wp2_with (go_at_call 16; refine (rnumber_ok (w.heap.size + 1) _ _ _ 0 6 _ HO9.out (by have := HS1.out; have := HB9.out.size; omega) (by decide) (by decide) (by decide)).mono ?_)
  rintro r w10 ⟨v10, rfl, ho, hb⟩
  have HO10 := Lib.hid ho
  have HB10 := Lib.hid (HB9.out.trans hb)
  have ⟨q0, q1, q2, q3⟩ := HQ.out _ HB10.out
  clear ho hb
  have HF : Hid (w10.ownsRow w.heap.size 5 1 v10 64 ((enc k e s c).map (Value.int .u8))) := Lib.hid (by
    have h1 := own_base HO10.out (Nat.le_succ w.heap.size)
    rw [noughts6, noughts12] at h1
    simpa only [enc, List.append_assoc] using h1)
  go_wp2
  go_ret2
  exact ⟨⟨_, rfl, HF.out⟩, HBW.out.trans (HB10.out.mono (Nat.le_succ _))⟩
end Go.Proofs.Ytmhigmfifpbmaaa
