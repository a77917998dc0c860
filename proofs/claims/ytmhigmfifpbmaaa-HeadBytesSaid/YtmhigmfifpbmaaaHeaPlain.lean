/-
  What is proved here: the small functions of package head and of its reference: whether a head may be, the bytes of a number, the number at a place, whether bytes are equal, a head as the model has it.
  Conditions: none but that the arguments are values of their types.
-/
import Derived.Test.YtmhigmfifpbmaaaHeaMath
import Derived.Test.YtmhigmfifpbmaaaOSet
namespace Go.Proofs.Ytmhigmfifpbmaaa
open Go.RowKit
set_option linter.unusedVariables false

theorem validB_no {k c : Int} (h : ¬ (2 ≤ k ∧ k ≤ 4 ∧ 0 ≤ c ∧ c ≤ 64)) : validB k c = false := by
  cases hv : validB k c with
  | false => rfl
  | true => exact absurd (validB_iff.1 hv) h

set_option maxHeartbeats 800000 in
theorem valid_any (k e s c : Int) (w : World) :
    Calls Try.prog 13 #[headV k e s c] w fun r w' => r = .returned (.bool (validB k c)) ∧ Below w.heap.size w w' := by
  obtain ⟨b, hb⟩ : ∃ b, validB k c = b := ⟨_, rfl⟩
  rw [hb]
  have HB := Lib.hid hb
  have hbl : ∀ o, Below w.heap.size w (w.alloc o) := fun o => (Below.refl _ _).alloc (Nat.le_refl _) o
  clear hb
  unfold headV
  by_cases h1 : 2 ≤ k
  · by_cases h2 : k ≤ 4
    · by_cases h3 : 0 ≤ c
      · by_cases h4 : c ≤ 64
        · go_enter Try.func13, Try.ntmps13
          go_wp2
          go_ret
          refine ⟨ret_bool ?_, hbl _⟩
          rw [← HB.out, validB_iff.2 ⟨h1, h2, h3, h4⟩]
          try simp <;> omega
        · go_enter Try.func13, Try.ntmps13
          go_wp2
          go_ret
          refine ⟨ret_bool ?_, hbl _⟩
          rw [← HB.out, validB_no (fun h => by omega)]
          try simp <;> omega
      · go_enter Try.func13, Try.ntmps13
        go_wp2
        go_ret
        refine ⟨ret_bool ?_, hbl _⟩
        rw [← HB.out, validB_no (fun h => by omega)]
        try simp <;> omega
    · go_enter Try.func13, Try.ntmps13
      go_wp2
      go_ret
      refine ⟨ret_bool ?_, hbl _⟩
      rw [← HB.out, validB_no (fun h => by omega)]
      try simp <;> omega
  · go_enter Try.func13, Try.ntmps13
    go_wp2
    go_ret
    refine ⟨ret_bool ?_, hbl _⟩
    rw [← HB.out, validB_no (fun h => by omega)]
    try simp <;> omega

theorem setB_noughts (x : Int) (n : Nat) : setB (List.replicate n 0) 0 x n = digs x n := by
  simp [setB, List.drop_eq_nil_of_le]
theorem replicate_map (n : Nat) : List.replicate n (Value.int .u8 0) = (List.replicate n (0 : Int)).map (Value.int .u8) := by
  rw [List.map_replicate]

/-- What a call that makes bytes hands back: a slice that reads as zs. -/
def Made (zs : List Int) (u : Value) (w : World) : Prop := ∃ g c, u = .slice (some ⟨g, 0, none⟩) zs.length c ∧ zs.length ≤ c ∧ (c : Int) ≤ 9223372036854775807 ∧ Bys w w.heap.size (some ⟨g, 0, none⟩) zs.length zs
/-- A row of bytes of the call's own is such a slice. -/
theorem own_made {w : World} {base : Nat} {u : Value} {zs : List Int} (h : w.ownsRow base 5 1 u zs.length (zs.map (Value.int .u8))) (h0 : 0 < zs.length) (hz : ∀ n ∈ zs, 0 ≤ n ∧ n ≤ 255) : Made zs u w := by
  obtain ⟨g, c, rfl, _⟩ := own_some h h0
  have hcap : zs.length ≤ c ∧ c ≤ maxLen := by
    rcases h.2 with ⟨hx, _⟩ | ⟨g, c, cur, hx, _, _, h3, h4, _⟩
    · cases hx
    · injection hx with _ _ hx; subst hx; exact ⟨h3, h4⟩
  exact ⟨g, c, rfl, hcap.1, by have := hcap.2; unfold maxLen at this; omega, Bys.own hz h⟩
theorem Made.below {zs : List Int} {u : Value} {w w' : World} (h : Made zs u w) (hb : Below w.heap.size w w') : Made zs u w' := by
  obtain ⟨g, c, e, h1, h2, h3⟩ := h
  exact ⟨g, c, e, h1, h2, (h3.below hb).more hb.size⟩

set_option maxHeartbeats 800000 in
theorem number_ok (x : Int) (n : Nat) (w : World) (h : n = 1 ∨ n = 2 ∨ n = 4 ∨ n = 8) (x0 : 0 ≤ x) (x1 : x ≤ 18446744073709551615) :
    Calls Try.prog 15 #[.int .u64 x, .int .i64 n] w fun r w' => (∃ u, r = .returned u ∧ Made (digs x n) u w') ∧ Below w.heap.size w w' := by
  obtain ⟨i0, hi, hz0, hz1, hz2⟩ := info_parts info_u8
  have Hn := Lib.hid h
  have hn8 : n ≤ 8 := by omega
  have HI := Lib.hid hi
  have HZ0 := Lib.hid hz0
  have HZ1 := Lib.hid hz1
  have HZ2 := Lib.hid hz2
  clear h hi hz0 hz1 hz2
  go_enter Try.func15, Try.ntmps15
  go_wp2_with (at_make; refine wpList_make_full _ rfl _ _ 26 rfl w.heap.size 5 i0 (.int .u8 0) 1 Try.underlying26 HI.out HZ0.out HZ1.out .i64 .i64 _ _ n rfl rfl rfl rfl ?c1 ?c2 ?c3 ?_)
  case c1 => rw [HZ2.out]; omega
  case c2 => unfold maxLen; omega
  case c3 => exact Nat.le_refl _
  intro w1 hown hg
  have hb1 : Below w.heap.size w w1 := (Below.refl _ _).grown hg (Nat.le_refl _) (fun _ e => by cases e)
  rw [toList_madeCells_one, replicate_map] at hown
  have HBY := Lib.hid (Bys.own (zs := List.replicate n 0) (fun m hm => by rw [List.eq_of_mem_replicate hm]; omega) hown)
  clear hown hg
  go_wp2_with (go_at_call 20; refine (set_ok _ _ _ _ (List.replicate n 0) 0 n x _ HBY.out (Nat.le_refl _) Hn.out (by omega) (by omega) x0 x1).mono ?_)
  rintro e w2 ⟨rfl, hown, hb2⟩
  rw [setB_noughts] at hown
  have hby := Bys.own (digs_bd x n) hown
  have HM : Hid (Made (digs x n) (.slice (some ⟨w1.heap.size, 0, none⟩) n n) w2) := Lib.hid (by
    refine ⟨w1.heap.size, n, by rw [digs_len], by rw [digs_len]; exact Nat.le_refl _, by omega, ?_⟩
    rw [digs_len]; exact hby)
  have hbb := hb1.trans (hb2.mono hb1.size)
  clear hown hby hb1 hb2
  go_wp2
  go_ret
  exact ⟨⟨_, rfl, HM.out⟩, hbb⟩

set_option maxHeartbeats 400000 in
theorem read_ok (B : Nat) (a : Option Addr) (len cap : Nat) (zs : List Int) (p n : Nat) (w : World) (hb : Bys w B a len zs) (h : n = 1 ∨ n = 2 ∨ n = 4 ∨ n = 8) (hl : (len : Int) ≤ 9223372036854775807) (hs : p + n ≤ len) :
    Calls Try.prog 17 #[.slice a len cap, .int .u64 p, .int .i64 n] w fun e w' => e = .returned (.int .u64 (num (piece zs p n))) ∧ w = w' := by
  have HB := Lib.hid hb
  have Hn := Lib.hid h
  clear hb h
  go_enter Try.func17, Try.ntmps17
  go_wp2_with (go_at_call 21; refine (get_ok _ _ _ _ _ _ _ _ HB.out Hn.out hl hs).mono ?_; rintro e w' ⟨rfl, rfl⟩)
  go_ret
  exact ⟨rfl, rfl⟩

set_option maxHeartbeats 400000 in
theorem model_any (k e s c : Int) (w : World) :
    Calls Try.prog 10 #[headV k e s c] w fun r w' => r = .returned (headV k e s c) ∧ Below w.heap.size w w' := by
  unfold headV
  have hbl : ∀ o o', Below w.heap.size w ((w.alloc o).alloc o') := fun o o' => ((Below.refl _ _).alloc (Nat.le_refl _) o).alloc (by simp) o'
  go_enter Try.func10, Try.ntmps10
  go_wp2
  refine bodyPost_ret (v := .agg #[.int .i64 k, .int .u64 e, .int .u64 s, .int .i64 c]) (by simp [results, Try.results10, go_sem]) rfl ⟨rfl, hbl _ _⟩

/-- Strings of bytes are one just where the bytes are. -/
theorem strOfNums_eq {zs ys : List Int} (hz : ∀ n ∈ zs, 0 ≤ n ∧ n ≤ 255) (hy : ∀ n ∈ ys, 0 ≤ n ∧ n ≤ 255) : (strOfNums zs = strOfNums ys) ↔ zs = ys :=
  ⟨fun h => by rw [← bs_strOfNums hz, ← bs_strOfNums hy, h], fun h => by rw [h]⟩

theorem bytesOf_nums (l : List UInt8) : Lib.bytesOf (l.map fun c => (c.toNat : Int)) = l := by
  unfold Lib.bytesOf
  rw [List.map_map]
  conv => rhs; rw [← List.map_id l]
  refine List.map_congr_left fun c _ => ?_
  simp
theorem toList_inj {s t : ByteArray} (h : s.toList = t.toList) : s = t := by
  have e : ∀ s : ByteArray, s.toList = s.data.toList := fun s => by
    have := Lib.strOfNums_toList (bs s)
    rw [strOfNums_bs] at this
    rw [this, bs, bytesOf_nums]
  rw [e, e] at h
  exact ByteArray.ext (Array.ext' h)

set_option maxHeartbeats 400000 in
theorem equal_any (B B' : Nat) (a a' : Option Addr) (len len' cap cap' : Nat) (zs ys : List Int) (w : World) (hz : Bys w B a len zs) (hy : Bys w B' a' len' ys) :
    Calls Try.prog 18 #[.slice a len cap, .slice a' len' cap'] w fun r w' => r = .returned (.bool (decide (zs = ys))) ∧ w = w' := by
  have h1 := hz.conv cap
  have h2 := hy.conv cap'
  have HE := Lib.hid (strOfNums_eq hz.2.1 hy.2.1)
  clear hz hy
  go_enter Try.func18, Try.ntmps18
  have HB : Hid (((strOfNums zs).toList == (strOfNums ys).toList) = decide (zs = ys)) := Lib.hid (by
    by_cases h : zs = ys
    · subst h; simp
    · have h3 : ¬ (strOfNums zs).toList = (strOfNums ys).toList := fun e => h (HE.out.1 (toList_inj e))
      simp [h, h3])
  go_wp2
  go_ret
  exact ⟨ret_bool HB.out, rfl⟩
end Go.Proofs.Ytmhigmfifpbmaaa
