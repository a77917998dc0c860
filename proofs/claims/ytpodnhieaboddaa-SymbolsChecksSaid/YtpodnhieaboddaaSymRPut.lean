/-
  What is proved here: Put of the reference of symbols: a symbol's bytes, in new memory.
  Conditions: none but that the arguments are values of their types.
-/
import Derived.Test.YtpodnhieaboddaaSymMath
import Derived.Test.YtpodnhieaboddaaBaseP
import Derived.Test.YtpodnhieaboddaaApp
namespace Go.Proofs.Ytpodnhieaboddaa
open Go.RowKit
set_option linter.unusedVariables false
set_option linter.unusedSimpArgs false

set_option maxRecDepth 100000 in
set_option maxHeartbeats 800000 in
theorem number6_ok (base : Nat) (v : Value) (m : Nat) (zs : List Int) (x : Int) (n : Nat) (w : World) (ho : w.ownsRow base 5 1 v m (zs.map (Value.int .u8))) (hbase : base ≤ w.heap.size) (hm : m + n ≤ 1000000) (x0 : 0 ≤ x) (x1 : x ≤ 18446744073709551615) :
    Calls Try.prog 20 #[v, .int .u64 x, .int .i64 n] w fun r w' => ∃ v', r = .returned v' ∧ w'.ownsRow base 5 1 v' (m + n) ((zs ++ digs x n).map (Value.int .u8)) ∧ Below base w w' := by
  obtain ⟨i0, hi, hz0, hz1, hz2⟩ := info_parts info_u8
  have HO := Lib.hid ho
  have HI := Lib.hid hi
  have HZ0 := Lib.hid hz0
  have HZ1 := Lib.hid hz1
  have HZ2 := Lib.hid hz2
  have hni : (n : Int) ≤ 1000000 := by omega
  clear ho hi hz0 hz1 hz2
  go_enter Try.func20, Try.ntmps20
  go_wp2
  go_loopw [0, 1, 7] (fun v' y i wr => ∃ k : Nat, k ≤ n ∧ i = .int .i64 k ∧ y = .int .u64 (x / 256 ^ k) ∧ wr.ownsRow base 5 1 v' (m + k) ((zs ++ digs x k).map (Value.int .u8)) ∧ Below base w wr) (fun _ _ i _ => n - (intOf i).toNat)
  case atStart => exact ⟨0, Nat.zero_le _, rfl, by simp, by simpa [digs] using HO.out, Below.refl _ _⟩
  case round =>
    obtain ⟨k, hk, rfl, rfl, hown, hbel⟩ := hrel
    by_cases hlt : k < n
    · have hdv := Lib.hid (div_step x k)
      have hdg : Hid (digs x (k + 1) = digs x k ++ [x / 256 ^ k % 256]) := Lib.hid rfl
      have hy0 : 0 ≤ x / 256 ^ k := Int.ediv_nonneg x0 (Int.pow_nonneg (by decide))
      have hy1 : x / 256 ^ k ≤ 18446744073709551615 := Int.le_trans (Int.ediv_le_self _ x0) x1
      generalize x / 256 ^ k = y at hdv hdg hy0 hy1 ⊢
      have hsz := hbel.size
      have HOWN := Lib.hid hown
      clear hown
      go_wp2_with (at_builtin; refine wpList_append_own _ rfl _ _ 28 rfl base 5 i0 (.int .u8 0) 1 1 Try.underlying28 HI.out HZ0.out HZ1.out HZ2.out rfl (by decide) _ (m + k) _ rfl (HOWN.out.alloc _) ⟨wr.heap.size, 0, none⟩ 1 1 [.int .u8 (y % 256)] rfl rfl ?c1 ?c2 ?c3 ?c4 ?c5 ?_)
      case c1 => exact cell_one_new _ _ _
      case c2 => intro u hu; obtain rfl := List.mem_singleton.1 hu; rfl
      case c3 => unfold maxLen; omega
      case c4 => omega
      case c5 => simp; omega
      intro v2 w2 hown2 hg2 hnil2
      have hb2 : Below base w w2 := (hbel.alloc (by omega) _).grown hg2 (by simp; omega) (fun q e => (HOWN.out.lt q e).1)
      have HO2 : Hid (w2.ownsRow base 5 1 v2 (m + (k + 1)) ((zs ++ digs x (k + 1)).map (Value.int .u8))) := Lib.hid (by
        rw [hdg.out]; simpa only [List.map_append, List.append_assoc, List.map_cons, List.map_nil, Nat.add_assoc] using hown2)
      clear hown2 hg2 hnil2 hbel
      go_wp2
      go_roundw
      case rel => exact ⟨k + 1, by omega, by go_num, by rw [hdv.out], HO2.out, hb2⟩
      case measure => simp [intOf]; omega
    · obtain rfl : k = n := by omega
      have HOW := Lib.hid hown
      clear hown
      go_wp2
      go_ret
      exact ⟨_, rfl, HOW.out, hbel⟩

theorem cells_new (w : World) (L : List Value) (t : TypeId) (g : Nat) (hg : g = w.heap.size) : ∀ (j : Nat) (u : Value), L[j]? = some u → (w.alloc (.cells L.toArray t)).cell? ((⟨g, 0, none⟩ : Addr).add j) = some u := by
  intro j u hj
  subst hg
  rw [add_none, Nat.zero_add, (Blk.new w _ _).cell]
  simpa using hj
set_option maxRecDepth 100000 in
set_option maxHeartbeats 1600000 in
theorem rput6_ok (s : Sy) (w : World) (h : s.Ok) :
    Calls Try.prog 10 #[s.val] w fun r w' => (∃ u, r = .returned u ∧ w'.ownsRow w.heap.size 5 1 u 24 ((encY s).map (Value.int .u8))) ∧ Below w.heap.size w w' := by
  obtain ⟨i0, hi, hz0, hz1, hz2⟩ := info_parts info_u8
  have HI := Lib.hid hi
  have HZ0 := Lib.hid hz0
  have HZ1 := Lib.hid hz1
  have HZ2 := Lib.hid hz2
  obtain ⟨⟨a0, a1⟩, ⟨b0, b1⟩, ⟨c0, c1⟩, ⟨d0, d1⟩, ⟨e0, e1⟩, ⟨f0, f1⟩⟩ := h
  obtain ⟨na, inf, ot, se, va, si⟩ := s
  simp only at a0 a1 b0 b1 c0 c1 d0 d1 e0 e1 f0 f1
  obtain ⟨zs, hzs⟩ : ∃ zs, encY ⟨na, inf, ot, se, va, si⟩ = zs := ⟨_, rfl⟩
  rw [hzs]
  have HE : Hid (digs na 4 ++ [inf, ot] ++ digs se 2 ++ digs va 8 ++ digs si 8 = zs) := Lib.hid (by rw [← hzs]; simp [encY])
  unfold Sy.val
  simp only
  have HQ : Hid (∀ w', Below (w.heap.size + 1) (w.alloc (.cells #[.int .u32 na, .int .u8 inf, .int .u8 ot, .int .u16 se, .int .u64 va, .int .u64 si] 26)) w' → Blk w' w.heap.size #[.int .u32 na, .int .u8 inf, .int .u8 ot, .int .u16 se, .int .u64 va, .int .u64 si] 26 ∧ w.heap.size + 1 ≤ w'.heap.size) := Lib.hid (fun w' hb =>
    ⟨(Blk.new w _ _).below hb (Nat.lt_succ_self _), by have := hb.size; simp at this; omega⟩)
  have HB0 : Hid (Below (w.heap.size + 1) (w.alloc (.cells #[.int .u32 na, .int .u8 inf, .int .u8 ot, .int .u16 se, .int .u64 va, .int .u64 si] 26)) (w.alloc (.cells #[.int .u32 na, .int .u8 inf, .int .u8 ot, .int .u16 se, .int .u64 va, .int .u64 si] 26))) := Lib.hid (Below.refl _ _)
  have HBW : Hid (Below w.heap.size w (w.alloc (.cells #[.int .u32 na, .int .u8 inf, .int .u8 ot, .int .u16 se, .int .u64 va, .int .u64 si] 26))) := Lib.hid ((Below.refl _ _).alloc (Nat.le_refl _) _)
  have HO0 : Hid ((w.alloc (.cells #[.int .u32 na, .int .u8 inf, .int .u8 ot, .int .u16 se, .int .u64 va, .int .u64 si] 26)).ownsRow (w.heap.size + 1) 5 1 (.slice none 0 0) 0 (([] : List Int).map (Value.int .u8))) := Lib.hid (World.ownsRow_nil _ _ _ _)
  clear hi hz0 hz1 hz2 hzs
  go_enter Try.func10, Try.ntmps10
  go_wp2_with fail
  refine (number6_ok (w.heap.size + 1) _ 0 [] na 4 _ HO0.out (HQ.out _ HB0.out).2 (by decide) (by omega) (by omega)).mono ?_
  rintro r w1 ⟨v1, rfl, ho, hb⟩
  have HO1 : Hid (w1.ownsRow (w.heap.size + 1) 5 1 v1 4 ((digs na 4).map (Value.int .u8))) := Lib.hid (by simpa using ho)
  have HB1 := Lib.hid (HB0.out.trans hb)
  obtain ⟨q0, q1, q2, q3, q4, q5⟩ := Sy.cs (HQ.out _ HB1.out).1
  clear ho hb
  go_wp2_with (at_builtin; refine wpList_append_own _ rfl _ _ 28 rfl (w.heap.size + 1) 5 i0 (.int .u8 0) 1 1 Try.underlying28 HI.out HZ0.out HZ1.out HZ2.out rfl (by decide) _ 4 _ rfl (HO1.out.alloc _) ⟨w1.heap.size, 0, none⟩ 2 2 [.int .u8 inf, .int .u8 ot] rfl rfl ?c1 ?c2 ?c3 ?c4 ?c5 ?_)
  case c1 => exact cells_new w1 [.int .u8 inf, .int .u8 ot] _ _ rfl
  case c2 => intro u hu; simp only [List.mem_cons, List.not_mem_nil, or_false] at hu; rcases hu with rfl | rfl <;> rfl
  case c3 => unfold maxLen; omega
  case c4 => omega
  case c5 => have := HB1.out.size; simp at this ⊢; omega
  intro v2 w2 ho2 hg2 hn2
  have HO2 : Hid (w2.ownsRow (w.heap.size + 1) 5 1 v2 6 ((digs na 4 ++ [inf, ot]).map (Value.int .u8))) := Lib.hid (by
    simpa only [List.map_append, List.map_cons, List.map_nil] using ho2)
  have HB2 : Hid (Below (w.heap.size + 1) (w.alloc (.cells #[.int .u32 na, .int .u8 inf, .int .u8 ot, .int .u16 se, .int .u64 va, .int .u64 si] 26)) w2) := Lib.hid (by
    have hs := HB1.out.size
    simp only [World.size_alloc] at hs
    exact (HB1.out.alloc hs _).grown hg2 (by simp; omega) (fun q e => (HO1.out.lt q e).1))
  obtain ⟨r0, r1, r2, r3, r4, r5⟩ := Sy.cs (HQ.out _ HB2.out).1
  clear ho2 hg2 hn2 q0 q1 q2 q3 q4 q5
  go_wp2_with fail
  refine (number6_ok (w.heap.size + 1) _ 6 (digs na 4 ++ [inf, ot]) se 2 _ HO2.out (HQ.out _ HB2.out).2 (by decide) (by omega) (by omega)).mono ?_
  rintro r w3 ⟨v3, rfl, ho, hb⟩
  have HO3 := Lib.hid ho
  have HB3 := Lib.hid (HB2.out.trans hb)
  obtain ⟨q0, q1, q2, q3, q4, q5⟩ := Sy.cs (HQ.out _ HB3.out).1
  clear ho hb r0 r1 r2 r3 r4 r5
  go_wp2_with fail
  refine (number6_ok (w.heap.size + 1) _ 8 (digs na 4 ++ [inf, ot] ++ digs se 2) va 8 _ HO3.out (HQ.out _ HB3.out).2 (by decide) (by omega) (by omega)).mono ?_
  rintro r w4 ⟨v4, rfl, ho, hb⟩
  have HO4 := Lib.hid ho
  have HB4 := Lib.hid (HB3.out.trans hb)
  obtain ⟨r0, r1, r2, r3, r4, r5⟩ := Sy.cs (HQ.out _ HB4.out).1
  clear ho hb q0 q1 q2 q3 q4 q5
  go_wp2_with fail
  refine (number6_ok (w.heap.size + 1) _ 16 (digs na 4 ++ [inf, ot] ++ digs se 2 ++ digs va 8) si 8 _ HO4.out (HQ.out _ HB4.out).2 (by decide) (by omega) (by omega)).mono ?_
  rintro r w5 ⟨v5, rfl, ho, hb⟩
  rw [HE.out] at ho
  have HO5 := Lib.hid (own_base ho (Nat.le_succ w.heap.size))
  have HB5 := Lib.hid (HBW.out.trans ((HB4.out.trans hb).mono (Nat.le_succ _)))
  clear ho hb
  go_wp2
  go_ret
  exact ⟨⟨_, rfl, HO5.out⟩, HB5.out⟩
end Go.Proofs.Ytpodnhieaboddaa
