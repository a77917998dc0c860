/-
  What is proved here: Put of package segs and of its reference: the 56 bytes of a segment, in new memory.
  Conditions: none but that the arguments are values of their types.
-/
import Derived.Test.YtgomemienmchnaaSegPlain
import Derived.Test.YtgomemienmchnaaApp
namespace Go.Proofs.Ytgomemienmchnaa
open Go.RowKit
set_option linter.unusedVariables false
set_option linter.unusedSimpArgs false

set_option maxRecDepth 100000 in
set_option maxHeartbeats 800000 in
theorem eight_ok (base : Nat) (v : Value) (m : Nat) (zs : List Int) (x : Int) (n : Nat) (w : World) (ho : w.ownsRow base 5 1 v m (zs.map (Value.int .u8))) (hbase : base ≤ w.heap.size) (hm : m + n ≤ 1000000) (x0 : 0 ≤ x) (x1 : x ≤ 18446744073709551615) :
    Calls Try.prog 28 #[v, .int .u64 x, .int .i64 n] w fun r w' => ∃ v', r = .returned v' ∧ w'.ownsRow base 5 1 v' (m + n) ((zs ++ digs x n).map (Value.int .u8)) ∧ Below base w w' := by
  obtain ⟨i0, hi, hz0, hz1, hz2⟩ := info_parts info_u8
  have HO := Lib.hid ho
  have HI := Lib.hid hi
  have HZ0 := Lib.hid hz0
  have HZ1 := Lib.hid hz1
  have HZ2 := Lib.hid hz2
  have hni : (n : Int) ≤ 1000000 := by omega
  clear ho hi hz0 hz1 hz2
  go_enter Try.func28, Try.ntmps28
  go_wp2
  go_loopw [0, 1, 7] (fun v' y i wr => ∃ k : Nat, k ≤ n ∧ i = .int .i64 k ∧ y = .int .u64 (x / 256 ^ k) ∧ wr.ownsRow base 5 1 v' (m + k) ((zs ++ digs x k).map (Value.int .u8)) ∧ Below base w wr) (fun _ _ i _ => n - (intOf i).toNat)
  case atStart => exact ⟨0, Nat.zero_le _, rfl, by simp, by simpa [digs] using HO.out, Below.refl _ _⟩
  case round =>
    obtain ⟨k, hk, rfl, rfl, hown, hbel⟩ := hrel
    by_cases hlt : k < n
    · have hdv := Lib.hid (div_step x k)
      have hdg : Hid (digs x (k + 1) = digs x k ++ [x / 256 ^ k % 256]) := Lib.hid rfl
      have hy0 : 0 ≤ x / 256 ^ k := Int.ediv_nonneg x0 (Int.pow_nonneg (by decide))
      have hy1 : x / 256 ^ k ≤ 18446744073709551615 := Int.le_trans (Int.ediv_le_self _ x0) x1
      generalize x / 256 ^ k = y at hdv hdg hy0 hy1 ⊢
      have hsz := hbel.size
      have HOWN := Lib.hid hown
      clear hown
      go_wp2_with (at_builtin; refine wpList_append_own _ rfl _ _ 27 rfl base 5 i0 (.int .u8 0) 1 1 Try.underlying27 HI.out HZ0.out HZ1.out HZ2.out rfl (by decide) _ (m + k) _ rfl (HOWN.out.alloc _) ⟨wr.heap.size, 0, none⟩ 1 1 [.int .u8 (y % 256)] rfl rfl ?c1 ?c2 ?c3 ?c4 ?c5 ?_)
      case c1 => exact cell_one_new _ _ _
      case c2 => intro u hu; obtain rfl := List.mem_singleton.1 hu; rfl
      case c3 => unfold maxLen; omega
      case c4 => omega
      case c5 => simp; omega
      intro v2 w2 hown2 hg2 hnil2
      have hb2 : Below base w w2 := (hbel.alloc (by omega) _).grown hg2 (by simp; omega) (fun q e => (HOWN.out.lt q e).1)
      have HO2 : Hid (w2.ownsRow base 5 1 v2 (m + (k + 1)) ((zs ++ digs x (k + 1)).map (Value.int .u8))) := Lib.hid (by
        rw [hdg.out]; simpa only [List.map_append, List.append_assoc, List.map_cons, List.map_nil, Nat.add_assoc] using hown2)
      clear hown2 hg2 hnil2 hbel
      go_wp2
      go_roundw
      case rel => exact ⟨k + 1, by omega, by go_num, by rw [hdv.out], HO2.out, hb2⟩
      case measure => simp [intOf]; omega
    · obtain rfl : k = n := by omega
      have HOW := Lib.hid hown
      clear hown
      go_wp2
      go_ret
      exact ⟨_, rfl, HOW.out, hbel⟩


/-- The parts of a segment's bytes, and the first k of them. -/
def partsS (s : Sg) : List (List Int) := [digs s.ty 4, digs s.fl 4, digs s.ot 8, digs s.va 8, digs s.va 8, digs s.fi 8, digs s.me 8, digs s.al 8]
def catS (s : Sg) (k : Nat) : List Int := ((partsS s).take k).flatten
theorem catS_zero (s : Sg) : catS s 0 = [] := rfl
theorem catS_1 (s : Sg) : catS s 0 ++ digs s.ty 4 = catS s 1 := by simp [catS, partsS]
theorem catS_2 (s : Sg) : catS s 1 ++ digs s.fl 4 = catS s 2 := by simp [catS, partsS]
theorem catS_3 (s : Sg) : catS s 2 ++ digs s.ot 8 = catS s 3 := by simp [catS, partsS]
theorem catS_4 (s : Sg) : catS s 3 ++ digs s.va 8 = catS s 4 := by simp [catS, partsS]
theorem catS_5 (s : Sg) : catS s 4 ++ digs s.va 8 = catS s 5 := by simp [catS, partsS]
theorem catS_6 (s : Sg) : catS s 5 ++ digs s.fi 8 = catS s 6 := by simp [catS, partsS]
theorem catS_7 (s : Sg) : catS s 6 ++ digs s.me 8 = catS s 7 := by simp [catS, partsS]
theorem catS_8 (s : Sg) : catS s 7 ++ digs s.al 8 = catS s 8 := by simp [catS, partsS]
theorem lenS_0 (s : Sg) : (catS s 0).length = 0 := by simp [catS, partsS, digs_len]
theorem lenS_1 (s : Sg) : (catS s 1).length = 4 := by simp [catS, partsS, digs_len]
theorem lenS_2 (s : Sg) : (catS s 2).length = 8 := by simp [catS, partsS, digs_len]
theorem lenS_3 (s : Sg) : (catS s 3).length = 16 := by simp [catS, partsS, digs_len]
theorem lenS_4 (s : Sg) : (catS s 4).length = 24 := by simp [catS, partsS, digs_len]
theorem lenS_5 (s : Sg) : (catS s 5).length = 32 := by simp [catS, partsS, digs_len]
theorem lenS_6 (s : Sg) : (catS s 6).length = 40 := by simp [catS, partsS, digs_len]
theorem lenS_7 (s : Sg) : (catS s 7).length = 48 := by simp [catS, partsS, digs_len]
theorem lenS_8 (s : Sg) : (catS s 8).length = 56 := by simp [catS, partsS, digs_len]
theorem catS_all (s : Sg) : catS s 8 = encS s := by simp [catS, partsS, encS]

set_option maxRecDepth 100000 in
set_option maxHeartbeats 1600000 in
theorem rput_ok (s : Sg) (w : World) (h : s.Ok) :
    Calls Try.prog 14 #[s.val] w fun r w' => (∃ u, r = .returned u ∧ w'.ownsRow w.heap.size 5 1 u 56 ((encS s).map (Value.int .u8))) ∧ Below w.heap.size w w' := by
  have HCAT := Lib.hid (catS_all s)
  have HC1 := Lib.hid (catS_1 s)
  have HC2 := Lib.hid (catS_2 s)
  have HC3 := Lib.hid (catS_3 s)
  have HC4 := Lib.hid (catS_4 s)
  have HC5 := Lib.hid (catS_5 s)
  have HC6 := Lib.hid (catS_6 s)
  have HC7 := Lib.hid (catS_7 s)
  have HC8 := Lib.hid (catS_8 s)
  obtain ⟨⟨a0, a1⟩, ⟨b0, b1⟩, ⟨c0, c1⟩, ⟨d0, d1⟩, ⟨e0, e1⟩, ⟨f0, f1⟩, ⟨g0, g1⟩⟩ := h
  obtain ⟨ty, fl, ot, va, fi, me, al⟩ := s
  simp only at a0 a1 b0 b1 c0 c1 d0 d1 e0 e1 f0 f1 g0 g1 HC1 HC2 HC3 HC4 HC5 HC6 HC7 HC8
  generalize hS : (⟨ty, fl, ot, va, fi, me, al⟩ : Sg) = S at HC1 HC2 HC3 HC4 HC5 HC6 HC7 HC8 HCAT ⊢
  have HQ : Hid (∀ w', Below (w.heap.size + 1) (w.alloc (.cells #[.int .u32 ty, .int .u32 fl, .int .u64 ot, .int .u64 va, .int .u64 fi, .int .u64 me, .int .u64 al] 25)) w' → Blk w' w.heap.size #[.int .u32 ty, .int .u32 fl, .int .u64 ot, .int .u64 va, .int .u64 fi, .int .u64 me, .int .u64 al] 25 ∧ w.heap.size + 1 ≤ w'.heap.size) := Lib.hid (fun w' hb =>
    ⟨(Blk.new w _ _).below hb (Nat.lt_succ_self _), by have := hb.size; simp at this; omega⟩)
  have HB0 : Hid (Below (w.heap.size + 1) (w.alloc (.cells #[.int .u32 ty, .int .u32 fl, .int .u64 ot, .int .u64 va, .int .u64 fi, .int .u64 me, .int .u64 al] 25)) (w.alloc (.cells #[.int .u32 ty, .int .u32 fl, .int .u64 ot, .int .u64 va, .int .u64 fi, .int .u64 me, .int .u64 al] 25))) := Lib.hid (Below.refl _ _)
  have HBW : Hid (Below w.heap.size w (w.alloc (.cells #[.int .u32 ty, .int .u32 fl, .int .u64 ot, .int .u64 va, .int .u64 fi, .int .u64 me, .int .u64 al] 25))) := Lib.hid ((Below.refl _ _).alloc (Nat.le_refl _) _)
  have HO0 : Hid ((w.alloc (.cells #[.int .u32 ty, .int .u32 fl, .int .u64 ot, .int .u64 va, .int .u64 fi, .int .u64 me, .int .u64 al] 25)).ownsRow (w.heap.size + 1) 5 1 (.slice none 0 0) 0 ((catS S 0).map (Value.int .u8))) := Lib.hid (by rw [catS_zero]; exact World.ownsRow_nil _ _ _ _)
  rw [← hS]
  unfold Sg.val
  simp only
  rw [hS]
  clear hS
  go_enter Try.func14, Try.ntmps14
  go_wp2_with fail
  refine (eight_ok (w.heap.size + 1) _ 0 (catS S 0) ty 4 _ HO0.out (HQ.out _ HB0.out).2 (by decide) (by omega) (by omega)).mono ?_
  rintro r w1 ⟨v1, rfl, ho, hb⟩
  rw [HC1.out] at ho
  have HO1 := Lib.hid ho
  have HB1 := Lib.hid (HB0.out.trans hb)
  obtain ⟨q0, q1, q2, q3, q4, q5, q6⟩ := (HQ.out _ HB1.out).1.c7
  clear ho hb
  go_wp2_with fail
  refine (eight_ok (w.heap.size + 1) _ 4 (catS S 1) fl 4 _ HO1.out (HQ.out _ HB1.out).2 (by decide) (by omega) (by omega)).mono ?_
  rintro r w2 ⟨v2, rfl, ho, hb⟩
  rw [HC2.out] at ho
  have HO2 := Lib.hid ho
  have HB2 := Lib.hid (HB1.out.trans hb)
  obtain ⟨q0, q1, q2, q3, q4, q5, q6⟩ := (HQ.out _ HB2.out).1.c7
  clear ho hb
  go_wp2_with fail
  refine (eight_ok (w.heap.size + 1) _ 8 (catS S 2) ot 8 _ HO2.out (HQ.out _ HB2.out).2 (by decide) (by omega) (by omega)).mono ?_
  rintro r w3 ⟨v3, rfl, ho, hb⟩
  rw [HC3.out] at ho
  have HO3 := Lib.hid ho
  have HB3 := Lib.hid (HB2.out.trans hb)
  obtain ⟨q0, q1, q2, q3, q4, q5, q6⟩ := (HQ.out _ HB3.out).1.c7
  clear ho hb
  go_wp2_with fail
  refine (eight_ok (w.heap.size + 1) _ 16 (catS S 3) va 8 _ HO3.out (HQ.out _ HB3.out).2 (by decide) (by omega) (by omega)).mono ?_
  rintro r w4 ⟨v4, rfl, ho, hb⟩
  rw [HC4.out] at ho
  have HO4 := Lib.hid ho
  have HB4 := Lib.hid (HB3.out.trans hb)
  obtain ⟨q0, q1, q2, q3, q4, q5, q6⟩ := (HQ.out _ HB4.out).1.c7
  clear ho hb
  go_wp2_with fail
  refine (eight_ok (w.heap.size + 1) _ 24 (catS S 4) va 8 _ HO4.out (HQ.out _ HB4.out).2 (by decide) (by omega) (by omega)).mono ?_
  rintro r w5 ⟨v5, rfl, ho, hb⟩
  rw [HC5.out] at ho
  have HO5 := Lib.hid ho
  have HB5 := Lib.hid (HB4.out.trans hb)
  obtain ⟨q0, q1, q2, q3, q4, q5, q6⟩ := (HQ.out _ HB5.out).1.c7
  clear ho hb
  go_wp2_with fail
  refine (eight_ok (w.heap.size + 1) _ 32 (catS S 5) fi 8 _ HO5.out (HQ.out _ HB5.out).2 (by decide) (by omega) (by omega)).mono ?_
  rintro r w6 ⟨v6, rfl, ho, hb⟩
  rw [HC6.out] at ho
  have HO6 := Lib.hid ho
  have HB6 := Lib.hid (HB5.out.trans hb)
  obtain ⟨q0, q1, q2, q3, q4, q5, q6⟩ := (HQ.out _ HB6.out).1.c7
  clear ho hb
  go_wp2_with fail
  refine (eight_ok (w.heap.size + 1) _ 40 (catS S 6) me 8 _ HO6.out (HQ.out _ HB6.out).2 (by decide) (by omega) (by omega)).mono ?_
  rintro r w7 ⟨v7, rfl, ho, hb⟩
  rw [HC7.out] at ho
  have HO7 := Lib.hid ho
  have HB7 := Lib.hid (HB6.out.trans hb)
  obtain ⟨q0, q1, q2, q3, q4, q5, q6⟩ := (HQ.out _ HB7.out).1.c7
  clear ho hb
  go_wp2_with fail
  refine (eight_ok (w.heap.size + 1) _ 48 (catS S 7) al 8 _ HO7.out (HQ.out _ HB7.out).2 (by decide) (by omega) (by omega)).mono ?_
  rintro r w8 ⟨v8, rfl, ho, hb⟩
  rw [HC8.out] at ho
  have HO8 := Lib.hid ho
  have HB8 := Lib.hid (HB7.out.trans hb)
  obtain ⟨q0, q1, q2, q3, q4, q5, q6⟩ := (HQ.out _ HB8.out).1.c7
  clear ho hb
  go_wp2
  go_ret
  refine ⟨⟨_, rfl, ?_⟩, HBW.out.trans (HB8.out.mono (Nat.le_succ _))⟩
  rw [← HCAT.out]
  exact own_base HO8.out (Nat.le_succ _)

set_option maxRecDepth 100000 in
set_option maxHeartbeats 1600000 in
theorem put_own (s : Sg) (w : World) (h : s.Ok) :
    Calls Try.prog 12 #[s.val] w fun r w' => (∃ u, r = .returned u ∧ w'.ownsRow w.heap.size 5 1 u 56 ((encS s).map (Value.int .u8))) ∧ Below w.heap.size w w' := by
  obtain ⟨i0, hi, hz0, hz1, hz2⟩ := info_parts info_u8
  have HI := Lib.hid hi
  have HZ0 := Lib.hid hz0
  have HZ1 := Lib.hid hz1
  have HZ2 := Lib.hid hz2
  have HCAT := Lib.hid (catS_all s)
  have HC1 := Lib.hid (catS_1 s)
  have HC2 := Lib.hid (catS_2 s)
  have HC3 := Lib.hid (catS_3 s)
  have HC4 := Lib.hid (catS_4 s)
  have HC5 := Lib.hid (catS_5 s)
  have HC6 := Lib.hid (catS_6 s)
  have HC7 := Lib.hid (catS_7 s)
  have HC8 := Lib.hid (catS_8 s)
  have HL0 := Lib.hid (lenS_0 s)
  have HL1 := Lib.hid (lenS_1 s)
  have HL2 := Lib.hid (lenS_2 s)
  have HL3 := Lib.hid (lenS_3 s)
  have HL4 := Lib.hid (lenS_4 s)
  have HL5 := Lib.hid (lenS_5 s)
  have HL6 := Lib.hid (lenS_6 s)
  have HL7 := Lib.hid (lenS_7 s)
  have HL8 := Lib.hid (lenS_8 s)
  obtain ⟨⟨a0, a1⟩, ⟨b0, b1⟩, ⟨c0, c1⟩, ⟨d0, d1⟩, ⟨e0, e1⟩, ⟨f0, f1⟩, ⟨g0, g1⟩⟩ := h
  obtain ⟨ty, fl, ot, va, fi, me, al⟩ := s
  simp only at a0 a1 b0 b1 c0 c1 d0 d1 e0 e1 f0 f1 g0 g1 HC1 HC2 HC3 HC4 HC5 HC6 HC7 HC8
  clear hi hz0 hz1 hz2
  have HBW : Hid (Below w.heap.size w (w.alloc (.cells #[.int .u32 ty, .int .u32 fl, .int .u64 ot, .int .u64 va, .int .u64 fi, .int .u64 me, .int .u64 al] 25))) := Lib.hid ((Below.refl _ _).alloc (Nat.le_refl _) _)
  have HK0 := Lib.hid (Blk.new w #[.int .u32 ty, .int .u32 fl, .int .u64 ot, .int .u64 va, .int .u64 fi, .int .u64 me, .int .u64 al] 25)
  generalize hS : (⟨ty, fl, ot, va, fi, me, al⟩ : Sg) = S at HC1 HC2 HC3 HC4 HC5 HC6 HC7 HC8 HL0 HL1 HL2 HL3 HL4 HL5 HL6 HL7 HL8 HCAT ⊢
  rw [← hS]
  unfold Sg.val
  simp only
  rw [hS]
  clear hS
  have HQ : Hid (∀ w', Below (w.heap.size + 1) (w.alloc (.cells #[.int .u32 ty, .int .u32 fl, .int .u64 ot, .int .u64 va, .int .u64 fi, .int .u64 me, .int .u64 al] 25)) w' → Blk w' w.heap.size #[.int .u32 ty, .int .u32 fl, .int .u64 ot, .int .u64 va, .int .u64 fi, .int .u64 me, .int .u64 al] 25 ∧ w.heap.size + 1 ≤ w'.heap.size) := Lib.hid (fun w' hb =>
    ⟨(Blk.new w _ _).below hb (Nat.lt_succ_self _), by have := hb.size; simp at this; omega⟩)
  have ia0 : ∀ w, (Instr.index 52 (.agg #[.int .u32 ty, .int .u32 fl]) (.int .i64 0)).run Try.prog w = .ok (.int .u32 ty) w := fun _ => by kernel_rfl
  have ia1 : ∀ w, (Instr.index 52 (.agg #[.int .u32 ty, .int .u32 fl]) (.int .i64 1)).run Try.prog w = .ok (.int .u32 fl) w := fun _ => by kernel_rfl
  have ib0 : ∀ w, (Instr.index 54 (.agg #[.int .u64 ot, .int .u64 va, .int .u64 va, .int .u64 fi, .int .u64 me, .int .u64 al]) (.int .i64 0)).run Try.prog w = .ok (.int .u64 ot) w := fun _ => by kernel_rfl
  have ib1 : ∀ w, (Instr.index 54 (.agg #[.int .u64 ot, .int .u64 va, .int .u64 va, .int .u64 fi, .int .u64 me, .int .u64 al]) (.int .i64 1)).run Try.prog w = .ok (.int .u64 va) w := fun _ => by kernel_rfl
  have ib2 : ∀ w, (Instr.index 54 (.agg #[.int .u64 ot, .int .u64 va, .int .u64 va, .int .u64 fi, .int .u64 me, .int .u64 al]) (.int .i64 2)).run Try.prog w = .ok (.int .u64 va) w := fun _ => by kernel_rfl
  have ib3 : ∀ w, (Instr.index 54 (.agg #[.int .u64 ot, .int .u64 va, .int .u64 va, .int .u64 fi, .int .u64 me, .int .u64 al]) (.int .i64 3)).run Try.prog w = .ok (.int .u64 fi) w := fun _ => by kernel_rfl
  have ib4 : ∀ w, (Instr.index 54 (.agg #[.int .u64 ot, .int .u64 va, .int .u64 va, .int .u64 fi, .int .u64 me, .int .u64 al]) (.int .i64 4)).run Try.prog w = .ok (.int .u64 me) w := fun _ => by kernel_rfl
  have ib5 : ∀ w, (Instr.index 54 (.agg #[.int .u64 ot, .int .u64 va, .int .u64 va, .int .u64 fi, .int .u64 me, .int .u64 al]) (.int .i64 5)).run Try.prog w = .ok (.int .u64 al) w := fun _ => by kernel_rfl
  go_enter Try.func12, Try.ntmps12
  go_wp2_with (at_make; refine wpList_make_own _ rfl _ _ 27 rfl (w.heap.size + 1) 5 i0 (.int .u8 0) 1 Try.underlying27 HI.out HZ0.out HZ1.out .i64 .i64 _ 56 rfl rfl rfl ?c1 ?c2 ?c3 ?_)
  case c1 => rw [HZ2.out]; omega
  case c2 => unfold maxLen; omega
  case c3 => simp
  intro w1 hown hg
  have hb1 : Below (w.heap.size + 1) (w.alloc (.cells #[.int .u32 ty, .int .u32 fl, .int .u64 ot, .int .u64 va, .int .u64 fi, .int .u64 me, .int .u64 al] 25)) w1 := (Below.refl _ _).grown hg (by simp) (fun _ e => by cases e)
  obtain ⟨q0, q1, q2, q3, q4, q5, q6⟩ := (HQ.out _ hb1).1.c7
  have HOWN := Lib.hid hown
  have HB1 := Lib.hid hb1
  clear hown hg hb1
  go_wp2
  go_loopw [3, 5, 14] (fun v _ i wr => ∃ k : Nat, k ≤ 2 ∧ i = .int .i64 k ∧ wr.ownsRow (w.heap.size + 1) 5 1 v (catS S k).length ((catS S k).map (Value.int .u8)) ∧ Below (w.heap.size + 1) (w.alloc (.cells #[.int .u32 ty, .int .u32 fl, .int .u64 ot, .int .u64 va, .int .u64 fi, .int .u64 me, .int .u64 al] 25)) wr) (fun _ _ i _ => 2 - (intOf i).toNat)
  case atStart => exact ⟨0, by decide, rfl, HOWN.out, HB1.out⟩
  case round =>
    obtain ⟨k, hk, rfl, hown, hbel⟩ := hrel
    obtain rfl | rfl | rfl : k = 0 ∨ k = 1 ∨ k = 2 := by omega
    · have HOW := Lib.hid hown
      have HBE := Lib.hid hbel
      clear hown hbel
      go_wp2_with fail
      refine (number_ok ty 4 _ (by decide) (by omega) (by omega)).mono ?_
      rintro r w2 ⟨⟨u, rfl, g, c, rfl, _, _, hm⟩, hb2⟩
      rw [digs_len] at hm ⊢
      have HM := Lib.hid hm
      have HB3 := Lib.hid (HBE.out.trans (hb2.mono (HQ.out _ HBE.out).2))
      have HO2 := Lib.hid (own_below HOW.out hb2)
      clear hm hb2
      go_wp2_with (at_builtin; refine wpList_append_bys rfl _ _ 27 rfl (w.heap.size + 1) 5 i0 (.int .u8 0) 1 Try.underlying27 HI.out HZ0.out HZ1.out HZ2.out rfl _ (catS S 0).length _ rfl HO2.out _ 4 c _ (digs ty 4) rfl HM.out (fun h => by cases h) ?d0a ?d0b ?d0c ?_)
      case d0a => rw [HL0.out]; unfold maxLen; omega
      case d0b => rw [HL0.out]; omega
      case d0c => exact (HQ.out _ HB3.out).2
      intro v3 w3 hown3 hg3
      have hb4 := HB3.out.grown hg3 (HQ.out _ HB3.out).2 (fun q e => (HO2.out.lt q e).1)
      have HO3 : Hid (w3.ownsRow (w.heap.size + 1) 5 1 v3 (catS S 1).length ((catS S 1).map (Value.int .u8))) := Lib.hid (by
        rw [← HC1.out, List.length_append, digs_len, List.map_append]; exact hown3)
      clear hown3 hg3
      go_wp2
      go_roundw
      case rel => exact ⟨1, by decide, by go_num, HO3.out, hb4⟩
      case measure => (simp [intOf] <;> omega)
    · have HOW := Lib.hid hown
      have HBE := Lib.hid hbel
      clear hown hbel
      go_wp2_with fail
      refine (number_ok fl 4 _ (by decide) (by omega) (by omega)).mono ?_
      rintro r w2 ⟨⟨u, rfl, g, c, rfl, _, _, hm⟩, hb2⟩
      rw [digs_len] at hm ⊢
      have HM := Lib.hid hm
      have HB3 := Lib.hid (HBE.out.trans (hb2.mono (HQ.out _ HBE.out).2))
      have HO2 := Lib.hid (own_below HOW.out hb2)
      clear hm hb2
      go_wp2_with (at_builtin; refine wpList_append_bys rfl _ _ 27 rfl (w.heap.size + 1) 5 i0 (.int .u8 0) 1 Try.underlying27 HI.out HZ0.out HZ1.out HZ2.out rfl _ (catS S 1).length _ rfl HO2.out _ 4 c _ (digs fl 4) rfl HM.out (fun h => by cases h) ?d1a ?d1b ?d1c ?_)
      case d1a => rw [HL1.out]; unfold maxLen; omega
      case d1b => rw [HL1.out]; omega
      case d1c => exact (HQ.out _ HB3.out).2
      intro v3 w3 hown3 hg3
      have hb4 := HB3.out.grown hg3 (HQ.out _ HB3.out).2 (fun q e => (HO2.out.lt q e).1)
      have HO3 : Hid (w3.ownsRow (w.heap.size + 1) 5 1 v3 (catS S 2).length ((catS S 2).map (Value.int .u8))) := Lib.hid (by
        rw [← HC2.out, List.length_append, digs_len, List.map_append]; exact hown3)
      clear hown3 hg3
      go_wp2
      go_roundw
      case rel => exact ⟨2, by decide, by go_num, HO3.out, hb4⟩
      case measure => (simp [intOf] <;> omega)
    · rw [show ((2 : Nat) : Int) = 2 from rfl]
      obtain ⟨q0, q1, q2, q3, q4, q5, q6⟩ := (HQ.out _ hbel).1.c7
      have HOW := Lib.hid hown
      have HBE := Lib.hid hbel
      clear hown hbel
      go_wp2
      go_loopw [3, 7, 36] (fun v _ i wr => ∃ k : Nat, k ≤ 6 ∧ i = .int .i64 k ∧ wr.ownsRow (w.heap.size + 1) 5 1 v (catS S (2 + k)).length ((catS S (2 + k)).map (Value.int .u8)) ∧ Below (w.heap.size + 1) (w.alloc (.cells #[.int .u32 ty, .int .u32 fl, .int .u64 ot, .int .u64 va, .int .u64 fi, .int .u64 me, .int .u64 al] 25)) wr) (fun _ _ i _ => 6 - (intOf i).toNat)
      case atStart => exact ⟨0, by decide, rfl, HOW.out, HBE.out⟩
      case round =>
        obtain ⟨k, hk, rfl, hown, hbel⟩ := hrel
        obtain rfl | rfl | rfl | rfl | rfl | rfl | rfl : k = 0 ∨ k = 1 ∨ k = 2 ∨ k = 3 ∨ k = 4 ∨ k = 5 ∨ k = 6 := by omega
        · have HOW := Lib.hid hown
          have HBE := Lib.hid hbel
          clear hown hbel
          go_wp2_with fail
          refine (number_ok ot 8 _ (by decide) (by omega) (by omega)).mono ?_
          rintro r w2 ⟨⟨u, rfl, g, c, rfl, _, _, hm⟩, hb2⟩
          rw [digs_len] at hm ⊢
          have HM := Lib.hid hm
          have HB3 := Lib.hid (HBE.out.trans (hb2.mono (HQ.out _ HBE.out).2))
          have HO2 := Lib.hid (own_below HOW.out hb2)
          clear hm hb2
          go_wp2_with (at_builtin; refine wpList_append_bys rfl _ _ 27 rfl (w.heap.size + 1) 5 i0 (.int .u8 0) 1 Try.underlying27 HI.out HZ0.out HZ1.out HZ2.out rfl _ (catS S 2).length _ rfl HO2.out _ 8 c _ (digs ot 8) rfl HM.out (fun h => by cases h) ?d2a ?d2b ?d2c ?_)
          case d2a => rw [HL2.out]; unfold maxLen; omega
          case d2b => rw [HL2.out]; omega
          case d2c => exact (HQ.out _ HB3.out).2
          intro v3 w3 hown3 hg3
          have hb4 := HB3.out.grown hg3 (HQ.out _ HB3.out).2 (fun q e => (HO2.out.lt q e).1)
          have HO3 : Hid (w3.ownsRow (w.heap.size + 1) 5 1 v3 (catS S 3).length ((catS S 3).map (Value.int .u8))) := Lib.hid (by
            rw [← HC3.out, List.length_append, digs_len, List.map_append]; exact hown3)
          clear hown3 hg3
          go_wp2
          go_roundw
          case rel => exact ⟨1, by decide, by go_num, HO3.out, hb4⟩
          case measure => (simp [intOf] <;> omega)
        · have HOW := Lib.hid hown
          have HBE := Lib.hid hbel
          clear hown hbel
          go_wp2_with fail
          refine (number_ok va 8 _ (by decide) (by omega) (by omega)).mono ?_
          rintro r w2 ⟨⟨u, rfl, g, c, rfl, _, _, hm⟩, hb2⟩
          rw [digs_len] at hm ⊢
          have HM := Lib.hid hm
          have HB3 := Lib.hid (HBE.out.trans (hb2.mono (HQ.out _ HBE.out).2))
          have HO2 := Lib.hid (own_below HOW.out hb2)
          clear hm hb2
          go_wp2_with (at_builtin; refine wpList_append_bys rfl _ _ 27 rfl (w.heap.size + 1) 5 i0 (.int .u8 0) 1 Try.underlying27 HI.out HZ0.out HZ1.out HZ2.out rfl _ (catS S 3).length _ rfl HO2.out _ 8 c _ (digs va 8) rfl HM.out (fun h => by cases h) ?d3a ?d3b ?d3c ?_)
          case d3a => rw [HL3.out]; unfold maxLen; omega
          case d3b => rw [HL3.out]; omega
          case d3c => exact (HQ.out _ HB3.out).2
          intro v3 w3 hown3 hg3
          have hb4 := HB3.out.grown hg3 (HQ.out _ HB3.out).2 (fun q e => (HO2.out.lt q e).1)
          have HO3 : Hid (w3.ownsRow (w.heap.size + 1) 5 1 v3 (catS S 4).length ((catS S 4).map (Value.int .u8))) := Lib.hid (by
            rw [← HC4.out, List.length_append, digs_len, List.map_append]; exact hown3)
          clear hown3 hg3
          go_wp2
          go_roundw
          case rel => exact ⟨2, by decide, by go_num, HO3.out, hb4⟩
          case measure => (simp [intOf] <;> omega)
        · have HOW := Lib.hid hown
          have HBE := Lib.hid hbel
          clear hown hbel
          go_wp2_with fail
          refine (number_ok va 8 _ (by decide) (by omega) (by omega)).mono ?_
          rintro r w2 ⟨⟨u, rfl, g, c, rfl, _, _, hm⟩, hb2⟩
          rw [digs_len] at hm ⊢
          have HM := Lib.hid hm
          have HB3 := Lib.hid (HBE.out.trans (hb2.mono (HQ.out _ HBE.out).2))
          have HO2 := Lib.hid (own_below HOW.out hb2)
          clear hm hb2
          go_wp2_with (at_builtin; refine wpList_append_bys rfl _ _ 27 rfl (w.heap.size + 1) 5 i0 (.int .u8 0) 1 Try.underlying27 HI.out HZ0.out HZ1.out HZ2.out rfl _ (catS S 4).length _ rfl HO2.out _ 8 c _ (digs va 8) rfl HM.out (fun h => by cases h) ?d4a ?d4b ?d4c ?_)
          case d4a => rw [HL4.out]; unfold maxLen; omega
          case d4b => rw [HL4.out]; omega
          case d4c => exact (HQ.out _ HB3.out).2
          intro v3 w3 hown3 hg3
          have hb4 := HB3.out.grown hg3 (HQ.out _ HB3.out).2 (fun q e => (HO2.out.lt q e).1)
          have HO3 : Hid (w3.ownsRow (w.heap.size + 1) 5 1 v3 (catS S 5).length ((catS S 5).map (Value.int .u8))) := Lib.hid (by
            rw [← HC5.out, List.length_append, digs_len, List.map_append]; exact hown3)
          clear hown3 hg3
          go_wp2
          go_roundw
          case rel => exact ⟨3, by decide, by go_num, HO3.out, hb4⟩
          case measure => (simp [intOf] <;> omega)
        · have HOW := Lib.hid hown
          have HBE := Lib.hid hbel
          clear hown hbel
          go_wp2_with fail
          refine (number_ok fi 8 _ (by decide) (by omega) (by omega)).mono ?_
          rintro r w2 ⟨⟨u, rfl, g, c, rfl, _, _, hm⟩, hb2⟩
          rw [digs_len] at hm ⊢
          have HM := Lib.hid hm
          have HB3 := Lib.hid (HBE.out.trans (hb2.mono (HQ.out _ HBE.out).2))
          have HO2 := Lib.hid (own_below HOW.out hb2)
          clear hm hb2
          go_wp2_with (at_builtin; refine wpList_append_bys rfl _ _ 27 rfl (w.heap.size + 1) 5 i0 (.int .u8 0) 1 Try.underlying27 HI.out HZ0.out HZ1.out HZ2.out rfl _ (catS S 5).length _ rfl HO2.out _ 8 c _ (digs fi 8) rfl HM.out (fun h => by cases h) ?d5a ?d5b ?d5c ?_)
          case d5a => rw [HL5.out]; unfold maxLen; omega
          case d5b => rw [HL5.out]; omega
          case d5c => exact (HQ.out _ HB3.out).2
          intro v3 w3 hown3 hg3
          have hb4 := HB3.out.grown hg3 (HQ.out _ HB3.out).2 (fun q e => (HO2.out.lt q e).1)
          have HO3 : Hid (w3.ownsRow (w.heap.size + 1) 5 1 v3 (catS S 6).length ((catS S 6).map (Value.int .u8))) := Lib.hid (by
            rw [← HC6.out, List.length_append, digs_len, List.map_append]; exact hown3)
          clear hown3 hg3
          go_wp2
          go_roundw
          case rel => exact ⟨4, by decide, by go_num, HO3.out, hb4⟩
          case measure => (simp [intOf] <;> omega)
        · have HOW := Lib.hid hown
          have HBE := Lib.hid hbel
          clear hown hbel
          go_wp2_with fail
          refine (number_ok me 8 _ (by decide) (by omega) (by omega)).mono ?_
          rintro r w2 ⟨⟨u, rfl, g, c, rfl, _, _, hm⟩, hb2⟩
          rw [digs_len] at hm ⊢
          have HM := Lib.hid hm
          have HB3 := Lib.hid (HBE.out.trans (hb2.mono (HQ.out _ HBE.out).2))
          have HO2 := Lib.hid (own_below HOW.out hb2)
          clear hm hb2
          go_wp2_with (at_builtin; refine wpList_append_bys rfl _ _ 27 rfl (w.heap.size + 1) 5 i0 (.int .u8 0) 1 Try.underlying27 HI.out HZ0.out HZ1.out HZ2.out rfl _ (catS S 6).length _ rfl HO2.out _ 8 c _ (digs me 8) rfl HM.out (fun h => by cases h) ?d6a ?d6b ?d6c ?_)
          case d6a => rw [HL6.out]; unfold maxLen; omega
          case d6b => rw [HL6.out]; omega
          case d6c => exact (HQ.out _ HB3.out).2
          intro v3 w3 hown3 hg3
          have hb4 := HB3.out.grown hg3 (HQ.out _ HB3.out).2 (fun q e => (HO2.out.lt q e).1)
          have HO3 : Hid (w3.ownsRow (w.heap.size + 1) 5 1 v3 (catS S 7).length ((catS S 7).map (Value.int .u8))) := Lib.hid (by
            rw [← HC7.out, List.length_append, digs_len, List.map_append]; exact hown3)
          clear hown3 hg3
          go_wp2
          go_roundw
          case rel => exact ⟨5, by decide, by go_num, HO3.out, hb4⟩
          case measure => (simp [intOf] <;> omega)
        · have HOW := Lib.hid hown
          have HBE := Lib.hid hbel
          clear hown hbel
          go_wp2_with fail
          refine (number_ok al 8 _ (by decide) (by omega) (by omega)).mono ?_
          rintro r w2 ⟨⟨u, rfl, g, c, rfl, _, _, hm⟩, hb2⟩
          rw [digs_len] at hm ⊢
          have HM := Lib.hid hm
          have HB3 := Lib.hid (HBE.out.trans (hb2.mono (HQ.out _ HBE.out).2))
          have HO2 := Lib.hid (own_below HOW.out hb2)
          clear hm hb2
          go_wp2_with (at_builtin; refine wpList_append_bys rfl _ _ 27 rfl (w.heap.size + 1) 5 i0 (.int .u8 0) 1 Try.underlying27 HI.out HZ0.out HZ1.out HZ2.out rfl _ (catS S 7).length _ rfl HO2.out _ 8 c _ (digs al 8) rfl HM.out (fun h => by cases h) ?d7a ?d7b ?d7c ?_)
          case d7a => rw [HL7.out]; unfold maxLen; omega
          case d7b => rw [HL7.out]; omega
          case d7c => exact (HQ.out _ HB3.out).2
          intro v3 w3 hown3 hg3
          have hb4 := HB3.out.grown hg3 (HQ.out _ HB3.out).2 (fun q e => (HO2.out.lt q e).1)
          have HO3 : Hid (w3.ownsRow (w.heap.size + 1) 5 1 v3 (catS S 8).length ((catS S 8).map (Value.int .u8))) := Lib.hid (by
            rw [← HC8.out, List.length_append, digs_len, List.map_append]; exact hown3)
          clear hown3 hg3
          go_wp2
          go_roundw
          case rel => exact ⟨6, by decide, by go_num, HO3.out, hb4⟩
          case measure => (simp [intOf] <;> omega)
        · have HOF : Hid (wr.ownsRow (w.heap.size + 1) 5 1 _ (catS S 8).length ((catS S 8).map (Value.int .u8))) := Lib.hid hown
          have HBF := Lib.hid hbel
          clear hown hbel
          go_wp2
          go_ret
          refine ⟨⟨_, rfl, ?_⟩, HBW.out.trans (HBF.out.mono (Nat.le_succ _))⟩
          have := own_base HOF.out (Nat.le_succ w.heap.size)
          rw [HL8.out, HCAT.out] at this
          exact this

theorem put_ok (s : Sg) (w : World) (h : s.Ok) :
    Calls Try.prog 12 #[s.val] w fun r w' => (∃ u, r = .returned u ∧ Made (encS s) u w') ∧ Below w.heap.size w w' := by
  refine (put_own s w h).mono ?_
  rintro r w' ⟨⟨u, rfl, ho⟩, hb⟩
  exact ⟨⟨u, rfl, own_made (by rw [encS_len]; exact ho) (by rw [encS_len]; decide) (encS_bd s)⟩, hb⟩
end Go.Proofs.Ytgomemienmchnaa
