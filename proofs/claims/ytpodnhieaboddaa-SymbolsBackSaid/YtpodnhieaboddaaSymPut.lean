/-
  What is proved here: package symbols' Put: a symbol's 24 bytes, in new memory; the closure that writes them, one number behind the other.
  Conditions: none but that the arguments are values of their types.
-/
import Derived.Test.YtpodnhieaboddaaSymBase
import Derived.Test.YtpodnhieaboddaaOSet
namespace Go.Proofs.Ytpodnhieaboddaa
open Go.RowKit
set_option linter.unusedVariables false
set_option linter.unusedSimpArgs false

theorem Blk.set {w : World} {g : Nat} {C : Array Value} {t : TypeId} (h : Blk w g C t) (i : Nat) (u : Value) : Blk (w.setCell ⟨g, i, none⟩ u) g (C.setIfInBounds i u) t := by
  unfold Blk at *
  simp [World.setCell, h, Array.getElem?_modify]
theorem Blk.setOther {w : World} {g : Nat} {C : Array Value} {t : TypeId} (h : Blk w g C t) {a : Addr} (ha : g ≠ a.block) (u : Value) : Blk (w.setCell a u) g C t := by
  unfold Blk at *
  rw [Below.heap_setCell _ _ _ _ ha, h]
theorem Blk.grown {w w' : World} {g : Nat} {C : Array Value} {t : TypeId} {r : Option Nat} (h : Blk w g C t) (hg : w.grownBy w' r) (hr : some g ≠ r) : Blk w' g C t := by
  have hl := h.lt
  unfold Blk at *
  rw [hg.block g hl hr, h]
/-- Bytes laid behind what stands there already. -/
theorem setB_fill {A : List Int} {m p k : Nat} (x : Int) (hp : A.length = p) : setB (A ++ List.replicate m 0) p x k = (A ++ digs x k) ++ List.replicate (m - k) 0 := by
  subst hp
  unfold setB
  rw [List.take_left, List.drop_append]
  rw [List.drop_eq_nil_of_le (by omega), List.nil_append, Nat.add_sub_cancel_left, List.drop_replicate, List.append_assoc]
/-- What the closure and its call hold: bytes A, and noughts behind them; where the next number goes. -/
structure Wr (w : World) (base gb ga : Nat) (A : List Int) : Prop where
  box : ∃ h, Blk w gb #[.slice (some ⟨h, 0, none⟩) 24 24] 28 ∧ h ≠ gb ∧ h ≠ ga ∧ w.ownsRow base 5 1 (.slice (some ⟨h, 0, none⟩) 24 24) 24 ((A ++ List.replicate (24 - A.length) 0).map (Value.int .u8))
  at' : Blk w ga #[.int .u64 A.length] 24
  bd : ∀ n ∈ A, 0 ≤ n ∧ n ≤ 255
  le : A.length ≤ 24

set_option maxHeartbeats 800000 in
theorem write_ok (base gb ga : Nat) (A : List Int) (x : Int) (n : Nat) (w : World) (h : Wr w base gb ga A) (hb0 : base ≤ gb) (ha0 : base ≤ ga) (hne : gb ≠ ga) (hn : n = 1 ∨ n = 2 ∨ n = 4 ∨ n = 8) (hs : A.length + n ≤ 24) (x0 : 0 ≤ x) (x1 : x ≤ 18446744073709551615) :
    Calls Try.prog 18 #[.int .u64 x, .int .i64 n, .pointer (some ⟨gb, 0, none⟩), .pointer (some ⟨ga, 0, none⟩)] w fun r w' => r = .returned (.tuple #[]) ∧ Wr w' base gb ga (A ++ digs x n) ∧ Below base w w' := by
  obtain ⟨⟨g, hbox, hg1, hg2, hown⟩, hat, hbd, hle⟩ := h
  have hbd2 : ∀ n ∈ A ++ List.replicate (24 - A.length) 0, 0 ≤ n ∧ n ≤ 255 := by
    intro n hn
    rcases List.mem_append.1 hn with h1 | h1
    · exact hbd n h1
    · rw [List.eq_of_mem_replicate h1]; decide
  have hlb := hbox.lt
  have hla := hat.lt
  have hset := set_ok w.heap.size (some ⟨g, 0, none⟩) 24 24 _ A.length n x w (Bys.own hbd2 hown) (Nat.le_refl _) hn (by decide) hs x0 x1
  rw [setB_fill x rfl] at hset
  have HS := Lib.hid hset
  have HBX := Lib.hid hbox
  have HAT := Lib.hid hat
  have HBD : Hid (∀ m ∈ A ++ digs x n, 0 ≤ m ∧ m ≤ 255) := Lib.hid (by
    intro m hm
    rcases List.mem_append.1 hm with h1 | h1
    · exact hbd m h1
    · exact digs_bd x n m h1)
  have HL : Hid ((A ++ digs x n).length = A.length + n) := Lib.hid (by rw [List.length_append, digs_len])
  have hn8 : (n : Int) ≤ 8 := by omega
  have hAl : (A.length : Int) ≤ 24 := by omega
  have hc1 := hbox.cell 0
  have hc2 := hat.cell 0
  have HNE := Lib.hid hne
  generalize A.length = p at *
  clear hset hbox hat hown hbd hbd2 hn
  go_enter Try.func18, Try.ntmps18
  go_wp2_with fail
  refine HS.out.mono ?_
  rintro r w1 ⟨rfl, hown, hbel⟩
  have hbx1 := HBX.out.below hbel hlb
  have hat1 := HAT.out.below hbel hla
  have hsz := hbel.size
  have c1 : w1.cell? ⟨gb, 0, none⟩ = some (.slice (some ⟨g, 0, none⟩) 24 24) := hbx1.cell 0
  have f1 : w1.frozen? ⟨gb, 0, none⟩ = false := hbx1.frozen 0
  have hbx2 := hbx1.set 0 (.slice (some ⟨w.heap.size, 0, none⟩) 24 24)
  have hat2 := hat1.setOther (a := ⟨gb, 0, none⟩) (Ne.symm HNE.out) (.slice (some ⟨w.heap.size, 0, none⟩) 24 24)
  have hown2 := ownsRow_setCell_below hown (a := ⟨gb, 0, none⟩) hlb (.slice (some ⟨w.heap.size, 0, none⟩) 24 24)
  have hb2 : Below base w (w1.setCell ⟨gb, 0, none⟩ (.slice (some ⟨w.heap.size, 0, none⟩) 24 24)) := (hbel.mono (by omega)).setCell hb0 _
  have c3 : (w1.setCell ⟨gb, 0, none⟩ (.slice (some ⟨w.heap.size, 0, none⟩) 24 24)).cell? ⟨ga, 0, none⟩ = some (.int .u64 p) := hat2.cell 0
  have f3 : (w1.setCell ⟨gb, 0, none⟩ (.slice (some ⟨w.heap.size, 0, none⟩) 24 24)).frozen? ⟨ga, 0, none⟩ = false := hat2.frozen 0
  have hbx3 := hbx2.setOther (a := ⟨ga, 0, none⟩) HNE.out (.int .u64 ((p : Int) + n))
  have hat3 := hat2.set 0 (.int .u64 ((p : Int) + n))
  have hown3 := ownsRow_setCell_below hown2 (a := ⟨ga, 0, none⟩) hla (.int .u64 ((p : Int) + n))
  have hb3 := hb2.setCell (p := ⟨ga, 0, none⟩) ha0 (.int .u64 ((p : Int) + n))
  have HX := Lib.hid hbx3
  have HA := Lib.hid hat3
  have HO := Lib.hid hown3
  have HB := Lib.hid hb3
  clear hbx3 hat3 hown3 hb3 hbx2 hat2 hown2 hb2 hbx1 hat1 hown hbel
  go_wp2
  go_end0
  refine ⟨rfl, ⟨⟨w.heap.size, HX.out, by omega, by omega, ?_⟩, ?_, HBD.out, by rw [HL.out]; exact hs⟩, HB.out⟩
  · have e : (24 - (A ++ digs x n).length) = 24 - p - n := by rw [HL.out]; omega
    rw [e]
    exact own_base HO.out (by omega)
  · have e : ((A ++ digs x n).length : Int) = (p : Int) + n := by rw [HL.out]; omega
    rw [e]
    exact HA.out

theorem digs_one {x : Int} (h0 : 0 ≤ x) (h1 : x ≤ 255) : digs x 1 = [x] := by
  have : x % 256 = x := by omega
  simp [digs, this]
theorem encY_parts {na inf ot se va si : Int} (b0 : 0 ≤ inf) (b1 : inf ≤ 255) (c0 : 0 ≤ ot) (c1 : ot ≤ 255) :
    [] ++ digs na 4 ++ digs inf 1 ++ digs ot 1 ++ digs se 2 ++ digs va 8 ++ digs si 8 = encY ⟨na, inf, ot, se, va, si⟩ := by
  rw [digs_one b0 b1, digs_one c0 c1]
  simp [encY]

set_option maxHeartbeats 1600000 in
theorem sput_ok (s : Sy) (w : World) (h : s.Ok) :
    Calls Try.prog 9 #[s.val] w fun r w' => (∃ u, r = .returned u ∧ Made (encY s) u w') ∧ Below w.heap.size w w' := by
  obtain ⟨i0, hi, hz0, hz1, hz2⟩ := info_parts info_u8
  have HI := Lib.hid hi
  have HZ0 := Lib.hid hz0
  have HZ1 := Lib.hid hz1
  have HZ2 := Lib.hid hz2
  have HEL := Lib.hid (encY_len s)
  have HEB := Lib.hid (encY_bd h)
  obtain ⟨⟨a0, a1⟩, ⟨b0, b1⟩, ⟨c0, c1⟩, ⟨d0, d1⟩, ⟨e0, e1⟩, ⟨f0, f1⟩⟩ := h
  obtain ⟨na, inf, ot, se, va, si⟩ := s
  simp only at a0 a1 b0 b1 c0 c1 d0 d1 e0 e1 f0 f1
  have HP := Lib.hid (encY_parts (na := na) (se := se) (va := va) (si := si) b0 b1 c0 c1)
  generalize encY ⟨na, inf, ot, se, va, si⟩ = zs at HEL HEB HP ⊢
  clear hi hz0 hz1 hz2
  unfold Sy.val
  simp only
  go_enter Try.func9, Try.ntmps9
  go_wp2_with (at_make; refine wpList_make_full _ rfl _ _ 28 rfl (w.heap.size + 1) 5 i0 (.int .u8 0) 1 Try.underlying28 HI.out HZ0.out HZ1.out .i64 .i64 _ _ 24 rfl rfl rfl rfl ?c1 ?c2 ?c3 ?_)
  case c1 => rw [HZ2.out]; omega
  case c2 => unfold maxLen; omega
  case c3 => simp
  intro w1 hown hg
  have hb1 : Below w.heap.size w w1 := ((Below.refl _ _).alloc (Nat.le_refl _) _).grown hg (by simp) (fun _ e => by cases e)
  have hbox := Sy.cs ((Blk.new w #[.int .u32 na, .int .u8 inf, .int .u8 ot, .int .u16 se, .int .u64 va, .int .u64 si] 26).grown hg (by simp))
  obtain ⟨q0, q1, q2, q3, q4, q5⟩ := hbox
  have hsz1 : w.heap.size + 1 < w1.heap.size := by
    obtain ⟨-, ⟨hv, _⟩ | ⟨g', cap, cur, hv, _, hgg, _⟩⟩ := hown
    · cases hv
    · injection hv with hv _ _
      injection hv with hv
      injection hv with hv
      rw [← hv] at hgg
      exact (Array.getElem?_eq_some_iff.1 hgg).1
  have hlt : w.heap.size < w1.heap.size := by omega
  have Q0 : ∀ o o', ((w1.alloc o).alloc o').cell? ⟨w.heap.size, 0, none⟩ = some (.int .u32 na) := fun o o' => by rw [World.cell?_alloc_past _ _ _ (by simp; omega), World.cell?_alloc_past _ _ _ (by simpa using hlt)]; exact q0
  have HQ : Hid (∀ w', Below (w.heap.size + 1) w1 w' → w'.cell? ⟨w.heap.size, 1, none⟩ = some (.int .u8 inf) ∧ w'.cell? ⟨w.heap.size, 2, none⟩ = some (.int .u8 ot) ∧ w'.cell? ⟨w.heap.size, 3, none⟩ = some (.int .u16 se) ∧ w'.cell? ⟨w.heap.size, 4, none⟩ = some (.int .u64 va) ∧ w'.cell? ⟨w.heap.size, 5, none⟩ = some (.int .u64 si)) := Lib.hid (fun w' h => ⟨(h.cell (Nat.lt_succ_self _)).trans q1, (h.cell (Nat.lt_succ_self _)).trans q2, (h.cell (Nat.lt_succ_self _)).trans q3, (h.cell (Nat.lt_succ_self _)).trans q4, (h.cell (Nat.lt_succ_self _)).trans q5⟩)
  have hne : w1.heap.size ≠ w1.heap.size + 1 := by omega
  have HW0 : Hid (Wr ((w1.alloc (.cells #[.slice (some ⟨w.heap.size + 1, 0, none⟩) 24 24] 28)).alloc (.cells #[.int .u64 0] 24)) (w.heap.size + 1) w1.heap.size (w1.heap.size + 1) []) := Lib.hid (by
    rw [toList_madeCells_one] at hown
    refine ⟨⟨w.heap.size + 1, (Blk.new w1 _ _).alloc _, by omega, by omega, ?_⟩, ?_, fun n hn => (by cases hn), by decide⟩
    · have e : ([] ++ List.replicate (24 - ([] : List Int).length) (0 : Int)).map (Value.int .u8) = List.replicate 24 (.int .u8 0) := by simp
      rw [e]
      exact (hown.alloc _).alloc _
    · have := Blk.new (w1.alloc (.cells #[.slice (some ⟨w.heap.size + 1, 0, none⟩) 24 24] 28)) #[.int .u64 0] 24
      rw [World.size_alloc] at this
      exact this)
  have HB1 : Hid (∀ o o', Below (w.heap.size + 1) w1 ((w1.alloc o).alloc o')) := Lib.hid (fun o o' => ((Below.refl _ _).alloc (by omega) _).alloc (by simp; omega) _)
  have HBW := Lib.hid hb1
  clear hown hg hb1 q0 q1 q2 q3 q4 q5
  go_wp2_with fail
  refine (write_ok (w.heap.size + 1) w1.heap.size (w1.heap.size + 1) _ na 4 _ HW0.out (by omega) (by omega) hne (by decide) (by decide) a0 (by omega)).mono ?_
  rintro r2 w2 ⟨rfl, hw, hb⟩
  have HW2 := Lib.hid hw
  have HB2 := Lib.hid (Below.trans (HB1.out _ _) hb)
  have hl1 : Hid (([] ++ digs na 4 : List Int).length = 4) := Lib.hid (by simp [digs_len])
  have hq := (HQ.out _ HB2.out).1
  clear hw hb
  go_wp2_with fail
  refine (write_ok (w.heap.size + 1) w1.heap.size (w1.heap.size + 1) _ inf 1 _ HW2.out (by omega) (by omega) hne (by decide) (by rw [hl1.out]; decide) b0 (by omega)).mono ?_
  rintro r3 w3 ⟨rfl, hw, hb⟩
  have HW3 := Lib.hid hw
  have HB3 := Lib.hid (Below.trans HB2.out hb)
  have hl2 : Hid (([] ++ digs na 4 ++ digs inf 1 : List Int).length = 5) := Lib.hid (by simp [digs_len])
  have hq := (HQ.out _ HB3.out).2.1
  clear hw hb
  go_wp2_with fail
  refine (write_ok (w.heap.size + 1) w1.heap.size (w1.heap.size + 1) _ ot 1 _ HW3.out (by omega) (by omega) hne (by decide) (by rw [hl2.out]; decide) c0 (by omega)).mono ?_
  rintro r4 w4 ⟨rfl, hw, hb⟩
  have HW4 := Lib.hid hw
  have HB4 := Lib.hid (Below.trans HB3.out hb)
  have hl3 : Hid (([] ++ digs na 4 ++ digs inf 1 ++ digs ot 1 : List Int).length = 6) := Lib.hid (by simp [digs_len])
  have hq := (HQ.out _ HB4.out).2.2.1
  clear hw hb
  go_wp2_with fail
  refine (write_ok (w.heap.size + 1) w1.heap.size (w1.heap.size + 1) _ se 2 _ HW4.out (by omega) (by omega) hne (by decide) (by rw [hl3.out]; decide) d0 (by omega)).mono ?_
  rintro r5 w5 ⟨rfl, hw, hb⟩
  have HW5 := Lib.hid hw
  have HB5 := Lib.hid (Below.trans HB4.out hb)
  have hl4 : Hid (([] ++ digs na 4 ++ digs inf 1 ++ digs ot 1 ++ digs se 2 : List Int).length = 8) := Lib.hid (by simp [digs_len])
  have hq := (HQ.out _ HB5.out).2.2.2.1
  clear hw hb
  go_wp2_with fail
  refine (write_ok (w.heap.size + 1) w1.heap.size (w1.heap.size + 1) _ va 8 _ HW5.out (by omega) (by omega) hne (by decide) (by rw [hl4.out]; decide) e0 (by omega)).mono ?_
  rintro r6 w6 ⟨rfl, hw, hb⟩
  have HW6 := Lib.hid hw
  have HB6 := Lib.hid (Below.trans HB5.out hb)
  have hl5 : Hid (([] ++ digs na 4 ++ digs inf 1 ++ digs ot 1 ++ digs se 2 ++ digs va 8 : List Int).length = 16) := Lib.hid (by simp [digs_len])
  have hq := (HQ.out _ HB6.out).2.2.2.2
  clear hw hb
  go_wp2_with fail
  refine (write_ok (w.heap.size + 1) w1.heap.size (w1.heap.size + 1) _ si 8 _ HW6.out (by omega) (by omega) hne (by decide) (by rw [hl5.out]; decide) f0 (by omega)).mono ?_
  rintro r7 w7 ⟨rfl, hw, hb⟩
  have HW7 := Lib.hid hw
  have HB7 := Lib.hid (Below.trans HB6.out hb)
  have hl6 : Hid (([] ++ digs na 4 ++ digs inf 1 ++ digs ot 1 ++ digs se 2 ++ digs va 8 ++ digs si 8 : List Int).length = 24) := Lib.hid (by simp [digs_len])
  clear hw hb
  obtain ⟨⟨g, hx, -, -, hown⟩, -, -, -⟩ := HW7.out
  rw [HP.out, HEL.out, Nat.sub_self, List.replicate_zero, List.append_nil] at hown
  have hx0 : w7.cell? ⟨w1.heap.size, 0, none⟩ = some (.slice (some ⟨g, 0, none⟩) 24 24) := hx.cell 0
  have HO := Lib.hid hown
  clear hown hx
  go_wp2
  go_ret
  exact ⟨⟨_, rfl, own_made (by rw [HEL.out]; exact HO.out) (by rw [HEL.out]; decide) HEB.out⟩, HBW.out.trans (HB7.out.mono (by omega))⟩
end Go.Proofs.Ytpodnhieaboddaa
