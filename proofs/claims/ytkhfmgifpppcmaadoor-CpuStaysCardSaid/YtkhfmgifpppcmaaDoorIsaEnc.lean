/-
  What is proved here: the reference of isa: Encode, Decode.
  Conditions: none but that the arguments are values of their types.
-/
import Derived.Test.YtkhfmgifpppcmaaDoorIsaRef
import Derived.Test.YtkhfmgifpppcmaaDoorFWords
namespace Go.Proofs.YtkhfmgifpppcmaaDoor
open Go.RowKit
set_option linter.unusedVariables false
set_option linter.unusedSimpArgs false

theorem mayI_bd {i : In} (h : mayI i = true) : (0 ≤ i.op ∧ i.op ≤ 41) ∧ (0 ≤ i.a ∧ i.a ≤ 31) ∧ (0 ≤ i.b ∧ i.b ≤ 31) ∧ (0 ≤ i.c ∧ i.c ≤ 31) ∧ -2147483648 ≤ i.imm ∧ i.imm ≤ 2147483647 := by
  unfold mayI okF at h
  simp only [Bool.and_eq_true, decide_eq_true_eq] at h
  obtain ⟨h0, ⟨-, h1⟩, ⟨-, h2⟩, ⟨-, h3⟩, -, h4⟩ := h
  refine ⟨⟨?_, ?_⟩, h1, h2, h3, h4⟩
  · by_cases e : i.op < 0
    · rw [wordI_neg e] at h0; exact absurd rfl h0
    · omega
  · by_cases e : 42 ≤ i.op
    · rw [wordI_far e] at h0; exact absurd rfl h0
    · omega
theorem encI_no {i : In} (h : mayI i = false) : encI i = (0, 42) := by unfold encI; rw [h]; rfl
theorem encI_yes {i : In} (h : mayI i = true) : encI i = (i.op + 256 * i.a + 8192 * i.b + 262144 * i.c + 4294967296 * (if i.imm < 0 then i.imm + 4294967296 else i.imm), 0) := by unfold encI; rw [h]; rfl
/-- A struct of five cells, behind a call. -/
theorem five_cells {w w1 : World} {v0 v1 v2 v3 v4 : Value} {t : TypeId} (h : Below (w.alloc (.cells #[v0, v1, v2, v3, v4] t)).heap.size (w.alloc (.cells #[v0, v1, v2, v3, v4] t)) w1) :
    w1.cell? ⟨w.heap.size, 0, none⟩ = some v0 ∧ w1.cell? ⟨w.heap.size, 1, none⟩ = some v1 ∧ w1.cell? ⟨w.heap.size, 2, none⟩ = some v2 ∧ w1.cell? ⟨w.heap.size, 3, none⟩ = some v3 ∧ w1.cell? ⟨w.heap.size, 4, none⟩ = some v4 := by
  have hk := (Blk.new w #[v0, v1, v2, v3, v4] t).later h
  exact ⟨hk.cell 0, hk.cell 1, hk.cell 2, hk.cell 3, hk.cell 4⟩
set_option maxRecDepth 100000 in
set_option maxHeartbeats 1600000 in
theorem renc_any (i : In) (w : World) (h : i.Ok) :
    Calls Tryd.prog 10 #[i.val] w fun r w' => r = .returned (.tuple #[.int .u64 (encI i).1, .int .i64 (encI i).2]) ∧ Below w.heap.size w w' := by
  have HM := rmay_any i
  have hb := @mayI_bd i
  have hno := @encI_no i
  have hyes := @encI_yes i
  have hval : i.val = .agg #[.int .i64 i.op, .int .i64 i.a, .int .i64 i.b, .int .i64 i.c, .int .i64 i.imm] := rfl
  have HMY := Lib.hid (fun w1 => HM w1 h)
  clear HM
  rw [hval] at HMY ⊢
  obtain ⟨E, hE⟩ : ∃ E, encI i = E := ⟨_, rfl⟩
  rw [hE] at hno hyes ⊢
  obtain ⟨op, hop⟩ : ∃ x, i.op = x := ⟨_, rfl⟩
  obtain ⟨a, ha⟩ : ∃ x, i.a = x := ⟨_, rfl⟩
  obtain ⟨b, hbb⟩ : ∃ x, i.b = x := ⟨_, rfl⟩
  obtain ⟨c, hc⟩ : ∃ x, i.c = x := ⟨_, rfl⟩
  obtain ⟨imm, hm⟩ : ∃ x, i.imm = x := ⟨_, rfl⟩
  rw [hop, ha, hbb, hc, hm] at hb HMY hyes ⊢
  obtain ⟨m, hme⟩ : ∃ m, mayI i = m := ⟨_, rfl⟩
  rw [hme] at hb hno hyes HMY
  have HBE := Lib.hid (fun o => (Below.refl w.heap.size w).alloc (Nat.le_refl _) o)
  clear hE hop ha hbb hc hm hme hval h
  cases m with
  | false =>
    obtain rfl := hno rfl
    clear hb hno hyes
    go_enter Tryd.func10, Tryd.ntmps10
    go_wp2_with fail
    refine (HMY.out _).mono ?_
    rintro r w1 ⟨rfl, hb1⟩
    have HB := Lib.hid ((HBE.out _).trans (hb1.mono (HBE.out _).size))
    clear hb1
    go_wp2
    go_ret2
    exact ⟨rfl, HB.out⟩
  | true =>
    obtain ⟨⟨p0, p1⟩, ⟨a0, a1⟩, ⟨b0, b1⟩, ⟨c0, c1⟩, m0, m1⟩ := hb rfl
    have hy := hyes rfl
    clear hb hno hyes
    by_cases hneg : imm < 0
    · rw [if_pos hneg] at hy
      obtain rfl := hy
      go_enter Tryd.func10, Tryd.ntmps10
      go_wp2_with fail
      refine (HMY.out _).mono ?_
      rintro r w1 ⟨rfl, hb1⟩
      have HB := Lib.hid ((HBE.out _).trans (hb1.mono (HBE.out _).size))
      obtain ⟨q0, q1, q2, q3, q4⟩ := five_cells hb1
      clear hb1
      go_wp2
      go_ret2
      refine ⟨ret_num ?_, HB.out⟩
      omega
    · rw [if_neg hneg] at hy
      obtain rfl := hy
      go_enter Tryd.func10, Tryd.ntmps10
      go_wp2_with fail
      refine (HMY.out _).mono ?_
      rintro r w1 ⟨rfl, hb1⟩
      have HB := Lib.hid ((HBE.out _).trans (hb1.mono (HBE.out _).size))
      obtain ⟨q0, q1, q2, q3, q4⟩ := five_cells hb1
      clear hb1
      go_wp2
      go_ret2
      refine ⟨ret_num ?_, HB.out⟩
      omega
theorem cutI_ok {x : Int} (h0 : 0 ≤ x) (h1 : x ≤ 18446744073709551615) : (cutI x).Ok := by
  unfold cutI
  refine ⟨?_, ?_, ?_, ?_, ?_⟩ <;> simp only <;> (try split) <;> omega
theorem three_five {x : World} {g : Nat} {v0 v1 v2 v3 v4 : Value} {t : TypeId} (h : Blk x g #[v0, v1, v2, v3, v4] t) (u0 u1 u2 u3 u4 : Value) :
    (x.setCell ⟨g, 0, none⟩ u0).cell? ⟨g, 0, none⟩ = some u0 ∧ ((x.setCell ⟨g, 0, none⟩ u0).setCell ⟨g, 1, none⟩ u1).cell? ⟨g, 1, none⟩ = some u1 ∧ (((x.setCell ⟨g, 0, none⟩ u0).setCell ⟨g, 1, none⟩ u1).setCell ⟨g, 2, none⟩ u2).cell? ⟨g, 2, none⟩ = some u2 ∧ ((((x.setCell ⟨g, 0, none⟩ u0).setCell ⟨g, 1, none⟩ u1).setCell ⟨g, 2, none⟩ u2).setCell ⟨g, 3, none⟩ u3).cell? ⟨g, 3, none⟩ = some u3 ∧ (((((x.setCell ⟨g, 0, none⟩ u0).setCell ⟨g, 1, none⟩ u1).setCell ⟨g, 2, none⟩ u2).setCell ⟨g, 3, none⟩ u3).setCell ⟨g, 4, none⟩ u4).cell? ⟨g, 4, none⟩ = some u4 :=
  ⟨(h.set 0 u0).cell 0, ((h.set 0 u0).set 1 u1).cell 1, (((h.set 0 u0).set 1 u1).set 2 u2).cell 2, ((((h.set 0 u0).set 1 u1).set 2 u2).set 3 u3).cell 3, (((((h.set 0 u0).set 1 u1).set 2 u2).set 3 u3).set 4 u4).cell 4⟩
theorem five_below {B g : Nat} {w x : World} (h : Below B w x) (hg : B ≤ g) (u0 u1 u2 u3 u4 : Value) :
    Below B w (((((x.setCell ⟨g, 0, none⟩ u0).setCell ⟨g, 1, none⟩ u1).setCell ⟨g, 2, none⟩ u2).setCell ⟨g, 3, none⟩ u3).setCell ⟨g, 4, none⟩ u4) :=
  ((((h.setCell (p := ⟨g, 0, none⟩) hg u0).setCell (p := ⟨g, 1, none⟩) hg u1).setCell (p := ⟨g, 2, none⟩) hg u2).setCell (p := ⟨g, 3, none⟩) hg u3).setCell (p := ⟨g, 4, none⟩) hg u4
theorem decI_yes {x : Int} (h : encI (cutI x) = (x, 0)) : decI x = (cutI x, 0) := by unfold decI; rw [if_pos h]
theorem decI_no {x : Int} (h : ¬ encI (cutI x) = (x, 0)) : decI x = (In.zero, 42) := by unfold decI; rw [if_neg h]
end Go.Proofs.YtkhfmgifpppcmaaDoor
