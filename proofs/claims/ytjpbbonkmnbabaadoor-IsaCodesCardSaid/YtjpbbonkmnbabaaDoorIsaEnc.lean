/-
  What is proved here: the reference of isa: Encode, Decode.
  Conditions: none but that the arguments are values of their types.
-/
import Derived.Test.YtjpbbonkmnbabaaDoorIsaRef
namespace Go.Proofs.YtjpbbonkmnbabaaDoor
open Go.RowKit
set_option linter.unusedVariables false
set_option linter.unusedSimpArgs false

theorem mayI_bd {i : In} (h : mayI i = true) : (0 ≤ i.op ∧ i.op ≤ 41) ∧ (0 ≤ i.a ∧ i.a ≤ 31) ∧ (0 ≤ i.b ∧ i.b ≤ 31) ∧ (0 ≤ i.c ∧ i.c ≤ 31) ∧ -2147483648 ≤ i.imm ∧ i.imm ≤ 2147483647 := by
  unfold mayI okF at h
  simp only [Bool.and_eq_true, decide_eq_true_eq] at h
  obtain ⟨h0, ⟨-, h1⟩, ⟨-, h2⟩, ⟨-, h3⟩, -, h4⟩ := h
  refine ⟨⟨?_, ?_⟩, h1, h2, h3, h4⟩
  · by_cases e : i.op < 0
    · rw [wordI_neg e] at h0; exact absurd rfl h0
    · omega
  · by_cases e : 42 ≤ i.op
    · rw [wordI_far e] at h0; exact absurd rfl h0
    · omega
theorem encI_no {i : In} (h : mayI i = false) : encI i = (0, 42) := by unfold encI; rw [h]; rfl
theorem encI_yes {i : In} (h : mayI i = true) : encI i = (i.op + 256 * i.a + 8192 * i.b + 262144 * i.c + 4294967296 * (if i.imm < 0 then i.imm + 4294967296 else i.imm), 0) := by unfold encI; rw [h]; rfl
theorem Blk.set {w : World} {g : Nat} {C : Array Value} {t : TypeId} (h : Blk w g C t) (i : Nat) (u : Value) : Blk (w.setCell ⟨g, i, none⟩ u) g (C.setIfInBounds i u) t := by
  unfold Blk at *
  simp [World.setCell, h, Array.getElem?_modify]
/-- A struct of five cells, behind a call. -/
theorem five_cells {w w1 : World} {v0 v1 v2 v3 v4 : Value} {t : TypeId} (h : Below (w.alloc (.cells #[v0, v1, v2, v3, v4] t)).heap.size (w.alloc (.cells #[v0, v1, v2, v3, v4] t)) w1) :
    w1.cell? ⟨w.heap.size, 0, none⟩ = some v0 ∧ w1.cell? ⟨w.heap.size, 1, none⟩ = some v1 ∧ w1.cell? ⟨w.heap.size, 2, none⟩ = some v2 ∧ w1.cell? ⟨w.heap.size, 3, none⟩ = some v3 ∧ w1.cell? ⟨w.heap.size, 4, none⟩ = some v4 := by
  have hk := (Blk.new w #[v0, v1, v2, v3, v4] t).later h
  exact ⟨hk.cell 0, hk.cell 1, hk.cell 2, hk.cell 3, hk.cell 4⟩
set_option maxRecDepth 100000 in
set_option maxHeartbeats 1600000 in
theorem renc_any (i : In) (w : World) (h : i.Ok) :
    Calls Tryd.prog 12 #[i.val] w fun r w' => r = .returned (.tuple #[.int .u64 (encI i).1, .int .i64 (encI i).2]) ∧ Below w.heap.size w w' := by
  have HM := rmay_any i
  have hb := @mayI_bd i
  have hno := @encI_no i
  have hyes := @encI_yes i
  have hval : i.val = .agg #[.int .i64 i.op, .int .i64 i.a, .int .i64 i.b, .int .i64 i.c, .int .i64 i.imm] := rfl
  have HMY := Lib.hid (fun w1 => HM w1 h)
  clear HM
  rw [hval] at HMY ⊢
  obtain ⟨E, hE⟩ : ∃ E, encI i = E := ⟨_, rfl⟩
  rw [hE] at hno hyes ⊢
  obtain ⟨op, hop⟩ : ∃ x, i.op = x := ⟨_, rfl⟩
  obtain ⟨a, ha⟩ : ∃ x, i.a = x := ⟨_, rfl⟩
  obtain ⟨b, hbb⟩ : ∃ x, i.b = x := ⟨_, rfl⟩
  obtain ⟨c, hc⟩ : ∃ x, i.c = x := ⟨_, rfl⟩
  obtain ⟨imm, hm⟩ : ∃ x, i.imm = x := ⟨_, rfl⟩
  rw [hop, ha, hbb, hc, hm] at hb HMY hyes ⊢
  obtain ⟨m, hme⟩ : ∃ m, mayI i = m := ⟨_, rfl⟩
  rw [hme] at hb hno hyes HMY
  have HBE := Lib.hid (fun o => (Below.refl w.heap.size w).alloc (Nat.le_refl _) o)
  clear hE hop ha hbb hc hm hme hval h
  cases m with
  | false =>
    obtain rfl := hno rfl
    clear hb hno hyes
    go_enter Tryd.func12, Tryd.ntmps12
    go_wp2_with fail
    refine (HMY.out _).mono ?_
    rintro r w1 ⟨rfl, hb1⟩
    have HB := Lib.hid ((HBE.out _).trans (hb1.mono (HBE.out _).size))
    clear hb1
    go_wp2
    go_ret2
    exact ⟨rfl, HB.out⟩
  | true =>
    obtain ⟨⟨p0, p1⟩, ⟨a0, a1⟩, ⟨b0, b1⟩, ⟨c0, c1⟩, m0, m1⟩ := hb rfl
    have hy := hyes rfl
    clear hb hno hyes
    by_cases hneg : imm < 0
    · rw [if_pos hneg] at hy
      obtain rfl := hy
      go_enter Tryd.func12, Tryd.ntmps12
      go_wp2_with fail
      refine (HMY.out _).mono ?_
      rintro r w1 ⟨rfl, hb1⟩
      have HB := Lib.hid ((HBE.out _).trans (hb1.mono (HBE.out _).size))
      obtain ⟨q0, q1, q2, q3, q4⟩ := five_cells hb1
      clear hb1
      go_wp2
      go_ret2
      refine ⟨ret_num ?_, HB.out⟩
      omega
    · rw [if_neg hneg] at hy
      obtain rfl := hy
      go_enter Tryd.func12, Tryd.ntmps12
      go_wp2_with fail
      refine (HMY.out _).mono ?_
      rintro r w1 ⟨rfl, hb1⟩
      have HB := Lib.hid ((HBE.out _).trans (hb1.mono (HBE.out _).size))
      obtain ⟨q0, q1, q2, q3, q4⟩ := five_cells hb1
      clear hb1
      go_wp2
      go_ret2
      refine ⟨ret_num ?_, HB.out⟩
      omega
theorem cutI_ok {x : Int} (h0 : 0 ≤ x) (h1 : x ≤ 18446744073709551615) : (cutI x).Ok := by
  unfold cutI
  refine ⟨?_, ?_, ?_, ?_, ?_⟩ <;> simp only <;> (try split) <;> omega
theorem three_five {x : World} {g : Nat} {v0 v1 v2 v3 v4 : Value} {t : TypeId} (h : Blk x g #[v0, v1, v2, v3, v4] t) (u0 u1 u2 u3 u4 : Value) :
    (x.setCell ⟨g, 0, none⟩ u0).cell? ⟨g, 0, none⟩ = some u0 ∧ ((x.setCell ⟨g, 0, none⟩ u0).setCell ⟨g, 1, none⟩ u1).cell? ⟨g, 1, none⟩ = some u1 ∧ (((x.setCell ⟨g, 0, none⟩ u0).setCell ⟨g, 1, none⟩ u1).setCell ⟨g, 2, none⟩ u2).cell? ⟨g, 2, none⟩ = some u2 ∧ ((((x.setCell ⟨g, 0, none⟩ u0).setCell ⟨g, 1, none⟩ u1).setCell ⟨g, 2, none⟩ u2).setCell ⟨g, 3, none⟩ u3).cell? ⟨g, 3, none⟩ = some u3 ∧ (((((x.setCell ⟨g, 0, none⟩ u0).setCell ⟨g, 1, none⟩ u1).setCell ⟨g, 2, none⟩ u2).setCell ⟨g, 3, none⟩ u3).setCell ⟨g, 4, none⟩ u4).cell? ⟨g, 4, none⟩ = some u4 :=
  ⟨(h.set 0 u0).cell 0, ((h.set 0 u0).set 1 u1).cell 1, (((h.set 0 u0).set 1 u1).set 2 u2).cell 2, ((((h.set 0 u0).set 1 u1).set 2 u2).set 3 u3).cell 3, (((((h.set 0 u0).set 1 u1).set 2 u2).set 3 u3).set 4 u4).cell 4⟩
theorem five_below {B g : Nat} {w x : World} (h : Below B w x) (hg : B ≤ g) (u0 u1 u2 u3 u4 : Value) :
    Below B w (((((x.setCell ⟨g, 0, none⟩ u0).setCell ⟨g, 1, none⟩ u1).setCell ⟨g, 2, none⟩ u2).setCell ⟨g, 3, none⟩ u3).setCell ⟨g, 4, none⟩ u4) :=
  ((((h.setCell (p := ⟨g, 0, none⟩) hg u0).setCell (p := ⟨g, 1, none⟩) hg u1).setCell (p := ⟨g, 2, none⟩) hg u2).setCell (p := ⟨g, 3, none⟩) hg u3).setCell (p := ⟨g, 4, none⟩) hg u4
theorem decI_yes {x : Int} (h : encI (cutI x) = (x, 0)) : decI x = (cutI x, 0) := by unfold decI; rw [if_pos h]
theorem decI_no {x : Int} (h : ¬ encI (cutI x) = (x, 0)) : decI x = (In.zero, 42) := by unfold decI; rw [if_neg h]
set_option maxRecDepth 100000 in
set_option maxHeartbeats 3200000 in
theorem rdec_any (x : Int) (w : World) (x0 : 0 ≤ x) (x1 : x ≤ 18446744073709551615) :
    Calls Tryd.prog 17 #[.int .u64 x] w fun r w' => r = .returned (.tuple #[(decI x).1.val, .int .i64 (decI x).2]) ∧ Below w.heap.size w w' := by
  have HEC := Lib.hid (fun w1 => renc_any (cutI x) w1 (cutI_ok x0 x1))
  have hyes := @decI_yes x
  have hno := @decI_no x
  have hcut : (cutI x).val = .agg #[.int .i64 (x % 256), .int .i64 (x / 256 % 32), .int .i64 (x / 8192 % 32), .int .i64 (x / 262144 % 32), .int .i64 (if 2147483648 ≤ x / 4294967296 then x / 4294967296 - 4294967296 else x / 4294967296)] := rfl
  obtain ⟨⟨y, e⟩, hE⟩ : ∃ E, encI (cutI x) = E := ⟨_, rfl⟩
  rw [hE] at HEC hyes hno
  simp only at HEC
  rw [hcut] at HEC
  obtain ⟨D, hD⟩ : ∃ D, decI x = D := ⟨_, rfl⟩
  rw [hD] at hyes hno ⊢
  have HCUT := Lib.hid hcut
  have HYES := Lib.hid hyes
  have HNO := Lib.hid hno
  clear hE hD hcut hyes hno
  have HB1 := Lib.hid (fun o o' => ((Below.refl w.heap.size w).alloc (Nat.le_refl _) o).alloc (by simp) o')
  by_cases hbig : 2147483648 ≤ x / 4294967296
  · rw [if_pos hbig] at HEC HCUT
    go_enter Tryd.func17, Tryd.ntmps17
    go_wp2_with fail
    refine (HEC.out _).mono ?_
    rintro r w1 ⟨rfl, hb1⟩
    have hk0 := ((Blk.new w #[.int .i64 0, .int .i64 0, .int .i64 0, .int .i64 0, .int .i64 0] 31).alloc _).later hb1
    have hk1 := (Blk.new (w.alloc (.cells #[.int .i64 0, .int .i64 0, .int .i64 0, .int .i64 0, .int .i64 0] 31)) #[.int .i64 (x % 256), .int .i64 (x / 256 % 32), .int .i64 (x / 8192 % 32), .int .i64 (x / 262144 % 32), .int .i64 (x / 4294967296 - 4294967296)] 31).later hb1
    rw [World.size_alloc] at hk1
    have HBB := Lib.hid ((HB1.out _ _).trans (hb1.mono (HB1.out _ _).size))
    have HK0 := Lib.hid hk0
    obtain ⟨p0, p1, p2, p3, p4⟩ : _ ∧ _ ∧ _ ∧ _ ∧ _ := ⟨hk0.cell 0, hk0.cell 1, hk0.cell 2, hk0.cell 3, hk0.cell 4⟩
    obtain ⟨f0, f1, f2, f3, f4⟩ : _ ∧ _ ∧ _ ∧ _ ∧ _ := ⟨hk0.frozen 0, hk0.frozen 1, hk0.frozen 2, hk0.frozen 3, hk0.frozen 4⟩
    obtain ⟨q0, q1, q2, q3, q4⟩ : _ ∧ _ ∧ _ ∧ _ ∧ _ := ⟨hk1.cell 0, hk1.cell 1, hk1.cell 2, hk1.cell 3, hk1.cell 4⟩
    clear hk0 hk1 hb1
    by_cases he : e = 0
    · subst he
      by_cases hy : y = x
      · subst hy
        have hd := HYES.out rfl
        have HD : Hid ((Value.tuple #[D.1.val, .int .i64 D.2]) = .tuple #[.agg #[.int .i64 (y % 256), .int .i64 (y / 256 % 32), .int .i64 (y / 8192 % 32), .int .i64 (y / 262144 % 32), .int .i64 (y / 4294967296 - 4294967296)], .int .i64 0]) := Lib.hid (by rw [hd]; simp only; rw [HCUT.out])
        clear hd
        go_wp2
        obtain ⟨e0, e1, e2, e3, e4⟩ := three_five HK0.out (.int .i64 (y % 256)) (.int .i64 (y / 256 % 32)) (.int .i64 (y / 8192 % 32)) (.int .i64 (y / 262144 % 32)) (.int .i64 (y / 4294967296 - 4294967296))
        exact bodyPost_ret (v := .tuple #[.agg #[.int .i64 (y % 256), .int .i64 (y / 256 % 32), .int .i64 (y / 8192 % 32), .int .i64 (y / 262144 % 32), .int .i64 (y / 4294967296 - 4294967296)], .int .i64 0]) (by simp [results, Tryd.results17, go_sem, e0, e1, e2, e3, e4]) rfl ⟨by rw [HD.out], five_below HBB.out (Nat.le_refl _) _ _ _ _ _⟩
      · have hd := HNO.out (fun h => hy (by injection h))
        have HD : Hid ((Value.tuple #[D.1.val, .int .i64 D.2]) = .tuple #[.agg #[.int .i64 0, .int .i64 0, .int .i64 0, .int .i64 0, .int .i64 0], .int .i64 42]) := Lib.hid (by rw [hd]; rfl)
        have hyb : (y != x) = true := by simpa using hy
        clear hd
        go_wp2
        obtain ⟨e0, e1, e2, e3, e4⟩ := three_five HK0.out (.int .i64 0) (.int .i64 0) (.int .i64 0) (.int .i64 0) (.int .i64 0)
        exact bodyPost_ret (v := .tuple #[.agg #[.int .i64 0, .int .i64 0, .int .i64 0, .int .i64 0, .int .i64 0], .int .i64 42]) (by simp [results, Tryd.results17, go_sem, e0, e1, e2, e3, e4]) rfl ⟨by rw [HD.out], five_below HBB.out (Nat.le_refl _) _ _ _ _ _⟩
    · have hd := HNO.out (fun h => he (by injection h))
      have HD : Hid ((Value.tuple #[D.1.val, .int .i64 D.2]) = .tuple #[.agg #[.int .i64 0, .int .i64 0, .int .i64 0, .int .i64 0, .int .i64 0], .int .i64 42]) := Lib.hid (by rw [hd]; rfl)
      have heb : (e != 0) = true := by simpa using he
      clear hd
      go_wp2
      obtain ⟨e0, e1, e2, e3, e4⟩ := three_five HK0.out (.int .i64 0) (.int .i64 0) (.int .i64 0) (.int .i64 0) (.int .i64 0)
      exact bodyPost_ret (v := .tuple #[.agg #[.int .i64 0, .int .i64 0, .int .i64 0, .int .i64 0, .int .i64 0], .int .i64 42]) (by simp [results, Tryd.results17, go_sem, e0, e1, e2, e3, e4]) rfl ⟨by rw [HD.out], five_below HBB.out (Nat.le_refl _) _ _ _ _ _⟩
  · rw [if_neg hbig] at HEC HCUT
    go_enter Tryd.func17, Tryd.ntmps17
    go_wp2_with fail
    refine (HEC.out _).mono ?_
    rintro r w1 ⟨rfl, hb1⟩
    have hk0 := ((Blk.new w #[.int .i64 0, .int .i64 0, .int .i64 0, .int .i64 0, .int .i64 0] 31).alloc _).later hb1
    have hk1 := (Blk.new (w.alloc (.cells #[.int .i64 0, .int .i64 0, .int .i64 0, .int .i64 0, .int .i64 0] 31)) #[.int .i64 (x % 256), .int .i64 (x / 256 % 32), .int .i64 (x / 8192 % 32), .int .i64 (x / 262144 % 32), .int .i64 (x / 4294967296)] 31).later hb1
    rw [World.size_alloc] at hk1
    have HBB := Lib.hid ((HB1.out _ _).trans (hb1.mono (HB1.out _ _).size))
    have HK0 := Lib.hid hk0
    obtain ⟨p0, p1, p2, p3, p4⟩ : _ ∧ _ ∧ _ ∧ _ ∧ _ := ⟨hk0.cell 0, hk0.cell 1, hk0.cell 2, hk0.cell 3, hk0.cell 4⟩
    obtain ⟨f0, f1, f2, f3, f4⟩ : _ ∧ _ ∧ _ ∧ _ ∧ _ := ⟨hk0.frozen 0, hk0.frozen 1, hk0.frozen 2, hk0.frozen 3, hk0.frozen 4⟩
    obtain ⟨q0, q1, q2, q3, q4⟩ : _ ∧ _ ∧ _ ∧ _ ∧ _ := ⟨hk1.cell 0, hk1.cell 1, hk1.cell 2, hk1.cell 3, hk1.cell 4⟩
    clear hk0 hk1 hb1
    by_cases he : e = 0
    · subst he
      by_cases hy : y = x
      · subst hy
        have hd := HYES.out rfl
        have HD : Hid ((Value.tuple #[D.1.val, .int .i64 D.2]) = .tuple #[.agg #[.int .i64 (y % 256), .int .i64 (y / 256 % 32), .int .i64 (y / 8192 % 32), .int .i64 (y / 262144 % 32), .int .i64 (y / 4294967296)], .int .i64 0]) := Lib.hid (by rw [hd]; simp only; rw [HCUT.out])
        clear hd
        go_wp2
        obtain ⟨e0, e1, e2, e3, e4⟩ := three_five HK0.out (.int .i64 (y % 256)) (.int .i64 (y / 256 % 32)) (.int .i64 (y / 8192 % 32)) (.int .i64 (y / 262144 % 32)) (.int .i64 (y / 4294967296))
        exact bodyPost_ret (v := .tuple #[.agg #[.int .i64 (y % 256), .int .i64 (y / 256 % 32), .int .i64 (y / 8192 % 32), .int .i64 (y / 262144 % 32), .int .i64 (y / 4294967296)], .int .i64 0]) (by simp [results, Tryd.results17, go_sem, e0, e1, e2, e3, e4]) rfl ⟨by rw [HD.out], five_below HBB.out (Nat.le_refl _) _ _ _ _ _⟩
      · have hd := HNO.out (fun h => hy (by injection h))
        have HD : Hid ((Value.tuple #[D.1.val, .int .i64 D.2]) = .tuple #[.agg #[.int .i64 0, .int .i64 0, .int .i64 0, .int .i64 0, .int .i64 0], .int .i64 42]) := Lib.hid (by rw [hd]; rfl)
        have hyb : (y != x) = true := by simpa using hy
        clear hd
        go_wp2
        obtain ⟨e0, e1, e2, e3, e4⟩ := three_five HK0.out (.int .i64 0) (.int .i64 0) (.int .i64 0) (.int .i64 0) (.int .i64 0)
        exact bodyPost_ret (v := .tuple #[.agg #[.int .i64 0, .int .i64 0, .int .i64 0, .int .i64 0, .int .i64 0], .int .i64 42]) (by simp [results, Tryd.results17, go_sem, e0, e1, e2, e3, e4]) rfl ⟨by rw [HD.out], five_below HBB.out (Nat.le_refl _) _ _ _ _ _⟩
    · have hd := HNO.out (fun h => he (by injection h))
      have HD : Hid ((Value.tuple #[D.1.val, .int .i64 D.2]) = .tuple #[.agg #[.int .i64 0, .int .i64 0, .int .i64 0, .int .i64 0, .int .i64 0], .int .i64 42]) := Lib.hid (by rw [hd]; rfl)
      have heb : (e != 0) = true := by simpa using he
      clear hd
      go_wp2
      obtain ⟨e0, e1, e2, e3, e4⟩ := three_five HK0.out (.int .i64 0) (.int .i64 0) (.int .i64 0) (.int .i64 0) (.int .i64 0)
      exact bodyPost_ret (v := .tuple #[.agg #[.int .i64 0, .int .i64 0, .int .i64 0, .int .i64 0, .int .i64 0], .int .i64 42]) (by simp [results, Tryd.results17, go_sem, e0, e1, e2, e3, e4]) rfl ⟨by rw [HD.out], five_below HBB.out (Nat.le_refl _) _ _ _ _ _⟩
end Go.Proofs.YtjpbbonkmnbabaaDoor
