/-
  What is proved here: what the statements of isa ask of their own: awake (the document's examples), model.
  Conditions: none but that the arguments are values of their types.
-/
import Derived.Test.YtjpbbonkmnbabaaDoorIsaCo
import Derived.Test.YtjpbbonkmnbabaaDoorFEnd
namespace Go.Proofs.YtjpbbonkmnbabaaDoor
open Go.RowKit
set_option linter.unusedVariables false
set_option linter.unusedSimpArgs false

set_option maxHeartbeats 400000 in
theorem model12_any (i : In) (w : World) (h : i.Ok32) :
    Calls Tryd.prog 13 #[i.ival] w fun r w' => r = .returned i.val ∧ Below w.heap.size w w' := by
  obtain ⟨⟨p0, p1⟩, ⟨a0, a1⟩, ⟨b0, b1⟩, ⟨c0, c1⟩, m0, m1⟩ := h
  obtain ⟨op, a, b, c, m⟩ := i
  simp only at p0 p1 a0 a1 b0 b1 c0 c1 m0 m1
  unfold In.val In.ival
  simp only
  have hbl : ∀ o o', Below w.heap.size w ((w.alloc o).alloc o') := fun o o' => ((Below.refl _ _).alloc (Nat.le_refl _) o).alloc (by simp) o'
  go_enter Tryd.func13, Tryd.ntmps13
  go_wp2
  refine bodyPost_ret (v := .agg #[.int .i64 op, .int .i64 a, .int .i64 b, .int .i64 c, .int .i64 m]) (by simp [results, Tryd.results13, go_sem]) rfl ⟨rfl, hbl _ _⟩
/-! ### the examples -/
theorem may_1 : mayI ⟨16, 1, 2, 0, -1⟩ = true := by decide
theorem enc_1 : encI ⟨16, 1, 2, 0, -1⟩ = (18446744069414600976, 0) := by rw [encI_yes may_1]; rfl
theorem cut_1 : cutI 18446744069414600976 = ⟨16, 1, 2, 0, -1⟩ := rfl
theorem dec_1 : decI 18446744069414600976 = (⟨16, 1, 2, 0, -1⟩, 0) := by rw [decI_yes (by rw [cut_1]; exact enc_1), cut_1]
theorem num_d (n : Nat) (h : n < 10) : numberI (n : Int) = digB n := by rw [numberI_nat, numB_small h]
theorem num_16 : numberI 16 = ⟨#[49, 54]⟩ := by
  rw [show (16 : Int) = ((16 : Nat) : Int) from rfl, numberI_nat, numB_great (by decide), numB_small (by decide)]
  exact ByteArray.ext (by decide)
theorem may_2 : mayI ⟨23, 3, 4, 0, 16⟩ = true := by decide
theorem text_2 : textI ⟨23, 3, 4, 0, 16⟩ = (⟨#[108, 100, 56, 32, 51, 32, 52, 32, 49, 54]⟩, 0) := by
  rw [textI_yes may_2]
  congr 1
  show addF (addF (addF (addF (wordI 23) 11 3) 5 4) 2 0) 1 16 = _
  rw [addF_yes (show (1 : Int) % 2 = 1 from rfl), addF_no (show ¬ (2 : Int) % 2 = 1 by decide), addF_yes (show (5 : Int) % 2 = 1 from rfl), addF_yes (show (11 : Int) % 2 = 1 from rfl), num_16, show numberI 3 = digB 3 from num_d 3 (by decide), show numberI 4 = digB 4 from num_d 4 (by decide)]
  exact ByteArray.ext (by decide)
theorem read_d (n : Nat) (h : n < 10) : readI (digB n) = n := by
  have e : ∀ n : Fin 10, readL (digB n.val) ((digB n.val).size + 1) (if negI (digB n.val) = true then 1 else 0) 0 = some (n.val : Int) ∧ negI (digB n.val) = false := by decide
  obtain ⟨e1, e2⟩ := e ⟨n, h⟩
  rw [readI_some e1, e2]
  simp only [Bool.false_eq_true, if_false]
  rw [if_pos (num_d n h)]
theorem read_16 : readI ⟨#[49, 54]⟩ = 16 := by
  have e1 : readL ⟨#[49, 54]⟩ (ByteArray.size ⟨#[49, 54]⟩ + 1) (if negI ⟨#[49, 54]⟩ = true then 1 else 0) 0 = some 16 := by decide
  have e2 : negI ⟨#[49, 54]⟩ = false := by decide
  rw [readI_some e1, e2]
  simp only [Bool.false_eq_true, if_false]
  rw [if_pos num_16]
theorem split_2 : splitI ⟨#[32, 108, 100, 56, 32, 51, 32, 32, 52, 32, 49, 54]⟩ = [⟨#[108, 100, 56]⟩, ⟨#[51]⟩, ⟨#[52]⟩, ⟨#[49, 54]⟩] := by decide
theorem op_2 : opI ⟨#[108, 100, 56]⟩ = 23 := by decide
theorem parse_2 : parseI ⟨#[32, 108, 100, 56, 32, 51, 32, 32, 52, 32, 49, 54]⟩ = (⟨23, 3, 4, 0, 16⟩, 0) := by
  have hf : fieldsI [⟨#[108, 100, 56]⟩, ⟨#[51]⟩, ⟨#[52]⟩, ⟨#[49, 54]⟩] 23 = some ⟨23, 3, 4, 0, 16⟩ := by
    have h1 : takeF [⟨#[108, 100, 56]⟩, ⟨#[51]⟩, ⟨#[52]⟩, ⟨#[49, 54]⟩] (hasI 23) 1 = some (3, 2) := by
      show some (readI (digB 3), 2) = _
      rw [read_d 3 (by decide)]; rfl
    have h2 : takeF [⟨#[108, 100, 56]⟩, ⟨#[51]⟩, ⟨#[52]⟩, ⟨#[49, 54]⟩] (hasI 23 / 2) 2 = some (4, 3) := by
      show some (readI (digB 4), 3) = _
      rw [read_d 4 (by decide)]; rfl
    have h3 : takeF [⟨#[108, 100, 56]⟩, ⟨#[51]⟩, ⟨#[52]⟩, ⟨#[49, 54]⟩] (hasI 23 / 2 / 2) 3 = some (0, 3) := rfl
    have h4 : takeF [⟨#[108, 100, 56]⟩, ⟨#[51]⟩, ⟨#[52]⟩, ⟨#[49, 54]⟩] (hasI 23 / 2 / 2 / 2) 3 = some (16, 4) := by
      show some (readI ⟨#[49, 54]⟩, 4) = _
      rw [read_16]
    unfold fieldsI
    rw [h1]; simp only
    rw [h2]; simp only
    rw [h3]; simp only
    rw [h4]; simp only
    rw [if_pos ⟨rfl, may_2⟩]
  unfold parseI
  rw [split_2]
  rw [if_neg (by decide), if_neg (by decide)]
  rw [show opI (List.getD [⟨#[108, 100, 56]⟩, ⟨#[51]⟩, ⟨#[52]⟩, ⟨#[49, 54]⟩] 0 ⟨#[]⟩) = 23 from op_2, hf]
theorem code_3 : codeI ⟨#[110, 111, 112, 10, 35, 32, 120, 10, 115, 121, 115]⟩ = ([1, 0, 0, 0, 0, 0, 0, 0, 40, 0, 0, 0, 0, 0, 0, 0], 0, 0) := by kernel_rfl
set_option maxRecDepth 100000 in
set_option maxHeartbeats 1600000 in
theorem awake12_any (w : World) (hT : Tb w) :
    Calls Tryd.prog 10 #[] w fun r w' => r = .returned (.bool true) ∧ Below w.heap.size w w' := by
  have h1 := fun w1 (hb : Below w.heap.size w w1) => ienc_any ⟨16, 1, 2, 0, -1⟩ w1 ⟨by decide, by decide, by decide, by decide, by decide⟩ (hT.later hb)
  have h2 := fun w1 (hb : Below w.heap.size w w1) => idec_any 18446744069414600976 w1 (by decide) (by decide) (hT.later hb)
  have h3 := fun w1 (hb : Below w.heap.size w w1) => itext_any ⟨23, 3, 4, 0, 16⟩ w1 ⟨by decide, by decide, by decide, by decide, by decide⟩ (hT.later hb)
  have h4 := fun w1 (hb : Below w.heap.size w w1) => iparse_any ⟨#[32, 108, 100, 56, 32, 51, 32, 32, 52, 32, 49, 54]⟩ w1 (by decide) (hT.later hb)
  have h5 := fun w1 (hb : Below w.heap.size w w1) => icode_any ⟨#[110, 111, 112, 10, 35, 32, 120, 10, 115, 121, 115]⟩ w1 (by decide) (hT.later hb)
  simp only [enc_1, dec_1, text_2, parse_2, code_3, In.ival] at h1 h2 h3 h4 h5
  have H1 := Lib.hid h1
  have H2 := Lib.hid h2
  have H3 := Lib.hid h3
  have H4 := Lib.hid h4
  have H5 := Lib.hid h5
  clear h1 h2 h3 h4 h5
  go_enter Tryd.func10, Tryd.ntmps10
  go_wp2_with fail
  refine (H1.out _ (Below.refl _ _)).mono ?_
  rintro r w1 ⟨rfl, hb1⟩
  have HB1 := Lib.hid hb1
  go_wp2_with fail
  refine (H2.out _ HB1.out).mono ?_
  rintro r w2 ⟨rfl, hb2⟩
  have HB2 := Lib.hid (HB1.out.trans (hb2.mono HB1.out.size))
  obtain ⟨X, hX⟩ : ∃ X, X = w2.alloc (.cells #[.int .i64 16, .int .i64 1, .int .i64 2, .int .i64 0, .int .i32 (-1)] 24) := ⟨_, rfl⟩
  have HXE := Lib.hid hX
  have HKX : Hid (Blk X w2.heap.size #[.int .i64 16, .int .i64 1, .int .i64 2, .int .i64 0, .int .i32 (-1)] 24) := Lib.hid (hX ▸ Blk.new w2 _ _)
  have HBX : Hid (Below w.heap.size w X) := Lib.hid (hX ▸ HB2.out.alloc HB2.out.size _)
  clear hb1 hb2 hX H1 H2
  go_wp2_with fail
  rw [← HXE.out]
  refine (H3.out _ HBX.out).mono ?_
  rintro r w3 ⟨rfl, hb3⟩
  have HK3 := Lib.hid (HKX.out.later hb3)
  have HB3 := Lib.hid (HBX.out.trans (hb3.mono HBX.out.size))
  clear hb3
  go_wp2_with fail
  refine (H4.out _ HB3.out).mono ?_
  rintro r w4 ⟨rfl, hb4⟩
  have HK4 := Lib.hid (HK3.out.later hb4)
  have HB4 := Lib.hid (HB3.out.trans (hb4.mono HB3.out.size))
  obtain ⟨Y, hY⟩ : ∃ Y, Y = w4.alloc (.cells #[.int .i64 23, .int .i64 3, .int .i64 4, .int .i64 0, .int .i32 16] 24) := ⟨_, rfl⟩
  have HYE := Lib.hid hY
  have HKY : Hid (Blk Y w4.heap.size #[.int .i64 23, .int .i64 3, .int .i64 4, .int .i64 0, .int .i32 16] 24) := Lib.hid (hY ▸ Blk.new w4 _ _)
  have HBY : Hid (Below w.heap.size w Y) := Lib.hid (hY ▸ HB4.out.alloc HB4.out.size _)
  have HK5 : Hid (Blk Y w2.heap.size #[.int .i64 16, .int .i64 1, .int .i64 2, .int .i64 0, .int .i32 (-1)] 24) := Lib.hid (hY ▸ HK4.out.alloc _)
  clear hb4 hY
  go_wp2_with fail
  rw [← HYE.out]
  refine (H5.out _ HBY.out).mono ?_
  rintro r w6 ⟨⟨u, rfl, ho⟩, hb6⟩
  obtain ⟨ua, uc, rfl⟩ := own_slice ho
  have HK6 := Lib.hid (HK5.out.later hb6)
  have HK7 := Lib.hid (HKY.out.later hb6)
  have HB6 := Lib.hid (HBY.out.trans (hb6.mono HBY.out.size))
  have c4 : w6.cell? ⟨w2.heap.size, 4, none⟩ = some (.int .i32 (-1)) := HK6.out.cell 4
  have c1 : w6.cell? ⟨w4.heap.size, 1, none⟩ = some (.int .i64 3) := HK7.out.cell 1
  clear ho hb6
  go_wp2
  go_ret
  exact ⟨rfl, HB6.out⟩
theorem rparse_any12 (s : ByteArray) (w : World) (hs : s.size ≤ 1000000) :
    Calls Tryd.prog 19 #[.string s] w fun r w' => r = .returned (.tuple #[(parseI s).1.val, .int .i64 (parseI s).2]) ∧ Below w.heap.size w w' := rparse_v s w hs
/-! ### what is told may be -/
theorem may_ok32 {i : In} (h : mayI i = true) : i.Ok32 := by
  obtain ⟨h0, h1, h2, h3, h4⟩ := mayI_bd h
  exact ⟨by omega, by omega, by omega, by omega, h4⟩
theorem zero_ok32 : In.zero.Ok32 := ⟨by decide, by decide, by decide, by decide, by decide⟩
theorem dec_ok32 (x : Int) : (decI x).1.Ok32 := by
  by_cases h : encI (cutI x) = (x, 0)
  · rw [decI_yes h]
    refine may_ok32 ?_
    cases hm : mayI (cutI x) with
    | true => rfl
    | false =>
      rw [encI_no hm] at h
      injection h with _ h
      cases h
  · rw [decI_no h]; exact zero_ok32
theorem parse_ok32 (s : ByteArray) : (parseI s).1.Ok32 := by
  by_cases h : (parseI s).2 = 0
  · exact may_ok32 (parseI_may h)
  · have : (parseI s).1 = In.zero := by
      unfold parseI at h ⊢
      split
      · rfl
      · rename_i c1
        rw [if_neg c1] at h
        split
        · rfl
        · rename_i c2
          rw [if_neg c2] at h
          cases hf : fieldsI (splitI s) (opI ((splitI s).getD 0 ⟨#[]⟩)) with
          | none => rfl
          | some i => rw [hf] at h; exact absurd rfl h
    rw [this]; exact zero_ok32
theorem cells5 {w : World} {g : Nat} {v0 v1 v2 v3 v4 : Value} {t : TypeId} (h : Blk w g #[v0, v1, v2, v3, v4] t) :
    w.cell? ⟨g, 0, none⟩ = some v0 ∧ w.cell? ⟨g, 1, none⟩ = some v1 ∧ w.cell? ⟨g, 2, none⟩ = some v2 ∧ w.cell? ⟨g, 3, none⟩ = some v3 ∧ w.cell? ⟨g, 4, none⟩ = some v4 :=
  ⟨h.cell 0, h.cell 1, h.cell 2, h.cell 3, h.cell 4⟩
end Go.Proofs.YtjpbbonkmnbabaaDoor
