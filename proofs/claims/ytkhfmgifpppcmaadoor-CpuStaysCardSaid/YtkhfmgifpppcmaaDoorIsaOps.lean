/-
  What is proved here: the closures that find is called with; find; numbersOf, insOf. · numbersOf, insOf; operationOf: the operation of an instruction that may be (mayI).
  Conditions: as they say.
-/
import Derived.Test.YtkhfmgifpppcmaaDoorIsaTb
import Derived.Laws.Rows
namespace Go.Proofs.YtkhfmgifpppcmaaDoor
open Go.RowKit
set_option linter.unusedVariables false
set_option linter.unusedSimpArgs false

/-- An instruction as the program has it. -/
def In.ival (i : In) : Value := .agg #[.int .i64 i.op, .int .i64 i.a, .int .i64 i.b, .int .i64 i.c, .int .i32 i.imm]
structure In.Ok32 (i : In) : Prop where
  op : -9223372036854775808 ≤ i.op ∧ i.op ≤ 9223372036854775807
  a : -9223372036854775808 ≤ i.a ∧ i.a ≤ 9223372036854775807
  b : -9223372036854775808 ≤ i.b ∧ i.b ≤ 9223372036854775807
  c : -9223372036854775808 ≤ i.c ∧ i.c ≤ 9223372036854775807
  imm : -2147483648 ≤ i.imm ∧ i.imm ≤ 2147483647
theorem alloc_cell {w : World} {b o : Nat} {v : Value} (h : w.cell? ⟨b, o, none⟩ = some v) (x : Obj) : (w.alloc x).cell? ⟨b, o, none⟩ = some v := by
  rw [World.cell?_alloc_past _ _ _ (block_lt h)]; exact h
set_option maxHeartbeats 800000 in
theorem isop_ok (r : Orow) (b1 : Nat) (op : Int) (w : World) (h1 : w.cell? ⟨b1, 0, none⟩ = some (.int .i64 op)) :
    Calls Tryd.prog 47 #[r.val, .pointer (some ⟨b1, 0, none⟩)] w fun e w' => e = .returned (.bool (r.op == op)) ∧ Below w.heap.size w w' := by
  obtain ⟨rop, nm, lt⟩ := r
  have H1 : ∀ o, (w.alloc o).cell? ⟨b1, 0, none⟩ = some (.int .i64 op) := fun o => alloc_cell h1 o
  have HB := Lib.hid (fun o => bal1 w o)
  unfold Orow.val
  go_enter Tryd.func47, Tryd.ntmps47
  go_wp2
  go_ret
  exact ⟨by simp, HB.out _⟩
theorem index_ops (k : Nat) (h : k < 38) : ∀ w, (Instr.index 109 (.agg opsL.toArray) (.int .i64 k)).run Tryd.prog w = .ok (rowK k).val w :=
  match k, h with
  | 0, _ => fun _ => by kernel_rfl
  | 1, _ => fun _ => by kernel_rfl
  | 2, _ => fun _ => by kernel_rfl
  | 3, _ => fun _ => by kernel_rfl
  | 4, _ => fun _ => by kernel_rfl
  | 5, _ => fun _ => by kernel_rfl
  | 6, _ => fun _ => by kernel_rfl
  | 7, _ => fun _ => by kernel_rfl
  | 8, _ => fun _ => by kernel_rfl
  | 9, _ => fun _ => by kernel_rfl
  | 10, _ => fun _ => by kernel_rfl
  | 11, _ => fun _ => by kernel_rfl
  | 12, _ => fun _ => by kernel_rfl
  | 13, _ => fun _ => by kernel_rfl
  | 14, _ => fun _ => by kernel_rfl
  | 15, _ => fun _ => by kernel_rfl
  | 16, _ => fun _ => by kernel_rfl
  | 17, _ => fun _ => by kernel_rfl
  | 18, _ => fun _ => by kernel_rfl
  | 19, _ => fun _ => by kernel_rfl
  | 20, _ => fun _ => by kernel_rfl
  | 21, _ => fun _ => by kernel_rfl
  | 22, _ => fun _ => by kernel_rfl
  | 23, _ => fun _ => by kernel_rfl
  | 24, _ => fun _ => by kernel_rfl
  | 25, _ => fun _ => by kernel_rfl
  | 26, _ => fun _ => by kernel_rfl
  | 27, _ => fun _ => by kernel_rfl
  | 28, _ => fun _ => by kernel_rfl
  | 29, _ => fun _ => by kernel_rfl
  | 30, _ => fun _ => by kernel_rfl
  | 31, _ => fun _ => by kernel_rfl
  | 32, _ => fun _ => by kernel_rfl
  | 33, _ => fun _ => by kernel_rfl
  | 34, _ => fun _ => by kernel_rfl
  | 35, _ => fun _ => by kernel_rfl
  | 36, _ => fun _ => by kernel_rfl
  | 37, _ => fun _ => by kernel_rfl
  | k + 38, h => absurd h (by omega)
/-- The table. -/
def opsT : List Orow := (List.range 38).map rowK
theorem opsT_len : opsT.length = 38 := by decide
theorem opsT_at {k : Nat} (h : k < 38) : opsT.getD k Orow.zero = rowK k := by
  unfold opsT
  rw [List.getD_eq_getElem?_getD, List.getElem?_map, List.getElem?_range h]; rfl
theorem findO_at {p : Orow → Bool} : ∀ {L : List Orow} {k : Nat}, (∀ j, j < k → p (L.getD j Orow.zero) = false) → k < L.length → p (L.getD k Orow.zero) = true → L.find? p = some (L.getD k Orow.zero)
  | [], k, _, h, _ => by simp at h
  | s :: L, 0, _, _, h => by
    have h' : p s = true := h
    rw [List.find?_cons_of_pos h']; rfl
  | s :: L, k + 1, h0, h1, h2 => by
    have h' : p s = false := h0 0 (by omega)
    rw [List.find?_cons_of_neg (by rw [h']; decide)]
    exact findO_at (L := L) (k := k) (fun j hj => h0 (j + 1) (by omega)) (by simpa using h1) h2
theorem findO_no {p : Orow → Bool} {L : List Orow} (h : ∀ j, j < L.length → p (L.getD j Orow.zero) = false) : L.find? p = none := by
  rw [List.find?_eq_none]
  intro s hs
  obtain ⟨i, hi, rfl⟩ := List.getElem_of_mem hs
  have := h i hi
  rw [List.getD_eq_getElem?_getD, List.getElem?_eq_getElem hi] at this
  simpa using this
def foundO : Option Orow → Value
  | none => Orow.zero.val
  | some s => s.val
set_option maxRecDepth 100000 in
set_option maxHeartbeats 3200000 in
theorem find_op (p : Orow → Bool) (b1 : Nat) (w : World) (hT : Tb w)
    (hp : ∀ s w1, Below w.heap.size w w1 → Calls Tryd.prog 47 #[s.val, .pointer (some ⟨b1, 0, none⟩)] w1 fun e w' => e = .returned (.bool (p s)) ∧ Below w1.heap.size w1 w') :
    Calls Tryd.prog 46 #[.func (.func 47) #[] #[.pointer (some ⟨b1, 0, none⟩)]] w fun e w' => e = .returned (.tuple #[foundO (opsT.find? p), .bool (opsT.find? p).isSome]) ∧ Below w.heap.size w w' := by
  obtain ⟨r, hr⟩ : ∃ r, opsT.find? p = r := ⟨_, rfl⟩
  rw [hr]
  have HR := Lib.hid hr
  have HP := Lib.hid hp
  obtain ⟨T, hops⟩ := hT.ops
  have HBLK := (hops.alloc (.cells Orow.zero.cells.toArray 89))
  obtain ⟨OC, hOC⟩ : ∃ OC, opsL.toArray = OC := ⟨_, rfl⟩
  have hsz : OC.size = 114 := by rw [← hOC]; decide
  have hix0 := index_ops
  rw [hOC] at hix0 HBLK
  have HIX := Lib.hid hix0
  unfold Blk at HBLK
  have HBK := Lib.hid HBLK
  have HSZ := Lib.hid hsz
  clear hr hp hops hOC HBLK hsz hT hix0
  go_enter Tryd.func46, Tryd.ntmps46
  go_wp2_with (refine wpList_load_row rfl 109 _ rfl 2 rfl _ _ (0, 0) _ HBK.out Tryd.underlying109 rfl (by rw [HSZ.out]; kernel_rfl) ?_)
  go_loopw [5, 7] (fun _ i wr => ∃ k : Nat, k ≤ 38 ∧ i = .int .i64 k ∧ (∀ j, j < k → p (opsT.getD j Orow.zero) = false) ∧ Blk wr w.heap.size #[.int .i64 0, .string ⟨#[]⟩, .string ⟨#[]⟩] 89 ∧ Below w.heap.size w wr) (fun _ i _ => 38 - (intOf i).toNat)
  case atStart => exact ⟨0, Nat.zero_le _, rfl, fun j hj => absurd hj (by omega), Blk.new _ _ _, bal1 _ _⟩
  case round =>
    obtain ⟨k, hk, rfl, hno, hblk, hbel⟩ := hrel
    by_cases hlt : k < 38
    · have hpk := Lib.hid (HP.out (opsT.getD k Orow.zero))
      have HAT := Lib.hid (fun h => findO_at (p := p) (L := opsT) hno (by rw [opsT_len]; exact hlt) h)
      have HNO : Hid (p (opsT.getD k Orow.zero) = false → ∀ j, j < k + 1 → p (opsT.getD j Orow.zero) = false) := Lib.hid (fun h j hj => by
        by_cases e : j = k
        · subst e; exact h
        · exact hno j (by omega))
      have hix := HIX.out k hlt
      rw [← opsT_at hlt] at hix
      obtain ⟨s, hsd⟩ : ∃ s, opsT.getD k Orow.zero = s := ⟨_, rfl⟩
      rw [hsd] at hpk HAT HNO hix
      obtain ⟨q, hq⟩ : ∃ q, p s = q := ⟨_, rfl⟩
      rw [hq] at hpk HAT HNO
      clear hsd hno
      obtain ⟨op, nm, lt⟩ := s
      simp only [Orow.val] at hix hpk
      have hbs := hbel.size
      have HB2 : Hid (∀ o, Below w.heap.size w (wr.alloc o)) := Lib.hid (fun o => hbel.alloc hbs o)
      have HK2 : Hid (∀ o, Blk (wr.alloc o) w.heap.size #[.int .i64 0, .string ⟨#[]⟩, .string ⟨#[]⟩] 89) := Lib.hid (fun o => hblk.alloc o)
      clear hbel hblk
      cases q with
      | true =>
        have hr2 := HAT.out rfl
        rw [HR.out] at hr2
        subst hr2
        go_wp2_with fail
        refine (hpk.out _ (HB2.out _)).mono ?_
        rintro e w2 ⟨rfl, hb2⟩
        obtain ⟨p0, p1, p2⟩ := ((Blk.new wr _ _).later hb2).c3
        obtain ⟨q0, q1, q2⟩ := ((HK2.out _).later hb2).c3
        have hkf := ((HK2.out (.cells #[.int .i64 op, .string nm, .string lt] 89)).later hb2)
        have f0 := hkf.frozen 0
        have f1 := hkf.frozen 1
        have f2 := hkf.frozen 2
        have HB3 := Lib.hid ((HB2.out _).trans (hb2.mono (HB2.out _).size))
        clear hb2 hkf
        go_wp2
        refine bodyPost_ret (v := .tuple #[.agg #[.int .i64 op, .string nm, .string lt], .bool true]) (by simp [results, Tryd.results46, go_sem, q0, q1, q2]) rfl ⟨rfl, ?_⟩
        exact ((HB3.out.setCell (Nat.le_refl _) _).setCell (Nat.le_refl _) _).setCell (Nat.le_refl _) _
      | false =>
        go_wp2_with fail
        refine (hpk.out _ (HB2.out _)).mono ?_
        rintro e w2 ⟨rfl, hb2⟩
        have hk2 := (HK2.out (.cells #[.int .i64 op, .string nm, .string lt] 89)).later hb2
        have hbb := (HB2.out _).trans (hb2.mono (HB2.out _).size)
        clear hb2
        go_wp2
        go_roundw
        case rel => exact ⟨k + 1, by omega, by go_num, HNO.out (by trivial), hk2, hbb⟩
        case measure => simp [intOf]; omega
    · obtain rfl : k = 38 := by omega
      have hr2 := findO_no (p := p) (L := opsT) (fun j hj => hno j (by rw [opsT_len] at hj; exact hj))
      rw [HR.out] at hr2
      subst hr2
      obtain ⟨q0, q1, q2⟩ := hblk.c3
      have f0 := hblk.frozen 0
      have f1 := hblk.frozen 1
      have f2 := hblk.frozen 2
      go_wp2
      refine bodyPost_ret (v := .tuple #[.agg #[.int .i64 0, .string ⟨#[]⟩, .string ⟨#[]⟩], .bool false]) (by simp [results, Tryd.results46, go_sem, q0, q1, q2]) rfl ⟨rfl, ?_⟩
      exact ((hbel.setCell (Nat.le_refl _) _).setCell (Nat.le_refl _) _).setCell (Nat.le_refl _) _
end Go.Proofs.YtkhfmgifpppcmaaDoor
namespace Go.Proofs.YtkhfmgifpppcmaaDoor
open Go.RowKit
set_option linter.unusedVariables false
set_option linter.unusedSimpArgs false

theorem Tb.f0 {w : World} (h : Tb w) : w.cell? ⟨1, 0, none⟩ = some (.string ⟨#[97]⟩) ∧ w.cell? ⟨1, 1, none⟩ = some (.int .i64 0) ∧ w.cell? ⟨1, 2, none⟩ = some (.int .i64 31) := by
  obtain ⟨t, hb⟩ := h.fl
  exact ⟨hb.cell 0, hb.cell 1, hb.cell 2⟩
theorem Tb.f1 {w : World} (h : Tb w) : w.cell? ⟨1, 3, none⟩ = some (.string ⟨#[98]⟩) ∧ w.cell? ⟨1, 4, none⟩ = some (.int .i64 0) ∧ w.cell? ⟨1, 5, none⟩ = some (.int .i64 31) := by
  obtain ⟨t, hb⟩ := h.fl
  exact ⟨hb.cell 3, hb.cell 4, hb.cell 5⟩
theorem Tb.f2 {w : World} (h : Tb w) : w.cell? ⟨1, 6, none⟩ = some (.string ⟨#[99]⟩) ∧ w.cell? ⟨1, 7, none⟩ = some (.int .i64 0) ∧ w.cell? ⟨1, 8, none⟩ = some (.int .i64 31) := by
  obtain ⟨t, hb⟩ := h.fl
  exact ⟨hb.cell 6, hb.cell 7, hb.cell 8⟩
theorem Tb.f3 {w : World} (h : Tb w) : w.cell? ⟨1, 9, none⟩ = some (.string ⟨#[105]⟩) ∧ w.cell? ⟨1, 10, none⟩ = some (.int .i64 (-2147483648)) ∧ w.cell? ⟨1, 11, none⟩ = some (.int .i64 2147483647) := by
  obtain ⟨t, hb⟩ := h.fl
  exact ⟨hb.cell 9, hb.cell 10, hb.cell 11⟩
/-- The row of an operation's number. -/
def rowOf (op : Int) : Orow := ⟨op, wordI op, lettersI op⟩
theorem find_yes : ∀ k : Fin 42, (wordI k.val).size ≠ 0 → (opsT.find? fun r => r.op == (k.val : Int)).map (fun r => (r.op, r.nm.data.toList, r.lt.data.toList)) = some ((k.val : Int), (wordI k.val).data.toList, (lettersI k.val).data.toList) := by decide
theorem find_not : ∀ k : Fin 42, (wordI k.val).size = 0 → (opsT.find? fun r => r.op == (k.val : Int)).isSome = false := by decide
theorem ops_small : ∀ r ∈ opsT, 1 ≤ r.op ∧ r.op ≤ 41 := by
  have : (opsT.all fun r => decide (1 ≤ r.op ∧ r.op ≤ 41)) = true := by decide
  intro r hr
  simpa using List.all_eq_true.1 this r hr
theorem orow_ext {r : Orow} {a : Int} {b c : ByteArray} (h : (r.op, r.nm.data.toList, r.lt.data.toList) = (a, b.data.toList, c.data.toList)) : r = ⟨a, b, c⟩ := by
  obtain ⟨o, n, l⟩ := r
  simp only [Prod.mk.injEq] at h
  obtain ⟨rfl, h1, h2⟩ := h
  rw [← mkB_toList n, ← mkB_toList l, h1, h2, mkB_toList, mkB_toList]
theorem opof_some {op : Int} (h : (wordI op).size ≠ 0) : opsT.find? (fun r => r.op == op) = some (rowOf op) := by
  by_cases h0 : op < 0
  · rw [wordI_neg h0] at h; exact absurd rfl h
  by_cases h1 : 42 ≤ op
  · rw [wordI_far h1] at h; exact absurd rfl h
  obtain ⟨k, rfl⟩ : ∃ k : Nat, op = (k : Int) := ⟨op.toNat, by omega⟩
  have := find_yes ⟨k, by omega⟩ h
  obtain ⟨r, hr, e⟩ := Option.map_eq_some_iff.1 this
  rw [hr, orow_ext e]; rfl
theorem opof_none {op : Int} (h : (wordI op).size = 0) : opsT.find? (fun r => r.op == op) = none := by
  by_cases h0 : op < 0 ∨ 42 ≤ op
  · rw [List.find?_eq_none]
    intro r hr
    have := ops_small r hr
    simp; omega
  obtain ⟨k, rfl⟩ : ∃ k : Nat, op = (k : Int) := ⟨op.toNat, by omega⟩
  have := find_not ⟨k, by omega⟩ h
  simpa using this
theorem uses_k : ∀ k : Fin 42, (wordI k.val).size ≠ 0 → ∀ j : Fin 4, useB (rowOf k.val) (fieldF j.val) = decide (hasK (hasI k.val) j.val % 2 = 1) := by decide
theorem uses_has {op : Int} (h : (wordI op).size ≠ 0) (j : Nat) (hj : j < 4) : useB (rowOf op) (fieldF j) = decide (hasK (hasI op) j % 2 = 1) := by
  by_cases h0 : op < 0
  · rw [wordI_neg h0] at h; exact absurd rfl h
  by_cases h1 : 42 ≤ op
  · rw [wordI_far h1] at h; exact absurd rfl h
  obtain ⟨k, rfl⟩ : ∃ k : Nat, op = (k : Int) := ⟨op.toNat, by omega⟩
  exact uses_k ⟨k, by omega⟩ h ⟨j, hj⟩
def numK (i : In) (k : Nat) : Int := match k with
  | 0 => i.a
  | 1 => i.b
  | 2 => i.c
  | _ => i.imm
theorem takes_may {i : In} (h : (wordI i.op).size ≠ 0) (hi : i.Ok32) {k : Nat} (hk : k < 4) : takeB (rowOf i.op) (fieldF k) (numK i k) = okK i k := by
  have hm0 := hi.imm
  have hm : ∀ a b : Prop, [Decidable a] → [Decidable b] → (a ↔ b) → decide a = decide b := fun a b _ _ e => by simp [e]
  unfold takeB
  rw [uses_has h k hk]
  have hkk : k = 0 ∨ k = 1 ∨ k = 2 ∨ k = 3 := by omega
  rcases hkk with rfl | rfl | rfl | rfl
  all_goals simp only [okK, hasK, numK, fieldF, okF, okImm]
  · by_cases hb : hasI i.op % 2 = 1
    · rw [if_pos (decide_eq_true hb), ← Bool.decide_and]; exact hm _ _ (by omega)
    · rw [if_neg (by simpa using hb)]
      rw [show (i.a == 0) = decide (i.a = 0) from rfl]; exact hm _ _ (by omega)
  · by_cases hb : hasI i.op / 2 % 2 = 1
    · rw [if_pos (decide_eq_true hb), ← Bool.decide_and]; exact hm _ _ (by omega)
    · rw [if_neg (by simpa using hb)]
      rw [show (i.b == 0) = decide (i.b = 0) from rfl]; exact hm _ _ (by omega)
  · by_cases hb : hasI i.op / 2 / 2 % 2 = 1
    · rw [if_pos (decide_eq_true hb), ← Bool.decide_and]; exact hm _ _ (by omega)
    · rw [if_neg (by simpa using hb)]
      rw [show (i.c == 0) = decide (i.c = 0) from rfl]; exact hm _ _ (by omega)
  · by_cases hb : hasI i.op / 2 / 2 / 2 % 2 = 1
    · rw [if_pos (decide_eq_true hb), ← Bool.decide_and]; exact hm _ _ (by omega)
    · rw [if_neg (by simpa using hb)]
      rw [show (i.imm == 0) = decide (i.imm = 0) from rfl]; exact hm _ _ (by omega)
theorem mayI_full {i : In} (h : (wordI i.op).size ≠ 0) (hi : i.Ok32) (hk : ∀ j, j < 4 → okK i j = true) : mayI i = true := by
  have := mayI_all h hk
  rw [this]; exact decide_eq_true hi.imm
theorem fr32 (y : Nat → Value) : frameOf 32 y = #[y 0, y 1, y 2, y 3, y 4, y 5, y 6, y 7, y 8, y 9, y 10, y 11, y 12, y 13, y 14, y 15, y 16, y 17, y 18, y 19, y 20, y 21, y 22, y 23, y 24, y 25, y 26, y 27, y 28, y 29, y 30, y 31] := rfl
set_option maxHeartbeats 800000 in
theorem numbers_ok (i : In) (w : World) (h : i.Ok32) :
    Calls Tryd.prog 48 #[i.ival] w fun e w' => e = .returned (.agg #[.int .i64 i.a, .int .i64 i.b, .int .i64 i.c, .int .i64 i.imm]) ∧ Below w.heap.size w w' := by
  obtain ⟨op, a, b, c, m⟩ := i
  obtain ⟨-, -, -, -, ⟨m0, m1⟩⟩ := h
  have HB := Lib.hid (fun o1 o2 => bal (bal1 w o1) o2)
  simp only [In.ival] at m0 m1 ⊢
  go_enter Tryd.func48, Tryd.ntmps48
  go_wp2
  refine bodyPost_ret (v := .agg #[.int .i64 a, .int .i64 b, .int .i64 c, .int .i64 m]) (by simp [results, Tryd.results48, go_sem]) rfl ⟨rfl, ?_⟩
  exact HB.out _ _
/-- What operationOf hands back. -/
def opVal (m : Bool) (op : Int) : Value := if m = true then (rowOf op).val else Orow.zero.val
theorem cells_i {w w1 : World} {g : Nat} {i : In} (h : Blk w g #[.int .i64 i.op, .int .i64 i.a, .int .i64 i.b, .int .i64 i.c, .int .i32 i.imm] 63) (hb : Below w.heap.size w w1) :
    Blk w1 g #[.int .i64 i.op, .int .i64 i.a, .int .i64 i.b, .int .i64 i.c, .int .i32 i.imm] 63 := h.later hb
set_option maxRecDepth 100000 in
set_option maxHeartbeats 3200000 in
theorem opof_ok (i : In) (w : World) (h : i.Ok32) (hT : Tb w) :
    Calls Tryd.prog 40 #[i.ival] w fun e w' => e = .returned (.tuple #[opVal (mayI i) i.op, .bool (mayI i)]) ∧ Below w.heap.size w w' := by
  have HN := Lib.hid (fun w1 => numbers_ok i w1 h)
  have HFI := Lib.hid (fun (w1 : World) (b1 : Nat) (h1 : Tb w1) (hc : w1.cell? ⟨b1, 0, none⟩ = some (.int .i64 i.op)) => find_op (fun r => r.op == i.op) b1 w1 h1 (fun s w2 hb => isop_ok s b1 i.op w2 (by rw [hb.cell (block_lt hc)]; exact hc)))
  have HT1 : Hid (∀ w1, Below w.heap.size w w1 → Tb w1) := Lib.hid (fun w1 hb => hT.later hb)
  have HK0 : Hid (∀ o, Blk ((w.alloc (.cells #[.int .i64 i.op, .int .i64 i.a, .int .i64 i.b, .int .i64 i.c, .int .i32 i.imm] 63)).alloc o) w.heap.size #[.int .i64 i.op, .int .i64 i.a, .int .i64 i.b, .int .i64 i.c, .int .i32 i.imm] 63) := Lib.hid (fun o => (Blk.new w _ _).alloc o)
  have HR0 : Hid (∀ o, Blk ((w.alloc o).alloc (.cells #[.int .i64 0, .string ⟨#[]⟩, .string ⟨#[]⟩] 89)) (w.heap.size + 1) #[.int .i64 0, .string ⟨#[]⟩, .string ⟨#[]⟩] 89) := Lib.hid (fun o => by
    have := Blk.new (w.alloc o) #[.int .i64 0, .string ⟨#[]⟩, .string ⟨#[]⟩] 89
    simpa using this)
  have HB0 := Lib.hid (fun o1 o2 => bal (bal1 w o1) o2)
  by_cases hw : (wordI i.op).size = 0
  · have hmay : mayI i = false := mayI_word hw
    rw [hmay]
    have hfn := opof_none hw
    rw [hfn] at HFI
    simp only [foundO, Orow.zero, Orow.val, Option.isSome_none, opVal] at HFI ⊢
    obtain ⟨op, a, b, c, m⟩ := i
    simp only [In.ival] at HFI HK0 HN ⊢
    clear h hT hw hmay hfn HN
    go_enter Tryd.func40, Tryd.ntmps40
    go_wp2_with fail
    refine (HFI.out _ _ (HT1.out _ (HB0.out _ _)) ((HK0.out _).cell 0)).mono ?_
    rintro e w1 ⟨rfl, hb1⟩
    have hkr := (HR0.out (.cells #[.int .i64 op, .int .i64 a, .int .i64 b, .int .i64 c, .int .i32 m] 63)).later hb1
    have hkr2 := hkr.alloc (.cells #[.int .i64 0, .string ⟨#[]⟩, .string ⟨#[]⟩] 89)
    obtain ⟨q0, q1, q2⟩ := hkr2.c3
    have f0 := hkr2.frozen 0
    have f1 := hkr2.frozen 1
    have f2 := hkr2.frozen 2
    have HBB := Lib.hid (fun o => bal ((HB0.out (.cells #[.int .i64 op, .int .i64 a, .int .i64 b, .int .i64 c, .int .i32 m] 63) (.cells #[.int .i64 0, .string ⟨#[]⟩, .string ⟨#[]⟩] 89)).trans (hb1.mono (HB0.out _ _).size)) o)
    clear hb1 hkr hkr2
    go_wp2
    refine bodyPost_ret (v := .tuple #[.agg #[.int .i64 0, .string ⟨#[]⟩, .string ⟨#[]⟩], .bool false]) (by simp [results, Tryd.results40, go_sem, q0, q1, q2]) rfl ⟨rfl, ?_⟩
    exact (((HBB.out _).setCell (Nat.le_succ _) _).setCell (Nat.le_succ _) _).setCell (Nat.le_succ _) _
  · have hfn := opof_some hw
    rw [hfn] at HFI
    have HNO := Lib.hid (fun k hk => @mayI_no i k hk)
    have HFU := Lib.hid (mayI_full hw h)
    have HTM := Lib.hid (fun k hk => @takes_may i hw h k hk)
    have HTK := Lib.hid (fun k x w1 => takes_ok (rowOf i.op) (fieldF k) x w1)
    obtain ⟨M, hM⟩ : ∃ M, mayI i = M := ⟨_, rfl⟩
    rw [hM] at HNO HFU ⊢
    clear hM hfn hw h hT
    have hop : rowOf i.op = ⟨i.op, wordI i.op, lettersI i.op⟩ := rfl
    obtain ⟨nm, hnm⟩ : ∃ nm, wordI i.op = nm := ⟨_, rfl⟩
    obtain ⟨lt, hlt⟩ : ∃ lt, lettersI i.op = lt := ⟨_, rfl⟩
    rw [hnm, hlt] at hop
    have hOV : opVal M i.op = if M = true then .agg #[.int .i64 i.op, .string nm, .string lt] else Orow.zero.val := by unfold opVal; rw [hop]; rfl
    rw [hop] at HFI HTM HTK
    rw [hOV]
    clear hop hOV hnm hlt
    have HA1 : Hid (okK i 0 = takeB ⟨i.op, nm, lt⟩ (fieldF 0) i.a) := Lib.hid (HTM.out 0 (by decide)).symm
    have HA2 : Hid (okK i 1 = takeB ⟨i.op, nm, lt⟩ (fieldF 1) i.b) := Lib.hid (HTM.out 1 (by decide)).symm
    have HA3 : Hid (okK i 2 = takeB ⟨i.op, nm, lt⟩ (fieldF 2) i.c) := Lib.hid (HTM.out 2 (by decide)).symm
    have HA4 : Hid (okK i 3 = takeB ⟨i.op, nm, lt⟩ (fieldF 3) i.imm) := Lib.hid (HTM.out 3 (by decide)).symm
    have HT10 := Lib.hid (HTK.out 0 i.a)
    have HT11 := Lib.hid (HTK.out 1 i.b)
    have HT12 := Lib.hid (HTK.out 2 i.c)
    have HT13 := Lib.hid (HTK.out 3 i.imm)
    rw [← HA1.out] at HT10
    rw [← HA2.out] at HT11
    rw [← HA3.out] at HT12
    rw [← HA4.out] at HT13
    clear HTK HTM HA1 HA2 HA3 HA4
    obtain ⟨OK, hOK⟩ : ∃ OK : Nat → Bool, okK i = OK := ⟨_, rfl⟩
    rw [hOK] at HT10 HT11 HT12 HT13 HNO HFU
    clear hOK
    simp only [foundO, Orow.zero, Orow.val, Option.isSome_some, Frow.val, fieldF] at HFI HT10 HT11 HT12 HT13 ⊢
    obtain ⟨op, a, b, c, m⟩ := i
    simp only [In.ival] at HFI HK0 HN HT10 HT11 HT12 HT13 ⊢
    have ia0 : ∀ w, (Instr.index 101 (.agg #[.int .i64 a, .int .i64 b, .int .i64 c, .int .i64 m]) (.int .i64 0)).run Tryd.prog w = .ok (.int .i64 a) w := fun _ => by kernel_rfl
    have ia1 : ∀ w, (Instr.index 101 (.agg #[.int .i64 a, .int .i64 b, .int .i64 c, .int .i64 m]) (.int .i64 1)).run Tryd.prog w = .ok (.int .i64 b) w := fun _ => by kernel_rfl
    have ia2 : ∀ w, (Instr.index 101 (.agg #[.int .i64 a, .int .i64 b, .int .i64 c, .int .i64 m]) (.int .i64 2)).run Tryd.prog w = .ok (.int .i64 c) w := fun _ => by kernel_rfl
    have ia3 : ∀ w, (Instr.index 101 (.agg #[.int .i64 a, .int .i64 b, .int .i64 c, .int .i64 m]) (.int .i64 3)).run Tryd.prog w = .ok (.int .i64 m) w := fun _ => by kernel_rfl
    go_enter Tryd.func40, Tryd.ntmps40
    go_wp2_with fail
    refine (HFI.out _ _ (HT1.out _ (HB0.out _ _)) ((HK0.out _).cell 0)).mono ?_
    rintro e w1 ⟨rfl, hb1⟩
    have hki := (HK0.out (.cells #[.int .i64 0, .string ⟨#[]⟩, .string ⟨#[]⟩] 89)).later hb1
    have hkr := (HR0.out (.cells #[.int .i64 op, .int .i64 a, .int .i64 b, .int .i64 c, .int .i32 m] 63)).later hb1
    obtain ⟨q0, q1, q2, q3, q4⟩ : (w1.alloc (.cells #[.int .i64 op, .string nm, .string lt] 89)).cell? ⟨w.heap.size, 0, none⟩ = some (.int .i64 op) ∧ (w1.alloc (.cells #[.int .i64 op, .string nm, .string lt] 89)).cell? ⟨w.heap.size, 1, none⟩ = some (.int .i64 a) ∧ (w1.alloc (.cells #[.int .i64 op, .string nm, .string lt] 89)).cell? ⟨w.heap.size, 2, none⟩ = some (.int .i64 b) ∧ (w1.alloc (.cells #[.int .i64 op, .string nm, .string lt] 89)).cell? ⟨w.heap.size, 3, none⟩ = some (.int .i64 c) ∧ (w1.alloc (.cells #[.int .i64 op, .string nm, .string lt] 89)).cell? ⟨w.heap.size, 4, none⟩ = some (.int .i32 m) :=
      ⟨(hki.alloc _).cell 0, (hki.alloc _).cell 1, (hki.alloc _).cell 2, (hki.alloc _).cell 3, (hki.alloc _).cell 4⟩
    have HKR := Lib.hid (fun o => hkr.alloc o)
    have HKO := Lib.hid (Blk.new w1 #[.int .i64 op, .string nm, .string lt] 89)
    have hbw := (HB0.out (.cells #[.int .i64 op, .int .i64 a, .int .i64 b, .int .i64 c, .int .i32 m] 63) (.cells #[.int .i64 0, .string ⟨#[]⟩, .string ⟨#[]⟩] 89)).trans (hb1.mono (HB0.out _ _).size)
    have HBB := Lib.hid (fun o => bal hbw o)
    have hls : w.heap.size + 1 < w1.heap.size := hkr.lt
    clear hb1 hki hkr hbw HK0 HR0 HFI
    go_wp2_with fail
    refine (HN.out _).mono ?_
    rintro e w2 ⟨rfl, hb2⟩
    have hkr2 := (HKR.out (.cells #[.int .i64 op, .string nm, .string lt] 89)).later hb2
    have hko2 := HKO.out.later hb2
    have hbw2 := (HBB.out (.cells #[.int .i64 op, .string nm, .string lt] 89)).trans (hb2.mono (HBB.out _).size)
    have HKR2 := Lib.hid hkr2
    have HKO2 := Lib.hid hko2
    have HBW2 := Lib.hid hbw2
    clear hb2 hkr2 hko2 hbw2 HKR HKO HBB HN HB0 q0 q1 q2 q3 q4
    go_wp2
    go_loopw [6, 7, 18] (fun _ _ y wr => ∃ k : Nat, k ≤ 4 ∧ y = .int .i64 k ∧ (∀ j, j < k → OK j = true) ∧ Blk wr (w.heap.size + 1) #[.int .i64 0, .string ⟨#[]⟩, .string ⟨#[]⟩] 89 ∧ Blk wr w1.heap.size #[.int .i64 op, .string nm, .string lt] 89 ∧ Below w.heap.size w wr) (fun _ _ y _ => 4 - (intOf y).toNat)
    case atStart => exact ⟨0, by decide, rfl, fun j hj => absurd hj (by omega), HKR2.out, HKO2.out, HBW2.out⟩
    case round =>
      clear HKR2 HKO2 HBW2
      obtain ⟨k, hk, rfl, hall, hkr, hko, hbel⟩ := hrel
      have HALL := Lib.hid hall
      have HKR := Lib.hid hkr
      have HKO := Lib.hid hko
      have HBE := Lib.hid hbel
      clear hall hkr hko hbel
      obtain rfl | rfl | rfl | rfl | rfl : k = 0 ∨ k = 1 ∨ k = 2 ∨ k = 3 ∨ k = 4 := by omega
      · have HKX : Hid (∀ w', Stays wr.drew w' → Blk w' w1.heap.size #[.int .i64 op, .string nm, .string lt] 89) := Lib.hid (fun w' h => HKO.out.drew.later h)
        have HTX : Hid (∀ w', Stays wr.drew w' → Tb w') := Lib.hid (fun w' h => HT1.out _ (HBE.out.drew.trans (Below.mono h HBE.out.size)))
        have HUP := Lib.hid (fun h => @upto_yes OK 0 HALL.out h)
        obtain ⟨B, hB⟩ : ∃ B, OK 0 = B := ⟨_, rfl⟩
        have HOB := Lib.hid hB
        rw [hB] at HT10 HUP
        clear hB
        go_wp2
        refine wp_region_facts (by kernel_rfl) Stays Stays.refl Stays.trans 32 rfl [22, 23, 24, 25, 26, 27, 28] (factsOf [Is (.agg #[.int .i64 op, .string nm, .string lt]), Is (.int .i64 0), Is (.pointer (some ⟨1, 0, none⟩)), Is (.agg #[.string ⟨#[97]⟩, .int .i64 0, .int .i64 31]), Is (.int .i64 a), Is (.bool B), Is (.bool (!B))]) (by kernel_rfl) (factsOf_mono (mono_cons (Is.mono _) (mono_cons (Is.mono _) (mono_cons (Is.mono _) (mono_cons (Is.mono _) (mono_cons (Is.mono _) (mono_cons (Is.mono _) (mono_cons (Is.mono _) mono_nil)))))))) ?steps22 ?fin22
        case fin22 =>
          intro v w2 hb2 hF
          have hlast : v 6 = .bool (!B) := hF 6 (by decide)
          have HB2 := Lib.hid (HBE.out.drew.trans (Below.mono hb2 HBE.out.size))
          have HK2 := Lib.hid (HKO.out.drew.later hb2)
          have HR2 := Lib.hid (HKR.out.drew.later hb2)
          clear hb2 hF
          simp only [putAll, List.set_cons_succ, List.set_cons_zero, Nat.reduceAdd, hlast]
          cases B with
          | false =>
            obtain rfl := HNO.out 0 (by decide) HOB.out
            obtain ⟨q0, q1, q2⟩ := HR2.out.c3
            have f0 := HR2.out.frozen 0
            have f1 := HR2.out.frozen 1
            have f2 := HR2.out.frozen 2
            go_wp2
            refine bodyPost_ret (v := .tuple #[.agg #[.int .i64 0, .string ⟨#[]⟩, .string ⟨#[]⟩], .bool false]) (by simp [results, Tryd.results40, go_sem, q0, q1, q2]) rfl ⟨rfl, ?_⟩
            exact ((HB2.out.setCell (Nat.le_succ _) _).setCell (Nat.le_succ _) _).setCell (Nat.le_succ _) _
          | true =>
            go_wp2
            go_roundw
            case rel => exact ⟨0 + 1, by decide, by rfl, HUP.out rfl, HR2.out, HK2.out, HB2.out⟩
            case measure => decide
        case steps22 =>
          refine ⟨?_, ?_, ?_, ?_, ?_, ?_, ?_, trivial⟩
          all_goals intro y w2 hb hy0 hp0
          all_goals have hy := Lib.hid hy0
          all_goals have hp := Lib.hid hp0
          all_goals have hst := Lib.hid hb
          all_goals clear hy0 hp0 hb
          · have e1 : y 4 = .pointer (some ⟨w1.heap.size, 0, none⟩) := hy.out 4 (by decide)
            obtain ⟨q0, q1, q2⟩ := (HKX.out _ hst.out).c3
            refine StepG.plain rfl fun K Q hK => ?_
            simp only [fr32] at hK ⊢
            rw [e1] at hK ⊢
            go_simp
            exact hK _ _ ⟨Stays.refl _, by first | rfl | simp [Is] | (simp [factsOf, Is]; done)⟩
          · have e1 : y 6 = .int .i64 0 := hy.out 6 (by decide)
            refine StepG.plain rfl fun K Q hK => ?_
            simp only [fr32] at hK ⊢
            rw [e1] at hK ⊢
            go_simp
            exact hK _ _ ⟨Stays.refl _, by first | rfl | simp [Is] | (simp [factsOf, Is]; done)⟩
          · have e1 : y 23 = .int .i64 0 := hp.out 1 (by decide)
            refine StepG.plain rfl fun K Q hK => ?_
            simp only [fr32] at hK ⊢
            rw [e1] at hK ⊢
            go_simp
            exact hK _ _ ⟨Stays.refl _, by first | rfl | simp [Is] | (simp [factsOf, Is]; done)⟩
          · have e1 : y 24 = .pointer (some ⟨1, 0, none⟩) := hp.out 2 (by decide)
            obtain ⟨q0, q1, q2⟩ := (HTX.out _ hst.out).f0
            refine StepG.plain rfl fun K Q hK => ?_
            simp only [fr32] at hK ⊢
            rw [e1] at hK ⊢
            go_simp
            exact hK _ _ ⟨Stays.refl _, by first | rfl | simp [Is] | (simp [factsOf, Is]; done)⟩
          · have e1 : y 7 = .int .i64 a := hy.out 7 (by decide)
            refine StepG.plain rfl fun K Q hK => ?_
            simp only [fr32] at hK ⊢
            rw [e1] at hK ⊢
            go_simp
            exact hK _ _ ⟨Stays.refl _, by first | rfl | simp [Is] | (simp [factsOf, Is]; done)⟩
          · have e1 : y 22 = .agg #[.int .i64 op, .string nm, .string lt] := hp.out 0 (by decide)
            have e2 : y 25 = .agg #[.string ⟨#[97]⟩, .int .i64 0, .int .i64 31] := hp.out 3 (by decide)
            have e3 : y 26 = .int .i64 a := hp.out 4 (by decide)
            refine StepG.plain rfl fun K Q hK => ?_
            simp only [fr32] at hK ⊢
            rw [e1, e2, e3] at hK ⊢
            go_simp
            go_at_call 49
            refine (HT10.out _).mono ?_
            rintro r w3 ⟨rfl, hb3⟩
            exact hK _ w3 ⟨hb3, rfl⟩
          · have e1 : y 27 = .bool B := hp.out 5 (by decide)
            refine StepG.plain rfl fun K Q hK => ?_
            simp only [fr32] at hK ⊢
            rw [e1] at hK ⊢
            go_simp
            exact hK _ _ ⟨Stays.refl _, by first | rfl | simp [Is] | (simp [factsOf, Is]; done)⟩
      · have HKX : Hid (∀ w', Stays wr.drew w' → Blk w' w1.heap.size #[.int .i64 op, .string nm, .string lt] 89) := Lib.hid (fun w' h => HKO.out.drew.later h)
        have HTX : Hid (∀ w', Stays wr.drew w' → Tb w') := Lib.hid (fun w' h => HT1.out _ (HBE.out.drew.trans (Below.mono h HBE.out.size)))
        have HUP := Lib.hid (fun h => @upto_yes OK 1 HALL.out h)
        obtain ⟨B, hB⟩ : ∃ B, OK 1 = B := ⟨_, rfl⟩
        have HOB := Lib.hid hB
        rw [hB] at HT11 HUP
        clear hB
        go_wp2
        refine wp_region_facts (by kernel_rfl) Stays Stays.refl Stays.trans 32 rfl [22, 23, 24, 25, 26, 27, 28] (factsOf [Is (.agg #[.int .i64 op, .string nm, .string lt]), Is (.int .i64 1), Is (.pointer (some ⟨1, 3, none⟩)), Is (.agg #[.string ⟨#[98]⟩, .int .i64 0, .int .i64 31]), Is (.int .i64 b), Is (.bool B), Is (.bool (!B))]) (by kernel_rfl) (factsOf_mono (mono_cons (Is.mono _) (mono_cons (Is.mono _) (mono_cons (Is.mono _) (mono_cons (Is.mono _) (mono_cons (Is.mono _) (mono_cons (Is.mono _) (mono_cons (Is.mono _) mono_nil)))))))) ?steps22 ?fin22
        case fin22 =>
          intro v w2 hb2 hF
          have hlast : v 6 = .bool (!B) := hF 6 (by decide)
          have HB2 := Lib.hid (HBE.out.drew.trans (Below.mono hb2 HBE.out.size))
          have HK2 := Lib.hid (HKO.out.drew.later hb2)
          have HR2 := Lib.hid (HKR.out.drew.later hb2)
          clear hb2 hF
          simp only [putAll, List.set_cons_succ, List.set_cons_zero, Nat.reduceAdd, hlast]
          cases B with
          | false =>
            obtain rfl := HNO.out 1 (by decide) HOB.out
            obtain ⟨q0, q1, q2⟩ := HR2.out.c3
            have f0 := HR2.out.frozen 0
            have f1 := HR2.out.frozen 1
            have f2 := HR2.out.frozen 2
            go_wp2
            refine bodyPost_ret (v := .tuple #[.agg #[.int .i64 0, .string ⟨#[]⟩, .string ⟨#[]⟩], .bool false]) (by simp [results, Tryd.results40, go_sem, q0, q1, q2]) rfl ⟨rfl, ?_⟩
            exact ((HB2.out.setCell (Nat.le_succ _) _).setCell (Nat.le_succ _) _).setCell (Nat.le_succ _) _
          | true =>
            go_wp2
            go_roundw
            case rel => exact ⟨1 + 1, by decide, by rfl, HUP.out rfl, HR2.out, HK2.out, HB2.out⟩
            case measure => decide
        case steps22 =>
          refine ⟨?_, ?_, ?_, ?_, ?_, ?_, ?_, trivial⟩
          all_goals intro y w2 hb hy0 hp0
          all_goals have hy := Lib.hid hy0
          all_goals have hp := Lib.hid hp0
          all_goals have hst := Lib.hid hb
          all_goals clear hy0 hp0 hb
          · have e1 : y 4 = .pointer (some ⟨w1.heap.size, 0, none⟩) := hy.out 4 (by decide)
            obtain ⟨q0, q1, q2⟩ := (HKX.out _ hst.out).c3
            refine StepG.plain rfl fun K Q hK => ?_
            simp only [fr32] at hK ⊢
            rw [e1] at hK ⊢
            go_simp
            exact hK _ _ ⟨Stays.refl _, by first | rfl | simp [Is] | (simp [factsOf, Is]; done)⟩
          · have e1 : y 6 = .int .i64 1 := hy.out 6 (by decide)
            refine StepG.plain rfl fun K Q hK => ?_
            simp only [fr32] at hK ⊢
            rw [e1] at hK ⊢
            go_simp
            exact hK _ _ ⟨Stays.refl _, by first | rfl | simp [Is] | (simp [factsOf, Is]; done)⟩
          · have e1 : y 23 = .int .i64 1 := hp.out 1 (by decide)
            refine StepG.plain rfl fun K Q hK => ?_
            simp only [fr32] at hK ⊢
            rw [e1] at hK ⊢
            go_simp
            exact hK _ _ ⟨Stays.refl _, by first | rfl | simp [Is] | (simp [factsOf, Is]; done)⟩
          · have e1 : y 24 = .pointer (some ⟨1, 3, none⟩) := hp.out 2 (by decide)
            obtain ⟨q0, q1, q2⟩ := (HTX.out _ hst.out).f1
            refine StepG.plain rfl fun K Q hK => ?_
            simp only [fr32] at hK ⊢
            rw [e1] at hK ⊢
            go_simp
            exact hK _ _ ⟨Stays.refl _, by first | rfl | simp [Is] | (simp [factsOf, Is]; done)⟩
          · have e1 : y 7 = .int .i64 b := hy.out 7 (by decide)
            refine StepG.plain rfl fun K Q hK => ?_
            simp only [fr32] at hK ⊢
            rw [e1] at hK ⊢
            go_simp
            exact hK _ _ ⟨Stays.refl _, by first | rfl | simp [Is] | (simp [factsOf, Is]; done)⟩
          · have e1 : y 22 = .agg #[.int .i64 op, .string nm, .string lt] := hp.out 0 (by decide)
            have e2 : y 25 = .agg #[.string ⟨#[98]⟩, .int .i64 0, .int .i64 31] := hp.out 3 (by decide)
            have e3 : y 26 = .int .i64 b := hp.out 4 (by decide)
            refine StepG.plain rfl fun K Q hK => ?_
            simp only [fr32] at hK ⊢
            rw [e1, e2, e3] at hK ⊢
            go_simp
            go_at_call 49
            refine (HT11.out _).mono ?_
            rintro r w3 ⟨rfl, hb3⟩
            exact hK _ w3 ⟨hb3, rfl⟩
          · have e1 : y 27 = .bool B := hp.out 5 (by decide)
            refine StepG.plain rfl fun K Q hK => ?_
            simp only [fr32] at hK ⊢
            rw [e1] at hK ⊢
            go_simp
            exact hK _ _ ⟨Stays.refl _, by first | rfl | simp [Is] | (simp [factsOf, Is]; done)⟩
      · have HKX : Hid (∀ w', Stays wr.drew w' → Blk w' w1.heap.size #[.int .i64 op, .string nm, .string lt] 89) := Lib.hid (fun w' h => HKO.out.drew.later h)
        have HTX : Hid (∀ w', Stays wr.drew w' → Tb w') := Lib.hid (fun w' h => HT1.out _ (HBE.out.drew.trans (Below.mono h HBE.out.size)))
        have HUP := Lib.hid (fun h => @upto_yes OK 2 HALL.out h)
        obtain ⟨B, hB⟩ : ∃ B, OK 2 = B := ⟨_, rfl⟩
        have HOB := Lib.hid hB
        rw [hB] at HT12 HUP
        clear hB
        go_wp2
        refine wp_region_facts (by kernel_rfl) Stays Stays.refl Stays.trans 32 rfl [22, 23, 24, 25, 26, 27, 28] (factsOf [Is (.agg #[.int .i64 op, .string nm, .string lt]), Is (.int .i64 2), Is (.pointer (some ⟨1, 6, none⟩)), Is (.agg #[.string ⟨#[99]⟩, .int .i64 0, .int .i64 31]), Is (.int .i64 c), Is (.bool B), Is (.bool (!B))]) (by kernel_rfl) (factsOf_mono (mono_cons (Is.mono _) (mono_cons (Is.mono _) (mono_cons (Is.mono _) (mono_cons (Is.mono _) (mono_cons (Is.mono _) (mono_cons (Is.mono _) (mono_cons (Is.mono _) mono_nil)))))))) ?steps22 ?fin22
        case fin22 =>
          intro v w2 hb2 hF
          have hlast : v 6 = .bool (!B) := hF 6 (by decide)
          have HB2 := Lib.hid (HBE.out.drew.trans (Below.mono hb2 HBE.out.size))
          have HK2 := Lib.hid (HKO.out.drew.later hb2)
          have HR2 := Lib.hid (HKR.out.drew.later hb2)
          clear hb2 hF
          simp only [putAll, List.set_cons_succ, List.set_cons_zero, Nat.reduceAdd, hlast]
          cases B with
          | false =>
            obtain rfl := HNO.out 2 (by decide) HOB.out
            obtain ⟨q0, q1, q2⟩ := HR2.out.c3
            have f0 := HR2.out.frozen 0
            have f1 := HR2.out.frozen 1
            have f2 := HR2.out.frozen 2
            go_wp2
            refine bodyPost_ret (v := .tuple #[.agg #[.int .i64 0, .string ⟨#[]⟩, .string ⟨#[]⟩], .bool false]) (by simp [results, Tryd.results40, go_sem, q0, q1, q2]) rfl ⟨rfl, ?_⟩
            exact ((HB2.out.setCell (Nat.le_succ _) _).setCell (Nat.le_succ _) _).setCell (Nat.le_succ _) _
          | true =>
            go_wp2
            go_roundw
            case rel => exact ⟨2 + 1, by decide, by rfl, HUP.out rfl, HR2.out, HK2.out, HB2.out⟩
            case measure => decide
        case steps22 =>
          refine ⟨?_, ?_, ?_, ?_, ?_, ?_, ?_, trivial⟩
          all_goals intro y w2 hb hy0 hp0
          all_goals have hy := Lib.hid hy0
          all_goals have hp := Lib.hid hp0
          all_goals have hst := Lib.hid hb
          all_goals clear hy0 hp0 hb
          · have e1 : y 4 = .pointer (some ⟨w1.heap.size, 0, none⟩) := hy.out 4 (by decide)
            obtain ⟨q0, q1, q2⟩ := (HKX.out _ hst.out).c3
            refine StepG.plain rfl fun K Q hK => ?_
            simp only [fr32] at hK ⊢
            rw [e1] at hK ⊢
            go_simp
            exact hK _ _ ⟨Stays.refl _, by first | rfl | simp [Is] | (simp [factsOf, Is]; done)⟩
          · have e1 : y 6 = .int .i64 2 := hy.out 6 (by decide)
            refine StepG.plain rfl fun K Q hK => ?_
            simp only [fr32] at hK ⊢
            rw [e1] at hK ⊢
            go_simp
            exact hK _ _ ⟨Stays.refl _, by first | rfl | simp [Is] | (simp [factsOf, Is]; done)⟩
          · have e1 : y 23 = .int .i64 2 := hp.out 1 (by decide)
            refine StepG.plain rfl fun K Q hK => ?_
            simp only [fr32] at hK ⊢
            rw [e1] at hK ⊢
            go_simp
            exact hK _ _ ⟨Stays.refl _, by first | rfl | simp [Is] | (simp [factsOf, Is]; done)⟩
          · have e1 : y 24 = .pointer (some ⟨1, 6, none⟩) := hp.out 2 (by decide)
            obtain ⟨q0, q1, q2⟩ := (HTX.out _ hst.out).f2
            refine StepG.plain rfl fun K Q hK => ?_
            simp only [fr32] at hK ⊢
            rw [e1] at hK ⊢
            go_simp
            exact hK _ _ ⟨Stays.refl _, by first | rfl | simp [Is] | (simp [factsOf, Is]; done)⟩
          · have e1 : y 7 = .int .i64 c := hy.out 7 (by decide)
            refine StepG.plain rfl fun K Q hK => ?_
            simp only [fr32] at hK ⊢
            rw [e1] at hK ⊢
            go_simp
            exact hK _ _ ⟨Stays.refl _, by first | rfl | simp [Is] | (simp [factsOf, Is]; done)⟩
          · have e1 : y 22 = .agg #[.int .i64 op, .string nm, .string lt] := hp.out 0 (by decide)
            have e2 : y 25 = .agg #[.string ⟨#[99]⟩, .int .i64 0, .int .i64 31] := hp.out 3 (by decide)
            have e3 : y 26 = .int .i64 c := hp.out 4 (by decide)
            refine StepG.plain rfl fun K Q hK => ?_
            simp only [fr32] at hK ⊢
            rw [e1, e2, e3] at hK ⊢
            go_simp
            go_at_call 49
            refine (HT12.out _).mono ?_
            rintro r w3 ⟨rfl, hb3⟩
            exact hK _ w3 ⟨hb3, rfl⟩
          · have e1 : y 27 = .bool B := hp.out 5 (by decide)
            refine StepG.plain rfl fun K Q hK => ?_
            simp only [fr32] at hK ⊢
            rw [e1] at hK ⊢
            go_simp
            exact hK _ _ ⟨Stays.refl _, by first | rfl | simp [Is] | (simp [factsOf, Is]; done)⟩
      · have HKX : Hid (∀ w', Stays wr.drew w' → Blk w' w1.heap.size #[.int .i64 op, .string nm, .string lt] 89) := Lib.hid (fun w' h => HKO.out.drew.later h)
        have HTX : Hid (∀ w', Stays wr.drew w' → Tb w') := Lib.hid (fun w' h => HT1.out _ (HBE.out.drew.trans (Below.mono h HBE.out.size)))
        have HUP := Lib.hid (fun h => @upto_yes OK 3 HALL.out h)
        obtain ⟨B, hB⟩ : ∃ B, OK 3 = B := ⟨_, rfl⟩
        have HOB := Lib.hid hB
        rw [hB] at HT13 HUP
        clear hB
        go_wp2
        refine wp_region_facts (by kernel_rfl) Stays Stays.refl Stays.trans 32 rfl [22, 23, 24, 25, 26, 27, 28] (factsOf [Is (.agg #[.int .i64 op, .string nm, .string lt]), Is (.int .i64 3), Is (.pointer (some ⟨1, 9, none⟩)), Is (.agg #[.string ⟨#[105]⟩, .int .i64 (-2147483648), .int .i64 2147483647]), Is (.int .i64 m), Is (.bool B), Is (.bool (!B))]) (by kernel_rfl) (factsOf_mono (mono_cons (Is.mono _) (mono_cons (Is.mono _) (mono_cons (Is.mono _) (mono_cons (Is.mono _) (mono_cons (Is.mono _) (mono_cons (Is.mono _) (mono_cons (Is.mono _) mono_nil)))))))) ?steps22 ?fin22
        case fin22 =>
          intro v w2 hb2 hF
          have hlast : v 6 = .bool (!B) := hF 6 (by decide)
          have HB2 := Lib.hid (HBE.out.drew.trans (Below.mono hb2 HBE.out.size))
          have HK2 := Lib.hid (HKO.out.drew.later hb2)
          have HR2 := Lib.hid (HKR.out.drew.later hb2)
          clear hb2 hF
          simp only [putAll, List.set_cons_succ, List.set_cons_zero, Nat.reduceAdd, hlast]
          cases B with
          | false =>
            obtain rfl := HNO.out 3 (by decide) HOB.out
            obtain ⟨q0, q1, q2⟩ := HR2.out.c3
            have f0 := HR2.out.frozen 0
            have f1 := HR2.out.frozen 1
            have f2 := HR2.out.frozen 2
            go_wp2
            refine bodyPost_ret (v := .tuple #[.agg #[.int .i64 0, .string ⟨#[]⟩, .string ⟨#[]⟩], .bool false]) (by simp [results, Tryd.results40, go_sem, q0, q1, q2]) rfl ⟨rfl, ?_⟩
            exact ((HB2.out.setCell (Nat.le_succ _) _).setCell (Nat.le_succ _) _).setCell (Nat.le_succ _) _
          | true =>
            go_wp2
            go_roundw
            case rel => exact ⟨3 + 1, by decide, by rfl, HUP.out rfl, HR2.out, HK2.out, HB2.out⟩
            case measure => decide
        case steps22 =>
          refine ⟨?_, ?_, ?_, ?_, ?_, ?_, ?_, trivial⟩
          all_goals intro y w2 hb hy0 hp0
          all_goals have hy := Lib.hid hy0
          all_goals have hp := Lib.hid hp0
          all_goals have hst := Lib.hid hb
          all_goals clear hy0 hp0 hb
          · have e1 : y 4 = .pointer (some ⟨w1.heap.size, 0, none⟩) := hy.out 4 (by decide)
            obtain ⟨q0, q1, q2⟩ := (HKX.out _ hst.out).c3
            refine StepG.plain rfl fun K Q hK => ?_
            simp only [fr32] at hK ⊢
            rw [e1] at hK ⊢
            go_simp
            exact hK _ _ ⟨Stays.refl _, by first | rfl | simp [Is] | (simp [factsOf, Is]; done)⟩
          · have e1 : y 6 = .int .i64 3 := hy.out 6 (by decide)
            refine StepG.plain rfl fun K Q hK => ?_
            simp only [fr32] at hK ⊢
            rw [e1] at hK ⊢
            go_simp
            exact hK _ _ ⟨Stays.refl _, by first | rfl | simp [Is] | (simp [factsOf, Is]; done)⟩
          · have e1 : y 23 = .int .i64 3 := hp.out 1 (by decide)
            refine StepG.plain rfl fun K Q hK => ?_
            simp only [fr32] at hK ⊢
            rw [e1] at hK ⊢
            go_simp
            exact hK _ _ ⟨Stays.refl _, by first | rfl | simp [Is] | (simp [factsOf, Is]; done)⟩
          · have e1 : y 24 = .pointer (some ⟨1, 9, none⟩) := hp.out 2 (by decide)
            obtain ⟨q0, q1, q2⟩ := (HTX.out _ hst.out).f3
            refine StepG.plain rfl fun K Q hK => ?_
            simp only [fr32] at hK ⊢
            rw [e1] at hK ⊢
            go_simp
            exact hK _ _ ⟨Stays.refl _, by first | rfl | simp [Is] | (simp [factsOf, Is]; done)⟩
          · have e1 : y 7 = .int .i64 m := hy.out 7 (by decide)
            refine StepG.plain rfl fun K Q hK => ?_
            simp only [fr32] at hK ⊢
            rw [e1] at hK ⊢
            go_simp
            exact hK _ _ ⟨Stays.refl _, by first | rfl | simp [Is] | (simp [factsOf, Is]; done)⟩
          · have e1 : y 22 = .agg #[.int .i64 op, .string nm, .string lt] := hp.out 0 (by decide)
            have e2 : y 25 = .agg #[.string ⟨#[105]⟩, .int .i64 (-2147483648), .int .i64 2147483647] := hp.out 3 (by decide)
            have e3 : y 26 = .int .i64 m := hp.out 4 (by decide)
            refine StepG.plain rfl fun K Q hK => ?_
            simp only [fr32] at hK ⊢
            rw [e1, e2, e3] at hK ⊢
            go_simp
            go_at_call 49
            refine (HT13.out _).mono ?_
            rintro r w3 ⟨rfl, hb3⟩
            exact hK _ w3 ⟨hb3, rfl⟩
          · have e1 : y 27 = .bool B := hp.out 5 (by decide)
            refine StepG.plain rfl fun K Q hK => ?_
            simp only [fr32] at hK ⊢
            rw [e1] at hK ⊢
            go_simp
            exact hK _ _ ⟨Stays.refl _, by first | rfl | simp [Is] | (simp [factsOf, Is]; done)⟩
      · obtain rfl := HFU.out HALL.out
        obtain ⟨q0, q1, q2⟩ := HKR.out.c3
        obtain ⟨p0, p1, p2⟩ := HKO.out.c3
        have f0 := HKR.out.frozen 0
        have f1 := HKR.out.frozen 1
        have f2 := HKR.out.frozen 2
        go_wp2
        refine bodyPost_ret (v := .tuple #[.agg #[.int .i64 op, .string nm, .string lt], .bool true]) (by simp [results, Tryd.results40, go_sem, q0, q1, q2]) rfl ⟨rfl, ?_⟩
        exact ((HBE.out.setCell (Nat.le_succ _) _).setCell (Nat.le_succ _) _).setCell (Nat.le_succ _) _
end Go.Proofs.YtkhfmgifpppcmaaDoor
