/-
  What is proved here: the closures that find is called with; find; numbersOf, insOf.
  Conditions: the listed variables hold what they hold (Tb).
-/
import Derived.Test.YtjpbbonkmnbabaaDoorIsaSm
import Derived.Laws.Rows
namespace Go.Proofs.YtjpbbonkmnbabaaDoor
open Go.RowKit
set_option linter.unusedVariables false
set_option linter.unusedSimpArgs false

/-- An instruction as the program has it. -/
def In.ival (i : In) : Value := .agg #[.int .i64 i.op, .int .i64 i.a, .int .i64 i.b, .int .i64 i.c, .int .i32 i.imm]
structure In.Ok32 (i : In) : Prop where
  op : -9223372036854775808 ≤ i.op ∧ i.op ≤ 9223372036854775807
  a : -9223372036854775808 ≤ i.a ∧ i.a ≤ 9223372036854775807
  b : -9223372036854775808 ≤ i.b ∧ i.b ≤ 9223372036854775807
  c : -9223372036854775808 ≤ i.c ∧ i.c ≤ 9223372036854775807
  imm : -2147483648 ≤ i.imm ∧ i.imm ≤ 2147483647
theorem alloc_cell {w : World} {b o : Nat} {v : Value} (h : w.cell? ⟨b, o, none⟩ = some v) (x : Obj) : (w.alloc x).cell? ⟨b, o, none⟩ = some v := by
  rw [World.cell?_alloc_past _ _ _ (block_lt h)]; exact h
set_option maxHeartbeats 800000 in
theorem isop_ok (r : Orow) (b1 : Nat) (op : Int) (w : World) (h1 : w.cell? ⟨b1, 0, none⟩ = some (.int .i64 op)) :
    Calls Tryd.prog 41 #[r.val, .pointer (some ⟨b1, 0, none⟩)] w fun e w' => e = .returned (.bool (r.op == op)) ∧ Below w.heap.size w w' := by
  obtain ⟨rop, nm, lt⟩ := r
  have H1 : ∀ o, (w.alloc o).cell? ⟨b1, 0, none⟩ = some (.int .i64 op) := fun o => alloc_cell h1 o
  have HB := Lib.hid (fun o => bal1 w o)
  unfold Orow.val
  go_enter Tryd.func41, Tryd.ntmps41
  go_wp2
  go_ret
  exact ⟨by simp, HB.out _⟩
set_option maxHeartbeats 800000 in
theorem isnm_ok (r : Orow) (b1 : Nat) (s : ByteArray) (w : World) (h1 : w.cell? ⟨b1, 0, none⟩ = some (.string s)) :
    Calls Tryd.prog 32 #[r.val, .pointer (some ⟨b1, 0, none⟩)] w fun e w' => e = .returned (.bool (r.nm.toList == s.toList)) ∧ Below w.heap.size w w' := by
  obtain ⟨rop, nm, lt⟩ := r
  have H1 : ∀ o, (w.alloc o).cell? ⟨b1, 0, none⟩ = some (.string s) := fun o => alloc_cell h1 o
  have HB := Lib.hid (fun o => bal1 w o)
  unfold Orow.val
  go_enter Tryd.func32, Tryd.ntmps32
  go_wp2
  go_ret
  exact ⟨by simp, HB.out _⟩
theorem index_ops (k : Nat) (h : k < 38) : ∀ w, (Instr.index 88 (.agg opsL.toArray) (.int .i64 k)).run Tryd.prog w = .ok (rowK k).val w :=
  match k, h with
  | 0, _ => fun _ => by kernel_rfl
  | 1, _ => fun _ => by kernel_rfl
  | 2, _ => fun _ => by kernel_rfl
  | 3, _ => fun _ => by kernel_rfl
  | 4, _ => fun _ => by kernel_rfl
  | 5, _ => fun _ => by kernel_rfl
  | 6, _ => fun _ => by kernel_rfl
  | 7, _ => fun _ => by kernel_rfl
  | 8, _ => fun _ => by kernel_rfl
  | 9, _ => fun _ => by kernel_rfl
  | 10, _ => fun _ => by kernel_rfl
  | 11, _ => fun _ => by kernel_rfl
  | 12, _ => fun _ => by kernel_rfl
  | 13, _ => fun _ => by kernel_rfl
  | 14, _ => fun _ => by kernel_rfl
  | 15, _ => fun _ => by kernel_rfl
  | 16, _ => fun _ => by kernel_rfl
  | 17, _ => fun _ => by kernel_rfl
  | 18, _ => fun _ => by kernel_rfl
  | 19, _ => fun _ => by kernel_rfl
  | 20, _ => fun _ => by kernel_rfl
  | 21, _ => fun _ => by kernel_rfl
  | 22, _ => fun _ => by kernel_rfl
  | 23, _ => fun _ => by kernel_rfl
  | 24, _ => fun _ => by kernel_rfl
  | 25, _ => fun _ => by kernel_rfl
  | 26, _ => fun _ => by kernel_rfl
  | 27, _ => fun _ => by kernel_rfl
  | 28, _ => fun _ => by kernel_rfl
  | 29, _ => fun _ => by kernel_rfl
  | 30, _ => fun _ => by kernel_rfl
  | 31, _ => fun _ => by kernel_rfl
  | 32, _ => fun _ => by kernel_rfl
  | 33, _ => fun _ => by kernel_rfl
  | 34, _ => fun _ => by kernel_rfl
  | 35, _ => fun _ => by kernel_rfl
  | 36, _ => fun _ => by kernel_rfl
  | 37, _ => fun _ => by kernel_rfl
  | k + 38, h => absurd h (by omega)
/-- The table. -/
def opsT : List Orow := (List.range 38).map rowK
theorem opsT_len : opsT.length = 38 := by decide
theorem opsT_at {k : Nat} (h : k < 38) : opsT.getD k Orow.zero = rowK k := by
  unfold opsT
  rw [List.getD_eq_getElem?_getD, List.getElem?_map, List.getElem?_range h]; rfl
theorem findO_at {p : Orow → Bool} : ∀ {L : List Orow} {k : Nat}, (∀ j, j < k → p (L.getD j Orow.zero) = false) → k < L.length → p (L.getD k Orow.zero) = true → L.find? p = some (L.getD k Orow.zero)
  | [], k, _, h, _ => by simp at h
  | s :: L, 0, _, _, h => by
    have h' : p s = true := h
    rw [List.find?_cons_of_pos h']; rfl
  | s :: L, k + 1, h0, h1, h2 => by
    have h' : p s = false := h0 0 (by omega)
    rw [List.find?_cons_of_neg (by rw [h']; decide)]
    exact findO_at (L := L) (k := k) (fun j hj => h0 (j + 1) (by omega)) (by simpa using h1) h2
theorem findO_no {p : Orow → Bool} {L : List Orow} (h : ∀ j, j < L.length → p (L.getD j Orow.zero) = false) : L.find? p = none := by
  rw [List.find?_eq_none]
  intro s hs
  obtain ⟨i, hi, rfl⟩ := List.getElem_of_mem hs
  have := h i hi
  rw [List.getD_eq_getElem?_getD, List.getElem?_eq_getElem hi] at this
  simpa using this
def foundO : Option Orow → Value
  | none => Orow.zero.val
  | some s => s.val
set_option maxRecDepth 100000 in
set_option maxHeartbeats 3200000 in
theorem find_op (p : Orow → Bool) (b1 : Nat) (w : World) (hT : Tb w)
    (hp : ∀ s w1, Below w.heap.size w w1 → Calls Tryd.prog 41 #[s.val, .pointer (some ⟨b1, 0, none⟩)] w1 fun e w' => e = .returned (.bool (p s)) ∧ Below w1.heap.size w1 w') :
    Calls Tryd.prog 31 #[.func (.func 41) #[] #[.pointer (some ⟨b1, 0, none⟩)]] w fun e w' => e = .returned (.tuple #[foundO (opsT.find? p), .bool (opsT.find? p).isSome]) ∧ Below w.heap.size w w' := by
  obtain ⟨r, hr⟩ : ∃ r, opsT.find? p = r := ⟨_, rfl⟩
  rw [hr]
  have HR := Lib.hid hr
  have HP := Lib.hid hp
  obtain ⟨T, hops⟩ := hT.ops
  have HBLK := (hops.alloc (.cells Orow.zero.cells.toArray 56))
  obtain ⟨OC, hOC⟩ : ∃ OC, opsL.toArray = OC := ⟨_, rfl⟩
  have hsz : OC.size = 114 := by rw [← hOC]; decide
  have hix0 := index_ops
  rw [hOC] at hix0 HBLK
  have HIX := Lib.hid hix0
  unfold Blk at HBLK
  have HBK := Lib.hid HBLK
  have HSZ := Lib.hid hsz
  clear hr hp hops hOC HBLK hsz hT hix0
  go_enter Tryd.func31, Tryd.ntmps31
  go_wp2_with (refine wpList_load_row rfl 88 _ rfl 1 rfl _ _ (0, 0) _ HBK.out Tryd.underlying88 rfl (by rw [HSZ.out]; kernel_rfl) ?_)
  go_loopw [5, 7] (fun _ i wr => ∃ k : Nat, k ≤ 38 ∧ i = .int .i64 k ∧ (∀ j, j < k → p (opsT.getD j Orow.zero) = false) ∧ Blk wr w.heap.size #[.int .i64 0, .string ⟨#[]⟩, .string ⟨#[]⟩] 56 ∧ Below w.heap.size w wr) (fun _ i _ => 38 - (intOf i).toNat)
  case atStart => exact ⟨0, Nat.zero_le _, rfl, fun j hj => absurd hj (by omega), Blk.new _ _ _, bal1 _ _⟩
  case round =>
    obtain ⟨k, hk, rfl, hno, hblk, hbel⟩ := hrel
    by_cases hlt : k < 38
    · have hpk := Lib.hid (HP.out (opsT.getD k Orow.zero))
      have HAT := Lib.hid (fun h => findO_at (p := p) (L := opsT) hno (by rw [opsT_len]; exact hlt) h)
      have HNO : Hid (p (opsT.getD k Orow.zero) = false → ∀ j, j < k + 1 → p (opsT.getD j Orow.zero) = false) := Lib.hid (fun h j hj => by
        by_cases e : j = k
        · subst e; exact h
        · exact hno j (by omega))
      have hix := HIX.out k hlt
      rw [← opsT_at hlt] at hix
      obtain ⟨s, hsd⟩ : ∃ s, opsT.getD k Orow.zero = s := ⟨_, rfl⟩
      rw [hsd] at hpk HAT HNO hix
      obtain ⟨q, hq⟩ : ∃ q, p s = q := ⟨_, rfl⟩
      rw [hq] at hpk HAT HNO
      clear hsd hno
      obtain ⟨op, nm, lt⟩ := s
      simp only [Orow.val] at hix hpk
      have hbs := hbel.size
      have HB2 : Hid (∀ o, Below w.heap.size w (wr.alloc o)) := Lib.hid (fun o => hbel.alloc hbs o)
      have HK2 : Hid (∀ o, Blk (wr.alloc o) w.heap.size #[.int .i64 0, .string ⟨#[]⟩, .string ⟨#[]⟩] 56) := Lib.hid (fun o => hblk.alloc o)
      clear hbel hblk
      cases q with
      | true =>
        have hr2 := HAT.out rfl
        rw [HR.out] at hr2
        subst hr2
        go_wp2_with fail
        refine (hpk.out _ (HB2.out _)).mono ?_
        rintro e w2 ⟨rfl, hb2⟩
        obtain ⟨p0, p1, p2⟩ := ((Blk.new wr _ _).later hb2).c3
        obtain ⟨q0, q1, q2⟩ := ((HK2.out _).later hb2).c3
        have hkf := ((HK2.out (.cells #[.int .i64 op, .string nm, .string lt] 56)).later hb2)
        have f0 := hkf.frozen 0
        have f1 := hkf.frozen 1
        have f2 := hkf.frozen 2
        have HB3 := Lib.hid ((HB2.out _).trans (hb2.mono (HB2.out _).size))
        clear hb2 hkf
        go_wp2
        refine bodyPost_ret (v := .tuple #[.agg #[.int .i64 op, .string nm, .string lt], .bool true]) (by simp [results, Tryd.results31, go_sem, q0, q1, q2]) rfl ⟨rfl, ?_⟩
        exact ((HB3.out.setCell (Nat.le_refl _) _).setCell (Nat.le_refl _) _).setCell (Nat.le_refl _) _
      | false =>
        go_wp2_with fail
        refine (hpk.out _ (HB2.out _)).mono ?_
        rintro e w2 ⟨rfl, hb2⟩
        have hk2 := (HK2.out (.cells #[.int .i64 op, .string nm, .string lt] 56)).later hb2
        have hbb := (HB2.out _).trans (hb2.mono (HB2.out _).size)
        clear hb2
        go_wp2
        go_roundw
        case rel => exact ⟨k + 1, by omega, by go_num, HNO.out (by trivial), hk2, hbb⟩
        case measure => simp [intOf]; omega
    · obtain rfl : k = 38 := by omega
      have hr2 := findO_no (p := p) (L := opsT) (fun j hj => hno j (by rw [opsT_len] at hj; exact hj))
      rw [HR.out] at hr2
      subst hr2
      obtain ⟨q0, q1, q2⟩ := hblk.c3
      have f0 := hblk.frozen 0
      have f1 := hblk.frozen 1
      have f2 := hblk.frozen 2
      go_wp2
      refine bodyPost_ret (v := .tuple #[.agg #[.int .i64 0, .string ⟨#[]⟩, .string ⟨#[]⟩], .bool false]) (by simp [results, Tryd.results31, go_sem, q0, q1, q2]) rfl ⟨rfl, ?_⟩
      exact ((hbel.setCell (Nat.le_refl _) _).setCell (Nat.le_refl _) _).setCell (Nat.le_refl _) _
set_option maxRecDepth 100000 in
set_option maxHeartbeats 3200000 in
theorem find_nm (p : Orow → Bool) (b1 : Nat) (w : World) (hT : Tb w)
    (hp : ∀ s w1, Below w.heap.size w w1 → Calls Tryd.prog 32 #[s.val, .pointer (some ⟨b1, 0, none⟩)] w1 fun e w' => e = .returned (.bool (p s)) ∧ Below w1.heap.size w1 w') :
    Calls Tryd.prog 31 #[.func (.func 32) #[] #[.pointer (some ⟨b1, 0, none⟩)]] w fun e w' => e = .returned (.tuple #[foundO (opsT.find? p), .bool (opsT.find? p).isSome]) ∧ Below w.heap.size w w' := by
  obtain ⟨r, hr⟩ : ∃ r, opsT.find? p = r := ⟨_, rfl⟩
  rw [hr]
  have HR := Lib.hid hr
  have HP := Lib.hid hp
  obtain ⟨T, hops⟩ := hT.ops
  have HBLK := (hops.alloc (.cells Orow.zero.cells.toArray 56))
  obtain ⟨OC, hOC⟩ : ∃ OC, opsL.toArray = OC := ⟨_, rfl⟩
  have hsz : OC.size = 114 := by rw [← hOC]; decide
  have hix0 := index_ops
  rw [hOC] at hix0 HBLK
  have HIX := Lib.hid hix0
  unfold Blk at HBLK
  have HBK := Lib.hid HBLK
  have HSZ := Lib.hid hsz
  clear hr hp hops hOC HBLK hsz hT hix0
  go_enter Tryd.func31, Tryd.ntmps31
  go_wp2_with (refine wpList_load_row rfl 88 _ rfl 1 rfl _ _ (0, 0) _ HBK.out Tryd.underlying88 rfl (by rw [HSZ.out]; kernel_rfl) ?_)
  go_loopw [5, 7] (fun _ i wr => ∃ k : Nat, k ≤ 38 ∧ i = .int .i64 k ∧ (∀ j, j < k → p (opsT.getD j Orow.zero) = false) ∧ Blk wr w.heap.size #[.int .i64 0, .string ⟨#[]⟩, .string ⟨#[]⟩] 56 ∧ Below w.heap.size w wr) (fun _ i _ => 38 - (intOf i).toNat)
  case atStart => exact ⟨0, Nat.zero_le _, rfl, fun j hj => absurd hj (by omega), Blk.new _ _ _, bal1 _ _⟩
  case round =>
    obtain ⟨k, hk, rfl, hno, hblk, hbel⟩ := hrel
    by_cases hlt : k < 38
    · have hpk := Lib.hid (HP.out (opsT.getD k Orow.zero))
      have HAT := Lib.hid (fun h => findO_at (p := p) (L := opsT) hno (by rw [opsT_len]; exact hlt) h)
      have HNO : Hid (p (opsT.getD k Orow.zero) = false → ∀ j, j < k + 1 → p (opsT.getD j Orow.zero) = false) := Lib.hid (fun h j hj => by
        by_cases e : j = k
        · subst e; exact h
        · exact hno j (by omega))
      have hix := HIX.out k hlt
      rw [← opsT_at hlt] at hix
      obtain ⟨s, hsd⟩ : ∃ s, opsT.getD k Orow.zero = s := ⟨_, rfl⟩
      rw [hsd] at hpk HAT HNO hix
      obtain ⟨q, hq⟩ : ∃ q, p s = q := ⟨_, rfl⟩
      rw [hq] at hpk HAT HNO
      clear hsd hno
      obtain ⟨op, nm, lt⟩ := s
      simp only [Orow.val] at hix hpk
      have hbs := hbel.size
      have HB2 : Hid (∀ o, Below w.heap.size w (wr.alloc o)) := Lib.hid (fun o => hbel.alloc hbs o)
      have HK2 : Hid (∀ o, Blk (wr.alloc o) w.heap.size #[.int .i64 0, .string ⟨#[]⟩, .string ⟨#[]⟩] 56) := Lib.hid (fun o => hblk.alloc o)
      clear hbel hblk
      cases q with
      | true =>
        have hr2 := HAT.out rfl
        rw [HR.out] at hr2
        subst hr2
        go_wp2_with fail
        refine (hpk.out _ (HB2.out _)).mono ?_
        rintro e w2 ⟨rfl, hb2⟩
        obtain ⟨p0, p1, p2⟩ := ((Blk.new wr _ _).later hb2).c3
        obtain ⟨q0, q1, q2⟩ := ((HK2.out _).later hb2).c3
        have hkf := ((HK2.out (.cells #[.int .i64 op, .string nm, .string lt] 56)).later hb2)
        have f0 := hkf.frozen 0
        have f1 := hkf.frozen 1
        have f2 := hkf.frozen 2
        have HB3 := Lib.hid ((HB2.out _).trans (hb2.mono (HB2.out _).size))
        clear hb2 hkf
        go_wp2
        refine bodyPost_ret (v := .tuple #[.agg #[.int .i64 op, .string nm, .string lt], .bool true]) (by simp [results, Tryd.results31, go_sem, q0, q1, q2]) rfl ⟨rfl, ?_⟩
        exact ((HB3.out.setCell (Nat.le_refl _) _).setCell (Nat.le_refl _) _).setCell (Nat.le_refl _) _
      | false =>
        go_wp2_with fail
        refine (hpk.out _ (HB2.out _)).mono ?_
        rintro e w2 ⟨rfl, hb2⟩
        have hk2 := (HK2.out (.cells #[.int .i64 op, .string nm, .string lt] 56)).later hb2
        have hbb := (HB2.out _).trans (hb2.mono (HB2.out _).size)
        clear hb2
        go_wp2
        go_roundw
        case rel => exact ⟨k + 1, by omega, by go_num, HNO.out (by trivial), hk2, hbb⟩
        case measure => simp [intOf]; omega
    · obtain rfl : k = 38 := by omega
      have hr2 := findO_no (p := p) (L := opsT) (fun j hj => hno j (by rw [opsT_len] at hj; exact hj))
      rw [HR.out] at hr2
      subst hr2
      obtain ⟨q0, q1, q2⟩ := hblk.c3
      have f0 := hblk.frozen 0
      have f1 := hblk.frozen 1
      have f2 := hblk.frozen 2
      go_wp2
      refine bodyPost_ret (v := .tuple #[.agg #[.int .i64 0, .string ⟨#[]⟩, .string ⟨#[]⟩], .bool false]) (by simp [results, Tryd.results31, go_sem, q0, q1, q2]) rfl ⟨rfl, ?_⟩
      exact ((hbel.setCell (Nat.le_refl _) _).setCell (Nat.le_refl _) _).setCell (Nat.le_refl _) _
end Go.Proofs.YtjpbbonkmnbabaaDoor
