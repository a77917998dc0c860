/-
  What is proved here: the reference of isa: Word, has, May, Encode, Decode.
  Conditions: none but that the arguments are values of their types.
-/
import Derived.Test.YtkhfmgifpppcmaaDoorIsaMath
import Derived.Test.YtkhfmgifpppcmaaDoorVmAdd
import Derived.Test.YtkhfmgifpppcmaaDoorBaseP
import Derived.Test.YtkhfmgifpppcmaaDoorBlk
namespace Go.Proofs.YtkhfmgifpppcmaaDoor
open Go.RowKit
set_option linter.unusedVariables false
set_option linter.unusedSimpArgs false

theorem wordI_cells (k : Nat) (h : k < 42) : (#[.string ⟨#[]⟩, .string ⟨#[110, 111, 112]⟩, .string ⟨#[109, 111, 118]⟩, .string ⟨#[97, 100, 100]⟩, .string ⟨#[115, 117, 98]⟩, .string ⟨#[109, 117, 108]⟩, .string ⟨#[100, 105, 118]⟩, .string ⟨#[114, 101, 109]⟩, .string ⟨#[97, 110, 100]⟩, .string ⟨#[111, 114]⟩, .string ⟨#[120, 111, 114]⟩, .string ⟨#[115, 104, 108]⟩, .string ⟨#[115, 104, 114]⟩, .string ⟨#[115, 97, 114]⟩, .string ⟨#[115, 108, 116]⟩, .string ⟨#[115, 108, 116, 117]⟩, .string ⟨#[97, 100, 100, 105]⟩, .string ⟨#[109, 111, 118, 105]⟩, .string ⟨#[109, 111, 118, 104, 105]⟩, .string ⟨#[]⟩, .string ⟨#[108, 100, 49]⟩, .string ⟨#[108, 100, 50]⟩, .string ⟨#[108, 100, 52]⟩, .string ⟨#[108, 100, 56]⟩, .string ⟨#[115, 116, 49]⟩, .string ⟨#[115, 116, 50]⟩, .string ⟨#[115, 116, 52]⟩, .string ⟨#[115, 116, 56]⟩, .string ⟨#[]⟩, .string ⟨#[]⟩, .string ⟨#[98, 101, 113]⟩, .string ⟨#[98, 110, 101]⟩, .string ⟨#[98, 108, 116]⟩, .string ⟨#[98, 108, 116, 117]⟩, .string ⟨#[106, 109, 112]⟩, .string ⟨#[99, 97, 108, 108]⟩, .string ⟨#[106, 114]⟩, .string ⟨#[99, 97, 108, 108, 114]⟩, .string ⟨#[108, 101, 97]⟩, .string ⟨#[116, 108, 115]⟩, .string ⟨#[115, 121, 115]⟩, .string ⟨#[116, 114, 97, 112]⟩] : Array Value)[k]? = some (.string (wordI k)) := by
  have e : (#[.string ⟨#[]⟩, .string ⟨#[110, 111, 112]⟩, .string ⟨#[109, 111, 118]⟩, .string ⟨#[97, 100, 100]⟩, .string ⟨#[115, 117, 98]⟩, .string ⟨#[109, 117, 108]⟩, .string ⟨#[100, 105, 118]⟩, .string ⟨#[114, 101, 109]⟩, .string ⟨#[97, 110, 100]⟩, .string ⟨#[111, 114]⟩, .string ⟨#[120, 111, 114]⟩, .string ⟨#[115, 104, 108]⟩, .string ⟨#[115, 104, 114]⟩, .string ⟨#[115, 97, 114]⟩, .string ⟨#[115, 108, 116]⟩, .string ⟨#[115, 108, 116, 117]⟩, .string ⟨#[97, 100, 100, 105]⟩, .string ⟨#[109, 111, 118, 105]⟩, .string ⟨#[109, 111, 118, 104, 105]⟩, .string ⟨#[]⟩, .string ⟨#[108, 100, 49]⟩, .string ⟨#[108, 100, 50]⟩, .string ⟨#[108, 100, 52]⟩, .string ⟨#[108, 100, 56]⟩, .string ⟨#[115, 116, 49]⟩, .string ⟨#[115, 116, 50]⟩, .string ⟨#[115, 116, 52]⟩, .string ⟨#[115, 116, 56]⟩, .string ⟨#[]⟩, .string ⟨#[]⟩, .string ⟨#[98, 101, 113]⟩, .string ⟨#[98, 110, 101]⟩, .string ⟨#[98, 108, 116]⟩, .string ⟨#[98, 108, 116, 117]⟩, .string ⟨#[106, 109, 112]⟩, .string ⟨#[99, 97, 108, 108]⟩, .string ⟨#[106, 114]⟩, .string ⟨#[99, 97, 108, 108, 114]⟩, .string ⟨#[108, 101, 97]⟩, .string ⟨#[116, 108, 115]⟩, .string ⟨#[115, 121, 115]⟩, .string ⟨#[116, 114, 97, 112]⟩] : Array Value) = (wordL.map Value.string).toArray := by rfl
  have hl : wordL.length = 42 := rfl
  rw [e, List.getElem?_toArray, List.getElem?_map]
  unfold wordI
  rw [if_neg (by omega), Int.toNat_natCast, List.getD_eq_getElem?_getD, List.getElem?_eq_getElem (by omega)]
  rfl
theorem wordI_neg {op : Int} (h : op < 0) : wordI op = ⟨#[]⟩ := by unfold wordI; rw [if_pos h]
theorem wordI_far {op : Int} (h : 42 ≤ op) : wordI op = ⟨#[]⟩ := by
  have hl : wordL.length = 42 := rfl
  unfold wordI
  rw [if_neg (by omega), List.getD_eq_getElem?_getD, List.getElem?_eq_none (by omega)]
  rfl
set_option maxRecDepth 100000 in
set_option maxHeartbeats 1600000 in
theorem rword_any (op : Int) (w : World) (b0 : -9223372036854775808 ≤ op) (b1 : op ≤ 9223372036854775807) :
    Calls Tryd.prog 35 #[.int .i64 op] w fun r w' => r = .returned (.string (wordI op)) ∧ w' = w.alloc (.cells #[.string ⟨#[]⟩, .string ⟨#[110, 111, 112]⟩, .string ⟨#[109, 111, 118]⟩, .string ⟨#[97, 100, 100]⟩, .string ⟨#[115, 117, 98]⟩, .string ⟨#[109, 117, 108]⟩, .string ⟨#[100, 105, 118]⟩, .string ⟨#[114, 101, 109]⟩, .string ⟨#[97, 110, 100]⟩, .string ⟨#[111, 114]⟩, .string ⟨#[120, 111, 114]⟩, .string ⟨#[115, 104, 108]⟩, .string ⟨#[115, 104, 114]⟩, .string ⟨#[115, 97, 114]⟩, .string ⟨#[115, 108, 116]⟩, .string ⟨#[115, 108, 116, 117]⟩, .string ⟨#[97, 100, 100, 105]⟩, .string ⟨#[109, 111, 118, 105]⟩, .string ⟨#[109, 111, 118, 104, 105]⟩, .string ⟨#[]⟩, .string ⟨#[108, 100, 49]⟩, .string ⟨#[108, 100, 50]⟩, .string ⟨#[108, 100, 52]⟩, .string ⟨#[108, 100, 56]⟩, .string ⟨#[115, 116, 49]⟩, .string ⟨#[115, 116, 50]⟩, .string ⟨#[115, 116, 52]⟩, .string ⟨#[115, 116, 56]⟩, .string ⟨#[]⟩, .string ⟨#[]⟩, .string ⟨#[98, 101, 113]⟩, .string ⟨#[98, 110, 101]⟩, .string ⟨#[98, 108, 116]⟩, .string ⟨#[98, 108, 116, 117]⟩, .string ⟨#[106, 109, 112]⟩, .string ⟨#[99, 97, 108, 108]⟩, .string ⟨#[106, 114]⟩, .string ⟨#[99, 97, 108, 108, 114]⟩, .string ⟨#[108, 101, 97]⟩, .string ⟨#[116, 108, 115]⟩, .string ⟨#[115, 121, 115]⟩, .string ⟨#[116, 114, 97, 112]⟩] 9) := by
  by_cases h0 : op < 0
  · rw [wordI_neg h0]
    go_enter Tryd.func35, Tryd.ntmps35
    go_wp2
    go_ret
    exact ⟨rfl, rfl⟩
  · by_cases h1 : 42 ≤ op
    · rw [wordI_far h1]
      go_enter Tryd.func35, Tryd.ntmps35
      go_wp2
      go_ret
      exact ⟨rfl, rfl⟩
    · obtain ⟨k, rfl⟩ : ∃ k : Nat, op = (k : Int) := ⟨op.toNat, by omega⟩
      have hki : (k : Int) < 42 := by omega
      have hc := ((Blk.new w #[.string ⟨#[]⟩, .string ⟨#[110, 111, 112]⟩, .string ⟨#[109, 111, 118]⟩, .string ⟨#[97, 100, 100]⟩, .string ⟨#[115, 117, 98]⟩, .string ⟨#[109, 117, 108]⟩, .string ⟨#[100, 105, 118]⟩, .string ⟨#[114, 101, 109]⟩, .string ⟨#[97, 110, 100]⟩, .string ⟨#[111, 114]⟩, .string ⟨#[120, 111, 114]⟩, .string ⟨#[115, 104, 108]⟩, .string ⟨#[115, 104, 114]⟩, .string ⟨#[115, 97, 114]⟩, .string ⟨#[115, 108, 116]⟩, .string ⟨#[115, 108, 116, 117]⟩, .string ⟨#[97, 100, 100, 105]⟩, .string ⟨#[109, 111, 118, 105]⟩, .string ⟨#[109, 111, 118, 104, 105]⟩, .string ⟨#[]⟩, .string ⟨#[108, 100, 49]⟩, .string ⟨#[108, 100, 50]⟩, .string ⟨#[108, 100, 52]⟩, .string ⟨#[108, 100, 56]⟩, .string ⟨#[115, 116, 49]⟩, .string ⟨#[115, 116, 50]⟩, .string ⟨#[115, 116, 52]⟩, .string ⟨#[115, 116, 56]⟩, .string ⟨#[]⟩, .string ⟨#[]⟩, .string ⟨#[98, 101, 113]⟩, .string ⟨#[98, 110, 101]⟩, .string ⟨#[98, 108, 116]⟩, .string ⟨#[98, 108, 116, 117]⟩, .string ⟨#[106, 109, 112]⟩, .string ⟨#[99, 97, 108, 108]⟩, .string ⟨#[106, 114]⟩, .string ⟨#[99, 97, 108, 108, 114]⟩, .string ⟨#[108, 101, 97]⟩, .string ⟨#[116, 108, 115]⟩, .string ⟨#[115, 121, 115]⟩, .string ⟨#[116, 114, 97, 112]⟩] 9).cell k).trans (wordI_cells k (by omega))
      generalize wordI (k : Int) = s at hc ⊢
      go_enter Tryd.func35, Tryd.ntmps35
      go_wp2
      go_ret
      exact ⟨rfl, rfl⟩
theorem ret_i {k : IntKind} {a b : Int} (h : a = b) : Ending.returned (.int k a) = .returned (.int k b) := by rw [h]
set_option maxRecDepth 100000 in
set_option maxHeartbeats 3200000 in
theorem rhas_any (op : Int) (w : World) :
    Calls Tryd.prog 36 #[.int .i64 op] w fun r w' => r = .returned (.int .i64 (hasI op)) ∧ w = w' := by
  obtain ⟨b, hb⟩ : ∃ b, hasI op = b := ⟨_, rfl⟩
  rw [hb]
  have HB := Lib.hid hb
  clear hb
  go_enter Tryd.func36, Tryd.ntmps36
  go_wp2
  all_goals (try simp only [beq_eq_false_iff_ne, beq_iff_eq, bne_iff_ne, bne_eq_false_iff_eq, ne_eq] at *)
  all_goals go_ret
  all_goals refine ⟨ret_i ?_, rfl⟩
  all_goals rw [← HB.out]
  all_goals unfold hasI
  all_goals (repeat' split)
  all_goals omega
/-- An instruction as the reference has it. -/
def In.val (i : In) : Value := .agg #[.int .i64 i.op, .int .i64 i.a, .int .i64 i.b, .int .i64 i.c, .int .i64 i.imm]
structure In.Ok (i : In) : Prop where
  op : -9223372036854775808 ≤ i.op ∧ i.op ≤ 9223372036854775807
  a : -9223372036854775808 ≤ i.a ∧ i.a ≤ 9223372036854775807
  b : -9223372036854775808 ≤ i.b ∧ i.b ≤ 9223372036854775807
  c : -9223372036854775808 ≤ i.c ∧ i.c ≤ 9223372036854775807
  imm : -9223372036854775808 ≤ i.imm ∧ i.imm ≤ 9223372036854775807
theorem list_size (s : ByteArray) : s.toList.length = s.size := by
  have := Lib.strOfNums_toList (bs s)
  rw [strOfNums_bs] at this
  rw [this]
  unfold Lib.bytesOf bs
  rw [List.length_map, List.length_map, Array.length_toList]
  rfl
theorem list_empty {s : ByteArray} : s.toList.isEmpty = decide (s.size = 0) := by
  rw [← list_size]
  cases s.toList <;> simp
theorem rword_o (op : Int) (w : World) (b0 : -9223372036854775808 ≤ op) (b1 : op ≤ 9223372036854775807) :
    Calls Tryd.prog 35 #[.int .i64 op] w fun r w' => r = .returned (.string (wordI op)) ∧ ∃ o, w' = w.alloc o :=
  (rword_any op w b0 b1).mono fun r w' h => ⟨h.1, _, h.2⟩
/-- Is the field number k right? -/
def okK (i : In) (k : Nat) : Bool := match k with
  | 0 => okF (hasI i.op) i.a
  | 1 => okF (hasI i.op / 2) i.b
  | 2 => okF (hasI i.op / 2 / 2) i.c
  | _ => okImm (hasI i.op / 2 / 2 / 2) i.imm
theorem mayI_no {i : In} {k : Nat} (hk : k < 4) (h : okK i k = false) : mayI i = false := by
  unfold mayI
  obtain rfl | rfl | rfl | rfl : k = 0 ∨ k = 1 ∨ k = 2 ∨ k = 3 := by omega
  all_goals simp only [okK] at h
  all_goals simp [h]
theorem mayI_word {i : In} (h : (wordI i.op).size = 0) : mayI i = false := by unfold mayI; simp [h]
theorem mayI_all {i : In} (h0 : (wordI i.op).size ≠ 0) (h : ∀ k, k < 4 → okK i k = true) : mayI i = decide (-2147483648 ≤ i.imm ∧ i.imm ≤ 2147483647) := by
  have e0 := h 0 (by decide)
  have e1 := h 1 (by decide)
  have e2 := h 2 (by decide)
  have e3 := h 3 (by decide)
  simp only [okK] at e0 e1 e2 e3
  unfold mayI
  simp [e0, e1, e2, e3, h0]
theorem upto_yes {P : Nat → Bool} {k : Nat} (h : ∀ j, j < k → P j = true) (hk : P k = true) : ∀ j, j < k + 1 → P j = true := by
  intro j hj
  by_cases e : j = k
  · subst e; exact hk
  · exact h j (by omega)
/-- Which fields are left, behind the first k. -/
def hasK (h : Int) (k : Nat) : Int := match k with
  | 0 => h
  | 1 => h / 2
  | 2 => h / 2 / 2
  | 3 => h / 2 / 2 / 2
  | _ => h / 2 / 2 / 2 / 2
set_option maxRecDepth 100000 in
set_option maxHeartbeats 3200000 in
theorem rmay_any (i : In) (w : World) (h : i.Ok) :
    Calls Tryd.prog 27 #[i.val] w fun r w' => r = .returned (.bool (mayI i)) ∧ Below w.heap.size w w' := by
  obtain ⟨r, hr⟩ : ∃ r, mayI i = r := ⟨_, rfl⟩
  rw [hr]
  have HN := Lib.hid (fun k (hk : k < 4) (h : okK i k = false) => hr.symm.trans (mayI_no hk h))
  have HW0 := Lib.hid (fun (h : (wordI i.op).size = 0) => hr.symm.trans (mayI_word h))
  have HY := Lib.hid (fun (h0 : (wordI i.op).size ≠ 0) (h : ∀ k, k < 4 → okK i k = true) => hr.symm.trans (mayI_all h0 h))
  clear hr
  obtain ⟨⟨p0, p1⟩, ⟨a0, a1⟩, ⟨b0, b1⟩, ⟨c0, c1⟩, ⟨m0, m1⟩⟩ := h
  obtain ⟨op, hop⟩ : ∃ x, i.op = x := ⟨_, rfl⟩
  obtain ⟨a, ha⟩ : ∃ x, i.a = x := ⟨_, rfl⟩
  obtain ⟨b, hb⟩ : ∃ x, i.b = x := ⟨_, rfl⟩
  obtain ⟨c, hc⟩ : ∃ x, i.c = x := ⟨_, rfl⟩
  obtain ⟨imm, hm⟩ : ∃ x, i.imm = x := ⟨_, rfl⟩
  have HK0 : Hid (okK i 0 = okF (hasI op) a) := Lib.hid (by rw [← hop, ← ha]; rfl)
  have HK1 : Hid (okK i 1 = okF (hasI op / 2) b) := Lib.hid (by rw [← hop, ← hb]; rfl)
  have HK2 : Hid (okK i 2 = okF (hasI op / 2 / 2) c) := Lib.hid (by rw [← hop, ← hc]; rfl)
  have HK3 : Hid (okK i 3 = okImm (hasI op / 2 / 2 / 2) imm) := Lib.hid (by rw [← hop, ← hm]; rfl)
  rw [hop] at p0 p1 HW0 HY
  rw [hm] at HY m0 m1
  rw [ha] at a0 a1
  rw [hb] at b0 b1
  rw [hc] at c0 c1
  have HW := Lib.hid (fun w1 => rword_o op w1 p0 p1)
  have HH := Lib.hid (fun w1 => rhas_any op w1)
  have hh := hasI_bd op
  have hle := list_empty (s := wordI op)
  unfold In.val
  rw [hop, ha, hb, hc, hm]
  clear hop ha hb hc hm
  by_cases hw0 : (wordI op).size = 0
  · rw [hw0] at hle
    simp only [decide_true] at hle
    obtain rfl := HW0.out hw0
    have HBE : Hid (∀ o o', Below w.heap.size w ((w.alloc o).alloc o')) := Lib.hid (fun o o' => ((Below.refl _ _).alloc (Nat.le_refl _) o).alloc (by simp) o')
    clear HN HY HW0
    go_enter Tryd.func27, Tryd.ntmps27
    go_wp2_with fail
    refine (HW.out _).mono ?_
    rintro r1 w1 ⟨rfl, o, rfl⟩
    go_wp2
    go_ret
    exact ⟨rfl, HBE.out _ _⟩
  · rw [decide_eq_false hw0] at hle
    have HY2 := Lib.hid (HY.out hw0)
    have HBE : Hid (∀ o o' o'', Below w.heap.size w (((w.alloc o).alloc o').alloc o'')) := Lib.hid (fun o o' o'' => (((Below.refl _ _).alloc (Nat.le_refl _) o).alloc (by simp) o').alloc (by simp; omega) o'')
    clear HW0 HY hw0
    go_enter Tryd.func27, Tryd.ntmps27
    go_wp2_with fail
    refine (HW.out _).mono ?_
    rintro r1 w1 ⟨rfl, o, rfl⟩
    go_wp2_with fail
    refine (HH.out _).mono ?_
    rintro r1 w1 ⟨rfl, rfl⟩
    go_wp2
    go_loop [4, 5] (fun hv y => ∃ k : Nat, k ≤ 4 ∧ y = .int .i64 k ∧ hv = .int .i64 (hasK (hasI op) k) ∧ ∀ j, j < k → okK i j = true) (fun _ y => 4 - (intOf y).toNat)
    case atStart => exact ⟨0, by decide, rfl, rfl, fun j hj => absurd hj (by omega)⟩
    case round =>
      obtain ⟨k, hk, rfl, rfl, hall⟩ := hrel
      obtain rfl | rfl | rfl | rfl | rfl : k = 0 ∨ k = 1 ∨ k = 2 ∨ k = 3 ∨ k = 4 := by omega
      · have HNK : Hid (¬ ((hasI op % 2 = 0 → a = 0) ∧ 0 ≤ a ∧ a ≤ 31) → r = false) := Lib.hid (fun h => HN.out 0 (by decide) (by rw [HK0.out]; unfold okF; rw [decide_eq_false_iff_not]; exact h))
        have HYK : Hid (((hasI op % 2 = 0 → a = 0) ∧ 0 ≤ a ∧ a ≤ 31) → ∀ j, j < 0 + 1 → okK i j = true) := Lib.hid (fun h => upto_yes (P := fun j => okK i j) hall (by rw [HK0.out]; unfold okF; rw [decide_eq_true_eq]; exact h))
        clear hall
        simp only [hasK]
        have g0 : 0 ≤ hasI op := by omega
        have g1 : hasI op ≤ 11 := by omega
        generalize hasI op = hx at HNK HYK g0 g1 ⊢
        go_wp2
        all_goals first
          | (go_ret; exact ⟨ret_b (HNK.out (by omega)).symm, HBE.out _ _ _⟩)
          | exact ⟨⟨_, _, _, ⟨0 + 1, by decide, by rfl, rfl, HYK.out (by omega)⟩, rfl, rfl, rfl⟩, by decide⟩
          | exact ⟨⟨0 + 1, by decide, by rfl, rfl, HYK.out (by omega)⟩, by decide⟩
      · have HNK : Hid (¬ ((hasI op / 2 % 2 = 0 → b = 0) ∧ 0 ≤ b ∧ b ≤ 31) → r = false) := Lib.hid (fun h => HN.out 1 (by decide) (by rw [HK1.out]; unfold okF; rw [decide_eq_false_iff_not]; exact h))
        have HYK : Hid (((hasI op / 2 % 2 = 0 → b = 0) ∧ 0 ≤ b ∧ b ≤ 31) → ∀ j, j < 1 + 1 → okK i j = true) := Lib.hid (fun h => upto_yes (P := fun j => okK i j) hall (by rw [HK1.out]; unfold okF; rw [decide_eq_true_eq]; exact h))
        clear hall
        simp only [hasK]
        have g0 : 0 ≤ hasI op / 2 := by omega
        have g1 : hasI op / 2 ≤ 11 := by omega
        generalize hasI op / 2 = hx at HNK HYK g0 g1 ⊢
        go_wp2
        all_goals first
          | (go_ret; exact ⟨ret_b (HNK.out (by omega)).symm, HBE.out _ _ _⟩)
          | exact ⟨⟨_, _, _, ⟨1 + 1, by decide, by rfl, rfl, HYK.out (by omega)⟩, rfl, rfl, rfl⟩, by decide⟩
          | exact ⟨⟨1 + 1, by decide, by rfl, rfl, HYK.out (by omega)⟩, by decide⟩
      · have HNK : Hid (¬ ((hasI op / 2 / 2 % 2 = 0 → c = 0) ∧ 0 ≤ c ∧ c ≤ 31) → r = false) := Lib.hid (fun h => HN.out 2 (by decide) (by rw [HK2.out]; unfold okF; rw [decide_eq_false_iff_not]; exact h))
        have HYK : Hid (((hasI op / 2 / 2 % 2 = 0 → c = 0) ∧ 0 ≤ c ∧ c ≤ 31) → ∀ j, j < 2 + 1 → okK i j = true) := Lib.hid (fun h => upto_yes (P := fun j => okK i j) hall (by rw [HK2.out]; unfold okF; rw [decide_eq_true_eq]; exact h))
        clear hall
        simp only [hasK]
        have g0 : 0 ≤ hasI op / 2 / 2 := by omega
        have g1 : hasI op / 2 / 2 ≤ 11 := by omega
        generalize hasI op / 2 / 2 = hx at HNK HYK g0 g1 ⊢
        go_wp2
        all_goals first
          | (go_ret; exact ⟨ret_b (HNK.out (by omega)).symm, HBE.out _ _ _⟩)
          | exact ⟨⟨_, _, _, ⟨2 + 1, by decide, by rfl, rfl, HYK.out (by omega)⟩, rfl, rfl, rfl⟩, by decide⟩
          | exact ⟨⟨2 + 1, by decide, by rfl, rfl, HYK.out (by omega)⟩, by decide⟩
      · have HNK : Hid (¬ (hasI op / 2 / 2 / 2 % 2 = 0 → imm = 0) → r = false) := Lib.hid (fun h => HN.out 3 (by decide) (by rw [HK3.out]; unfold okImm; rw [decide_eq_false_iff_not]; exact h))
        have HYK : Hid ((hasI op / 2 / 2 / 2 % 2 = 0 → imm = 0) → ∀ j, j < 3 + 1 → okK i j = true) := Lib.hid (fun h => upto_yes (P := fun j => okK i j) hall (by rw [HK3.out]; unfold okImm; rw [decide_eq_true_eq]; exact h))
        clear hall
        simp only [hasK]
        have g0 : 0 ≤ hasI op / 2 / 2 / 2 := by omega
        have g1 : hasI op / 2 / 2 / 2 ≤ 11 := by omega
        generalize hasI op / 2 / 2 / 2 = hx at HNK HYK g0 g1 ⊢
        go_wp2
        all_goals first
          | (go_ret; exact ⟨ret_b (HNK.out (by omega)).symm, HBE.out _ _ _⟩)
          | exact ⟨⟨_, _, _, ⟨3 + 1, by decide, by rfl, rfl, HYK.out (by omega)⟩, rfl, rfl, rfl⟩, by decide⟩
          | exact ⟨⟨3 + 1, by decide, by rfl, rfl, HYK.out (by omega)⟩, by decide⟩
      · have HF := Lib.hid (HY2.out hall)
        simp only [hasK]
        clear hall HY2 HN
        go_wp2
        all_goals go_ret
        all_goals refine ⟨ret_b ?_, HBE.out _ _ _⟩
        all_goals rw [HF.out]
        all_goals first
          | (rw [decide_eq_decide]; omega)
          | (symm; rw [decide_eq_false_iff_not]; omega)
          | (symm; rw [decide_eq_true_eq]; omega)
end Go.Proofs.YtkhfmgifpppcmaaDoor
