/-
  What is proved here: the reference of isa: Number, Text.
  Conditions: none but that the arguments are values of their types; numbers within 2^62.
-/
import Derived.Test.YtjpbbonkmnbabaaDoorIsaEnc
namespace Go.Proofs.YtjpbbonkmnbabaaDoor
open Go.RowKit
set_option linter.unusedVariables false
set_option linter.unusedSimpArgs false

theorem numB_small {n : Nat} (h : n < 10) : numB n = digB n := by rw [numB, dif_pos h]
theorem numB_great {n : Nat} (h : ¬ n < 10) : numB n = numB (n / 10) ++ digB (n % 10) := by rw [numB, dif_neg h]
theorem digB_size (n : Nat) : (digB n).size = 1 := rfl
theorem numB_size (n : Nat) : (numB n).size ≤ n + 1 := by
  induction n using Nat.strongRecOn with
  | ind n ih =>
    by_cases h : n < 10
    · rw [numB_small h, digB_size]; omega
    · rw [numB_great h, ByteArray.size_append, digB_size]
      have := ih (n / 10) (by omega)
      omega
theorem numberI_size (n : Int) : (numberI n).size ≤ n.natAbs + 2 := by
  unfold numberI
  split
  · rw [ByteArray.size_append]
    have h1 := numB_size (-n).toNat
    have h2 : ByteArray.size ⟨#[45]⟩ = 1 := rfl
    omega
  · have h1 := numB_size n.toNat
    omega
theorem wordI_size (op : Int) : (wordI op).size ≤ 5 := by
  have hb : ∀ x ∈ wordL, x.size ≤ 5 := by decide
  unfold wordI
  split
  · decide
  · rw [List.getD_eq_getElem?_getD]
    by_cases h : op.toNat < wordL.length
    · rw [List.getElem?_eq_getElem h]; exact hb _ (List.getElem_mem h)
    · rw [List.getElem?_eq_none (by omega)]; decide
theorem addF_size (s : ByteArray) (h v : Int) : (addF s h v).size ≤ s.size + (v.natAbs + 3) := by
  unfold addF
  split
  · rw [ByteArray.size_append, ByteArray.size_append]
    have h1 := numberI_size v
    have h2 : ByteArray.size ⟨#[32]⟩ = 1 := rfl
    omega
  · omega
theorem digits_at (n : Nat) (h : n < 10) : ByteArray.extract ⟨#[48, 49, 50, 51, 52, 53, 54, 55, 56, 57]⟩ n (n + 1) = digB n := by
  have : ∀ n : Fin 10, (ByteArray.extract ⟨#[48, 49, 50, 51, 52, 53, 54, 55, 56, 57]⟩ n.val (n.val + 1)).data.toList = (digB n.val).data.toList := by decide
  have h2 := this ⟨n, h⟩
  exact ByteArray.ext (Array.ext' h2)
set_option maxRecDepth 100000 in
set_option maxHeartbeats 1600000 in
theorem rnum_nat (n : Nat) : ∀ (w : World), n ≤ 4611686018427387904 →
    Calls Tryd.prog 29 #[.int .i64 n] w fun r w' => r = .returned (.string (numB n)) ∧ w = w' := by
  induction n using Nat.strongRecOn with
  | ind n ih =>
    intro w hn
    have hni : (n : Int) ≤ 4611686018427387904 := by omega
    by_cases h : n < 10
    · have hi : (n : Int) < 10 := by omega
      rw [numB_small h, ← digits_at n h]
      clear ih
      go_enter Tryd.func29, Tryd.ntmps29
      go_wp2
      go_ret
      exact ⟨rfl, rfl⟩
    · have hi : ¬ (n : Int) < 10 := by omega
      have h1 := ih (n / 10) (by omega) w (by omega)
      have h2 := ih (n % 10) (by omega) w (by omega)
      rw [show ((n / 10 : Nat) : Int) = (n : Int) / 10 by omega] at h1
      rw [show ((n % 10 : Nat) : Int) = (n : Int) % 10 by omega, numB_small (show n % 10 < 10 by omega)] at h2
      have H1 := Lib.hid h1
      have H2 := Lib.hid h2
      rw [numB_great h]
      have z1 := numB_size (n / 10)
      have z2 := digB_size (n % 10)
      generalize numB (n / 10) = S1 at H1 z1 ⊢
      generalize digB (n % 10) = S2 at H2 z2 ⊢
      have y1 : (S1.size : Int) ≤ 4611686018427387905 := by omega
      have y2 : (S2.size : Int) ≤ 1 := by omega
      clear ih h1 h2 z1 z2
      go_enter Tryd.func29, Tryd.ntmps29
      go_wp2_with fail
      refine H1.out.mono ?_
      rintro r w1 ⟨rfl, rfl⟩
      go_wp2_with fail
      refine H2.out.mono ?_
      rintro r w1 ⟨rfl, rfl⟩
      go_wp2
      go_ret
      exact ⟨rfl, rfl⟩
theorem numberI_nat (n : Nat) : numberI (n : Int) = numB n := by unfold numberI; rw [if_neg (by omega), Int.toNat_natCast]
set_option maxRecDepth 100000 in
set_option maxHeartbeats 1600000 in
theorem rnum_any (n : Int) (w : World) (h0 : -4611686018427387904 ≤ n) (h1 : n ≤ 4611686018427387904) :
    Calls Tryd.prog 29 #[.int .i64 n] w fun r w' => r = .returned (.string (numberI n)) ∧ w = w' := by
  by_cases h : n < 0
  · have hm := rnum_nat (-n).toNat w (by omega)
    rw [show (((-n).toNat : Nat) : Int) = -n by omega] at hm
    have HM := Lib.hid hm
    have hN : numberI n = ⟨#[45]⟩ ++ numB (-n).toNat := by unfold numberI; rw [if_pos h]
    rw [hN]
    have z1 := numB_size (-n).toNat
    generalize numB (-n).toNat = S at HM z1 ⊢
    have y1 : (S.size : Int) ≤ 4611686018427387905 := by omega
    clear z1
    clear hm hN
    go_enter Tryd.func29, Tryd.ntmps29
    go_wp2_with fail
    refine HM.out.mono ?_
    rintro r w1 ⟨rfl, rfl⟩
    go_wp2
    go_ret
    exact ⟨rfl, rfl⟩
  · obtain ⟨m, rfl⟩ : ∃ m : Nat, n = (m : Int) := ⟨n.toNat, by omega⟩
    rw [numberI_nat]
    exact rnum_nat m w (by omega)
/-- A text behind the first k fields. -/
def textK (s : ByteArray) (h a b c m : Int) : Nat → ByteArray
  | 0 => s
  | 1 => addF s h a
  | 2 => addF (addF s h a) (h / 2) b
  | 3 => addF (addF (addF s h a) (h / 2) b) (h / 2 / 2) c
  | _ => addF (addF (addF (addF s h a) (h / 2) b) (h / 2 / 2) c) (h / 2 / 2 / 2) m
theorem textK_size (s : ByteArray) (h a b c m : Int) (k : Nat) : (textK s h a b c m k).size ≤ s.size + (a.natAbs + 3) + (b.natAbs + 3) + (c.natAbs + 3) + (m.natAbs + 3) := by
  have h1 := addF_size s h a
  have h2 := addF_size (addF s h a) (h / 2) b
  have h3 := addF_size (addF (addF s h a) (h / 2) b) (h / 2 / 2) c
  have h4 := addF_size (addF (addF (addF s h a) (h / 2) b) (h / 2 / 2) c) (h / 2 / 2 / 2) m
  match k with
  | 0 => simp only [textK]; omega
  | 1 => simp only [textK]; omega
  | 2 => simp only [textK]; omega
  | 3 => simp only [textK]; omega
  | k + 4 => simp only [textK]; omega
theorem addF_yes {s : ByteArray} {h v : Int} (e : h % 2 = 1) : addF s h v = s ++ (⟨#[32]⟩ ++ numberI v) := by unfold addF; rw [if_pos e]
theorem addF_no {s : ByteArray} {h v : Int} (e : ¬ h % 2 = 1) : addF s h v = s := by unfold addF; rw [if_neg e]
theorem textI_no {i : In} (h : mayI i = false) : textI i = (⟨#[]⟩, 42) := by unfold textI; rw [h]; rfl
theorem textI_yes {i : In} (h : mayI i = true) : textI i = (textK (wordI i.op) (hasI i.op) i.a i.b i.c i.imm 4, 0) := by unfold textI; rw [h]; rfl
set_option maxRecDepth 100000 in
set_option maxHeartbeats 3200000 in
theorem rtext_any (i : In) (w : World) (h : i.Ok) :
    Calls Tryd.prog 15 #[i.val] w fun r w' => r = .returned (.tuple #[.string (textI i).1, .int .i64 (textI i).2]) ∧ Below w.heap.size w w' := by
  have hb := @mayI_bd i
  have hno := @textI_no i
  have hyes := @textI_yes i
  have hval : i.val = .agg #[.int .i64 i.op, .int .i64 i.a, .int .i64 i.b, .int .i64 i.c, .int .i64 i.imm] := rfl
  have HMY := Lib.hid (fun w1 => rmay_any i w1 h)
  rw [hval] at HMY ⊢
  obtain ⟨E, hE⟩ : ∃ E, textI i = E := ⟨_, rfl⟩
  rw [hE] at hno hyes ⊢
  obtain ⟨op, hop⟩ : ∃ x, i.op = x := ⟨_, rfl⟩
  obtain ⟨a, ha⟩ : ∃ x, i.a = x := ⟨_, rfl⟩
  obtain ⟨b, hbb⟩ : ∃ x, i.b = x := ⟨_, rfl⟩
  obtain ⟨c, hc⟩ : ∃ x, i.c = x := ⟨_, rfl⟩
  obtain ⟨imm, hm⟩ : ∃ x, i.imm = x := ⟨_, rfl⟩
  rw [hop, ha, hbb, hc, hm] at hb HMY hyes ⊢
  obtain ⟨m, hme⟩ : ∃ m, mayI i = m := ⟨_, rfl⟩
  rw [hme] at hb hno hyes HMY
  have HBE := Lib.hid (fun o => (Below.refl w.heap.size w).alloc (Nat.le_refl _) o)
  clear hE hop ha hbb hc hm hme hval h
  cases m with
  | false =>
    obtain rfl := hno rfl
    clear hb hno hyes
    go_enter Tryd.func15, Tryd.ntmps15
    go_wp2_with fail
    refine (HMY.out _).mono ?_
    rintro r w1 ⟨rfl, hb1⟩
    have HB := Lib.hid ((HBE.out _).trans (hb1.mono (HBE.out _).size))
    clear hb1
    go_wp2
    go_ret2
    exact ⟨rfl, HB.out⟩
  | true =>
    obtain ⟨⟨p0, p1⟩, ⟨a0, a1⟩, ⟨b0, b1⟩, ⟨c0, c1⟩, m0, m1⟩ := hb rfl
    obtain rfl := hyes rfl
    have HW := Lib.hid (fun w1 => rword_o op w1 (by omega) (by omega))
    have HH := Lib.hid (fun w1 => rhas_any op w1)
    have hh := hasI_bd op
    clear hb hno hyes
    have HTS := Lib.hid (fun k => textK_size (wordI op) (hasI op) a b c imm k)
    have hws := wordI_size op
    have HA1 := Lib.hid (fun k => @addF_yes (textK (wordI op) (hasI op) a b c imm k))
    have HA2 := Lib.hid (fun k => @addF_no (textK (wordI op) (hasI op) a b c imm k))
    obtain ⟨TK, hTK⟩ : ∃ TK : Nat → ByteArray, textK (wordI op) (hasI op) a b c imm = TK := ⟨_, rfl⟩
    have HT0 : Hid (wordI op = TK 0) := Lib.hid (hTK ▸ rfl)
    have HS0 : Hid (TK 1 = addF (TK 0) (hasI op) a) := Lib.hid (hTK ▸ rfl)
    have HS1 : Hid (TK 2 = addF (TK 1) (hasI op / 2) b) := Lib.hid (hTK ▸ rfl)
    have HS2 : Hid (TK 3 = addF (TK 2) (hasI op / 2 / 2) c) := Lib.hid (hTK ▸ rfl)
    have HS3 : Hid (TK 4 = addF (TK 3) (hasI op / 2 / 2 / 2) imm) := Lib.hid (hTK ▸ rfl)
    rw [hTK] at HTS HA1 HA2 ⊢
    clear hTK
    go_enter Tryd.func15, Tryd.ntmps15
    go_wp2_with fail
    refine (HMY.out _).mono ?_
    rintro r w1 ⟨rfl, hb1⟩
    have HB := Lib.hid ((HBE.out _).trans (hb1.mono (HBE.out _).size))
    obtain ⟨q0, q1, q2, q3, q4⟩ := five_cells hb1
    have hl1 : w.heap.size < w1.heap.size := by have := hb1.size; simp at this; omega
    clear hb1 HMY HBE
    go_wp2_with fail
    refine (HW.out _).mono ?_
    rintro r w2 ⟨rfl, o, rfl⟩
    go_wp2_with fail
    refine (HH.out _).mono ?_
    rintro r w3 ⟨rfl, rfl⟩
    have HB3 := Lib.hid (fun o' => ((HB.out.alloc HB.out.size o).alloc (HB.out.alloc HB.out.size o).size o'))
    clear HW HH HB
    go_wp2
    go_loop [5, 7, 8] (fun sv hv y => ∃ k : Nat, k ≤ 4 ∧ y = .int .i64 k ∧ hv = .int .i64 (hasK (hasI op) k) ∧ sv = .string (TK k)) (fun _ _ y => 4 - (intOf y).toNat)
    case atStart => exact ⟨0, by decide, rfl, rfl, by rw [HT0.out]⟩
    case round =>
      obtain ⟨k, hk, rfl, rfl, rfl⟩ := hrel
      obtain rfl | rfl | rfl | rfl | rfl : k = 0 ∨ k = 1 ∨ k = 2 ∨ k = 3 ∨ k = 4 := by omega
      · simp only [hasK]
        have g0 : 0 ≤ hasI op := by omega
        have g1 : hasI op ≤ 11 := by omega
        have z1 := HTS.out 0
        have z2 := numberI_size a
        have HNU := Lib.hid (fun w1 => rnum_any a w1 (by omega) (by omega))
        by_cases hbit : hasI op % 2 = 1
        · have ht := HS0.out
          rw [addF_yes hbit] at ht
          have HT := Lib.hid ht
          generalize hasI op = hx at g0 g1 hbit ⊢
          generalize numberI a = NU at HT HNU z2
          have y1 : (NU.size : Int) ≤ 2147483660 := by omega
          have y2 : ((TK 0).size : Int) ≤ 8589934592 := by omega
          have y3 : (((⟨#[32]⟩ : ByteArray) ++ NU).size : Int) ≤ 2147483661 := by
            rw [ByteArray.size_append]
            have h2 : ByteArray.size ⟨#[32]⟩ = 1 := rfl
            omega
          clear ht z1 z2
          go_wp2_with fail
          refine (HNU.out _).mono ?_
          rintro r w8 ⟨rfl, rfl⟩
          go_wp2
          go_round
          case rel => exact ⟨0 + 1, by decide, by rfl, rfl, by rw [HT.out]⟩
          case measure => decide
        · have ht := HS0.out
          rw [addF_no hbit] at ht
          have HT := Lib.hid ht
          generalize hasI op = hx at g0 g1 hbit ⊢
          clear ht z1 z2
          go_wp2
          go_round
          case rel => exact ⟨0 + 1, by decide, by rfl, rfl, by rw [HT.out]⟩
          case measure => decide
      · simp only [hasK]
        have g0 : 0 ≤ hasI op / 2 := by omega
        have g1 : hasI op / 2 ≤ 11 := by omega
        have z1 := HTS.out 1
        have z2 := numberI_size b
        have HNU := Lib.hid (fun w1 => rnum_any b w1 (by omega) (by omega))
        by_cases hbit : hasI op / 2 % 2 = 1
        · have ht := HS1.out
          rw [addF_yes hbit] at ht
          have HT := Lib.hid ht
          generalize hasI op / 2 = hx at g0 g1 hbit ⊢
          generalize numberI b = NU at HT HNU z2
          have y1 : (NU.size : Int) ≤ 2147483660 := by omega
          have y2 : ((TK 1).size : Int) ≤ 8589934592 := by omega
          have y3 : (((⟨#[32]⟩ : ByteArray) ++ NU).size : Int) ≤ 2147483661 := by
            rw [ByteArray.size_append]
            have h2 : ByteArray.size ⟨#[32]⟩ = 1 := rfl
            omega
          clear ht z1 z2
          go_wp2_with fail
          refine (HNU.out _).mono ?_
          rintro r w8 ⟨rfl, rfl⟩
          go_wp2
          go_round
          case rel => exact ⟨1 + 1, by decide, by rfl, rfl, by rw [HT.out]⟩
          case measure => decide
        · have ht := HS1.out
          rw [addF_no hbit] at ht
          have HT := Lib.hid ht
          generalize hasI op / 2 = hx at g0 g1 hbit ⊢
          clear ht z1 z2
          go_wp2
          go_round
          case rel => exact ⟨1 + 1, by decide, by rfl, rfl, by rw [HT.out]⟩
          case measure => decide
      · simp only [hasK]
        have g0 : 0 ≤ hasI op / 2 / 2 := by omega
        have g1 : hasI op / 2 / 2 ≤ 11 := by omega
        have z1 := HTS.out 2
        have z2 := numberI_size c
        have HNU := Lib.hid (fun w1 => rnum_any c w1 (by omega) (by omega))
        by_cases hbit : hasI op / 2 / 2 % 2 = 1
        · have ht := HS2.out
          rw [addF_yes hbit] at ht
          have HT := Lib.hid ht
          generalize hasI op / 2 / 2 = hx at g0 g1 hbit ⊢
          generalize numberI c = NU at HT HNU z2
          have y1 : (NU.size : Int) ≤ 2147483660 := by omega
          have y2 : ((TK 2).size : Int) ≤ 8589934592 := by omega
          have y3 : (((⟨#[32]⟩ : ByteArray) ++ NU).size : Int) ≤ 2147483661 := by
            rw [ByteArray.size_append]
            have h2 : ByteArray.size ⟨#[32]⟩ = 1 := rfl
            omega
          clear ht z1 z2
          go_wp2_with fail
          refine (HNU.out _).mono ?_
          rintro r w8 ⟨rfl, rfl⟩
          go_wp2
          go_round
          case rel => exact ⟨2 + 1, by decide, by rfl, rfl, by rw [HT.out]⟩
          case measure => decide
        · have ht := HS2.out
          rw [addF_no hbit] at ht
          have HT := Lib.hid ht
          generalize hasI op / 2 / 2 = hx at g0 g1 hbit ⊢
          clear ht z1 z2
          go_wp2
          go_round
          case rel => exact ⟨2 + 1, by decide, by rfl, rfl, by rw [HT.out]⟩
          case measure => decide
      · simp only [hasK]
        have g0 : 0 ≤ hasI op / 2 / 2 / 2 := by omega
        have g1 : hasI op / 2 / 2 / 2 ≤ 11 := by omega
        have z1 := HTS.out 3
        have z2 := numberI_size imm
        have HNU := Lib.hid (fun w1 => rnum_any imm w1 (by omega) (by omega))
        by_cases hbit : hasI op / 2 / 2 / 2 % 2 = 1
        · have ht := HS3.out
          rw [addF_yes hbit] at ht
          have HT := Lib.hid ht
          generalize hasI op / 2 / 2 / 2 = hx at g0 g1 hbit ⊢
          generalize numberI imm = NU at HT HNU z2
          have y1 : (NU.size : Int) ≤ 2147483660 := by omega
          have y2 : ((TK 3).size : Int) ≤ 8589934592 := by omega
          have y3 : (((⟨#[32]⟩ : ByteArray) ++ NU).size : Int) ≤ 2147483661 := by
            rw [ByteArray.size_append]
            have h2 : ByteArray.size ⟨#[32]⟩ = 1 := rfl
            omega
          clear ht z1 z2
          go_wp2_with fail
          refine (HNU.out _).mono ?_
          rintro r w8 ⟨rfl, rfl⟩
          go_wp2
          go_round
          case rel => exact ⟨3 + 1, by decide, by rfl, rfl, by rw [HT.out]⟩
          case measure => decide
        · have ht := HS3.out
          rw [addF_no hbit] at ht
          have HT := Lib.hid ht
          generalize hasI op / 2 / 2 / 2 = hx at g0 g1 hbit ⊢
          clear ht z1 z2
          go_wp2
          go_round
          case rel => exact ⟨3 + 1, by decide, by rfl, rfl, by rw [HT.out]⟩
          case measure => decide
      · simp only [hasK]
        go_wp2
        go_ret2
        exact ⟨rfl, HB3.out _⟩
end Go.Proofs.YtjpbbonkmnbabaaDoor
