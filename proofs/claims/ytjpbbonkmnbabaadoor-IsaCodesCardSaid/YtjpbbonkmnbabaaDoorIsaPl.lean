/-
  What is proved here: plain words: the number of a text as the code reads it (numP), against the model's (readI, numberI); how the code's way through a text's parts comes to what the model says (parseI); the operation of a word.
  Conditions: none; nothing here speaks of the program.
-/
import Derived.Test.YtjpbbonkmnbabaaDoorIsaOps
namespace Go.Proofs.YtjpbbonkmnbabaaDoor
open Go.RowKit
set_option linter.unusedVariables false
set_option linter.unusedSimpArgs false

/-! ### numbers -/
def thenP : Lib.NumEnd Nat → (Nat → Lib.NumEnd Nat) → Lib.NumEnd Nat
  | .ok v, f => f v
  | e, _ => e
theorem parse_snoc (c : UInt8) : ∀ (l : List UInt8) (acc : Nat), Lib.parseUint10 acc (l ++ [c]) = thenP (Lib.parseUint10 acc l) fun v => Lib.parseUint10 v [c]
  | [], acc => rfl
  | b :: r, acc => by
    have e1 := fun l : List UInt8 => show Lib.parseUint10 acc (b :: l) = _ by rw [Lib.parseUint10]
    rw [List.cons_append, e1, e1]
    split
    · split
      · rfl
      · split
        · rfl
        · exact parse_snoc c r _
    · rfl
theorem dig_nat {d : Nat} (h : d < 10) : (UInt8.ofNat (48 + d)).toNat = 48 + d := by
  rw [UInt8.toNat_ofNat']; omega
theorem parse_dec (u : Nat) : u < 18446744073709551616 → Lib.parseUint10 0 (Lib.decDigits u) = .ok u := by
  induction u using Nat.strongRecOn with
  | ind u ih =>
    intro hu
    by_cases h : u < 10
    · rw [Lib.decDigits, dif_pos h]
      unfold Lib.parseUint10
      rw [dig_nat h, if_pos (by omega), if_neg (by omega), if_neg (by omega)]
      unfold Lib.parseUint10
      congr 1; omega
    · rw [Lib.decDigits, dif_neg h, parse_snoc, ih (u / 10) (by omega) (by omega)]
      simp only [thenP]
      unfold Lib.parseUint10
      rw [dig_nat (by omega), if_pos (by omega), if_neg (by omega), if_neg (by omega)]
      unfold Lib.parseUint10
      congr 1; omega
theorem dec_first (u : Nat) : ∃ c r, Lib.decDigits u = c :: r ∧ 48 ≤ c.toNat ∧ c.toNat ≤ 57 := by
  induction u using Nat.strongRecOn with
  | ind u ih =>
    by_cases h : u < 10
    · rw [Lib.decDigits, dif_pos h]
      exact ⟨_, _, rfl, by rw [dig_nat h]; omega, by rw [dig_nat h]; omega⟩
    · obtain ⟨c, r, e, h0, h1⟩ := ih (u / 10) (by omega)
      rw [Lib.decDigits, dif_neg h, e]
      exact ⟨c, _, rfl, h0, h1⟩
theorem parse_itoa {x : Int} (h0 : -9223372036854775808 ≤ x) (h1 : x ≤ 9223372036854775807) : Lib.parseIntB 64 (Lib.itoa x) = .ok x := by
  have hpow : (2 : Nat) ^ (64 - 1) = 9223372036854775808 := by decide
  unfold Lib.itoa
  by_cases hx : x < 0
  · rw [if_pos hx, Lib.parseIntB_minus, hpow, Lib.parseUintB_64]
    obtain ⟨c, r, e, _⟩ := dec_first x.natAbs
    unfold Lib.parseMag
    rw [if_neg (by rw [e]; simp), parse_dec _ (by omega)]
    unfold Lib.signedC
    dsimp only
    rw [if_neg (by omega)]
    congr 1; omega
  · rw [if_neg hx]
    obtain ⟨c, r, e, c0, c1⟩ := dec_first x.toNat
    rw [e, Lib.parseIntB_plain 64 c r (by omega) (by omega), ← e, hpow, Lib.parseUintB_64]
    unfold Lib.parseMag
    rw [if_neg (by rw [e]; simp), parse_dec _ (by omega)]
    unfold Lib.signlessC
    dsimp only
    rw [if_neg (by omega)]
    congr 1; omega
/-- The number of a text, as the code has it: false if it is none. -/
def numP (s : ByteArray) : Int × Bool := match Lib.parseIntB 64 s.data.toList with
  | .ok v => if numberI v = s then (v, true) else (0, false)
  | _ => (0, false)
theorem numP_number {x : Int} (h0 : -9223372036854775808 ≤ x) (h1 : x ≤ 9223372036854775807) : numP (numberI x) = (x, true) := by
  unfold numP
  rw [numberI_itoa, parse_itoa h0 h1]
  simp
theorem numP_yes {s : ByteArray} (h : (numP s).2 = true) : numberI (numP s).1 = s := by
  unfold numP at h ⊢
  split at h
  · rename_i v e
    split at h
    · rename_i hs
      rw [if_pos hs]; exact hs
    · cases h
  · cases h
theorem readI_small {s : ByteArray} (h : readI s ≠ 1000000000000) : numberI (readI s) = s := by
  unfold readI at h ⊢
  split at h
  · exact absurd rfl h
  · rename_i n e
    by_cases hs : numberI (if negI s = true then -n else n) = s
    · rw [if_pos hs]; exact hs
    · rw [if_neg hs] at h; exact absurd rfl h
/-! ### the operation of a word -/
theorem opI_name {s : ByteArray} (h : opI s ≠ 0) : wordI (opI s) = s ∧ 0 ≤ opI s ∧ opI s ≤ 41 := by
  unfold opI at h ⊢
  have hb := opL_bd s 41
  refine ⟨?_, hb.1, hb.2⟩
  have : ∀ k, opL s k ≠ 0 → wordI (opL s k) = s := by
    intro k
    induction k with
    | zero => intro h; exact absurd rfl h
    | succ k ih =>
      intro h
      by_cases e : wordI (k + 1 : Nat) = s
      · rw [opL_yes e]; exact e
      · rw [opL_no e] at h ⊢; exact ih h
  exact this 41 h
theorem opI_none {s : ByteArray} (h : opI s = 0) : ∀ k : Nat, 1 ≤ k → k ≤ 41 → wordI (k : Int) ≠ s := by
  unfold opI at h
  have : ∀ n, opL s n = 0 → ∀ k : Nat, 1 ≤ k → k ≤ n → wordI (k : Int) ≠ s := by
    intro n
    induction n with
    | zero => intro _ k h1 h2; omega
    | succ n ih =>
      intro h k h1 h2
      by_cases e : wordI (n + 1 : Nat) = s
      · rw [opL_yes e] at h; omega
      · rw [opL_no e] at h
        by_cases hk : k = n + 1
        · subst hk; exact e
        · exact ih h k h1 (by omega)
  exact this 41 h
theorem name_row : ∀ k : Fin 42, (wordI k.val).size ≠ 0 → (opsT.find? fun r => r.nm.data.toList == (wordI k.val).data.toList).map (fun r => (r.op, r.nm.data.toList, r.lt.data.toList)) = some ((k.val : Int), (wordI k.val).data.toList, (lettersI k.val).data.toList) := by decide
theorem list_data (s : ByteArray) : s.toList = s.data.toList := by
  exact ByteArray.toList_eq s
theorem ops_names : ∀ j : Fin 38, (rowK j.val).nm = wordI (rowK j.val).op := fun j => rfl
theorem find_name {s : ByteArray} (hs : s.size ≠ 0) : opsT.find? (fun r => r.nm.toList == s.toList) = if opI s = 0 then none else some (rowOf (opI s)) := by
  have hfun : (fun r : Orow => r.nm.toList == s.toList) = fun r => r.nm.data.toList == s.data.toList := by
    funext r; rw [list_data, list_data]
  rw [hfun]
  by_cases h : opI s = 0
  · rw [if_pos h, List.find?_eq_none]
    intro r hr
    unfold opsT at hr
    obtain ⟨j, hj, rfl⟩ := List.mem_map.1 hr
    have hj := List.mem_range.1 hj
    have hn := ops_names ⟨j, hj⟩
    have hb := ops_small (rowK j) hr
    obtain ⟨k, hk⟩ : ∃ k : Nat, (rowK j).op = (k : Int) := ⟨(rowK j).op.toNat, by omega⟩
    have := opI_none h k (by omega) (by omega)
    intro e
    have e := beq_iff_eq.1 e
    apply this
    rw [← hk, ← hn, ← mkB_toList (rowK j).nm, e, mkB_toList]
  · rw [if_neg h]
    obtain ⟨h1, h2, h3⟩ := opI_name h
    obtain ⟨k, hk⟩ : ∃ k : Nat, opI s = (k : Int) := ⟨(opI s).toNat, by omega⟩
    rw [hk] at h1 ⊢
    have := name_row ⟨k, by omega⟩ (by rw [h1]; exact hs)
    simp only at this
    obtain ⟨r, hr, e⟩ := Option.map_eq_some_iff.1 this
    rw [h1] at hr
    rw [hr, orow_ext e]; rfl
theorem find_empty : opsT.find? (fun r => r.nm.toList == (⟨#[]⟩ : ByteArray).toList) = none := by
  have hfun : (fun r : Orow => r.nm.toList == (⟨#[]⟩ : ByteArray).toList) = fun r => r.nm.data.toList == ([] : List UInt8) := by
    funext r; rw [list_data, list_data]
  rw [hfun]; decide
/-! ### the way through the parts -/
/-- Behind k fields: what was read, and what is left. -/
structure PS (s : ByteArray) (op : Int) (k : Nat) (vs : List Int) (ru : List UInt8) : Prop where
  len : vs.length = k
  fk : ∃ t, fieldK (splitI s) (hasI op) k = some (vs, t) ∧ t ≤ (splitI s).length ∧ (splitI s).drop t = (wordsF ru []).map mkB
  ok : ∀ j, j < k → takeB (rowOf op) (fieldF j) (vs.getD j 0) = true
theorem getD_snoc {vs : List Int} {x : Int} {k : Nat} (h : vs.length = k) : (vs ++ [x]).getD k 0 = x := by
  subst h
  rw [List.getD_eq_getElem?_getD, List.getElem?_append_right (Nat.le_refl _), Nat.sub_self]; rfl
theorem getD_snoc_old {vs : List Int} {x : Int} {k j : Nat} (h : vs.length = k) (hj : j < k) : (vs ++ [x]).getD j 0 = vs.getD j 0 := by
  rw [List.getD_eq_getElem?_getD, List.getD_eq_getElem?_getD, List.getElem?_append_left (by omega)]
theorem ps_ok {op : Int} {vs : List Int} {x : Int} {k : Nat} (h : vs.length = k) (ho : ∀ j, j < k → takeB (rowOf op) (fieldF j) (vs.getD j 0) = true) (hx : takeB (rowOf op) (fieldF k) x = true) :
    ∀ j, j < k + 1 → takeB (rowOf op) (fieldF j) ((vs ++ [x]).getD j 0) = true := by
  intro j hj
  by_cases e : j = k
  · subst e; rw [getD_snoc h]; exact hx
  · rw [getD_snoc_old h (by omega)]; exact ho j (by omega)
theorem ps_start {s : ByteArray} {op : Int} (h : (nextU s.data.toList).1 ≠ []) : PS s op 0 [] (nextU s.data.toList).2 ∧ (splitI s).length ≠ 0 ∧ (splitI s).getD 0 ⟨#[]⟩ = mkB (nextU s.data.toList).1 := by
  have hw := next_some h
  have hs : splitI s = mkB (nextU s.data.toList).1 :: (wordsF (nextU s.data.toList).2 []).map mkB := by rw [splitI_words, hw]; rfl
  refine ⟨⟨rfl, ⟨1, rfl, by rw [hs]; simp, by rw [hs]; rfl⟩, fun j hj => by omega⟩, by rw [hs]; simp, by rw [hs]; rfl⟩
theorem ps_none {s : ByteArray} (h : (nextU s.data.toList).1 = []) : parseI s = (In.zero, 11) := by
  have hs : splitI s = [] := by rw [splitI_words, (next_none h).1]; rfl
  unfold parseI
  rw [hs]; rfl
theorem take_skip {op x : Int} {k : Nat} (hu : useB (rowOf op) (fieldF k) = false) : takeB (rowOf op) (fieldF k) 0 = true := by
  unfold takeB; rw [hu]; rfl
theorem ps_skip {s : ByteArray} {op : Int} {k : Nat} {vs : List Int} {ru : List UInt8} (hw : (wordI op).size ≠ 0) (hk : k < 4) (h : PS s op k vs ru) (hu : useB (rowOf op) (fieldF k) = false) : PS s op (k + 1) (vs ++ [0]) ru := by
  obtain ⟨hl, ⟨t, h1, h2, h3⟩, h4⟩ := h
  rw [uses_has hw k hk] at hu
  have hb : ¬ hasK (hasI op) k % 2 = 1 := by simpa using hu
  exact ⟨by simp [hl], ⟨t, fieldK_skip h1 hb, h2, h3⟩, ps_ok hl h4 (take_skip (x := 0) (by rw [uses_has hw k hk]; exact hu))⟩
theorem take_bd {op x : Int} {k : Nat} (h : takeB (rowOf op) (fieldF k) x = true) : -2147483648 ≤ x ∧ x ≤ 2147483647 := by
  unfold takeB at h
  split at h
  · rw [Bool.and_eq_true, decide_eq_true_eq, decide_eq_true_eq] at h
    have : -2147483648 ≤ (fieldF k).lo ∧ (fieldF k).hi ≤ 2147483647 := by
      unfold fieldF
      split <;> decide
    omega
  · have : x = 0 := by simpa using h
    omega
theorem drop_head {L : List ByteArray} {t : Nat} {x : ByteArray} {r : List ByteArray} (h : L.drop t = x :: r) : t < L.length ∧ L.getD t ⟨#[]⟩ = x ∧ L.drop (t + 1) = r := by
  have hlt : t < L.length := by
    have := congrArg List.length h
    rw [List.length_drop, List.length_cons] at this
    omega
  rw [List.drop_eq_getElem_cons hlt] at h
  injection h with h1 h2
  exact ⟨hlt, by rw [List.getD_eq_getElem?_getD, List.getElem?_eq_getElem hlt]; exact h1, h2⟩
theorem numberI_ne (x : Int) : (numberI x).data.toList ≠ [] := by
  rw [numberI_itoa]
  unfold Lib.itoa
  split
  · simp
  · obtain ⟨c, r, e, _⟩ := dec_first x.toNat
    rw [e]; simp
theorem ps_read {s : ByteArray} {op : Int} {k : Nat} {vs : List Int} {ru : List UInt8} (hw : (wordI op).size ≠ 0) (hk : k < 4) (h : PS s op k vs ru) (hu : useB (rowOf op) (fieldF k) = true)
    (hn : (numP (mkB (nextU ru).1)).2 = true) (ht : takeB (rowOf op) (fieldF k) (numP (mkB (nextU ru).1)).1 = true) : PS s op (k + 1) (vs ++ [(numP (mkB (nextU ru).1)).1]) (nextU ru).2 := by
  obtain ⟨hl, ⟨t, h1, h2, h3⟩, h4⟩ := h
  have hy := numP_yes hn
  generalize (numP (mkB (nextU ru).1)).1 = x at hy ht ⊢
  have hne : (nextU ru).1 ≠ [] := fun e => by
    have := congrArg (fun b : ByteArray => b.data.toList) hy
    simp only [mkB_data] at this
    rw [e] at this
    exact numberI_ne x this
  rw [next_some hne] at h3
  obtain ⟨hlt, hget, hdrop⟩ := drop_head h3
  have hb : hasK (hasI op) k % 2 = 1 := by rw [uses_has hw k hk] at hu; simpa using hu
  have hbd := take_bd ht
  have hread : readI (mkB (nextU ru).1) = x := by rw [← hy]; exact read_number hbd.1 hbd.2
  have hf := fieldK_read h1 hb hlt
  rw [hget, hread] at hf
  exact ⟨by simp [hl], ⟨t + 1, hf, by omega, hdrop⟩, ps_ok hl h4 ht⟩
theorem fieldK_more {L : List ByteArray} {h : Int} {k : Nat} {vs : List Int} {t : Nat} (e : fieldK L h k = some (vs, t)) : ∀ j vs' t', k ≤ j → fieldK L h j = some (vs', t') → ∃ r, vs' = vs ++ r := by
  intro j
  induction j with
  | zero =>
    intro vs' t' hk e'
    obtain rfl : k = 0 := by omega
    rw [e] at e'
    injection e' with e'
    injection e' with e1 e2
    exact ⟨[], by rw [e1, List.append_nil]⟩
  | succ j ih =>
    intro vs' t' hk e'
    by_cases c : k = j + 1
    · subst c
      rw [e] at e'
      injection e' with e'
      injection e' with e1 e2
      exact ⟨[], by rw [e1, List.append_nil]⟩
    · unfold fieldK at e'
      split at e'
      · cases e'
      · rename_i vs1 t1 e1
        split at e'
        · cases e'
        · rename_i x t2 _
          injection e' with e'
          injection e' with e2 _
          obtain ⟨r, hr⟩ := ih vs1 t1 (by omega) e1
          exact ⟨r ++ [x], by rw [← e2, hr, List.append_assoc]⟩
theorem may_ok32' {i : In} (h : mayI i = true) : i.Ok32 := by
  obtain ⟨⟨_, _⟩, ⟨_, _⟩, ⟨_, _⟩, ⟨_, _⟩, _, _⟩ := mayI_bd h
  exact ⟨by omega, by omega, by omega, by omega, by omega⟩
theorem numK_getD (op a b c m : Int) {k : Nat} (hk : k < 4) : numK ⟨op, a, b, c, m⟩ k = [a, b, c, m].getD k 0 := by
  obtain rfl | rfl | rfl | rfl : k = 0 ∨ k = 1 ∨ k = 2 ∨ k = 3 := by omega
  all_goals rfl
theorem parse_no {s : ByteArray} {op : Int} (h1 : (splitI s).length ≠ 0) (h2 : opI ((splitI s).getD 0 ⟨#[]⟩) = op) (h : fieldsI (splitI s) op = none) : parseI s = (In.zero, 11) := by
  unfold parseI
  rw [if_neg h1, h2]
  split
  · rfl
  · rw [h]
theorem may_false {i : In} {k : Nat} (hk : k < 4) (h : mayI i = true) (hw : (wordI i.op).size ≠ 0) : takeB (rowOf i.op) (fieldF k) (numK i k) = true := by
  rw [takes_may hw (may_ok32' h) hk]
  cases e : okK i k with
  | true => rfl
  | false => rw [mayI_no hk e] at h; cases h
theorem ps_fail {s : ByteArray} {op : Int} {k : Nat} {vs : List Int} {ru : List UInt8} (hw : (wordI op).size ≠ 0) (hk : k < 4) (h : PS s op k vs ru) (hu : useB (rowOf op) (fieldF k) = true)
    (h1 : (splitI s).length ≠ 0) (h2 : opI ((splitI s).getD 0 ⟨#[]⟩) = op)
    (hn : (numP (mkB (nextU ru).1)).2 = false ∨ takeB (rowOf op) (fieldF k) (numP (mkB (nextU ru).1)).1 = false) : parseI s = (In.zero, 11) := by
  apply parse_no h1 h2
  obtain ⟨hl, ⟨t, g1, g2, g3⟩, g4⟩ := h
  have hb : hasK (hasI op) k % 2 = 1 := by rw [uses_has hw k hk] at hu; simpa using hu
  by_cases hne : (nextU ru).1 = []
  · rw [(next_none hne).1] at g3
    have hge : ¬ t < (splitI s).length := by
      have := congrArg List.length g3
      rw [List.length_drop] at this
      simp at this
      omega
    exact fieldsI_none (fieldK_none (fieldK_out g1 hb hge) 4 (by omega))
  · rw [next_some hne] at g3
    obtain ⟨hlt, hget, hdrop⟩ := drop_head g3
    have hf := fieldK_read g1 hb hlt
    rw [hget] at hf
    cases e4 : fieldK (splitI s) (hasI op) 4 with
    | none => exact fieldsI_none e4
    | some p =>
      obtain ⟨vs4, t4⟩ := p
      obtain ⟨a, b, c, m, hv, hfi⟩ := fieldsI_some e4
      rw [hfi]
      by_cases hm : mayI ⟨op, a, b, c, m⟩ = true
      · exfalso
        obtain ⟨r, hr⟩ := fieldK_more hf 4 vs4 t4 (by omega) e4
        have hx : numK ⟨op, a, b, c, m⟩ k = readI (mkB (nextU ru).1) := by
          rw [numK_getD op a b c m hk, ← hv, hr, List.getD_eq_getElem?_getD, List.append_assoc, List.getElem?_append_right (by omega), hl, Nat.sub_self]; rfl
        have htk := may_false hk hm hw
        rw [hx] at htk
        simp only at htk
        have hbd := take_bd htk
        have hnum := readI_small (s := mkB (nextU ru).1) (by omega)
        have hp : numP (mkB (nextU ru).1) = (readI (mkB (nextU ru).1), true) := by
          conv => lhs; rw [← hnum]
          exact numP_number (by omega) (by omega)
        rw [hp] at hn
        rcases hn with hn | hn
        · cases hn
        · rw [htk] at hn; cases hn
      · rw [if_neg (fun h => hm h.2)]
theorem ps_end {s : ByteArray} {op : Int} {vs : List Int} {ru : List UInt8} (hw : (wordI op).size ≠ 0) (h : PS s op 4 vs ru) (h1 : (splitI s).length ≠ 0) (h2 : opI ((splitI s).getD 0 ⟨#[]⟩) = op) (h0 : op ≠ 0) :
    ∃ a b c m, vs = [a, b, c, m] ∧ (-2147483648 ≤ m ∧ m ≤ 2147483647) ∧ ((nextU ru).1 = [] → parseI s = (⟨op, a, b, c, m⟩, 0)) ∧ ((nextU ru).1 ≠ [] → parseI s = (In.zero, 11)) := by
  obtain ⟨hl, ⟨t, g1, g2, g3⟩, g4⟩ := h
  obtain ⟨a, b, c, m, hv, hfi⟩ := fieldsI_some g1
  subst hv
  have k0 := g4 0 (by decide)
  have k1 := g4 1 (by decide)
  have k2 := g4 2 (by decide)
  have k3 := g4 3 (by decide)
  simp only [List.getD_cons_zero, List.getD_cons_succ] at k0 k1 k2 k3
  have b0 := take_bd k0
  have b1 := take_bd k1
  have b2 := take_bd k2
  have b3 := take_bd k3
  obtain ⟨hn, hop0, hop1⟩ := opI_name (s := (splitI s).getD 0 ⟨#[]⟩) (by rw [h2]; exact h0)
  rw [h2] at hop0 hop1
  have hok : (⟨op, a, b, c, m⟩ : In).Ok32 := ⟨by show _ ≤ op ∧ op ≤ _; omega, by show _ ≤ a ∧ a ≤ _; omega, by show _ ≤ b ∧ b ≤ _; omega, by show _ ≤ c ∧ c ≤ _; omega, b3⟩
  have hmay : mayI ⟨op, a, b, c, m⟩ = true := mayI_full hw hok (fun j hj => by
    rw [← takes_may hw hok hj]
    obtain rfl | rfl | rfl | rfl : j = 0 ∨ j = 1 ∨ j = 2 ∨ j = 3 := by omega
    · exact k0
    · exact k1
    · exact k2
    · exact k3)
  refine ⟨a, b, c, m, rfl, b3, fun he => ?_, fun he => ?_⟩
  · rw [(next_none he).1] at g3
    have hlen : t = (splitI s).length := by
      have := congrArg List.length g3
      rw [List.length_drop] at this
      simp at this
      omega
    rw [if_pos ⟨hlen, hmay⟩] at hfi
    unfold parseI
    rw [if_neg h1, h2, if_neg h0, hfi]
  · apply parse_no h1 h2
    rw [hfi, if_neg]
    intro h
    rw [next_some he] at g3
    have := (drop_head g3).1
    omega
/-! ### lines left out -/
theorem skip_blank {s : ByteArray} (h : s.data.toList.dropWhile (· == 32) = []) : skipI s = true := by
  unfold skipI
  have hn : (nextU s.data.toList).1 = [] := by unfold nextU; rw [h]; rfl
  rw [splitI_words, (next_none hn).1]; rfl
theorem skip_first {s : ByteArray} {c : UInt8} {r : List UInt8} (h : s.data.toList.dropWhile (· == 32) = c :: r) : skipI s = (c == 35) := by
  have hc : c ≠ 32 := by
    rcases dropWhile_head s.data.toList with e | ⟨c', r', e, hc⟩
    · rw [h] at e; cases e
    · rw [h] at e; injection e with e1 _; rw [e1]; exact hc
  have hn : (nextU s.data.toList).1 ≠ [] := by
    unfold nextU; rw [h, List.takeWhile_cons_of_pos (by simpa using hc)]; simp
  have hs : splitI s = mkB (nextU s.data.toList).1 :: (wordsF (nextU s.data.toList).2 []).map mkB := by rw [splitI_words, next_some hn]; rfl
  have hfirst : (nextU s.data.toList).1 = c :: r.takeWhile (· != 32) := by unfold nextU; rw [h, List.takeWhile_cons_of_pos (by simpa using hc)]
  unfold skipI
  rw [hs]
  simp only [List.length_cons, List.getD_cons_zero]
  rw [hfirst]
  have hb : (bs (mkB (c :: r.takeWhile (· != 32)))).getD 0 0 = (c.toNat : Int) := by unfold bs; rw [mkB_data]; rfl
  rw [hb]
  by_cases e : c = 35
  · subst e; simp
  · have : ¬ ((c.toNat : Int) = 35) := fun h => e (UInt8.toNat_inj.1 (by rw [show (35 : UInt8).toNat = 35 from rfl]; omega))
    simp [e, this]
end Go.Proofs.YtjpbbonkmnbabaaDoor
