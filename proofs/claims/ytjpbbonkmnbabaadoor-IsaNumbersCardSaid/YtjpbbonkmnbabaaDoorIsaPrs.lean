/-
  What is proved here: the reference of isa: Parse.
  Conditions: none but that the arguments are values of their types; texts of at most a million bytes.
-/
import Derived.Test.YtjpbbonkmnbabaaDoorIsaSpl
import Derived.Test.YtjpbbonkmnbabaaDoorFOne
namespace Go.Proofs.YtjpbbonkmnbabaaDoor
open Go.RowKit
set_option linter.unusedVariables false
set_option linter.unusedSimpArgs false

theorem opL_bd (s : ByteArray) (k : Nat) : 0 ≤ opL s k ∧ opL s k ≤ k := by
  induction k with
  | zero => exact ⟨Int.le_refl _, Int.le_refl _⟩
  | succ k ih =>
    unfold opL
    split <;> omega
theorem opL_yes {s : ByteArray} {k : Nat} (h : wordI (k + 1 : Nat) = s) : opL s (k + 1) = ((k + 1 : Nat) : Int) := by
  rw [opL, if_pos h]
theorem opL_no {s : ByteArray} {k : Nat} (h : ¬ wordI (k + 1 : Nat) = s) : opL s (k + 1) = opL s k := by
  rw [opL, if_neg h]
/-- The fields behind the first k. -/
def fieldK (L : List ByteArray) (h : Int) : Nat → Option (List Int × Nat)
  | 0 => some ([], 1)
  | k + 1 => match fieldK L h k with
    | none => none
    | some (vs, t) => match takeF L (hasK h k) t with
      | none => none
      | some (x, t') => some (vs ++ [x], t')
theorem fieldK_none {L : List ByteArray} {h : Int} {k : Nat} (e : fieldK L h k = none) : ∀ j, k ≤ j → fieldK L h j = none := by
  intro j hj
  induction j with
  | zero => obtain rfl : k = 0 := by omega
            exact e
  | succ j ih =>
    by_cases c : k = j + 1
    · rw [← c]; exact e
    · have := ih (by omega)
      rw [fieldK, this]
theorem fieldsI_none {L : List ByteArray} {op : Int} (e : fieldK L (hasI op) 4 = none) : fieldsI L op = none := by
  simp only [fieldK, hasK] at e
  unfold fieldsI
  split
  · rfl
  · rename_i a t1 h1
    rw [h1] at e
    simp only at e
    split
    · rfl
    · rename_i b t2 h2
      rw [h2] at e
      simp only at e
      split
      · rfl
      · rename_i c t3 h3
        rw [h3] at e
        simp only at e
        split
        · rfl
        · rename_i m t4 h4
          rw [h4] at e
          cases e
theorem fieldsI_some {L : List ByteArray} {op : Int} {vs : List Int} {t : Nat} (e : fieldK L (hasI op) 4 = some (vs, t)) :
    ∃ a b c m, vs = [a, b, c, m] ∧ fieldsI L op = if t = L.length ∧ mayI ⟨op, a, b, c, m⟩ = true then some ⟨op, a, b, c, m⟩ else none := by
  simp only [fieldK, hasK] at e
  unfold fieldsI
  cases h1 : takeF L (hasI op) 1 with
  | none => rw [h1] at e; cases e
  | some p1 =>
    obtain ⟨a, t1⟩ := p1
    rw [h1] at e
    simp only at e ⊢
    cases h2 : takeF L (hasI op / 2) t1 with
    | none => rw [h2] at e; cases e
    | some p2 =>
      obtain ⟨b, t2⟩ := p2
      rw [h2] at e
      simp only at e ⊢
      cases h3 : takeF L (hasI op / 2 / 2) t2 with
      | none => rw [h3] at e; cases e
      | some p3 =>
        obtain ⟨c, t3⟩ := p3
        rw [h3] at e
        simp only at e ⊢
        cases h4 : takeF L (hasI op / 2 / 2 / 2) t3 with
        | none => rw [h4] at e; cases e
        | some p4 =>
          obtain ⟨m, t4⟩ := p4
          rw [h4] at e
          simp only at e ⊢
          injection e with e
          injection e with e1 e2
          subst e1; subst e2
          exact ⟨a, b, c, m, rfl, rfl⟩
theorem readI_bd (s : ByteArray) : -10000000000009 ≤ readI s ∧ readI s ≤ 10000000000009 := by
  have hL : ∀ f i n, 0 ≤ n → n ≤ 10000000000009 → ∀ m, readL s f i n = some m → 0 ≤ m ∧ m ≤ 10000000000009 := by
    intro f
    induction f with
    | zero => intro i n _ _ m h; cases h
    | succ f ih =>
      intro i n h0 h1 m h
      unfold readL at h
      have hb := getD_bd (bs_bd s) i
      split at h
      · injection h with h; omega
      · split at h
        · cases h
        · exact ih _ _ (by omega) (by omega) m h
  unfold readI
  split
  · omega
  · rename_i n h
    have := hL _ _ _ (Int.le_refl 0) (by decide) n h
    split
    · split <;> omega
    · omega
theorem fieldK_len {L : List ByteArray} {h : Int} {k : Nat} {vs : List Int} {t : Nat} (e : fieldK L h k = some (vs, t)) : vs.length = k ∧ 1 ≤ t ∧ t ≤ k + 1 ∧ (∀ x ∈ vs, -10000000000009 ≤ x ∧ x ≤ 10000000000009) := by
  induction k generalizing vs t with
  | zero =>
    unfold fieldK at e
    injection e with e
    injection e with e1 e2
    subst e1; subst e2
    exact ⟨rfl, Nat.le_refl _, Nat.le_refl _, fun x hx => by cases hx⟩
  | succ k ih =>
    rw [fieldK] at e
    cases h1 : fieldK L h k with
    | none => rw [h1] at e; cases e
    | some p =>
      obtain ⟨us, q⟩ := p
      rw [h1] at e
      simp only at e
      obtain ⟨i1, i2, i3, i4⟩ := ih h1
      cases h2 : takeF L (hasK h k) q with
      | none => rw [h2] at e; cases e
      | some p2 =>
        obtain ⟨x, q2⟩ := p2
        rw [h2] at e
        simp only at e
        injection e with e
        injection e with e1 e2
        subst e1; subst e2
        have hx : (-10000000000009 ≤ x ∧ x ≤ 10000000000009) ∧ q ≤ q2 ∧ q2 ≤ q + 1 := by
          unfold takeF at h2
          split at h2
          · split at h2
            · injection h2 with h2
              injection h2 with h3 h4
              subst h3; subst h4
              exact ⟨readI_bd _, by omega, by omega⟩
            · cases h2
          · injection h2 with h2
            injection h2 with h3 h4
            subst h3; subst h4
            exact ⟨by omega, by omega, by omega⟩
        refine ⟨by rw [List.length_append, i1]; rfl, by omega, by omega, fun z hz => ?_⟩
        rcases List.mem_append.1 hz with hz | hz
        · exact i4 z hz
        · rw [List.mem_singleton.1 hz]; exact hx.1
theorem splitI_size (s : ByteArray) : ∀ t ∈ splitI s, 0 < t.size ∧ t.size ≤ s.size := by
  have h : ∀ f i fr out, (∀ t ∈ out, 0 < t.size ∧ t.size ≤ s.size) → ∀ t ∈ splitL s f i fr out, 0 < t.size ∧ t.size ≤ s.size := by
    intro f
    induction f with
    | zero => intro i fr out ho t ht; exact ho t ht
    | succ f ih =>
      intro i fr out ho t ht
      unfold splitL at ht
      split at ht
      · exact ho t ht
      · split at ht
        · refine ih _ _ _ ?_ t ht
          split
          · intro u hu
            rcases List.mem_append.1 hu with hu | hu
            · exact ho u hu
            · rw [List.mem_singleton.1 hu, ByteArray.size_extract]
              omega
          · exact ho
        · exact ih _ _ _ ho t ht
  exact h _ _ _ _ (fun t ht => by cases ht)
end Go.Proofs.YtjpbbonkmnbabaaDoor
