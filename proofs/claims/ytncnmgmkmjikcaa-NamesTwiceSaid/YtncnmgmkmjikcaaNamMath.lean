/-
  What is proved here: plain words for tables of names: the table of a list of names, where each one stands, and what follows of them.
  Conditions: none; nothing here speaks of the program.
-/
import Derived.Test.YtncnmgmkmjikcaaNamPlain
namespace Go.Proofs.Ytncnmgmkmjikcaa
open Go.RowKit
set_option linter.unusedVariables false

/-- The name at a place of the list. -/
def nm (L : List ByteArray) (i : Nat) : ByteArray := L.getD i .empty
/-- Was there this name ahead of the place k, or is it the empty one? -/
def Seen (L : List ByteArray) (k : Nat) (s : ByteArray) : Prop := s = .empty ∨ ∃ i, i < k ∧ nm L i = s
/-- The first place from 0 on, below k, at which the name stands; k if there is none. -/
def firstAt (L : List ByteArray) (s : ByteArray) : Nat → Nat
  | 0 => 0
  | k + 1 => if firstAt L s k < k then firstAt L s k else if nm L k = s then k else k + 1
theorem firstAt_le (L : List ByteArray) (s : ByteArray) : ∀ k, firstAt L s k ≤ k
  | 0 => Nat.le_refl _
  | k + 1 => by
    have := firstAt_le L s k
    unfold firstAt
    split
    · omega
    · split <;> omega
theorem firstAt_hit {L : List ByteArray} {s : ByteArray} : ∀ {k : Nat}, firstAt L s k < k → nm L (firstAt L s k) = s ∧ ∀ i, i < firstAt L s k → nm L i ≠ s
  | 0, h => absurd h (Nat.not_lt_zero _)
  | k + 1, h => by
    by_cases h1 : firstAt L s k < k
    · have e : firstAt L s (k + 1) = firstAt L s k := by simp [firstAt, h1]
      rw [e]; exact firstAt_hit h1
    · have miss : ∀ k, ¬ firstAt L s k < k → ∀ i, i < k → nm L i ≠ s := by
        intro k
        induction k with
        | zero => intro _ i hi; omega
        | succ k ih =>
          intro hk i hi
          by_cases h2 : firstAt L s k < k
          · exact absurd (by simp [firstAt, h2]; omega) hk
          · by_cases h3 : nm L k = s
            · exact absurd (by simp [firstAt, h2, h3]) hk
            · rcases Nat.lt_succ_iff_lt_or_eq.1 hi with h | rfl
              · exact ih h2 i h
              · exact h3
      by_cases h3 : nm L k = s
      · have e : firstAt L s (k + 1) = k := by simp [firstAt, h1, h3]
        rw [e]; exact ⟨h3, miss k h1⟩
      · exact absurd h (by simp [firstAt, h1, h3])
theorem firstAt_miss {L : List ByteArray} {s : ByteArray} {k : Nat} (h : ¬ firstAt L s k < k) : ∀ i, i < k → nm L i ≠ s := by
  induction k with
  | zero => intro i hi; omega
  | succ k ih =>
    intro i hi
    by_cases h2 : firstAt L s k < k
    · exact absurd (by simp [firstAt, h2]; omega) h
    · by_cases h3 : nm L k = s
      · exact absurd (by simp [firstAt, h2, h3]) h
      · rcases Nat.lt_succ_iff_lt_or_eq.1 hi with h4 | rfl
        · exact ih h2 i h4
        · exact h3
/-- It is the same however far one looks. -/
theorem firstAt_stay {L : List ByteArray} {s : ByteArray} {k m : Nat} (h : firstAt L s k < k) (hm : k ≤ m) : firstAt L s m = firstAt L s k := by
  induction m with
  | zero => omega
  | succ m ih =>
    rcases Nat.le_or_eq_of_le_succ hm with h1 | rfl
    · have := ih h1
      simp [firstAt, this, show firstAt L s k < m from by omega]
    · rfl
theorem firstAt_new {L : List ByteArray} {s : ByteArray} {k m : Nat} (h : ∀ i, i < k → nm L i ≠ s) (hk : nm L k = s) (hm : k < m) : firstAt L s m = k := by
  have h1 : ¬ firstAt L s k < k := fun hl => h _ hl (firstAt_hit hl).1
  have h2 : firstAt L s (k + 1) = k := by simp [firstAt, h1, hk]
  rw [firstAt_stay (k := k + 1) (by omega) (by omega), h2]

def seenB (L : List ByteArray) (k : Nat) (s : ByteArray) : Bool := decide (s = .empty) || decide (firstAt L s k < k)
theorem seenB_iff (L : List ByteArray) (k : Nat) (s : ByteArray) : seenB L k s = true ↔ Seen L k s := by
  unfold seenB Seen
  simp only [Bool.or_eq_true, decide_eq_true_eq]
  constructor
  · rintro (h | h)
    · exact .inl h
    · exact .inr ⟨_, h, (firstAt_hit h).1⟩
  · rintro (h | ⟨i, h1, h2⟩)
    · exact .inl h
    · refine .inr ?_
      rcases Nat.lt_or_ge (firstAt L s k) k with h3 | h3
      · exact h3
      · exact absurd h2 (firstAt_miss (by omega) i h1)
theorem seenB_succ (L : List ByteArray) (k : Nat) (s : ByteArray) : seenB L (k + 1) s = (seenB L k s || decide (nm L k = s)) := by
  rw [Bool.eq_iff_iff, Bool.or_eq_true, seenB_iff, seenB_iff, decide_eq_true_eq]
  unfold Seen
  constructor
  · rintro (h | ⟨i, h1, h2⟩)
    · exact .inl (.inl h)
    · rcases Nat.lt_succ_iff_lt_or_eq.1 h1 with h3 | rfl
      · exact .inl (.inr ⟨i, h3, h2⟩)
      · exact .inr h2
  · rintro ((h | ⟨i, h1, h2⟩) | h)
    · exact .inl h
    · exact .inr ⟨i, by omega, h2⟩
    · exact .inr ⟨k, by omega, h⟩

/-- The table behind k names. -/
def tab (L : List ByteArray) : Nat → List Int
  | 0 => [0]
  | k + 1 => if seenB L k (nm L k) then tab L k else tab L k ++ (bs (nm L k) ++ [0])
theorem tab_seen {L : List ByteArray} {k : Nat} (h : seenB L k (nm L k) = true) : tab L (k + 1) = tab L k := by simp [tab, h]
theorem tab_new {L : List ByteArray} {k : Nat} (h : seenB L k (nm L k) = false) : tab L (k + 1) = tab L k ++ (bs (nm L k) ++ [0]) := by simp [tab, h]
theorem tab_bd (L : List ByteArray) : ∀ k, ∀ n ∈ tab L k, 0 ≤ n ∧ n ≤ 255
  | 0 => fun n hn => by
    have h : n = 0 := by simpa [tab] using hn
    omega
  | k + 1 => by
    unfold tab
    split
    · exact tab_bd L k
    · intro n hn
      simp only [List.mem_append, List.mem_singleton] at hn
      rcases hn with h | h | rfl
      · exact tab_bd L k n h
      · exact bs_bd _ n h
      · decide
theorem tab_mono (L : List ByteArray) {k m : Nat} (h : k ≤ m) : (tab L k).length ≤ (tab L m).length := by
  induction m with
  | zero => have : k = 0 := by omega
            subst this; exact Nat.le_refl _
  | succ m ih =>
    rcases Nat.le_or_eq_of_le_succ h with h1 | rfl
    · refine Nat.le_trans (ih h1) ?_
      rw [tab]; split
      · exact Nat.le_refl _
      · rw [List.length_append]; omega
    · exact Nat.le_refl _
theorem tab_pos (L : List ByteArray) (k : Nat) : 1 ≤ (tab L k).length := tab_mono L (Nat.zero_le k)
/-- The table goes on as it began. -/
theorem tab_pre (L : List ByteArray) {k m : Nat} (h : k ≤ m) : ∃ r, tab L m = tab L k ++ r := by
  induction m with
  | zero => have : k = 0 := by omega
            subst this; exact ⟨[], by simp⟩
  | succ m ih =>
    rcases Nat.le_or_eq_of_le_succ h with h1 | rfl
    · obtain ⟨r, hr⟩ := ih h1
      rw [tab]
      split
      · exact ⟨r, hr⟩
      · exact ⟨r ++ (bs (nm L m) ++ [0]), by rw [hr, List.append_assoc]⟩
    · exact ⟨[], by simp⟩

/-- Where a name stands, k names looked at. -/
def pos (L : List ByteArray) (k : Nat) (s : ByteArray) : Nat := if s = .empty then 0 else (tab L (firstAt L s k)).length
theorem pos_empty (L : List ByteArray) (k : Nat) : pos L k .empty = 0 := by simp [pos]
theorem pos_stay {L : List ByteArray} {k m : Nat} {s : ByteArray} (h : Seen L k s) (hm : k ≤ m) : pos L m s = pos L k s := by
  unfold pos
  rcases h with rfl | ⟨i, h1, h2⟩
  · simp
  · split
    · rfl
    · rcases Nat.lt_or_ge (firstAt L s k) k with h3 | h3
      · rw [firstAt_stay h3 hm]
      · exact absurd h2 (firstAt_miss (by omega) i h1)
theorem pos_new {L : List ByteArray} {k : Nat} (h : seenB L k (nm L k) = false) : pos L (k + 1) (nm L k) = (tab L k).length := by
  have h1 : ¬ Seen L k (nm L k) := fun hs => by rw [(seenB_iff L k _).2 hs] at h; cases h
  have hne : nm L k ≠ .empty := fun e => h1 (.inl e)
  unfold pos
  rw [if_neg hne, firstAt_new (k := k) (fun i hi e => h1 (.inr ⟨i, hi, e⟩)) rfl (by omega)]
theorem pos_lt {L : List ByteArray} {k : Nat} {s : ByteArray} (h : Seen L k s) : pos L k s < (tab L k).length := by
  unfold pos
  split
  · exact tab_pos L k
  · rename_i hne
    rcases h with h | ⟨i, h1, h2⟩
    · exact absurd h hne
    · rcases Nat.lt_or_ge (firstAt L s k) k with h3 | h3
      · have hm := tab_mono L (k := firstAt L s k + 1) (m := k) (by omega)
        have hh := firstAt_hit h3
        have hn : seenB L (firstAt L s k) (nm L (firstAt L s k)) = false := by
          rw [Bool.eq_false_iff]
          intro hs
          rcases (seenB_iff _ _ _).1 hs with h4 | ⟨j, h4, h5⟩
          · exact hne (hh.1 ▸ h4)
          · exact hh.2 j h4 (by rw [h5, hh.1])
        rw [tab_new hn, List.length_append, List.length_append] at hm
        simp at hm
        omega
      · exact absurd h2 (firstAt_miss (by omega) i h1)
/-- The places told so far. -/
def outs (L : List ByteArray) : Nat → List Int
  | 0 => []
  | k + 1 => outs L k ++ [(pos L (k + 1) (nm L k) : Int)]
theorem outs_len (L : List ByteArray) : ∀ k, (outs L k).length = k
  | 0 => rfl
  | k + 1 => by rw [outs, List.length_append, outs_len L k]; rfl
theorem outs_getD (L : List ByteArray) : ∀ {k i : Nat}, i < k → (outs L k).getD i 0 = (pos L k (nm L i) : Int)
  | 0, i, h => absurd h (Nat.not_lt_zero _)
  | k + 1, i, h => by
    rw [outs]
    rcases Nat.lt_succ_iff_lt_or_eq.1 h with h1 | rfl
    · have e : (outs L k ++ [(pos L (k + 1) (nm L k) : Int)]).getD i 0 = (outs L k).getD i 0 := by
        rw [List.getD_eq_getElem?_getD, List.getD_eq_getElem?_getD, List.getElem?_append_left (by rw [outs_len]; exact h1)]
      rw [e, outs_getD L h1, pos_stay (k := k) (m := k + 1) (.inr ⟨i, h1, rfl⟩) (by omega)]
    · rw [List.getD_eq_getElem?_getD, List.getElem?_append_right (by rw [outs_len]; exact Nat.le_refl _), outs_len, Nat.sub_self]
      rfl
/-- Has a name a byte 0? -/
def Zer (L : List ByteArray) : Prop := ∃ i, i < L.length ∧ ∃ k, FirstZ (bs (nm L i)) k
def Clean (L : List ByteArray) : Prop := ∀ i, i < L.length → NoZ (bs (nm L i))
theorem clean_or (L : List ByteArray) : Clean L ∨ ∃ i k, i < L.length ∧ (∀ j, j < i → NoZ (bs (nm L j))) ∧ FirstZ (bs (nm L i)) k := by
  have h : ∀ m, (∀ i, i < m → NoZ (bs (nm L i))) ∨ ∃ i k, i < m ∧ (∀ j, j < i → NoZ (bs (nm L j))) ∧ FirstZ (bs (nm L i)) k := by
    intro m
    induction m with
    | zero => exact .inl fun i hi => absurd hi (Nat.not_lt_zero _)
    | succ m ih =>
      rcases ih with h | ⟨i, k, h1, h2⟩
      · rcases firstZ_or (bs (nm L m)) with h3 | ⟨k, h3⟩
        · refine .inl fun i hi => ?_
          rcases Nat.lt_succ_iff_lt_or_eq.1 hi with h4 | rfl
          · exact h i h4
          · exact h3
        · exact .inr ⟨m, k, by omega, h, h3⟩
      · exact .inr ⟨i, k, by omega, h2⟩
  exact h L.length
theorem size_tab (L : List ByteArray) (M : Nat) (hM : ∀ i, (nm L i).size ≤ M) : ∀ k, (tab L k).length ≤ 1 + k * (M + 1)
  | 0 => by simp [tab]
  | k + 1 => by
    have ih := size_tab L M hM k
    have h1 := hM k
    have h2 : (k + 1) * (M + 1) = k * (M + 1) + (M + 1) := by rw [Nat.succ_mul]
    rw [tab]
    split
    · omega
    · rw [List.length_append, List.length_append, bs_len]
      simp only [List.length_singleton]
      omega
end Go.Proofs.Ytncnmgmkmjikcaa
