/-
  What is proved here: plain words on texts: the words between blanks one after another ('nextB': the first one and what stands behind it), as splitI has them; lines; numbers as texts (numberI) as the library's words have them.
  Conditions: none; nothing here speaks of the program.
-/
import Derived.Test.YtjpbbonkmnbabaaDoorIsaBk
import Derived.Lib.ParseIntBTie
import Derived.Lib.ItoaNum
import Derived.Lib.TrimByte
import Derived.Lib.IndexBytes
import Derived.Lib.SplitLaws
namespace Go.Proofs.YtjpbbonkmnbabaaDoor
open Go.RowKit
set_option linter.unusedVariables false
set_option linter.unusedSimpArgs false

/-- Bytes as a string. -/
def mkB (l : List UInt8) : ByteArray := ⟨l.toArray⟩
theorem mkB_toList (s : ByteArray) : mkB s.data.toList = s := by unfold mkB; exact ByteArray.ext (by simp)
theorem mkB_data (l : List UInt8) : (mkB l).data.toList = l := by unfold mkB; simp
theorem mkB_size (l : List UInt8) : (mkB l).size = l.length := by unfold mkB; simp [ByteArray.size]
/-- The words of bytes, the one under way being acc. -/
def wordsF : List UInt8 → List UInt8 → List (List UInt8)
  | [], acc => if acc = [] then [] else [acc]
  | c :: r, acc => if c = 32 then (if acc = [] then wordsF r [] else acc :: wordsF r []) else wordsF r (acc ++ [c])
theorem bs_at {s : ByteArray} {i : Nat} (h : i < s.data.toList.length) : (bs s).getD i 0 = ((s.data.toList[i]'h).toNat : Int) := by
  unfold bs
  rw [List.getD_eq_getElem?_getD, List.getElem?_map, List.getElem?_eq_getElem h]; rfl
theorem extract_mk (s : ByteArray) (a b : Nat) : s.extract a b = mkB ((s.data.toList.take b).drop a) := by
  apply ByteArray.ext
  apply Array.ext'
  rw [ByteArray.data_extract, Array.toList_extract]
  unfold mkB
  simp [List.drop_take]
theorem split_words (s : ByteArray) : ∀ (f i fr : Nat) (out : List ByteArray), s.size + 2 ≤ i + f → fr ≤ i → i ≤ s.size + 1 → (i = s.size + 1 → fr = i) →
    splitL s f i fr out = out ++ (wordsF (s.data.toList.drop i) ((s.data.toList.take i).drop fr)).map mkB := by
  have hlen : s.data.toList.length = s.size := by rw [Array.length_toList]; rfl
  intro f
  induction f with
  | zero => intro i fr out h1 h2 h3; omega
  | succ f ih =>
    intro i fr out h1 h2 h3 h4
    unfold splitL
    by_cases hi : s.size < i
    · rw [if_pos hi]
      have : fr = i := h4 (by omega)
      subst this
      rw [List.drop_eq_nil_of_le (by omega), List.drop_eq_nil_of_le (by rw [List.length_take]; omega)]
      simp [wordsF]
    · rw [if_neg hi]
      by_cases he : i = s.size
      · rw [if_pos (.inl he), ih (i + 1) (i + 1) _ (by omega) (Nat.le_refl _) (by omega) (fun _ => rfl)]
        rw [List.drop_eq_nil_of_le (show s.data.toList.length ≤ i + 1 by omega), List.drop_eq_nil_of_le (show (s.data.toList.take (i + 1)).length ≤ i + 1 by rw [List.length_take]; omega), List.drop_eq_nil_of_le (show s.data.toList.length ≤ i by omega)]
        by_cases hf : fr < i
        · rw [if_pos hf]
          have hne : (s.data.toList.take i).drop fr ≠ [] := by
            intro e
            have := congrArg List.length e
            rw [List.length_drop, List.length_take] at this
            simp at this
            omega
          simp [wordsF, hne, extract_mk]
        · rw [if_neg hf]
          have hne : (s.data.toList.take i).drop fr = [] := List.drop_eq_nil_of_le (by rw [List.length_take]; omega)
          simp [wordsF, hne]
      · have hlt : i < s.data.toList.length := by omega
        rw [List.drop_eq_getElem_cons hlt]
        by_cases hc : s.data.toList[i] = 32
        · rw [if_pos (.inr (by rw [bs_at hlt, hc]; rfl)), ih (i + 1) (i + 1) _ (by omega) (Nat.le_refl _) (by omega) (fun _ => rfl)]
          rw [List.drop_eq_nil_of_le (show (s.data.toList.take (i + 1)).length ≤ i + 1 by rw [List.length_take]; omega)]
          conv => rhs; unfold wordsF
          rw [if_pos hc]
          by_cases hf : fr < i
          · have hne : (s.data.toList.take i).drop fr ≠ [] := by
              intro e
              have := congrArg List.length e
              rw [List.length_drop, List.length_take] at this
              simp at this
              omega
            rw [if_pos hf, if_neg hne, extract_mk]; simp
          · have hne : (s.data.toList.take i).drop fr = [] := List.drop_eq_nil_of_le (by rw [List.length_take]; omega)
            rw [if_neg hf, if_pos hne]
        · rw [if_neg (by
            intro h
            rcases h with h | h
            · exact he h
            · rw [bs_at hlt] at h
              exact hc (UInt8.toNat_inj.1 (by rw [show (32 : UInt8).toNat = 32 from rfl]; omega)))]
          rw [ih (i + 1) fr _ (by omega) (by omega) (by omega) (by omega)]
          conv => rhs; unfold wordsF
          rw [if_neg hc]
          rw [List.take_succ_eq_append_getElem hlt, List.drop_append_of_le_length (by rw [List.length_take]; omega)]
theorem splitI_words (s : ByteArray) : splitI s = (wordsF s.data.toList []).map mkB := by
  unfold splitI
  rw [split_words s (s.size + 2) 0 0 [] (by omega) (Nat.le_refl _) (by omega) (by omega)]
  simp
theorem words_blank : ∀ l : List UInt8, wordsF l [] = wordsF (l.dropWhile (· == 32)) []
  | [] => rfl
  | c :: r => by
    by_cases h : c = 32
    · subst h
      conv => lhs; unfold wordsF
      rw [if_pos rfl, if_pos rfl, words_blank r]; rfl
    · rw [List.dropWhile_cons_of_neg (by simpa using h)]
theorem words_acc : ∀ (l acc : List UInt8), acc ≠ [] → wordsF l acc = (acc ++ l.takeWhile (· != 32)) :: wordsF ((l.dropWhile (· != 32)).drop 1) []
  | [], acc, h => by simp [wordsF, h]
  | c :: r, acc, h => by
    by_cases hc : c = 32
    · subst hc
      conv => lhs; unfold wordsF
      rw [if_pos rfl, if_neg h]
      simp
    · conv => lhs; unfold wordsF
      rw [if_neg hc, words_acc r (acc ++ [c]) (by simp)]
      rw [List.takeWhile_cons_of_pos (by simpa using hc), List.dropWhile_cons_of_pos (by simpa using hc)]
      simp
/-- The first word of bytes, and what stands behind it. -/
def nextU (l : List UInt8) : List UInt8 × List UInt8 := ((l.dropWhile (· == 32)).takeWhile (· != 32), ((l.dropWhile (· == 32)).dropWhile (· != 32)).drop 1)
theorem dropWhile_head (l : List UInt8) : l.dropWhile (· == 32) = [] ∨ ∃ c r, l.dropWhile (· == 32) = c :: r ∧ c ≠ 32 := by
  induction l with
  | nil => exact .inl rfl
  | cons a r ih =>
    by_cases h : a = 32
    · subst h; simpa using ih
    · exact .inr ⟨a, r, List.dropWhile_cons_of_neg (by simpa using h), h⟩
theorem next_none {l : List UInt8} (h : (nextU l).1 = []) : wordsF l [] = [] ∧ l.dropWhile (· == 32) = [] := by
  rw [words_blank]
  rcases dropWhile_head l with e | ⟨c, r, e, hc⟩
  · rw [e]; exact ⟨rfl, rfl⟩
  · unfold nextU at h
    rw [e, List.takeWhile_cons_of_pos (by simpa using hc)] at h
    cases h
theorem next_some {l : List UInt8} (h : (nextU l).1 ≠ []) : wordsF l [] = (nextU l).1 :: wordsF (nextU l).2 [] := by
  rw [words_blank]
  rcases dropWhile_head l with e | ⟨c, r, e, hc⟩
  · unfold nextU at h
    rw [e] at h
    exact absurd rfl h
  · unfold nextU
    rw [e]
    conv => lhs; unfold wordsF
    rw [if_neg hc, List.nil_append, words_acc r [c] (by simp)]
    rw [List.takeWhile_cons_of_pos (by simpa using hc), List.dropWhile_cons_of_pos (by simpa using hc)]
    rfl
/-- What the library's TrimLeft and Cut make of it. -/
theorem cut_next (r : List UInt8) : (Lib.cut r [32]).1 = r.takeWhile (· != 32) ∧ (Lib.cut r [32]).2.1 = (r.dropWhile (· != 32)).drop 1 := by
  induction r with
  | nil => exact ⟨rfl, rfl⟩
  | cons c r ih =>
    unfold Lib.cut at ih ⊢
    rw [Lib.index_one] at ih ⊢
    unfold Lib.indexByte
    have hge := Lib.indexByte_ge r 32
    by_cases hc : c = 32
    · subst hc
      simp
    · have hc2 : (c == 32) = false := by simpa using hc
      rw [hc2, List.takeWhile_cons_of_pos (by simpa using hc), List.dropWhile_cons_of_pos (by simpa using hc)]
      by_cases hm : Lib.indexByte r 32 = -1
      · rw [hm] at ih ⊢
        simp at ih ⊢
        exact ⟨ih.1, ih.2⟩
      · have h0 : 0 ≤ Lib.indexByte r 32 := by omega
        have hm2 : (Lib.indexByte r 32 == -1) = false := by simpa using hm
        rw [if_pos h0] at ih
        rw [hm2]
        simp only [Bool.false_eq_true, if_false]
        rw [if_pos (show 0 ≤ Lib.indexByte r 32 + 1 by omega)]
        have hn : (Lib.indexByte r 32 + 1).toNat = (Lib.indexByte r 32).toNat + 1 := by omega
        rw [hn]
        refine ⟨by simpa using ih.1, ?_⟩
        have := ih.2
        simp only [List.length_singleton] at this ⊢
        rw [show (Lib.indexByte r 32).toNat + 1 + 1 = ((Lib.indexByte r 32).toNat + 1) + 1 from rfl, List.drop_succ_cons]
        exact this
/-! ### numbers -/
theorem numB_dec (n : Nat) : (numB n).data.toList = Lib.decDigits n := by
  induction n using Nat.strongRecOn with
  | ind n ih =>
    by_cases h : n < 10
    · rw [numB_small h, Lib.decDigits, dif_pos h]; rfl
    · rw [numB_great h, Lib.decDigits, dif_neg h, ByteArray.data_append, Array.toList_append, ih (n / 10) (by omega)]; rfl
theorem numberI_itoa (n : Int) : (numberI n).data.toList = Lib.itoa n := by
  unfold numberI Lib.itoa
  by_cases h : n < 0
  · rw [if_pos h, if_pos h, ByteArray.data_append, Array.toList_append, numB_dec, show (-n).toNat = n.natAbs by omega]; rfl
  · rw [if_neg h, if_neg h, numB_dec]
theorem itoa_mk (n : Int) : (⟨(Lib.itoa n).toArray⟩ : ByteArray) = numberI n := by
  rw [← numberI_itoa]
end Go.Proofs.YtjpbbonkmnbabaaDoor
