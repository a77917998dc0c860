/-
  What is proved here: plain words on lines: the library's pieces between line feeds are the model's lines; the bytes of lines, line by line (codeS), are the model's (codeI).
  Conditions: none; nothing here speaks of the program.
-/
import Derived.Test.YtjpbbonkmnbabaaDoorIsaWrd
import Derived.Lib.Split
namespace Go.Proofs.YtjpbbonkmnbabaaDoor
open Go.RowKit
set_option linter.unusedVariables false
set_option linter.unusedSimpArgs false

/-- The lines of bytes, the one under way being acc. -/
def linesF : List UInt8 → List UInt8 → List (List UInt8)
  | [], acc => [acc]
  | c :: r, acc => if c = 10 then acc :: linesF r [] else linesF r (acc ++ [c])
/-- The bytes of lines, from line number 'line' on, behind out. -/
def codeS : List ByteArray → Int → List Int → List Int × Int × Int
  | [], _, out => (out, 0, 0)
  | L :: r, line, out => if skipI L = true then codeS r (line + 1) out else if (parseI L).2 ≠ 0 then ([], (parseI L).2, line + 1) else codeS r (line + 1) (out ++ digs (encI (parseI L).1).1 8)
theorem code_lines (s : ByteArray) : ∀ (f i fr : Nat) (line : Int) (out : List Int), s.size + 2 ≤ i + f → fr ≤ i → i ≤ s.size →
    codeL s f i fr line out = codeS ((linesF (s.data.toList.drop i) ((s.data.toList.take i).drop fr)).map mkB) line out := by
  have hlen : s.data.toList.length = s.size := by rw [Array.length_toList]; rfl
  have hend : ∀ f i fr line out, s.size < i → codeL s f i fr line out = (out, 0, 0) := by
    intro f i fr line out h
    cases f with
    | zero => rfl
    | succ f => unfold codeL; rw [if_pos h]
  intro f
  induction f with
  | zero => intro i fr line out h1 h2 h3; omega
  | succ f ih =>
    intro i fr line out h1 h2 h3
    unfold codeL
    rw [if_neg (by omega)]
    by_cases he : i = s.size
    · rw [if_neg (by omega), List.drop_eq_nil_of_le (show s.data.toList.length ≤ i by omega)]
      simp only [linesF, List.map_cons, List.map_nil, codeS]
      rw [← extract_mk, hend _ _ _ _ _ (by omega), hend _ _ _ _ _ (by omega)]
    · have hlt : i < s.data.toList.length := by omega
      rw [List.drop_eq_getElem_cons hlt]
      conv => rhs; unfold linesF
      by_cases hc : s.data.toList[i] = 10
      · rw [if_neg (fun h => h.2 (by rw [bs_at hlt, hc]; rfl)), if_pos hc]
        rw [ih (i + 1) (i + 1) (line + 1) out (by omega) (Nat.le_refl _) (by omega), ih (i + 1) (i + 1) (line + 1) _ (by omega) (Nat.le_refl _) (by omega)]
        rw [List.drop_eq_nil_of_le (show (s.data.toList.take (i + 1)).length ≤ i + 1 by rw [List.length_take]; omega)]
        simp only [List.map_cons, codeS]
        rw [← extract_mk]
      · rw [if_pos ⟨by omega, fun h => hc (UInt8.toNat_inj.1 (by rw [bs_at hlt] at h; rw [show (10 : UInt8).toNat = 10 from rfl]; omega))⟩, if_neg hc]
        rw [ih (i + 1) fr line out (by omega) (by omega) (by omega), List.take_succ_eq_append_getElem hlt, List.drop_append_of_le_length (by rw [List.length_take]; omega)]
theorem codeI_lines {s : ByteArray} (h : ¬ 65536 < s.size) : codeI s = codeS ((linesF s.data.toList []).map mkB) 0 [] := by
  unfold codeI
  rw [if_neg h, code_lines s (s.size + 2) 0 0 0 [] (by omega) (Nat.le_refl _) (Nat.zero_le _)]
  simp
theorem lines_cut : ∀ (l acc : List UInt8), (Lib.indexByte l 10 = -1 ∧ l.count 10 = 0 ∧ linesF l acc = [acc ++ l]) ∨
    ∃ i : Nat, Lib.indexByte l 10 = i ∧ l.count 10 = 1 + (l.drop (i + 1)).count 10 ∧ linesF l acc = (acc ++ l.take i) :: linesF (l.drop (i + 1)) []
  | [], acc => .inl ⟨rfl, rfl, by simp [linesF]⟩
  | c :: r, acc => by
    by_cases hc : c = 10
    · subst hc
      refine .inr ⟨0, by simp [Lib.indexByte], ?_, ?_⟩
      · rw [List.count_cons_self, Nat.add_comm]; rfl
      · conv => lhs; unfold linesF
        simp
    · have hne : (c == 10) = false := by simpa using hc
      rcases lines_cut r (acc ++ [c]) with ⟨h1, h2, h3⟩ | ⟨i, h1, h2, h3⟩
      · refine .inl ⟨?_, ?_, ?_⟩
        · unfold Lib.indexByte; rw [hne, h1]; rfl
        · rw [List.count_cons_of_ne (fun e => hc e)]; exact h2
        · conv => lhs; unfold linesF
          rw [if_neg hc, h3]; simp
      · refine .inr ⟨i + 1, ?_, ?_, ?_⟩
        · unfold Lib.indexByte
          rw [hne, h1]
          have : ¬ ((i : Int) == -1) = true := by simp
          simp only [Bool.false_eq_true, if_false]
          rw [if_neg this]; omega
        · rw [List.count_cons_of_ne (fun e => hc e), List.drop_succ_cons]; exact h2
        · conv => lhs; unfold linesF
          rw [if_neg hc, h3]; simp
theorem split_lines : ∀ (k : Nat) (l : List UInt8), l.count 10 = k → Lib.splitK [10] 0 k l = linesF l []
  | 0, l, h => by
    rcases lines_cut l [] with ⟨_, _, h3⟩ | ⟨i, _, h2, _⟩
    · rw [h3]; rfl
    · omega
  | k + 1, l, h => by
    rcases lines_cut l [] with ⟨_, h2, _⟩ | ⟨i, h1, h2, h3⟩
    · omega
    · unfold Lib.splitK
      rw [Lib.index_one, h1]
      have hm : ¬ ((i : Int) == -1) = true := by simp
      rw [if_neg hm, split_lines k _ (by simp; omega), h3]
      simp
theorem splitB_lines (s : ByteArray) : Lib.splitB ⟨#[10]⟩ 0 (Lib.countB s ⟨#[10]⟩) s = (linesF s.data.toList []).map mkB := by
  have h := Lib.splitB_data ⟨#[10]⟩ 0 (Lib.countB s ⟨#[10]⟩) s
  have hc : Lib.countB s ⟨#[10]⟩ = s.data.toList.count 10 := Lib.count_one 10 s.data.toList
  have h2 := split_lines _ s.data.toList hc.symm
  rw [show (⟨#[10]⟩ : ByteArray).data.toList = [10] from rfl, h2] at h
  rw [← h, List.map_map]
  have : ∀ L : List ByteArray, L.map (mkB ∘ fun x => x.data.toList) = L := by
    intro L
    induction L with
    | nil => rfl
    | cons a r ih => rw [List.map_cons, ih]; simp [mkB_toList]
  rw [this]
theorem lines_size : ∀ (l acc : List UInt8), ∀ t ∈ linesF l acc, t.length ≤ acc.length + l.length
  | [], acc, t, h => by
    rw [linesF, List.mem_singleton] at h
    subst h; simp
  | c :: r, acc, t, h => by
    unfold linesF at h
    split at h
    · rcases List.mem_cons.1 h with rfl | h
      · simp
      · have := lines_size r [] t h
        simp at this ⊢; omega
    · have := lines_size r (acc ++ [c]) t h
      simp at this ⊢; omega
theorem lines_count : ∀ (l acc : List UInt8), (linesF l acc).length ≤ l.length + 1
  | [], acc => by simp [linesF]
  | c :: r, acc => by
    unfold linesF
    split
    · have := lines_count r []
      simp; omega
    · have := lines_count r (acc ++ [c])
      simp; omega
end Go.Proofs.YtjpbbonkmnbabaaDoor
