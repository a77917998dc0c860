/-
  What is proved here: plain words: a symbol's 24 bytes; what Table makes of bytes; what Check tells of a list of symbols.
  Conditions: none; nothing here speaks of the program.
-/
import Derived.Test.YtpodnhieaboddaaSymWords
import Derived.Test.YtpodnhieaboddaaNum
namespace Go.Proofs.Ytpodnhieaboddaa
open Go.RowKit
set_option linter.unusedVariables false

theorem piece_mid' {A B C : List Int} {p n : Nat} (hp : A.length = p) (hn : B.length = n) : piece (A ++ (B ++ C)) p n = B := by
  subst hp; subst hn
  unfold piece
  rw [List.drop_left, List.take_left]
/-! ### bytes -/
def encY (s : Sy) : List Int := digs s.na 4 ++ ([s.inf, s.ot] ++ (digs s.se 2 ++ (digs s.va 8 ++ digs s.si 8)))
theorem encY_len (s : Sy) : (encY s).length = 24 := by simp only [encY, List.length_append, digs_len, List.length_cons, List.length_nil]
theorem encY_bd {s : Sy} (h : s.Ok) : ∀ n ∈ encY s, 0 ≤ n ∧ n ≤ 255 := by
  intro n hn
  simp only [encY, List.mem_append, List.mem_cons, List.not_mem_nil, or_false] at hn
  rcases hn with h1 | (rfl | rfl) | h1 | h1 | h1
  · exact digs_bd _ _ n h1
  · exact h.inf
  · exact h.ot
  · exact digs_bd _ _ n h1
  · exact digs_bd _ _ n h1
  · exact digs_bd _ _ n h1
/-- The symbol number k of bytes. -/
def symAt (zs : List Int) (k : Nat) : Sy := ⟨num (piece zs (24 * k) 4), zs.getD (24 * k + 4) 0, zs.getD (24 * k + 5) 0, num (piece zs (24 * k + 6) 2), num (piece zs (24 * k + 8) 8), num (piece zs (24 * k + 16) 8)⟩
theorem getD_bd' {zs : List Int} (hb : ∀ n ∈ zs, 0 ≤ n ∧ n ≤ 255) {i : Nat} (h : i < zs.length) : 0 ≤ zs.getD i 0 ∧ zs.getD i 0 ≤ 255 := by
  rw [List.getD_eq_getElem?_getD, List.getElem?_eq_getElem h]
  exact hb _ (List.getElem_mem h)
theorem symAt_ok {zs : List Int} (hb : ∀ n ∈ zs, 0 ≤ n ∧ n ≤ 255) {k : Nat} (h : 24 * k + 24 ≤ zs.length) : (symAt zs k).Ok := by
  have h0 := num_piece_lt (p := 24 * k) (k := 4) hb (by omega)
  have h3 := num_piece_lt (p := 24 * k + 6) (k := 2) hb (by omega)
  have h4 := num_piece_lt (p := 24 * k + 8) (k := 8) hb (by omega)
  have h5 := num_piece_lt (p := 24 * k + 16) (k := 8) hb (by omega)
  have h1 := getD_bd' (i := 24 * k + 4) hb (by omega)
  have h2 := getD_bd' (i := 24 * k + 5) hb (by omega)
  constructor <;> simp only [symAt] <;> omega
def tabS (zs : List Int) (n : Nat) : List Sy := (List.range n).map (symAt zs)
theorem tabS_len (zs : List Int) (n : Nat) : (tabS zs n).length = n := by simp [tabS]
theorem tabS_succ (zs : List Int) (k : Nat) : tabS zs (k + 1) = tabS zs k ++ [symAt zs k] := by simp [tabS, List.range_succ]
theorem tabS_ok {zs : List Int} {n : Nat} (hb : ∀ x ∈ zs, 0 ≤ x ∧ x ≤ 255) (hl : 24 * n ≤ zs.length) : ∀ s ∈ tabS zs n, s.Ok := by
  intro s hs
  simp only [tabS, List.mem_map, List.mem_range] at hs
  obtain ⟨k, hk, rfl⟩ := hs
  exact symAt_ok hb (by omega)
/-- The error, and the symbols. -/
def tabY (zs : List Int) : Int × List Sy := if zs.length % 24 = 0 then (0, tabS zs (zs.length / 24)) else (10, [])
theorem tabY_ok {zs : List Int} (hb : ∀ x ∈ zs, 0 ≤ x ∧ x ≤ 255) : ∀ s ∈ (tabY zs).2, s.Ok := by
  unfold tabY
  split
  · exact tabS_ok hb (by omega)
  · intro s hs; cases hs
/-- All bytes of some. -/
def flatE (L : List Sy) : List Int := L.flatMap encY
theorem flatE_len : ∀ L : List Sy, (flatE L).length = 24 * L.length
  | [] => rfl
  | s :: L => by
    have := flatE_len L
    unfold flatE at this ⊢
    rw [List.flatMap_cons, List.length_append, encY_len, this, List.length_cons]; omega
theorem flatE_bd {L : List Sy} (h : ∀ s ∈ L, s.Ok) : ∀ n ∈ flatE L, 0 ≤ n ∧ n ≤ 255 := by
  intro n hn
  obtain ⟨s, hs, he⟩ := List.mem_flatMap.1 hn
  exact encY_bd (h s hs) n he
theorem flatE_snoc (L : List Sy) (s : Sy) : flatE (L ++ [s]) = flatE L ++ encY s := by
  unfold flatE; rw [List.flatMap_append]; simp
theorem getD_mid {A B C : List Int} {p j : Nat} (hp : A.length = p) (hj : j < B.length) : (A ++ (B ++ C)).getD (p + j) 0 = B.getD j 0 := by
  subst hp
  rw [List.getD_eq_getElem?_getD, List.getElem?_append_right (by omega), List.getElem?_append_left (by omega), List.getD_eq_getElem?_getD]
  congr 2; omega
theorem symAt_mid (A C : List Int) (s : Sy) (h : s.Ok) (k : Nat) (hA : A.length = 24 * k) : symAt (A ++ (encY s ++ C)) k = s := by
  obtain ⟨⟨a0, a1⟩, ⟨b0, b1⟩, ⟨c0, c1⟩, ⟨d0, d1⟩, ⟨e0, e1⟩, ⟨f0, f1⟩⟩ := h
  obtain ⟨na, inf, ot, se, va, si⟩ := s
  simp only at a0 a1 b0 b1 c0 c1 d0 d1 e0 e1 f0 f1
  have E : A ++ (encY ⟨na, inf, ot, se, va, si⟩ ++ C) = A ++ (digs na 4 ++ ([inf, ot] ++ (digs se 2 ++ (digs va 8 ++ (digs si 8 ++ C))))) := by simp [encY]
  have E2 : A ++ (encY ⟨na, inf, ot, se, va, si⟩ ++ C) = (A ++ digs na 4) ++ ([inf, ot] ++ (digs se 2 ++ (digs va 8 ++ (digs si 8 ++ C)))) := by simp [encY]
  have E3 : A ++ (encY ⟨na, inf, ot, se, va, si⟩ ++ C) = (A ++ digs na 4 ++ [inf, ot]) ++ (digs se 2 ++ (digs va 8 ++ (digs si 8 ++ C))) := by simp [encY]
  have E4 : A ++ (encY ⟨na, inf, ot, se, va, si⟩ ++ C) = (A ++ digs na 4 ++ [inf, ot] ++ digs se 2) ++ (digs va 8 ++ (digs si 8 ++ C)) := by simp [encY]
  have E5 : A ++ (encY ⟨na, inf, ot, se, va, si⟩ ++ C) = (A ++ digs na 4 ++ [inf, ot] ++ digs se 2 ++ digs va 8) ++ (digs si 8 ++ C) := by simp [encY]
  have l2 : (A ++ digs na 4).length = 24 * k + 4 := by simp [digs_len, hA]
  have l3 : (A ++ digs na 4 ++ [inf, ot]).length = 24 * k + 6 := by simp [digs_len, hA]
  have l4 : (A ++ digs na 4 ++ [inf, ot] ++ digs se 2).length = 24 * k + 8 := by simp [digs_len, hA]
  have l5 : (A ++ digs na 4 ++ [inf, ot] ++ digs se 2 ++ digs va 8).length = 24 * k + 16 := by simp [digs_len, hA]
  have g1 : (A ++ (encY ⟨na, inf, ot, se, va, si⟩ ++ C)).getD (24 * k + 4) 0 = inf := by rw [E2]; exact getD_mid (j := 0) l2 (by simp)
  have g2 : (A ++ (encY ⟨na, inf, ot, se, va, si⟩ ++ C)).getD (24 * k + 5) 0 = ot := by rw [E2]; exact getD_mid (j := 1) l2 (by simp)
  have p1 : piece (A ++ (encY ⟨na, inf, ot, se, va, si⟩ ++ C)) (24 * k) 4 = digs na 4 := by rw [E]; exact piece_mid' hA (digs_len _ _)
  have p3 : piece (A ++ (encY ⟨na, inf, ot, se, va, si⟩ ++ C)) (24 * k + 6) 2 = digs se 2 := by rw [E3]; exact piece_mid' l3 (digs_len _ _)
  have p4 : piece (A ++ (encY ⟨na, inf, ot, se, va, si⟩ ++ C)) (24 * k + 8) 8 = digs va 8 := by rw [E4]; exact piece_mid' l4 (digs_len _ _)
  have p5 : piece (A ++ (encY ⟨na, inf, ot, se, va, si⟩ ++ C)) (24 * k + 16) 8 = digs si 8 := by rw [E5]; exact piece_mid' l5 (digs_len _ _)
  unfold symAt
  rw [g1, g2, p1, p3, p4, p5, num_digs a0, num_digs d0, num_digs e0, num_digs f0]
  have q1 : na % 256 ^ 4 = na := by omega
  have q2 : se % 256 ^ 2 = se := by omega
  have q3 : va % 256 ^ 8 = va := by omega
  have q4 : si % 256 ^ 8 = si := by omega
  rw [q1, q2, q3, q4]
theorem symAt_flat {L : List Sy} {C : List Int} (h : ∀ s ∈ L, s.Ok) {k : Nat} (hk : k < L.length) : symAt (flatE L ++ C) k = L.getD k Sy.zero := by
  have e : flatE L ++ C = flatE (L.take k) ++ (encY (L.getD k Sy.zero) ++ (flatE (L.drop (k + 1)) ++ C)) := by
    have e1 : L = L.take k ++ L.getD k Sy.zero :: L.drop (k + 1) := by
      rw [List.getD_eq_getElem?_getD, List.getElem?_eq_getElem hk]
      simp
    conv => lhs; rw [e1]
    unfold flatE
    rw [List.flatMap_append, List.flatMap_cons]
    simp only [List.append_assoc]
  rw [e]
  refine symAt_mid _ _ _ (h _ (Sy.getD_mem hk)) k ?_
  rw [flatE_len, List.length_take]; omega
theorem tabS_flat {L : List Sy} {C : List Int} (h : ∀ s ∈ L, s.Ok) : tabS (flatE L ++ C) L.length = L := by
  apply List.ext_getElem (tabS_len _ _)
  intro i h1 h2
  have := symAt_flat (C := C) h h2
  simp only [tabS, List.getElem_map, List.getElem_range]
  rw [this, List.getD_eq_getElem?_getD, List.getElem?_eq_getElem h2]; rfl
/-- What is put, one behind the other, is read. -/
theorem tabY_flat {L : List Sy} (h : ∀ s ∈ L, s.Ok) : tabY (flatE L) = (0, L) := by
  have := tabS_flat (C := []) h
  rw [List.append_nil] at this
  unfold tabY
  rw [flatE_len, if_pos (by omega), show 24 * L.length / 24 = L.length by omega, this]
theorem tabY_more {L : List Sy} (c : Int) : tabY (flatE L ++ [c]) = (10, []) := by
  unfold tabY
  rw [List.length_append, flatE_len, if_neg (by simp)]

/-! ### Check -/
/-- Is the one of number k wrong? -/
def badY (k : Nat) (s : Sy) : Bool :=
  if k = 0 then decide (¬ (s.na = 0 ∧ s.inf = 0 ∧ s.ot = 0 ∧ s.se = 0 ∧ s.va = 0 ∧ s.si = 0))
  else decide (2 < s.inf / 16 ∨ ¬ (s.inf % 16 = 0 ∨ s.inf % 16 = 1 ∨ s.inf % 16 = 2 ∨ s.inf % 16 = 6) ∨ s.ot ≠ 0 ∨ 1 < s.se ∨ s.na = 0 ∨ (s.se = 0 ∧ (s.va ≠ 0 ∨ s.si ≠ 0 ∨ s.inf / 16 = 0)))
def checkY (L : List Sy) : Int := if (List.range L.length).any (fun k => badY k (L.getD k Sy.zero)) then 11 else 0
theorem checkY_bad {L : List Sy} {k : Nat} (hk : k < L.length) (h : badY k (L.getD k Sy.zero) = true) : checkY L = 11 := by
  unfold checkY
  rw [if_pos]
  exact List.any_eq_true.2 ⟨k, List.mem_range.2 hk, h⟩
theorem checkY_good {L : List Sy} (h : ∀ k, k < L.length → badY k (L.getD k Sy.zero) = false) : checkY L = 0 := by
  unfold checkY
  rw [if_neg]
  intro hh
  obtain ⟨k, hk, hb⟩ := List.any_eq_true.1 hh
  rw [h k (List.mem_range.1 hk)] at hb
  cases hb
theorem bad_upto {L : List Sy} {k : Nat} (h : ∀ j, j < k → badY j (L.getD j Sy.zero) = false) (hk : badY k (L.getD k Sy.zero) = false) : ∀ j, j < k + 1 → badY j (L.getD j Sy.zero) = false := by
  intro j hj
  by_cases e : j = k
  · subst e; exact hk
  · exact h j (by omega)
end Go.Proofs.Ytpodnhieaboddaa
