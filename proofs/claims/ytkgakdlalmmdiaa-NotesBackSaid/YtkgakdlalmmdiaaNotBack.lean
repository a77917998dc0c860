/-
  What is proved here: plain words: what Put makes is what Get tells.
  Conditions: none; nothing here speaks of the program.
-/
import Derived.Test.YtkgakdlalmmdiaaNotMath
namespace Go.Proofs.Ytkgakdlalmmdiaa
open Go.RowKit
set_option linter.unusedVariables false

theorem piece_mid' {A B C : List Int} {p n : Nat} (hp : A.length = p) (hn : B.length = n) : piece (A ++ (B ++ C)) p n = B := by
  subst hp; subst hn
  unfold piece
  rw [List.drop_left, List.take_left]
theorem getD_mid {A B C : List Int} {p j : Nat} (hp : A.length = p) (hj : j < B.length) : (A ++ (B ++ C)).getD (p + j) 0 = B.getD j 0 := by
  subst hp
  rw [List.getD_eq_getElem?_getD, List.getElem?_append_right (by omega), List.getElem?_append_left (by omega), List.getD_eq_getElem?_getD]
  congr 2; omega
theorem zeroIn_no {d : Nd} (h : zeroIn d = false) {i : Nat} (hi : i < d.na.length) : d.na.getD i 0 ≠ 0 := by
  intro e
  have : zeroIn d = true := List.any_eq_true.2 ⟨d.na[i], List.getElem_mem hi, by
    rw [List.getD_eq_getElem?_getD, List.getElem?_eq_getElem hi] at e
    simpa using e⟩
  rw [this] at h; cases h
theorem getD_pad (zs : List Int) (i : Nat) : (padN zs).getD i 0 = zs.getD i 0 := by
  unfold padN
  by_cases hi : i < zs.length
  · rw [List.getD_eq_getElem?_getD, List.getElem?_append_left hi, List.getD_eq_getElem?_getD]
  · rw [List.getD_eq_getElem?_getD, List.getElem?_append_right (by omega), List.getD_eq_getElem?_getD, List.getElem?_eq_none (l := zs) (by omega)]
    rw [List.getElem?_replicate]
    split <;> rfl
theorem getD_zero (na : List Int) {i : Nat} (hi : na.length ≤ i) : (na ++ [0]).getD i 0 = 0 := by
  rw [List.getD_eq_getElem?_getD, List.getElem?_append_right hi]
  by_cases e : i - na.length = 0
  · rw [e]; rfl
  · rw [List.getElem?_eq_none (by simp; omega)]; rfl
/-- One step over an encoding. -/
theorem loop_enc {A C : List Int} {d : Nd} (hd : d.Ok) (hz : zeroIn d = false) (h1 : d.na.length < 4294967295) (h2 : d.de.length ≤ 4294967295) (f : Nat) (out : List Nd) :
    loopN (A ++ (encN d ++ C)) (f + 1) A.length out = loopN (A ++ (encN d ++ C)) f (A.length + (encN d).length) (out ++ [d]) := by
  obtain ⟨na, ty, de⟩ := d
  obtain ⟨hna, hty, hde⟩ := hd
  simp only at hna hty hde h1 h2
  obtain ⟨zs, hzs⟩ : ∃ zs, A ++ (encN ⟨na, ty, de⟩ ++ C) = zs := ⟨_, rfl⟩
  have E1 : zs = A ++ (digs (na.length + 1 : Nat) 4 ++ (digs (de.length : Nat) 4 ++ (digs ty 4 ++ (padN (na ++ [0]) ++ (padN de ++ C))))) := by rw [← hzs]; simp [encN, headN]
  have E2 : zs = (A ++ digs (na.length + 1 : Nat) 4) ++ (digs (de.length : Nat) 4 ++ (digs ty 4 ++ (padN (na ++ [0]) ++ (padN de ++ C)))) := by rw [E1]; simp
  have E3 : zs = (A ++ digs (na.length + 1 : Nat) 4 ++ digs (de.length : Nat) 4) ++ (digs ty 4 ++ (padN (na ++ [0]) ++ (padN de ++ C))) := by rw [E1]; simp
  have E4 : zs = (A ++ digs (na.length + 1 : Nat) 4 ++ digs (de.length : Nat) 4 ++ digs ty 4) ++ (padN (na ++ [0]) ++ (padN de ++ C)) := by rw [E1]; simp
  have E5 : zs = (A ++ digs (na.length + 1 : Nat) 4 ++ digs (de.length : Nat) 4 ++ digs ty 4 ++ padN (na ++ [0])) ++ (padN de ++ C) := by rw [E1]; simp
  have hpl : (padN (na ++ [0])).length = upN (na.length + 1) := by rw [padN_len, List.length_append]; rfl
  have hpd : (padN de).length = upN de.length := padN_len de
  have l2 : (A ++ digs (na.length + 1 : Nat) 4).length = A.length + 4 := by simp [digs_len]
  have l3 : (A ++ digs (na.length + 1 : Nat) 4 ++ digs (de.length : Nat) 4).length = A.length + 8 := by simp [digs_len]
  have l4 : (A ++ digs (na.length + 1 : Nat) 4 ++ digs (de.length : Nat) 4 ++ digs ty 4).length = A.length + 12 := by simp [digs_len]
  have l5 : (A ++ digs (na.length + 1 : Nat) 4 ++ digs (de.length : Nat) 4 ++ digs ty 4 ++ padN (na ++ [0])).length = A.length + 12 + upN (na.length + 1) := by rw [List.length_append, l4, hpl]
  have hlen : zs.length = A.length + 12 + upN (na.length + 1) + upN de.length + C.length := by rw [E5, List.length_append, l5, List.length_append, hpd]; omega
  have n1 : numAt zs A.length = na.length + 1 := by
    unfold numAt
    rw [E1, piece_mid' rfl (digs_len _ _), num_digs (by omega)]; omega
  have n2 : numAt zs (A.length + 4) = de.length := by
    unfold numAt
    rw [E2, piece_mid' l2 (digs_len _ _), num_digs (by omega)]; omega
  have n3 : ((numAt zs (A.length + 8) : Nat) : Int) = ty := by
    unfold numAt
    rw [E3, piece_mid' l3 (digs_len _ _), num_digs hty.1]; omega
  have u1 := upN_le (na.length + 1)
  have u2 := upN_le de.length
  have k1 : nameOk zs (A.length + 12) (na.length + 1) = true := by
    unfold nameOk
    rw [List.all_eq_true]
    intro i hi
    have hi' := List.mem_range.1 hi
    have e : zs.getD (A.length + 12 + i) 0 = (na ++ [0]).getD i 0 := by
      rw [E4, getD_mid l4 (by rw [hpl]; exact hi'), getD_pad]
    rw [e, decide_eq_true_eq]
    refine propext ⟨fun h => ?_, fun h => getD_zero na (by omega)⟩
    by_cases hlt : i < na.length
    · exfalso
      have h3 := zeroIn_no (d := ⟨na, ty, de⟩) hz hlt
      rw [List.getD_eq_getElem?_getD, List.getElem?_append_left hlt, ← List.getD_eq_getElem?_getD] at h
      exact h3 h
    · omega
  have k2 : padOk zs (A.length + 12 + upN (na.length + 1)) de.length = true := by
    unfold padOk
    rw [List.all_eq_true]
    intro i hi
    have hi' := List.mem_range.1 hi
    rw [decide_eq_true_eq]
    by_cases hlt : i < de.length
    · exact .inl hlt
    · right
      rw [E5, getD_mid l5 (by rw [hpd]; exact hi'), getD_pad, List.getD_eq_getElem?_getD, List.getElem?_eq_none (by omega)]; rfl
  have p1 : piece zs (A.length + 12) (na.length + 1 - 1) = na := by
    have E6 : zs = (A ++ digs (na.length + 1 : Nat) 4 ++ digs (de.length : Nat) 4 ++ digs ty 4) ++ (na ++ ([0] ++ (List.replicate (upN (na ++ [0]).length - (na ++ [0]).length) 0 ++ (padN de ++ C)))) := by rw [E4]; unfold padN; simp only [List.append_assoc]
    rw [Nat.add_sub_cancel, E6]
    exact piece_mid' l4 rfl
  have p2 : piece zs (A.length + 12 + upN (na.length + 1)) de.length = de := by
    have E7 : zs = (A ++ digs (na.length + 1 : Nat) 4 ++ digs (de.length : Nat) 4 ++ digs ty 4 ++ padN (na ++ [0])) ++ (de ++ (List.replicate (upN de.length - de.length) 0 ++ C)) := by rw [E5, show padN de = de ++ List.replicate (upN de.length - de.length) 0 from rfl]; simp only [List.append_assoc]
    rw [E7]
    exact piece_mid' l5 rfl
  rw [hzs]
  conv => lhs; unfold loopN
  rw [if_neg (by omega), if_neg (by omega), n1, if_neg (by omega), if_neg (by omega), k1, if_neg (by decide), n2, if_neg (by omega), k2, if_neg (by decide), p1, p2, n3]
  have el : A.length + (encN ⟨na, ty, de⟩).length = A.length + 12 + upN (na.length + 1) + upN de.length := by rw [encN_len]; simp only; omega
  rw [el]
/-- Over all encodings. -/
theorem loop_flat {L : List Nd} : ∀ {A : List Int} {f : Nat} {out : List Nd}, (∀ d ∈ L, d.Ok) → L.any zeroIn = false → (∀ d ∈ L, d.na.length < 4294967295 ∧ d.de.length ≤ 4294967295) → (flatN L).length < f →
    loopN (A ++ flatN L) f A.length out = (0, out ++ L) := by
  induction L with
  | nil =>
    intro A f out _ _ _ hf
    obtain ⟨f, rfl⟩ : ∃ g, f = g + 1 := ⟨f - 1, by omega⟩
    unfold loopN
    rw [if_pos (by simp [flatN]), List.append_nil]
  | cons d L ih =>
    intro A f out hok hz hl hf
    obtain ⟨f, rfl⟩ : ∃ g, f = g + 1 := ⟨f - 1, by omega⟩
    have hz' : zeroIn d = false ∧ L.any zeroIn = false := by simpa using hz
    have e : flatN (d :: L) = encN d ++ flatN L := by unfold flatN; rw [List.flatMap_cons]
    have hd := hl d (by simp)
    rw [e, loop_enc (hok d (by simp)) hz'.1 hd.1 hd.2]
    have el := encN_len d
    have ee : A.length + (encN d).length = (A ++ encN d).length := by simp
    rw [ee, ← List.append_assoc, ih (fun x hx => hok x (by simp [hx])) hz'.2 (fun x hx => hl x (by simp [hx])) (by rw [e, List.length_append] at hf; omega)]
    simp
/-- What is put is got. -/
theorem getN_put {L : List Nd} (hok : ∀ d ∈ L, d.Ok) (h : (putN L).1 = 0) : putN L = (0, flatN L) ∧ getN (flatN L) = (0, L) := by
  unfold putN at h ⊢
  by_cases h1 : L.any zeroIn = true
  · rw [if_pos h1] at h; simp at h
  · rw [if_neg h1] at h ⊢
    by_cases h2 : 65536 < (flatN L).length
    · rw [if_pos h2] at h; simp at h
    · rw [if_neg h2]
      refine ⟨rfl, ?_⟩
      have hl : ∀ d ∈ L, d.na.length < 4294967295 ∧ d.de.length ≤ 4294967295 := by
        intro d hd
        have : (encN d).length ≤ (flatN L).length := by
          obtain ⟨s, t, rfl⟩ := List.append_of_mem hd
          unfold flatN
          rw [List.flatMap_append, List.flatMap_cons, List.length_append, List.length_append]; omega
        rw [encN_len] at this
        have u1 := (upN_le (d.na.length + 1)).1
        have u2 := (upN_le d.de.length).1
        omega
      have := loop_flat (A := []) (f := (flatN L).length + 1) (out := []) hok (by simpa using h1) hl (by omega)
      unfold getN
      rw [if_neg h2]
      simpa using this
end Go.Proofs.Ytkgakdlalmmdiaa
