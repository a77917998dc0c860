/-
  What is proved here: plain words: what Get tells is put as it was.
  Conditions: none; nothing here speaks of the program.
-/
import Derived.Test.YtkgakdlalmmdiaaNotBack
namespace Go.Proofs.Ytkgakdlalmmdiaa
open Go.RowKit
set_option linter.unusedVariables false

theorem ext_getD {l r : List Int} (h : l.length = r.length) (hg : ∀ i, i < l.length → l.getD i 0 = r.getD i 0) : l = r := by
  apply List.ext_getElem h
  intro i h1 h2
  have := hg i h1
  rw [List.getD_eq_getElem?_getD, List.getElem?_eq_getElem h1, List.getD_eq_getElem?_getD, List.getElem?_eq_getElem h2] at this
  simpa using this
theorem num_inj : ∀ (l r : List Int), l.length = r.length → (∀ n ∈ l, 0 ≤ n ∧ n ≤ 255) → (∀ n ∈ r, 0 ≤ n ∧ n ≤ 255) → num l = num r → l = r
  | [], [], _, _, _, _ => rfl
  | [], _ :: _, h, _, _, _ => by simp at h
  | _ :: _, [], h, _, _, _ => by simp at h
  | a :: l, b :: r, h, hl, hr, e => by
    have ha := hl a (by simp)
    have hb := hr b (by simp)
    have e' : a + 256 * num l = b + 256 * num r := e
    have h1 : a = b := by omega
    have h2 : num l = num r := by omega
    rw [h1, num_inj l r (by simpa using h) (fun n hn => hl n (by simp [hn])) (fun n hn => hr n (by simp [hn])) h2]
theorem digs_num {l : List Int} (h : ∀ n ∈ l, 0 ≤ n ∧ n ≤ 255) : digs (num l) l.length = l := by
  have h1 := num_bd h
  refine num_inj _ _ (digs_len _ _) (digs_bd _ _) h ?_
  rw [num_digs h1.1]
  exact Int.emod_eq_of_lt h1.1 h1.2
theorem drop_piece {zs : List Int} (p m : Nat) : zs.drop p = piece zs p m ++ zs.drop (p + m) := by
  unfold piece
  rw [← List.drop_drop, List.take_append_drop]
theorem numAt_num {zs : List Int} (hb : ∀ n ∈ zs, 0 ≤ n ∧ n ≤ 255) {p : Nat} (h : p + 4 ≤ zs.length) : ((numAt zs p : Nat) : Int) = num (piece zs p 4) ∧ numAt zs p < 4294967296 := by
  have h1 := num_bd (piece_mem (p := p) (n := 4) hb)
  rw [piece_len h] at h1
  unfold numAt
  omega
theorem digs_at {zs : List Int} (hb : ∀ n ∈ zs, 0 ≤ n ∧ n ≤ 255) {p : Nat} (h : p + 4 ≤ zs.length) : digs (numAt zs p : Nat) 4 = piece zs p 4 := by
  rw [(numAt_num hb h).1]
  have := digs_num (piece_mem (p := p) (n := 4) hb)
  rwa [piece_len h] at this
/-- One note's bytes. -/
theorem enc_at {zs : List Int} (hb : ∀ n ∈ zs, 0 ≤ n ∧ n ≤ 255) {p : Nat} (h1 : p + 12 ≤ zs.length) (h2 : numAt zs p ≠ 0) (h3 : p + 12 + upN (numAt zs p) + upN (numAt zs (p + 4)) ≤ zs.length)
    (h4 : nameOk zs (p + 12) (numAt zs p) = true) (h5 : padOk zs (p + 12 + upN (numAt zs p)) (numAt zs (p + 4)) = true) :
    zs.drop p = encN ⟨piece zs (p + 12) (numAt zs p - 1), (numAt zs (p + 8) : Nat), piece zs (p + 12 + upN (numAt zs p)) (numAt zs (p + 4))⟩ ++ zs.drop (p + 12 + upN (numAt zs p) + upN (numAt zs (p + 4))) ∧
    Nd.Ok ⟨piece zs (p + 12) (numAt zs p - 1), (numAt zs (p + 8) : Nat), piece zs (p + 12 + upN (numAt zs p)) (numAt zs (p + 4))⟩ ∧ zeroIn ⟨piece zs (p + 12) (numAt zs p - 1), (numAt zs (p + 8) : Nat), piece zs (p + 12 + upN (numAt zs p)) (numAt zs (p + 4))⟩ = false := by
  have a1 := digs_at hb (p := p) (by omega)
  have a2 := digs_at hb (p := p + 4) (by omega)
  have a3 := digs_at hb (p := p + 8) (by omega)
  have m3 := (numAt_num hb (p := p + 8) (by omega)).2
  obtain ⟨n, hn⟩ : ∃ n, numAt zs p = n := ⟨_, rfl⟩
  obtain ⟨d, hd⟩ : ∃ d, numAt zs (p + 4) = d := ⟨_, rfl⟩
  obtain ⟨t, ht⟩ : ∃ t, numAt zs (p + 8) = t := ⟨_, rfl⟩
  rw [hn, hd] at h3 h5
  rw [hn] at h2 h4 a1
  rw [hd] at a2
  rw [ht] at a3 m3
  rw [hn, hd, ht]
  have u1 := upN_le n
  have u2 := upN_le d
  unfold nameOk at h4
  unfold padOk at h5
  rw [List.all_eq_true] at h4 h5
  have g4 : ∀ i, i < upN n → ((zs.getD (p + 12 + i) 0 = 0) = (n ≤ i + 1)) := fun i hi => by simpa using h4 i (List.mem_range.2 hi)
  have g5 : ∀ i, i < upN d → (i < d ∨ zs.getD (p + 12 + upN n + i) 0 = 0) := fun i hi => by simpa using h5 i (List.mem_range.2 hi)
  have pn : (piece zs (p + 12) (n - 1)).length = n - 1 := piece_len (by omega)
  have pd : (piece zs (p + 12 + upN n) d).length = d := piece_len (by omega)
  have e1 : padN (piece zs (p + 12) (n - 1) ++ [0]) = piece zs (p + 12) (upN n) := by
    have hl : (padN (piece zs (p + 12) (n - 1) ++ [0])).length = upN n := by
      rw [padN_len, List.length_append, pn, List.length_cons, List.length_nil, show n - 1 + (0 + 1) = n by omega]
    refine ext_getD (by rw [hl, piece_len (by omega)]) fun i hi => ?_
    rw [hl] at hi
    rw [getD_pad, piece_getD hi]
    by_cases hlt : i < n - 1
    · rw [List.getD_eq_getElem?_getD, List.getElem?_append_left (by omega), ← List.getD_eq_getElem?_getD, piece_getD hlt]
    · rw [getD_zero _ (by omega)]
      have := g4 i hi
      exact (this.mpr (by omega)).symm
  have e2 : padN (piece zs (p + 12 + upN n) d) = piece zs (p + 12 + upN n) (upN d) := by
    have hl : (padN (piece zs (p + 12 + upN n) d)).length = upN d := by rw [padN_len, pd]
    refine ext_getD (by rw [hl, piece_len (by omega)]) fun i hi => ?_
    rw [hl] at hi
    rw [getD_pad, piece_getD hi]
    by_cases hlt : i < d
    · rw [piece_getD hlt]
    · rw [List.getD_eq_getElem?_getD, List.getElem?_eq_none (by omega)]
      rcases g5 i hi with h | h
      · omega
      · exact h.symm
  refine ⟨?_, ⟨piece_mem hb, ⟨by simp only; omega, by simp only; omega⟩, piece_mem hb⟩, ?_⟩
  · unfold encN headN
    simp only
    rw [pn, pd, e1, e2, show n - 1 + 1 = n by omega, a1, a2, a3]
    rw [drop_piece p 4, drop_piece (p + 4) 4, drop_piece (p + 4 + 4) 4, drop_piece (p + 4 + 4 + 4) (upN n), drop_piece (p + 4 + 4 + 4 + upN n) (upN d)]
    simp only [Nat.add_assoc, Nat.reduceAdd, List.append_assoc]
  · unfold zeroIn
    rw [List.any_eq_false]
    intro c hc
    simp only at hc
    obtain ⟨i, hi, rfl⟩ := List.getElem_of_mem hc
    rw [pn] at hi
    have hp := piece_getD (zs := zs) (p := p + 12) (n := n - 1) hi
    rw [List.getD_eq_getElem?_getD, List.getElem?_eq_getElem (by omega)] at hp
    simp only [Option.getD_some] at hp
    rw [hp]
    intro h0
    have h0' : zs.getD (p + 12 + i) 0 = 0 := by simpa using h0
    have := (g4 i (by omega)).mp h0'
    omega
theorem loop_back {zs : List Int} (hb : ∀ n ∈ zs, 0 ≤ n ∧ n ≤ 255) : ∀ (f p : Nat) (out : List Nd), p ≤ zs.length → (loopN zs f p out).1 = 0 →
    ∃ M, (loopN zs f p out).2 = out ++ M ∧ zs.drop p = flatN M ∧ ∀ d ∈ M, d.Ok ∧ zeroIn d = false
  | 0, p, out, _, h => by simp [loopN] at h
  | f + 1, p, out, hp, h => by
    unfold loopN at h ⊢
    by_cases c1 : zs.length ≤ p
    · rw [if_pos c1]
      exact ⟨[], by simp, by rw [List.drop_eq_nil_of_le c1]; rfl, fun d hd => by cases hd⟩
    · rw [if_neg c1] at h ⊢
      by_cases c2 : zs.length < p + 12
      · rw [if_pos c2] at h; simp at h
      · rw [if_neg c2] at h ⊢
        by_cases c3 : numAt zs p = 0
        · rw [if_pos c3] at h; simp at h
        · rw [if_neg c3] at h ⊢
          by_cases c4 : zs.length < p + 12 + upN (numAt zs p)
          · rw [if_pos c4] at h; simp at h
          · rw [if_neg c4] at h ⊢
            by_cases c5 : nameOk zs (p + 12) (numAt zs p) = false
            · rw [if_pos c5] at h; simp at h
            · rw [if_neg c5] at h ⊢
              by_cases c6 : zs.length < p + 12 + upN (numAt zs p) + upN (numAt zs (p + 4))
              · rw [if_pos c6] at h; simp at h
              · rw [if_neg c6] at h ⊢
                by_cases c7 : padOk zs (p + 12 + upN (numAt zs p)) (numAt zs (p + 4)) = false
                · rw [if_pos c7] at h; simp at h
                · rw [if_neg c7] at h ⊢
                  obtain ⟨M, hM1, hM2, hM3⟩ := loop_back hb f _ _ (by omega) h
                  obtain ⟨k1, k2, k3⟩ := enc_at hb (p := p) (by omega) c3 (by omega) (by simpa using c5) (by simpa using c7)
                  refine ⟨⟨piece zs (p + 12) (numAt zs p - 1), (numAt zs (p + 8) : Nat), piece zs (p + 12 + upN (numAt zs p)) (numAt zs (p + 4))⟩ :: M, by rw [hM1]; simp, ?_, fun d hd => ?_⟩
                  · rw [k1, hM2]; unfold flatN; rw [List.flatMap_cons]
                  · rcases List.mem_cons.1 hd with rfl | hd
                    · exact ⟨k2, k3⟩
                    · exact hM3 d hd
/-- What is got is put as it was. -/
theorem putN_get {zs : List Int} (hb : ∀ n ∈ zs, 0 ≤ n ∧ n ≤ 255) (h : (getN zs).1 = 0) : putN (getN zs).2 = (0, zs) ∧ ∀ d ∈ (getN zs).2, d.Ok := by
  unfold getN at h ⊢
  by_cases c : 65536 < zs.length
  · rw [if_pos c] at h; simp at h
  · rw [if_neg c] at h ⊢
    obtain ⟨M, h1, h2, h3⟩ := loop_back hb _ 0 [] (Nat.zero_le _) h
    rw [h1, List.nil_append]
    rw [List.drop_zero] at h2
    refine ⟨?_, fun d hd => (h3 d hd).1⟩
    unfold putN
    rw [if_neg (by
      intro hh
      obtain ⟨d, hd, hz⟩ := List.any_eq_true.1 hh
      rw [(h3 d hd).2] at hz
      cases hz), ← h2, if_neg c]
end Go.Proofs.Ytkgakdlalmmdiaa
