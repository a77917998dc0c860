/-
  What is proved here: plain words: the reference's memory, a list of pages, against the code's.
  Conditions: none; nothing here speaks of the program.
-/
import Derived.Test.YtahjgbmhleiocaaVmSpan
import Derived.Test.YtahjgbmhleiocaaVmMath
import Derived.Test.YtahjgbmhleiocaaRpWords
namespace Go.Proofs.Ytahjgbmhleiocaa
open Go.RowKit
set_option linter.unusedVariables false
set_option linter.unusedSimpArgs false

/-- A page as the reference has it. -/
def rp (p : Pg) : Rp := ⟨p.a, p.prot, p.dirty, p.file, p.off, strOfNums p.b⟩
def rps (M : List Pg) : List Rp := M.map rp
def pg0 : Pg := ⟨0, 0, false, ByteArray.empty, 0, []⟩
theorem rps_len (M : List Pg) : (rps M).length = M.length := by unfold rps; rw [List.length_map]
theorem rps_at {M : List Pg} {i : Nat} (h : i < M.length) : (rps M).getD i Rp.zero = rp (M.getD i pg0) := by
  unfold rps
  rw [List.getD_eq_getElem?_getD, List.getElem?_map, List.getElem?_eq_getElem h, List.getD_eq_getElem?_getD, List.getElem?_eq_getElem h]; rfl
theorem pgs_mem {M : List Pg} {i : Nat} (h : i < M.length) : M.getD i pg0 ∈ M := by
  rw [List.getD_eq_getElem?_getD, List.getElem?_eq_getElem h]; exact List.getElem_mem h
/-- Where the page of an address is. -/
def idxZ : List Pg → Nat → Int → Int
  | [], _, _ => -1
  | p :: r, a, k => if p.a = a then k else idxZ r a (k + 1)
theorem idx_some : ∀ {M : List Pg} {a : Nat} {p : Pg} (k : Int), findP M a = some p → ∃ i, i < M.length ∧ idxZ M a k = k + i ∧ M.getD i pg0 = p
  | [], a, p, k, h => by cases h
  | q :: r, a, p, k, h => by
    rw [findP_cons] at h
    unfold idxZ
    by_cases e : q.a = a
    · rw [if_pos e] at h ⊢
      injection h with h
      exact ⟨0, by simp, by simp, by simp [h]⟩
    · rw [if_neg e] at h ⊢
      obtain ⟨i, hi, he, hg⟩ := idx_some (k + 1) h
      exact ⟨i + 1, by simpa using hi, by rw [he]; omega, by simpa using hg⟩
theorem idx_none : ∀ {M : List Pg} {a : Nat} (k : Int), findP M a = none → idxZ M a k = -1
  | [], a, k, h => rfl
  | q :: r, a, k, h => by
    rw [findP_cons] at h
    unfold idxZ
    by_cases e : q.a = a
    · rw [if_pos e] at h; cases h
    · rw [if_neg e] at h ⊢
      exact idx_none (k + 1) h
theorem idx_drop {M : List Pg} {a i : Nat} (h : i < M.length) (k : Int) : idxZ (M.drop i) a k = if (M.getD i pg0).a = a then k else idxZ (M.drop (i + 1)) a (k + 1) := by
  rw [List.drop_eq_getElem_cons h, idxZ, List.getD_eq_getElem?_getD, List.getElem?_eq_getElem h]; rfl
/-- Memory with a page, in the place of its like, or where it belongs. -/
def withP (M : List Pg) (p : Pg) : List Pg := match findP M p.a with
  | some _ => updP M p.a (fun _ => p)
  | none => insP M p
def withG (p : Pg) : Bool → List Pg → List Pg
  | put, [] => if put then [] else [p]
  | put, q :: r => (if !put && decide (p.a ≤ q.a) then [p] else []) ++ ((if q.a = p.a then [] else [q]) ++ withG p (put || decide (p.a ≤ q.a)) r)
theorem withG_true {p : Pg} : ∀ {L : List Pg}, (∀ q ∈ L, q.a ≠ p.a) → withG p true L = L
  | [], _ => rfl
  | q :: r, h => by
    unfold withG
    rw [if_neg (h q (by simp))]
    simp only [Bool.not_true, Bool.false_and, Bool.true_or, Bool.false_eq_true, if_false, List.nil_append]
    rw [withG_true (fun x hx => h x (by simp [hx]))]; rfl
theorem with_is {p : Pg} : ∀ {M : List Pg}, (M.map (·.a)).Pairwise (· < ·) → withG p false M = withP M p
  | [], _ => rfl
  | q :: r, h => by
    have hs := h
    rw [List.map_cons, List.pairwise_cons] at h
    obtain ⟨h1, h2⟩ := h
    have hgt : ∀ x ∈ r, q.a < x.a := fun x hx => h1 _ (List.mem_map_of_mem hx)
    unfold withG withP
    rw [findP_cons]
    by_cases e : q.a = p.a
    · have hr : ∀ x ∈ r, x.a ≠ p.a := fun x hx ex => by have := hgt x hx; omega
      rw [if_pos e, if_pos e, Bool.false_or, show decide (p.a ≤ q.a) = true by simp [e], withG_true hr]
      simp only [Bool.not_false, Bool.and_self, if_true, List.nil_append]
      have hu : updP r p.a (fun _ => p) = r := by
        unfold updP
        conv => rhs; rw [← List.map_id r]
        exact List.map_congr_left fun x hx => by rw [if_neg (hr x hx)]; rfl
      show [p] ++ r = updP (q :: r) p.a (fun _ => p)
      have : updP (q :: r) p.a (fun _ => p) = (if q.a = p.a then p else q) :: updP r p.a (fun _ => p) := rfl
      rw [this, if_pos e, hu]; rfl
    · rw [if_neg e, if_neg e, Bool.false_or]
      by_cases hl : p.a ≤ q.a
      · have hr : ∀ x ∈ r, x.a ≠ p.a := fun x hx ex => by have := hgt x hx; omega
        have hn : findP r p.a = none := findP_none fun hx => by
          obtain ⟨x, hx, ex⟩ := List.mem_map.1 hx
          exact hr x hx ex
        rw [hn, show decide (p.a ≤ q.a) = true by simp [hl], withG_true hr]
        simp only [Bool.not_false, Bool.and_self, if_true]
        unfold insP
        rw [if_pos (by omega)]; rfl
      · rw [show decide (p.a ≤ q.a) = false by simp [hl]]
        have ih := with_is (p := p) h2
        rw [ih]
        simp only [Bool.and_false, Bool.false_eq_true, if_false, List.nil_append]
        unfold withP
        cases hf : findP r p.a with
        | none =>
          show q :: insP r p = insP (q :: r) p
          rw [insP, if_neg (by omega)]
        | some z =>
          show q :: updP r p.a _ = updP (q :: r) p.a _
          have : updP (q :: r) p.a (fun _ => p) = (if q.a = p.a then p else q) :: updP r p.a (fun _ => p) := rfl
          rw [this, if_neg e]
theorem withG_len (p : Pg) : ∀ (b : Bool) (L : List Pg), (withG p b L).length ≤ L.length * 2 + 1
  | b, [] => by unfold withG; split <;> simp
  | b, q :: r => by
    have := withG_len p (b || decide (p.a ≤ q.a)) r
    unfold withG
    simp only [List.length_append, List.length_cons]
    have h1 : (if (!b && decide (p.a ≤ q.a)) = true then [p] else []).length ≤ 1 := by split <;> simp
    have h2 : (if q.a = p.a then [] else [q]).length ≤ 1 := by split <;> simp
    omega
theorem withG_drop (p : Pg) (b : Bool) {M : List Pg} {i : Nat} (h : i < M.length) : withG p b (M.drop i) = (if !b && decide (p.a ≤ (M.getD i pg0).a) then [p] else []) ++ ((if (M.getD i pg0).a = p.a then [] else [M.getD i pg0]) ++ withG p (b || decide (p.a ≤ (M.getD i pg0).a)) (M.drop (i + 1))) := by
  rw [List.drop_eq_getElem_cons h, withG, List.getD_eq_getElem?_getD, List.getElem?_eq_getElem h]; rfl
theorem rps_app (L N : List Pg) : rps (L ++ N) = rps L ++ rps N := by unfold rps; rw [List.map_append]
theorem rp_ok {p : Pg} (h : p.Ok) (w : World) (B : Nat) : (rp p).Ok w B :=
  ⟨⟨by show (0 : Int) ≤ (p.a : Int); omega, by have := h.lt; show (p.a : Int) ≤ 18446744073709551615; omega⟩, ⟨by have := h.pr; show (-9223372036854775808 : Int) ≤ p.prot; omega, by have := h.pr; show p.prot ≤ 9223372036854775807; omega⟩, rfl, h.fi, h.of, by
    show (strOfNums p.b).size ≤ maxLen
    rw [← bs_len, bs_strOfNums h.bd, h.len]; decide⟩
theorem rp_bs {p : Pg} (h : p.Ok) : bs (rp p).b = p.b := bs_strOfNums h.bd
theorem rp_size {p : Pg} (h : p.Ok) : (rp p).b.size = 256 := by rw [← bs_len, rp_bs h, h.len]
end Go.Proofs.Ytahjgbmhleiocaa
