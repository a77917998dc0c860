/-
  What is proved here: plain words: memory as a list of pages; the parts of a span. · plain words: memories with the same pages at the same addresses are the same.
  Conditions: as they say.
-/
import Derived.Test.YtkhfmgifpppcmaaDoorBase
namespace Go.Proofs.YtkhfmgifpppcmaaDoor
open Go.RowKit
set_option linter.unusedVariables false
set_option linter.unusedSimpArgs false

/-- A page: its address, what may be done, whether it was written to, where its bytes came from. -/
structure Pg where
  a : Nat
  prot : Int
  dirty : Bool
  file : ByteArray
  off : Int
  b : List Int
structure Pg.Ok (p : Pg) : Prop where
  al : p.a % 256 = 0
  lt : p.a < 4294967296
  pr : 0 ≤ p.prot ∧ p.prot ≤ 7
  fi : p.file.size ≤ maxLen
  of : 0 ≤ p.off ∧ p.off ≤ 18446744073709551615
  len : p.b.length = 256
  bd : ∀ n ∈ p.b, 0 ≤ n ∧ n ≤ 255
def findP : List Pg → Nat → Option Pg
  | [], _ => none
  | p :: r, x => if p.a = x then some p else findP r x
theorem findP_mem : ∀ {M : List Pg} {x : Nat} {p : Pg}, findP M x = some p → p ∈ M ∧ p.a = x
  | [], _, _, h => by cases h
  | q :: r, x, p, h => by
    rw [findP] at h
    by_cases e : q.a = x
    · rw [if_pos e] at h
      injection h with h
      subst h
      exact ⟨List.mem_cons_self .., e⟩
    · rw [if_neg e] at h
      obtain ⟨h1, h2⟩ := findP_mem h
      exact ⟨List.mem_cons_of_mem _ h1, h2⟩
theorem findP_of : ∀ {M : List Pg} {p : Pg}, (M.map (·.a)).Nodup → p ∈ M → findP M p.a = some p
  | [], _, _, h => by cases h
  | q :: r, p, hn, h => by
    rw [List.map_cons, List.nodup_cons] at hn
    rw [findP]
    rcases List.mem_cons.1 h with rfl | h
    · rw [if_pos rfl]
    · rw [if_neg (fun e => hn.1 (by rw [e]; exact List.mem_map_of_mem h))]
      exact findP_of hn.2 h
theorem findP_none {M : List Pg} {x : Nat} (h : x ∉ M.map (·.a)) : findP M x = none := by
  cases hf : findP M x with
  | none => rfl
  | some p =>
    obtain ⟨h1, h2⟩ := findP_mem hf
    exact absurd (h2 ▸ List.mem_map_of_mem h1) h
theorem findP_cons {p : Pg} {r : List Pg} {x : Nat} : findP (p :: r) x = if p.a = x then some p else findP r x := by rw [findP]
theorem findP_perm {M N : List Pg} (h : M.Perm N) (hn : (M.map (·.a)).Nodup) (x : Nat) : findP M x = findP N x := by
  have hn2 : (N.map (·.a)).Nodup := (h.map _).nodup_iff.1 hn
  cases hf : findP M x with
  | none =>
    refine (findP_none fun hx => ?_).symm
    obtain ⟨p, hp, rfl⟩ := List.mem_map.1 hx
    rw [findP_of hn (h.mem_iff.2 hp)] at hf
    cases hf
  | some p =>
    obtain ⟨h1, rfl⟩ := findP_mem hf
    exact (findP_of hn2 (h.mem_iff.1 h1)).symm
/-- A new page, at its place. -/
def insP : List Pg → Pg → List Pg
  | [], p => [p]
  | q :: r, p => if p.a < q.a then p :: q :: r else q :: insP r p
theorem ins_mem : ∀ {M : List Pg} {p q : Pg}, q ∈ insP M p ↔ q = p ∨ q ∈ M
  | [], p, q => by simp [insP]
  | z :: r, p, q => by
    unfold insP
    split
    · simp
    · rw [List.mem_cons, List.mem_cons, ins_mem (M := r)]
      constructor
      · rintro (h | h | h)
        · exact .inr (.inl h)
        · exact .inl h
        · exact .inr (.inr h)
      · rintro (h | h | h)
        · exact .inr (.inl h)
        · exact .inl h
        · exact .inr (.inr h)
theorem ins_len : ∀ (M : List Pg) (p : Pg), (insP M p).length = M.length + 1
  | [], p => rfl
  | z :: r, p => by
    unfold insP
    split
    · rfl
    · simp [ins_len r p]
theorem ins_so : ∀ {M : List Pg} {p : Pg}, (M.map (·.a)).Pairwise (· < ·) → findP M p.a = none → ((insP M p).map (·.a)).Pairwise (· < ·)
  | [], p, _, _ => by simp [insP]
  | z :: r, p, h, hn => by
    rw [List.map_cons, List.pairwise_cons] at h
    rw [findP] at hn
    by_cases e : z.a = p.a
    · rw [if_pos e] at hn; cases hn
    rw [if_neg e] at hn
    unfold insP
    by_cases h2 : p.a < z.a
    · rw [if_pos h2]
      simp only [List.map_cons, List.pairwise_cons]
      refine ⟨fun x hx => ?_, h.1, h.2⟩
      rcases List.mem_cons.1 hx with rfl | hx
      · exact h2
      · exact Nat.lt_trans h2 (h.1 x hx)
    · rw [if_neg h2]
      simp only [List.map_cons, List.pairwise_cons]
      refine ⟨fun x hx => ?_, ins_so h.2 hn⟩
      obtain ⟨q, hq, rfl⟩ := List.mem_map.1 hx
      rcases ins_mem.1 hq with rfl | hq
      · omega
      · exact h.1 _ (List.mem_map_of_mem hq)
theorem ins_find : ∀ {M : List Pg} {p : Pg} (x : Nat), findP M p.a = none → findP (insP M p) x = if x = p.a then some p else findP M x
  | [], p, x, _ => by
    unfold insP
    rw [findP_cons]
    by_cases e : p.a = x
    · rw [if_pos e, if_pos e.symm]
    · rw [if_neg e, if_neg (fun h => e h.symm)]
  | z :: r, p, x, hn => by
    rw [findP] at hn
    by_cases e : z.a = p.a
    · rw [if_pos e] at hn; cases hn
    rw [if_neg e] at hn
    unfold insP
    by_cases h2 : p.a < z.a
    · rw [if_pos h2, findP_cons]
      by_cases e2 : p.a = x
      · rw [if_pos e2, if_pos e2.symm]
      · rw [if_neg e2, if_neg (fun h => e2 h.symm)]
    · rw [if_neg h2, findP_cons, findP_cons, ins_find x hn]
      by_cases e2 : x = p.a
      · subst e2
        simp [e]
      · simp [e2]
/-- A part of a span: a page's address, a place in it, so many bytes. -/
structure Pt where
  a : Nat
  o : Nat
  n : Nat
/-- The parts of a span; none: a page is lacking. -/
def spanP (M : List Pg) (x n : Nat) : Option (List Pt) :=
  if h : n = 0 then some [] else match findP M (x / 256 * 256) with
    | none => none
    | some _ => match spanP M (x + min n (256 - x % 256)) (n - min n (256 - x % 256)) with
      | none => none
      | some L => some (⟨x / 256 * 256, x % 256, min n (256 - x % 256)⟩ :: L)
termination_by n
decreasing_by omega
theorem span_zero (M : List Pg) (x : Nat) : spanP M x 0 = some [] := by rw [spanP]; rfl
theorem span_none {M : List Pg} {x n : Nat} (hn : n ≠ 0) (h : findP M (x / 256 * 256) = none) : spanP M x n = none := by
  rw [spanP, dif_neg hn, h]
theorem span_some {M : List Pg} {x n : Nat} {p : Pg} (hn : n ≠ 0) (h : findP M (x / 256 * 256) = some p) :
    spanP M x n = (spanP M (x + min n (256 - x % 256)) (n - min n (256 - x % 256))).map (⟨x / 256 * 256, x % 256, min n (256 - x % 256)⟩ :: ·) := by
  rw [spanP, dif_neg hn, h]
  cases spanP M (x + min n (256 - x % 256)) (n - min n (256 - x % 256)) <;> rfl
def rangeP (x n : Int) : Bool := decide (x % 256 = 0) && decide (n % 256 = 0) && decide (n ≠ 0) && decide (x ≤ 4294967296) && decide (n ≤ 4294967296 - x)
def protP (p : Int) : Bool := decide (0 ≤ p) && decide (p ≤ 7)
end Go.Proofs.YtkhfmgifpppcmaaDoor
namespace Go.Proofs.YtkhfmgifpppcmaaDoor
open Go.RowKit
set_option linter.unusedVariables false
set_option linter.unusedSimpArgs false

theorem find_tail_none {p : Pg} {r : List Pg} (h : ((p :: r).map (·.a)).Pairwise (· < ·)) : findP r p.a = none := by
  rw [List.map_cons, List.pairwise_cons] at h
  exact findP_none fun hx => Nat.lt_irrefl _ (h.1 _ hx)
theorem head_le {p q : Pg} {r : List Pg} (h : ((q :: r).map (·.a)).Pairwise (· < ·)) (hp : findP (q :: r) p.a = some p) : q.a ≤ p.a := by
  obtain ⟨hm, _⟩ := findP_mem hp
  rw [List.map_cons, List.pairwise_cons] at h
  rcases List.mem_cons.1 hm with e | hm
  · rw [e]; exact Nat.le_refl _
  · exact Nat.le_of_lt (h.1 _ (List.mem_map_of_mem hm))
theorem so_ext : ∀ {M N : List Pg}, (M.map (·.a)).Pairwise (· < ·) → (N.map (·.a)).Pairwise (· < ·) → (∀ x, findP M x = findP N x) → M = N
  | [], [], _, _, _ => rfl
  | [], q :: s, _, _, h => by
    have := h q.a
    rw [findP_cons, if_pos rfl] at this
    cases this
  | p :: r, [], _, _, h => by
    have := h p.a
    rw [findP_cons, if_pos rfl] at this
    cases this
  | p :: r, q :: s, hM, hN, h => by
    have h1 : findP (p :: r) p.a = some p := by rw [findP_cons, if_pos rfl]
    have h2 : findP (q :: s) q.a = some q := by rw [findP_cons, if_pos rfl]
    have l1 := head_le hN (by rw [← h p.a]; exact h1)
    have l2 := head_le hM (by rw [h q.a]; exact h2)
    have e : p.a = q.a := Nat.le_antisymm l2 l1
    have e2 : p = q := by
      rw [h p.a, e, h2] at h1
      injection h1 with h1
      exact h1.symm
    subst e2
    have hM2 := hM
    have hN2 := hN
    rw [List.map_cons, List.pairwise_cons] at hM2 hN2
    have ht := so_ext hM2.2 hN2.2 (fun x => by
      by_cases ex : p.a = x
      · rw [← ex, find_tail_none hM, find_tail_none hN]
      · have := h x
        rw [findP_cons, findP_cons, if_neg ex, if_neg ex] at this
        exact this)
    rw [ht]
end Go.Proofs.YtkhfmgifpppcmaaDoor
