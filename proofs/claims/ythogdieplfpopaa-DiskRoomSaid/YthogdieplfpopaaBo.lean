/-
  What is proved here: a slice of bools as one thing: its address, length, room and the bools it reads as (for fields of structs, for parameters); what the frame hands over of one.
  Conditions: none.
-/
import Derived.Test.YthogdieplfpopaaBs
import Derived.Deep.Slices
namespace Go.Proofs.Ythogdieplfpopaa
open Go.RowKit Go.ChangeShapes Go.WideShapes
set_option linter.unusedVariables false

structure Bo where
  a : Option Addr
  n : Nat
  c : Nat
  bl : List Bool
def Bo.zero : Bo := ⟨none, 0, 0, []⟩
structure Bo.Ok (w : World) (B : Nat) (b : Bo) : Prop where
  len : b.bl.length = b.n
  le : b.n ≤ b.c
  max : (b.c : Int) ≤ 9223372036854775807
  nil : b.a = none → b.c = 0
  cell : 0 < b.n → ∃ g off, b.a = some ⟨g, off, none⟩ ∧ g < B ∧ ∀ i, i < b.n → w.cell? ⟨g, off + i, none⟩ = some (.bool (b.bl.getD i false))
theorem Bo.zero_ok (w : World) (B : Nat) : Bo.zero.Ok w B := ⟨rfl, Nat.le_refl _, by decide, fun _ => rfl, fun h => absurd h (by decide)⟩
theorem Bo.Ok.below {w w' : World} {B : Nat} {b : Bo} (h : b.Ok w B) (hb : Below B w w') : b.Ok w' B := ⟨h.len, h.le, h.max, h.nil, fun h0 => by
  obtain ⟨g, off, e, hg, hc⟩ := h.cell h0
  exact ⟨g, off, e, hg, fun i hi => (hb.cell hg).trans (hc i hi)⟩⟩
theorem Bo.Ok.more {w : World} {B B' : Nat} {b : Bo} (h : b.Ok w B) (hB : B ≤ B') : b.Ok w B' := ⟨h.len, h.le, h.max, h.nil, fun h0 => by
  obtain ⟨g, off, e, hg, hc⟩ := h.cell h0
  exact ⟨g, off, e, Nat.lt_of_lt_of_le hg hB, hc⟩⟩
theorem Bo.open {H : Type} {enc : TypeId × Value → H} {P : Program} {w : World} {base : Nat} {held : Bool} {t e : TypeId} {fuel : Nat} {cs : List Value} {x : DataW H × List MemPlace}
    (ht : P.underlying t = some (.slice e)) (he : P.underlying e = some .bool) (hc : P.cellsOf e = 1) (h : DataW.trod enc P w base (fun _ => true) held fuel t cs = some x) : ∃ b : Bo, b.Ok w w.heap.size ∧ cs = [.slice b.a b.n b.c] := by
  rcases Go.Deep.open_slice1 ht hc h with ⟨hcs, _⟩ | ⟨a, len, cap, m, n, V, D, Pl, hcs, _, hl, hm, hmm, _, hi⟩
  · exact ⟨Bo.zero, Bo.zero_ok _ _, hcs⟩
  · have hmc : m = cap := by simpa using hmm
    subst hmc
    have hb : ∀ i, i < m → ∃ b : Bool, w.cell? (a.add i) = some (.bool b) := fun i h1 => by
      obtain ⟨h2, h3⟩ := hi i h1
      obtain ⟨b, hb, _⟩ := DataW.trod_bool he h3
      injection hb with hb
      exact ⟨b, by rw [h2, hb]⟩
    obtain ⟨L, hL, hLs⟩ : ∃ L : List Bool, L.length = len ∧ ∀ i, i < len → w.cell? (a.add i) = some (.bool (L.getD i false)) := by
      have : ∀ k, k ≤ len → ∃ L : List Bool, L.length = k ∧ ∀ i, i < k → w.cell? (a.add i) = some (.bool (L.getD i false)) := fun k => by
        induction k with
        | zero => intro _; exact ⟨[], rfl, fun i h1 => absurd h1 (by omega)⟩
        | succ k ih =>
          intro hk
          obtain ⟨L, h1, h2⟩ := ih (by omega)
          obtain ⟨b, h3⟩ := hb k (by omega)
          refine ⟨L ++ [b], by simp [h1], fun i h4 => ?_⟩
          by_cases e : i = k
          · subst e
            rw [List.getD_eq_getElem?_getD, List.getElem?_append_right (by omega)]
            simpa [h1] using h3
          · rw [List.getD_eq_getElem?_getD, List.getElem?_append_left (by omega), ← List.getD_eq_getElem?_getD]
            exact h2 i (by omega)
      exact this len (Nat.le_refl _)
    refine ⟨⟨some a, len, m, L⟩, ⟨hL, hl, by show (m : Int) ≤ _; unfold maxLen at hm; omega, (fun e => by cases e), fun h0 => ?_⟩, hcs⟩
    obtain ⟨g, off, spot⟩ := a
    have hs : spot = none := by simpa [Addr.add] using World.cell?_spot (hLs 0 h0)
    subst hs
    have h1 := hLs 0 h0
    rw [add_none] at h1
    exact ⟨g, off, rfl, block_lt h1, fun i h2 => by have := hLs i h2; rwa [add_none] at this⟩
end Go.Proofs.Ythogdieplfpopaa
