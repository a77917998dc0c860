/-
  What is proved here: plain words on whole blocks of memory: what their cells hold, and that none is frozen, in a later world too.
  Conditions: none; nothing here speaks of the program.
-/
import Derived.Test.YtkhfmgifpppcmaaDoorBase
namespace Go.Proofs.YtkhfmgifpppcmaaDoor
open Go.RowKit
set_option linter.unusedVariables false

/-- Block g is these cells, whole, and may be written. -/
def Blk (w : World) (g : Nat) (C : Array Value) (t : TypeId) : Prop := w.heap[g]? = some (.cells C t)
theorem Blk.lt {w : World} {g : Nat} {C : Array Value} {t : TypeId} (h : Blk w g C t) : g < w.heap.size := (Array.getElem?_eq_some_iff.1 h).1
theorem Blk.new (w : World) (C : Array Value) (t : TypeId) : Blk (w.alloc (.cells C t)) w.heap.size C t := heap_alloc_new w _
theorem Blk.below {w w' : World} {B g : Nat} {C : Array Value} {t : TypeId} (h : Blk w g C t) (hb : Below B w w') (hg : g < B) : Blk w' g C t := by
  unfold Blk; rw [hb.block g hg]; exact h
theorem Blk.later {w w' : World} {g : Nat} {C : Array Value} {t : TypeId} (h : Blk w g C t) (hb : Below w.heap.size w w') : Blk w' g C t := h.below hb h.lt
theorem Blk.alloc {w : World} {g : Nat} {C : Array Value} {t : TypeId} (h : Blk w g C t) (o : Obj) : Blk (w.alloc o) g C t := h.later ((Below.refl _ _).alloc (Nat.le_refl _) o)
theorem Blk.drew {w : World} {g : Nat} {C : Array Value} {t : TypeId} (h : Blk w g C t) : Blk w.drew g C t := h
theorem Blk.cell {w : World} {g : Nat} {C : Array Value} {t : TypeId} (h : Blk w g C t) (i : Nat) : w.cell? ⟨g, i, none⟩ = C[i]? := by
  unfold World.cell?
  rw [show w.heap[(⟨g, i, none⟩ : Addr).block]? = some (.cells C t) from h]
  rfl
theorem Blk.frozen {w : World} {g : Nat} {C : Array Value} {t : TypeId} (h : Blk w g C t) (i : Nat) : w.frozen? ⟨g, i, none⟩ = false := by
  unfold World.frozen?
  rw [show w.heap[(⟨g, i, none⟩ : Addr).block]? = some (.cells C t) from h]
  simp
theorem Blk.c4 {w : World} {g : Nat} {v0 v1 v2 v3 : Value} {t : TypeId} (h : Blk w g #[v0, v1, v2, v3] t) :
    w.cell? ⟨g, 0, none⟩ = some v0 ∧ w.cell? ⟨g, 1, none⟩ = some v1 ∧ w.cell? ⟨g, 2, none⟩ = some v2 ∧ w.cell? ⟨g, 3, none⟩ = some v3 :=
  ⟨h.cell 0, h.cell 1, h.cell 2, h.cell 3⟩
theorem Blk.f4 {w : World} {g : Nat} {v0 v1 v2 v3 : Value} {t : TypeId} (h : Blk w g #[v0, v1, v2, v3] t) :
    w.frozen? ⟨g, 0, none⟩ = false ∧ w.frozen? ⟨g, 1, none⟩ = false ∧ w.frozen? ⟨g, 2, none⟩ = false ∧ w.frozen? ⟨g, 3, none⟩ = false :=
  ⟨h.frozen 0, h.frozen 1, h.frozen 2, h.frozen 3⟩
end Go.Proofs.YtkhfmgifpppcmaaDoor
