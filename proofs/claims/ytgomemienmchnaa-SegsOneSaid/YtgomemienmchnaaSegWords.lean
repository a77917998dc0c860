/-
  What is proved here: words on memory: a segment's seven cells; a slice of segments; a block that holds one; a row of segments of the call's own.
  Conditions: none; nothing here speaks of the program.
-/
import Derived.Test.YtgomemienmchnaaSegMath
import Derived.Test.YtgomemienmchnaaBlk
namespace Go.Proofs.Ytgomemienmchnaa
open Go.RowKit
set_option linter.unusedVariables false

/-- At place o of block b lies a segment. -/
structure Sev (w : World) (b o : Nat) (s : Sg) : Prop where
  c0 : w.cell? ⟨b, o, none⟩ = some (.int .u32 s.ty)
  c1 : w.cell? ⟨b, o + 1, none⟩ = some (.int .u32 s.fl)
  c2 : w.cell? ⟨b, o + 2, none⟩ = some (.int .u64 s.ot)
  c3 : w.cell? ⟨b, o + 3, none⟩ = some (.int .u64 s.va)
  c4 : w.cell? ⟨b, o + 4, none⟩ = some (.int .u64 s.fi)
  c5 : w.cell? ⟨b, o + 5, none⟩ = some (.int .u64 s.me)
  c6 : w.cell? ⟨b, o + 6, none⟩ = some (.int .u64 s.al)
theorem Sev.below {w w' : World} {B b o : Nat} {s : Sg} (h : Sev w b o s) (hb : Below B w w') (hB : b < B) : Sev w' b o s :=
  ⟨(hb.cell hB).trans h.c0, (hb.cell hB).trans h.c1, (hb.cell hB).trans h.c2, (hb.cell hB).trans h.c3, (hb.cell hB).trans h.c4, (hb.cell hB).trans h.c5, (hb.cell hB).trans h.c6⟩
/-- A slice that lies below block B reads as the segments L. -/
structure Sgs (w : World) (B : Nat) (a : Option Addr) (len : Nat) (L : List Sg) : Prop where
  hl : L.length = len
  hok : ∀ s ∈ L, s.Ok
  hc : 0 < len → ∃ b off, a = some ⟨b, off, none⟩ ∧ b < B ∧ ∀ i, i < len → Sev w b (off + i * 7) (L.getD i sg0)
theorem Sgs.below {w w' : World} {B : Nat} {a : Option Addr} {len : Nat} {L : List Sg} (h : Sgs w B a len L) (hb : Below B w w') : Sgs w' B a len L :=
  ⟨h.hl, h.hok, fun hl => by
    obtain ⟨b, off, e, hB, hc⟩ := h.hc hl
    exact ⟨b, off, e, hB, fun i hi => (hc i hi).below hb hB⟩⟩
theorem Sgs.more {w : World} {B B' : Nat} {a : Option Addr} {len : Nat} {L : List Sg} (h : Sgs w B a len L) (hB : B ≤ B') : Sgs w B' a len L :=
  ⟨h.hl, h.hok, fun hl => by
    obtain ⟨b, off, e, hb, hc⟩ := h.hc hl
    exact ⟨b, off, e, Nat.lt_of_lt_of_le hb hB, hc⟩⟩
theorem Sgs.empty (w : World) (B : Nat) (a : Option Addr) : Sgs w B a 0 [] := ⟨rfl, fun _ h => (by cases h), fun h => absurd h (by omega)⟩
theorem Sgs.okAt {w : World} {B : Nat} {a : Option Addr} {len : Nat} {L : List Sg} (h : Sgs w B a len L) {i : Nat} (hi : i < len) : (L.getD i sg0).Ok :=
  h.hok _ (getD_mem (by have := h.hl; omega))
/-- The first n of them. -/
theorem Sgs.front {w : World} {B : Nat} {a : Option Addr} {len : Nat} {L : List Sg} (h : Sgs w B a len L) {n : Nat} (hn : n ≤ len) : Sgs w B a n (L.take n) :=
  ⟨by rw [List.length_take, h.hl]; omega, fun s hs => h.hok s (List.mem_of_mem_take hs), fun hl => by
    obtain ⟨b, off, e, hb, hc⟩ := h.hc (by omega)
    refine ⟨b, off, e, hb, fun i hi => ?_⟩
    have := hc i (by omega)
    rwa [List.getD_eq_getElem?_getD, List.getElem?_take_of_lt hi, ← List.getD_eq_getElem?_getD]⟩
/-- A block of a segment's cells. -/
theorem Blk.sev {w : World} {g : Nat} {s : Sg} {t : TypeId} (h : Blk w g s.cells t) : Sev w g 0 s :=
  ⟨h.cell 0, h.cell 1, h.cell 2, h.cell 3, h.cell 4, h.cell 5, h.cell 6⟩
theorem Blk.c7 {w : World} {g : Nat} {v0 v1 v2 v3 v4 v5 v6 : Value} {t : TypeId} (h : Blk w g #[v0, v1, v2, v3, v4, v5, v6] t) :
    w.cell? ⟨g, 0, none⟩ = some v0 ∧ w.cell? ⟨g, 1, none⟩ = some v1 ∧ w.cell? ⟨g, 2, none⟩ = some v2 ∧ w.cell? ⟨g, 3, none⟩ = some v3 ∧ w.cell? ⟨g, 4, none⟩ = some v4 ∧ w.cell? ⟨g, 5, none⟩ = some v5 ∧ w.cell? ⟨g, 6, none⟩ = some v6 :=
  ⟨h.cell 0, h.cell 1, h.cell 2, h.cell 3, h.cell 4, h.cell 5, h.cell 6⟩
theorem Blk.f7 {w : World} {g : Nat} {v0 v1 v2 v3 v4 v5 v6 : Value} {t : TypeId} (h : Blk w g #[v0, v1, v2, v3, v4, v5, v6] t) :
    w.frozen? ⟨g, 0, none⟩ = false ∧ w.frozen? ⟨g, 1, none⟩ = false ∧ w.frozen? ⟨g, 2, none⟩ = false ∧ w.frozen? ⟨g, 3, none⟩ = false ∧ w.frozen? ⟨g, 4, none⟩ = false ∧ w.frozen? ⟨g, 5, none⟩ = false ∧ w.frozen? ⟨g, 6, none⟩ = false :=
  ⟨h.frozen 0, h.frozen 1, h.frozen 2, h.frozen 3, h.frozen 4, h.frozen 5, h.frozen 6⟩
/-- All cells of some segments. -/
def flatS (L : List Sg) : List Value := L.flatMap fun s => [.int .u32 s.ty, .int .u32 s.fl, .int .u64 s.ot, .int .u64 s.va, .int .u64 s.fi, .int .u64 s.me, .int .u64 s.al]
theorem flatS_nil : flatS [] = [] := rfl
theorem flatS_snoc (L : List Sg) (s : Sg) : flatS (L ++ [s]) = flatS L ++ [.int .u32 s.ty, .int .u32 s.fl, .int .u64 s.ot, .int .u64 s.va, .int .u64 s.fi, .int .u64 s.me, .int .u64 s.al] := by
  unfold flatS; rw [List.flatMap_append]; simp
theorem flatS_len : ∀ L : List Sg, (flatS L).length = L.length * 7
  | [] => rfl
  | s :: L => by
    have := flatS_len L
    unfold flatS at this ⊢
    rw [List.flatMap_cons, List.length_append, this]
    simp [Nat.add_mul]; omega
theorem flatS_at : ∀ (L : List Sg) (i : Nat), i < L.length → (flatS L)[i * 7]? = some (.int .u32 (L.getD i sg0).ty) ∧ (flatS L)[i * 7 + 1]? = some (.int .u32 (L.getD i sg0).fl) ∧ (flatS L)[i * 7 + 2]? = some (.int .u64 (L.getD i sg0).ot) ∧ (flatS L)[i * 7 + 3]? = some (.int .u64 (L.getD i sg0).va) ∧ (flatS L)[i * 7 + 4]? = some (.int .u64 (L.getD i sg0).fi) ∧ (flatS L)[i * 7 + 5]? = some (.int .u64 (L.getD i sg0).me) ∧ (flatS L)[i * 7 + 6]? = some (.int .u64 (L.getD i sg0).al)
  | [], i, h => by simp at h
  | s :: L, 0, _ => by simp [flatS]
  | s :: L, i + 1, h => by
    have := flatS_at L i (by simpa using h)
    unfold flatS at this ⊢
    rw [List.flatMap_cons]
    have e : ∀ j, ([.int .u32 s.ty, .int .u32 s.fl, .int .u64 s.ot, .int .u64 s.va, .int .u64 s.fi, .int .u64 s.me, .int .u64 s.al] ++ L.flatMap (fun s => [.int .u32 s.ty, .int .u32 s.fl, .int .u64 s.ot, .int .u64 s.va, .int .u64 s.fi, .int .u64 s.me, .int .u64 s.al]) : List Value)[(i + 1) * 7 + j]? = (L.flatMap (fun s => [.int .u32 s.ty, .int .u32 s.fl, .int .u64 s.ot, .int .u64 s.va, .int .u64 s.fi, .int .u64 s.me, .int .u64 s.al]) : List Value)[i * 7 + j]? := fun j => by
      rw [List.getElem?_append_right (by simp; omega)]
      congr 1
      simp; omega
    have e0 := e 0
    simp only [Nat.add_zero] at e0
    rw [e0, e 1, e 2, e 3, e 4, e 5, e 6]
    simpa using this
/-- A row of segments of the call's own. -/
theorem Sgs.own {w : World} {base : Nat} {e : TypeId} {a : Option Addr} {len cap : Nat} {L : List Sg} (hok : ∀ s ∈ L, s.Ok) (h : w.ownsRow base e 7 (.slice a len cap) len (flatS L)) : Sgs w w.heap.size a len L := by
  have hl : L.length = len := by have := h.1; rw [flatS_len] at this; omega
  refine ⟨hl, hok, fun hp => ?_⟩
  obtain ⟨g, rfl, hlt⟩ : ∃ g, a = some ⟨g, 0, none⟩ ∧ g < w.heap.size := by
    rcases h.2 with ⟨_, e0⟩ | ⟨g, c, cur, hv, _, hg, _⟩
    · omega
    · refine ⟨g, by injection hv, ?_⟩
      obtain ⟨hlt, _⟩ := Array.getElem?_eq_some_iff.1 hg
      exact hlt
  refine ⟨g, 0, rfl, hlt, fun i hi => ?_⟩
  obtain ⟨f0, f1, f2, f3, f4, f5, f6⟩ := flatS_at L i (by omega)
  simp only [Nat.zero_add]
  exact ⟨(h.cellAt _ (by omega)).trans f0, (h.cellAt _ (by omega)).trans f1, (h.cellAt _ (by omega)).trans f2, (h.cellAt _ (by omega)).trans f3, (h.cellAt _ (by omega)).trans f4, (h.cellAt _ (by omega)).trans f5, (h.cellAt _ (by omega)).trans f6⟩
theorem one_flat (L : List Sg) : ∀ v ∈ flatS L, v.oneCell' = true := by
  intro v hv
  unfold flatS at hv
  obtain ⟨s, _, hs⟩ := List.mem_flatMap.1 hv
  simp at hs
  rcases hs with rfl | rfl | rfl | rfl | rfl | rfl | rfl <;> rfl
end Go.Proofs.Ytgomemienmchnaa
