/-
  What is proved here: words on memory: the cells of a struct 'Nt'; a slice of such structs; a block that holds one; a row of them of the call's own.
  Conditions: none; nothing here speaks of the program. (Made by structs2.py.)
-/
import Derived.Test.YtkgakdlalmmdiaaBlk
import Derived.Test.YtkgakdlalmmdiaaBs
namespace Go.Proofs.Ytkgakdlalmmdiaa
open Go.RowKit
set_option linter.unusedVariables false

structure Nt where
  na : ByteArray
  ty : Int
  de : Bs
structure Nt.Ok (w : World) (B : Nat) (s : Nt) : Prop where
  na : s.na.size ≤ maxLen
  ty : 0 ≤ s.ty ∧ s.ty ≤ 4294967295
  de : s.de.Ok w B
def Nt.cells (s : Nt) : Array Value := #[.string s.na, .int .u32 s.ty, .slice s.de.a s.de.n s.de.c]
def Nt.val (s : Nt) : Value := .agg #[.string s.na, .int .u32 s.ty, .slice s.de.a s.de.n s.de.c]
def Nt.zero : Nt := ⟨ByteArray.empty, 0, Bs.zero⟩
theorem Nt.zero_ok (w : World) (B : Nat) : Nt.zero.Ok w B := ⟨by decide, by decide, Bs.zero_ok _ _⟩
theorem Nt.Ok.below {w w' : World} {B : Nat} {s : Nt} (h : s.Ok w B) (hb : Below B w w') : s.Ok w' B := ⟨h.na, h.ty, h.de.below hb⟩
theorem Nt.Ok.more {w : World} {B B' : Nat} {s : Nt} (h : s.Ok w B) (hB : B ≤ B') : s.Ok w B' := ⟨h.na, h.ty, h.de.more hB⟩
/-- At place o of block b lies one. -/
structure Nt.At (w : World) (b o : Nat) (s : Nt) : Prop where
  c0 : w.cell? ⟨b, o, none⟩ = some (.string s.na)
  c1 : w.cell? ⟨b, o + 1, none⟩ = some (.int .u32 s.ty)
  c2 : w.cell? ⟨b, o + 2, none⟩ = some (.slice s.de.a s.de.n s.de.c)
theorem Nt.At.below {w w' : World} {B b o : Nat} {s : Nt} (h : Nt.At w b o s) (hb : Below B w w') (hB : b < B) : Nt.At w' b o s :=
  ⟨(hb.cell hB).trans h.c0, (hb.cell hB).trans h.c1, (hb.cell hB).trans h.c2⟩
theorem Nt.getD_mem {L : List Nt} {k : Nat} (h : k < L.length) : L.getD k Nt.zero ∈ L := by
  rw [List.getD_eq_getElem?_getD, List.getElem?_eq_getElem h]; exact List.getElem_mem h
theorem Nt.take_snoc {L : List Nt} {k : Nat} (h : k < L.length) : L.take (k + 1) = L.take k ++ [L.getD k Nt.zero] := by
  rw [List.take_succ_eq_append_getElem h, List.getD_eq_getElem?_getD, List.getElem?_eq_getElem h]; rfl
/-- A slice that lies below block B reads as the list L. -/
structure Nt.Sl (w : World) (B : Nat) (a : Option Addr) (len : Nat) (L : List Nt) : Prop where
  hl : L.length = len
  hok : ∀ s ∈ L, s.Ok w B
  hc : 0 < len → ∃ b off, a = some ⟨b, off, none⟩ ∧ b < B ∧ ∀ i, i < len → Nt.At w b (off + i * 3) (L.getD i Nt.zero)
theorem Nt.Sl.below {w w' : World} {B : Nat} {a : Option Addr} {len : Nat} {L : List Nt} (h : Nt.Sl w B a len L) (hb : Below B w w') : Nt.Sl w' B a len L :=
  ⟨h.hl, fun s hs => (h.hok s hs).below hb, fun hl => by
    obtain ⟨b, off, e, hB, hc⟩ := h.hc hl
    exact ⟨b, off, e, hB, fun i hi => (hc i hi).below hb hB⟩⟩
theorem Nt.Sl.more {w : World} {B B' : Nat} {a : Option Addr} {len : Nat} {L : List Nt} (h : Nt.Sl w B a len L) (hB : B ≤ B') : Nt.Sl w B' a len L :=
  ⟨h.hl, fun s hs => (h.hok s hs).more hB, fun hl => by
    obtain ⟨b, off, e, hb, hc⟩ := h.hc hl
    exact ⟨b, off, e, Nat.lt_of_lt_of_le hb hB, hc⟩⟩
theorem Nt.Sl.empty (w : World) (B : Nat) (a : Option Addr) : Nt.Sl w B a 0 [] := ⟨rfl, fun _ h => (by cases h), fun h => absurd h (by omega)⟩
theorem Nt.Sl.okAt {w : World} {B : Nat} {a : Option Addr} {len : Nat} {L : List Nt} (h : Nt.Sl w B a len L) {i : Nat} (hi : i < len) : (L.getD i Nt.zero).Ok w B :=
  h.hok _ (Nt.getD_mem (by have := h.hl; omega))
theorem Nt.of_blk {w : World} {g : Nat} {s : Nt} {t : TypeId} (h : Blk w g s.cells t) : Nt.At w g 0 s :=
  ⟨h.cell 0, h.cell 1, h.cell 2⟩
theorem Nt.cs {w : World} {g : Nat} {v0 v1 v2 : Value} {t : TypeId} (h : Blk w g #[v0, v1, v2] t) :
    w.cell? ⟨g, 0, none⟩ = some v0 ∧ w.cell? ⟨g, 1, none⟩ = some v1 ∧ w.cell? ⟨g, 2, none⟩ = some v2 :=
  ⟨h.cell 0, h.cell 1, h.cell 2⟩
theorem Nt.fs {w : World} {g : Nat} {v0 v1 v2 : Value} {t : TypeId} (h : Blk w g #[v0, v1, v2] t) :
    w.frozen? ⟨g, 0, none⟩ = false ∧ w.frozen? ⟨g, 1, none⟩ = false ∧ w.frozen? ⟨g, 2, none⟩ = false :=
  ⟨h.frozen 0, h.frozen 1, h.frozen 2⟩
/-- All cells of some of them. -/
def Nt.flat (L : List Nt) : List Value := L.flatMap fun s => [.string s.na, .int .u32 s.ty, .slice s.de.a s.de.n s.de.c]
theorem Nt.flat_snoc (L : List Nt) (s : Nt) : Nt.flat (L ++ [s]) = Nt.flat L ++ [.string s.na, .int .u32 s.ty, .slice s.de.a s.de.n s.de.c] := by
  unfold Nt.flat; rw [List.flatMap_append]; simp
theorem Nt.flat_len : ∀ L : List Nt, (Nt.flat L).length = L.length * 3
  | [] => rfl
  | s :: L => by
    have := Nt.flat_len L
    unfold Nt.flat at this ⊢
    rw [List.flatMap_cons, List.length_append, this]
    simp [Nat.add_mul]; omega
theorem Nt.flat_at : ∀ (L : List Nt) (i : Nat), i < L.length → (Nt.flat L)[i * 3]? = some (.string (L.getD i Nt.zero).na) ∧ (Nt.flat L)[i * 3 + 1]? = some (.int .u32 (L.getD i Nt.zero).ty) ∧ (Nt.flat L)[i * 3 + 2]? = some (.slice (L.getD i Nt.zero).de.a (L.getD i Nt.zero).de.n (L.getD i Nt.zero).de.c)
  | [], i, h => by simp at h
  | s :: L, 0, _ => by simp [Nt.flat]
  | s :: L, i + 1, h => by
    have := Nt.flat_at L i (by simpa using h)
    unfold Nt.flat at this ⊢
    rw [List.flatMap_cons]
    have e : ∀ j, ([.string s.na, .int .u32 s.ty, .slice s.de.a s.de.n s.de.c] ++ L.flatMap (fun s => [.string s.na, .int .u32 s.ty, .slice s.de.a s.de.n s.de.c]) : List Value)[(i + 1) * 3 + j]? = (L.flatMap (fun s => [.string s.na, .int .u32 s.ty, .slice s.de.a s.de.n s.de.c]) : List Value)[i * 3 + j]? := fun j => by
      rw [List.getElem?_append_right (by simp; omega)]
      congr 1
      simp; omega
    have e0 := e 0
    simp only [Nat.add_zero] at e0
    rw [e0, e 1, e 2]
    simpa using this
/-- A row of the call's own. -/
theorem Nt.Sl.own {w : World} {base : Nat} {e : TypeId} {a : Option Addr} {len cap : Nat} {L : List Nt} (hok : ∀ s ∈ L, s.Ok w w.heap.size) (h : w.ownsRow base e 3 (.slice a len cap) len (Nt.flat L)) : Nt.Sl w w.heap.size a len L := by
  have hl : L.length = len := by have := h.1; rw [Nt.flat_len] at this; omega
  refine ⟨hl, hok, fun hp => ?_⟩
  obtain ⟨g, rfl, hlt⟩ : ∃ g, a = some ⟨g, 0, none⟩ ∧ g < w.heap.size := by
    rcases h.2 with ⟨_, e0⟩ | ⟨g, c, cur, hv, _, hg, _⟩
    · omega
    · refine ⟨g, by injection hv, ?_⟩
      obtain ⟨hlt, _⟩ := Array.getElem?_eq_some_iff.1 hg
      exact hlt
  refine ⟨g, 0, rfl, hlt, fun i hi => ?_⟩
  obtain ⟨f0, f1, f2⟩ := Nt.flat_at L i (by omega)
  simp only [Nat.zero_add]
  exact ⟨(h.cellAt _ (by omega)).trans f0, (h.cellAt _ (by omega)).trans f1, (h.cellAt _ (by omega)).trans f2⟩
theorem Nt.own_below {w w' : World} {base n : Nat} {e : TypeId} {v : Value} {xs : List Value} (h : w.ownsRow base e 3 v n xs) (hb : Below w.heap.size w w') : w'.ownsRow base e 3 v n xs :=
  h.kept (row := none) ⟨hb.os, hb.tape, hb.output, hb.size, fun k hk _ => hb.block k hk⟩ (by cases v.ownBlock <;> simp)
theorem Nt.own_base {w : World} {base base' n : Nat} {e : TypeId} {v : Value} {xs : List Value} (h : w.ownsRow base e 3 v n xs) (hb : base' ≤ base) : w.ownsRow base' e 3 v n xs := by
  obtain ⟨hl, ⟨hv, e0⟩ | ⟨g, cap, cur, hv, hg, r⟩⟩ := h
  · exact ⟨hl, .inl ⟨hv, e0⟩⟩
  · exact ⟨hl, .inr ⟨g, cap, cur, hv, Nat.le_trans hb hg, r⟩⟩
theorem Nt.own_slice {w : World} {base n : Nat} {e : TypeId} {v : Value} {xs : List Value} (h : w.ownsRow base e 3 v n xs) : ∃ a c, v = .slice a n c ∧ n ≤ c ∧ (c : Int) ≤ 9223372036854775807 := by
  rcases h.2 with ⟨hv, e0⟩ | ⟨g, c, cur, hv, _, _, h1, h2, _⟩
  · exact ⟨none, 0, by rw [hv, e0], by omega, by omega⟩
  · exact ⟨_, _, hv, h1, by unfold maxLen at h2; omega⟩
end Go.Proofs.Ytkgakdlalmmdiaa
