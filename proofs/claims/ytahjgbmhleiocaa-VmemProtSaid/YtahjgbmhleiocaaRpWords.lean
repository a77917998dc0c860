/-
  What is proved here: words on memory: the cells of a struct 'Rp'; a slice of such structs; a block that holds one; a row of them of the call's own.
  Conditions: none; nothing here speaks of the program. (Made by structs2.py.)
-/
import Derived.Test.YtahjgbmhleiocaaBlk
import Derived.Test.YtahjgbmhleiocaaBs
namespace Go.Proofs.Ytahjgbmhleiocaa
open Go.RowKit
set_option linter.unusedSimpArgs false
set_option linter.unusedVariables false

structure Rp where
  a : Int
  pr : Int
  di : Bool
  fi : ByteArray
  of : Int
  b : ByteArray
structure Rp.Ok (w : World) (B : Nat) (s : Rp) : Prop where
  a : 0 ≤ s.a ∧ s.a ≤ 18446744073709551615
  pr : -9223372036854775808 ≤ s.pr ∧ s.pr ≤ 9223372036854775807
  di : s.di = s.di
  fi : s.fi.size ≤ maxLen
  of : 0 ≤ s.of ∧ s.of ≤ 18446744073709551615
  b : s.b.size ≤ maxLen
def Rp.cells (s : Rp) : Array Value := #[.int .u64 s.a, .int .i64 s.pr, .bool s.di, .string s.fi, .int .u64 s.of, .string s.b]
def Rp.val (s : Rp) : Value := .agg #[.int .u64 s.a, .int .i64 s.pr, .bool s.di, .string s.fi, .int .u64 s.of, .string s.b]
def Rp.zero : Rp := ⟨0, 0, false, ByteArray.empty, 0, ByteArray.empty⟩
theorem Rp.zero_ok (w : World) (B : Nat) : Rp.zero.Ok w B := ⟨by decide, by decide, by decide, by decide, by decide, by decide⟩
theorem Rp.Ok.below {w w' : World} {B : Nat} {s : Rp} (h : s.Ok w B) (hb : Below B w w') : s.Ok w' B := ⟨h.a, h.pr, h.di, h.fi, h.of, h.b⟩
theorem Rp.Ok.more {w : World} {B B' : Nat} {s : Rp} (h : s.Ok w B) (hB : B ≤ B') : s.Ok w B' := ⟨h.a, h.pr, h.di, h.fi, h.of, h.b⟩
/-- At place o of block b lies one. -/
structure Rp.At (w : World) (b o : Nat) (s : Rp) : Prop where
  c0 : w.cell? ⟨b, o, none⟩ = some (.int .u64 s.a)
  c1 : w.cell? ⟨b, o + 1, none⟩ = some (.int .i64 s.pr)
  c2 : w.cell? ⟨b, o + 2, none⟩ = some (.bool s.di)
  c3 : w.cell? ⟨b, o + 3, none⟩ = some (.string s.fi)
  c4 : w.cell? ⟨b, o + 4, none⟩ = some (.int .u64 s.of)
  c5 : w.cell? ⟨b, o + 5, none⟩ = some (.string s.b)
theorem Rp.At.below {w w' : World} {B b o : Nat} {s : Rp} (h : Rp.At w b o s) (hb : Below B w w') (hB : b < B) : Rp.At w' b o s :=
  ⟨(hb.cell hB).trans h.c0, (hb.cell hB).trans h.c1, (hb.cell hB).trans h.c2, (hb.cell hB).trans h.c3, (hb.cell hB).trans h.c4, (hb.cell hB).trans h.c5⟩
theorem Rp.getD_mem {L : List Rp} {k : Nat} (h : k < L.length) : L.getD k Rp.zero ∈ L := by
  rw [List.getD_eq_getElem?_getD, List.getElem?_eq_getElem h]; exact List.getElem_mem h
theorem Rp.take_snoc {L : List Rp} {k : Nat} (h : k < L.length) : L.take (k + 1) = L.take k ++ [L.getD k Rp.zero] := by
  rw [List.take_succ_eq_append_getElem h, List.getD_eq_getElem?_getD, List.getElem?_eq_getElem h]; rfl
/-- A slice that lies below block B reads as the list L. -/
structure Rp.Sl (w : World) (B : Nat) (a : Option Addr) (len : Nat) (L : List Rp) : Prop where
  hl : L.length = len
  hok : ∀ s ∈ L, s.Ok w B
  hc : 0 < len → ∃ b off, a = some ⟨b, off, none⟩ ∧ b < B ∧ ∀ i, i < len → Rp.At w b (off + i * 6) (L.getD i Rp.zero)
theorem Rp.Sl.below {w w' : World} {B : Nat} {a : Option Addr} {len : Nat} {L : List Rp} (h : Rp.Sl w B a len L) (hb : Below B w w') : Rp.Sl w' B a len L :=
  ⟨h.hl, fun s hs => (h.hok s hs).below hb, fun hl => by
    obtain ⟨b, off, e, hB, hc⟩ := h.hc hl
    exact ⟨b, off, e, hB, fun i hi => (hc i hi).below hb hB⟩⟩
theorem Rp.Sl.more {w : World} {B B' : Nat} {a : Option Addr} {len : Nat} {L : List Rp} (h : Rp.Sl w B a len L) (hB : B ≤ B') : Rp.Sl w B' a len L :=
  ⟨h.hl, fun s hs => (h.hok s hs).more hB, fun hl => by
    obtain ⟨b, off, e, hb, hc⟩ := h.hc hl
    exact ⟨b, off, e, Nat.lt_of_lt_of_le hb hB, hc⟩⟩
theorem Rp.Sl.empty (w : World) (B : Nat) (a : Option Addr) : Rp.Sl w B a 0 [] := ⟨rfl, fun _ h => (by cases h), fun h => absurd h (by omega)⟩
theorem Rp.Sl.okAt {w : World} {B : Nat} {a : Option Addr} {len : Nat} {L : List Rp} (h : Rp.Sl w B a len L) {i : Nat} (hi : i < len) : (L.getD i Rp.zero).Ok w B :=
  h.hok _ (Rp.getD_mem (by have := h.hl; omega))
theorem Rp.of_blk {w : World} {g : Nat} {s : Rp} {t : TypeId} (h : Blk w g s.cells t) : Rp.At w g 0 s :=
  ⟨h.cell 0, h.cell 1, h.cell 2, h.cell 3, h.cell 4, h.cell 5⟩
theorem Rp.cs {w : World} {g : Nat} {v0 v1 v2 v3 v4 v5 : Value} {t : TypeId} (h : Blk w g #[v0, v1, v2, v3, v4, v5] t) :
    w.cell? ⟨g, 0, none⟩ = some v0 ∧ w.cell? ⟨g, 1, none⟩ = some v1 ∧ w.cell? ⟨g, 2, none⟩ = some v2 ∧ w.cell? ⟨g, 3, none⟩ = some v3 ∧ w.cell? ⟨g, 4, none⟩ = some v4 ∧ w.cell? ⟨g, 5, none⟩ = some v5 :=
  ⟨h.cell 0, h.cell 1, h.cell 2, h.cell 3, h.cell 4, h.cell 5⟩
theorem Rp.fs {w : World} {g : Nat} {v0 v1 v2 v3 v4 v5 : Value} {t : TypeId} (h : Blk w g #[v0, v1, v2, v3, v4, v5] t) :
    w.frozen? ⟨g, 0, none⟩ = false ∧ w.frozen? ⟨g, 1, none⟩ = false ∧ w.frozen? ⟨g, 2, none⟩ = false ∧ w.frozen? ⟨g, 3, none⟩ = false ∧ w.frozen? ⟨g, 4, none⟩ = false ∧ w.frozen? ⟨g, 5, none⟩ = false :=
  ⟨h.frozen 0, h.frozen 1, h.frozen 2, h.frozen 3, h.frozen 4, h.frozen 5⟩
/-- All cells of some of them. -/
def Rp.flat (L : List Rp) : List Value := L.flatMap fun s => [.int .u64 s.a, .int .i64 s.pr, .bool s.di, .string s.fi, .int .u64 s.of, .string s.b]
theorem Rp.flat_snoc (L : List Rp) (s : Rp) : Rp.flat (L ++ [s]) = Rp.flat L ++ [.int .u64 s.a, .int .i64 s.pr, .bool s.di, .string s.fi, .int .u64 s.of, .string s.b] := by
  unfold Rp.flat; rw [List.flatMap_append]; simp
theorem Rp.flat_len : ∀ L : List Rp, (Rp.flat L).length = L.length * 6
  | [] => rfl
  | s :: L => by
    have := Rp.flat_len L
    unfold Rp.flat at this ⊢
    rw [List.flatMap_cons, List.length_append, this]
    simp [Nat.add_mul]; omega
theorem Rp.flat_at : ∀ (L : List Rp) (i : Nat), i < L.length → (Rp.flat L)[i * 6]? = some (.int .u64 (L.getD i Rp.zero).a) ∧ (Rp.flat L)[i * 6 + 1]? = some (.int .i64 (L.getD i Rp.zero).pr) ∧ (Rp.flat L)[i * 6 + 2]? = some (.bool (L.getD i Rp.zero).di) ∧ (Rp.flat L)[i * 6 + 3]? = some (.string (L.getD i Rp.zero).fi) ∧ (Rp.flat L)[i * 6 + 4]? = some (.int .u64 (L.getD i Rp.zero).of) ∧ (Rp.flat L)[i * 6 + 5]? = some (.string (L.getD i Rp.zero).b)
  | [], i, h => by simp at h
  | s :: L, 0, _ => by simp [Rp.flat]
  | s :: L, i + 1, h => by
    have := Rp.flat_at L i (by simpa using h)
    unfold Rp.flat at this ⊢
    rw [List.flatMap_cons]
    have e : ∀ j, ([.int .u64 s.a, .int .i64 s.pr, .bool s.di, .string s.fi, .int .u64 s.of, .string s.b] ++ L.flatMap (fun s => [.int .u64 s.a, .int .i64 s.pr, .bool s.di, .string s.fi, .int .u64 s.of, .string s.b]) : List Value)[(i + 1) * 6 + j]? = (L.flatMap (fun s => [.int .u64 s.a, .int .i64 s.pr, .bool s.di, .string s.fi, .int .u64 s.of, .string s.b]) : List Value)[i * 6 + j]? := fun j => by
      rw [List.getElem?_append_right (by simp; omega)]
      congr 1
      simp; omega
    have e0 := e 0
    simp only [Nat.add_zero] at e0
    rw [e0, e 1, e 2, e 3, e 4, e 5]
    simpa using this
/-- A row of the call's own. -/
theorem Rp.Sl.own {w : World} {base : Nat} {e : TypeId} {a : Option Addr} {len cap : Nat} {L : List Rp} (hok : ∀ s ∈ L, s.Ok w w.heap.size) (h : w.ownsRow base e 6 (.slice a len cap) len (Rp.flat L)) : Rp.Sl w w.heap.size a len L := by
  have hl : L.length = len := by have := h.1; rw [Rp.flat_len] at this; omega
  refine ⟨hl, hok, fun hp => ?_⟩
  obtain ⟨g, rfl, hlt⟩ : ∃ g, a = some ⟨g, 0, none⟩ ∧ g < w.heap.size := by
    rcases h.2 with ⟨_, e0⟩ | ⟨g, c, cur, hv, _, hg, _⟩
    · omega
    · refine ⟨g, by injection hv, ?_⟩
      obtain ⟨hlt, _⟩ := Array.getElem?_eq_some_iff.1 hg
      exact hlt
  refine ⟨g, 0, rfl, hlt, fun i hi => ?_⟩
  obtain ⟨f0, f1, f2, f3, f4, f5⟩ := Rp.flat_at L i (by omega)
  simp only [Nat.zero_add]
  exact ⟨(h.cellAt _ (by omega)).trans f0, (h.cellAt _ (by omega)).trans f1, (h.cellAt _ (by omega)).trans f2, (h.cellAt _ (by omega)).trans f3, (h.cellAt _ (by omega)).trans f4, (h.cellAt _ (by omega)).trans f5⟩
theorem Rp.own_below {w w' : World} {base n : Nat} {e : TypeId} {v : Value} {xs : List Value} (h : w.ownsRow base e 6 v n xs) (hb : Below w.heap.size w w') : w'.ownsRow base e 6 v n xs :=
  h.kept (row := none) ⟨hb.os, hb.tape, hb.output, hb.size, fun k hk _ => hb.block k hk⟩ (by cases v.ownBlock <;> simp)
theorem Rp.own_base {w : World} {base base' n : Nat} {e : TypeId} {v : Value} {xs : List Value} (h : w.ownsRow base e 6 v n xs) (hb : base' ≤ base) : w.ownsRow base' e 6 v n xs := by
  obtain ⟨hl, ⟨hv, e0⟩ | ⟨g, cap, cur, hv, hg, r⟩⟩ := h
  · exact ⟨hl, .inl ⟨hv, e0⟩⟩
  · exact ⟨hl, .inr ⟨g, cap, cur, hv, Nat.le_trans hb hg, r⟩⟩
theorem Rp.own_slice {w : World} {base n : Nat} {e : TypeId} {v : Value} {xs : List Value} (h : w.ownsRow base e 6 v n xs) : ∃ a c, v = .slice a n c ∧ n ≤ c ∧ (c : Int) ≤ 9223372036854775807 := by
  rcases h.2 with ⟨hv, e0⟩ | ⟨g, c, cur, hv, _, _, h1, h2, _⟩
  · exact ⟨none, 0, by rw [hv, e0], by omega, by omega⟩
  · exact ⟨_, _, hv, h1, by unfold maxLen at h2; omega⟩
end Go.Proofs.Ytahjgbmhleiocaa
