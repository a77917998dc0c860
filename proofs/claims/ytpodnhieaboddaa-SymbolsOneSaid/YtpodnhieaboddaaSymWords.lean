/-
  What is proved here: words on memory: the cells of a struct 'Sy'; a slice of such structs; a block that holds one; a row of them of the call's own.
  Conditions: none; nothing here speaks of the program. (Made by structs.py.)
-/
import Derived.Test.YtpodnhieaboddaaBlk
namespace Go.Proofs.Ytpodnhieaboddaa
open Go.RowKit
set_option linter.unusedVariables false

structure Sy where
  na : Int
  inf : Int
  ot : Int
  se : Int
  va : Int
  si : Int
structure Sy.Ok (s : Sy) : Prop where
  na : 0 ≤ s.na ∧ s.na ≤ 4294967295
  inf : 0 ≤ s.inf ∧ s.inf ≤ 255
  ot : 0 ≤ s.ot ∧ s.ot ≤ 255
  se : 0 ≤ s.se ∧ s.se ≤ 65535
  va : 0 ≤ s.va ∧ s.va ≤ 18446744073709551615
  si : 0 ≤ s.si ∧ s.si ≤ 18446744073709551615
def Sy.cells (s : Sy) : Array Value := #[.int .u32 s.na, .int .u8 s.inf, .int .u8 s.ot, .int .u16 s.se, .int .u64 s.va, .int .u64 s.si]
def Sy.val (s : Sy) : Value := .agg #[.int .u32 s.na, .int .u8 s.inf, .int .u8 s.ot, .int .u16 s.se, .int .u64 s.va, .int .u64 s.si]
def Sy.zero : Sy := ⟨0, 0, 0, 0, 0, 0⟩
theorem Sy.zero_ok : Sy.zero.Ok := by constructor <;> decide
/-- At place o of block b lies one. -/
structure Sy.At (w : World) (b o : Nat) (s : Sy) : Prop where
  c0 : w.cell? ⟨b, o, none⟩ = some (.int .u32 s.na)
  c1 : w.cell? ⟨b, o + 1, none⟩ = some (.int .u8 s.inf)
  c2 : w.cell? ⟨b, o + 2, none⟩ = some (.int .u8 s.ot)
  c3 : w.cell? ⟨b, o + 3, none⟩ = some (.int .u16 s.se)
  c4 : w.cell? ⟨b, o + 4, none⟩ = some (.int .u64 s.va)
  c5 : w.cell? ⟨b, o + 5, none⟩ = some (.int .u64 s.si)
theorem Sy.At.below {w w' : World} {B b o : Nat} {s : Sy} (h : Sy.At w b o s) (hb : Below B w w') (hB : b < B) : Sy.At w' b o s :=
  ⟨(hb.cell hB).trans h.c0, (hb.cell hB).trans h.c1, (hb.cell hB).trans h.c2, (hb.cell hB).trans h.c3, (hb.cell hB).trans h.c4, (hb.cell hB).trans h.c5⟩
theorem Sy.getD_mem {L : List Sy} {k : Nat} (h : k < L.length) : L.getD k Sy.zero ∈ L := by
  rw [List.getD_eq_getElem?_getD, List.getElem?_eq_getElem h]; exact List.getElem_mem h
theorem Sy.take_snoc {L : List Sy} {k : Nat} (h : k < L.length) : L.take (k + 1) = L.take k ++ [L.getD k Sy.zero] := by
  rw [List.take_succ_eq_append_getElem h, List.getD_eq_getElem?_getD, List.getElem?_eq_getElem h]; rfl
/-- A slice that lies below block B reads as the list L. -/
structure Sy.Sl (w : World) (B : Nat) (a : Option Addr) (len : Nat) (L : List Sy) : Prop where
  hl : L.length = len
  hok : ∀ s ∈ L, s.Ok
  hc : 0 < len → ∃ b off, a = some ⟨b, off, none⟩ ∧ b < B ∧ ∀ i, i < len → Sy.At w b (off + i * 6) (L.getD i Sy.zero)
theorem Sy.Sl.below {w w' : World} {B : Nat} {a : Option Addr} {len : Nat} {L : List Sy} (h : Sy.Sl w B a len L) (hb : Below B w w') : Sy.Sl w' B a len L :=
  ⟨h.hl, h.hok, fun hl => by
    obtain ⟨b, off, e, hB, hc⟩ := h.hc hl
    exact ⟨b, off, e, hB, fun i hi => (hc i hi).below hb hB⟩⟩
theorem Sy.Sl.more {w : World} {B B' : Nat} {a : Option Addr} {len : Nat} {L : List Sy} (h : Sy.Sl w B a len L) (hB : B ≤ B') : Sy.Sl w B' a len L :=
  ⟨h.hl, h.hok, fun hl => by
    obtain ⟨b, off, e, hb, hc⟩ := h.hc hl
    exact ⟨b, off, e, Nat.lt_of_lt_of_le hb hB, hc⟩⟩
theorem Sy.Sl.empty (w : World) (B : Nat) (a : Option Addr) : Sy.Sl w B a 0 [] := ⟨rfl, fun _ h => (by cases h), fun h => absurd h (by omega)⟩
theorem Sy.Sl.okAt {w : World} {B : Nat} {a : Option Addr} {len : Nat} {L : List Sy} (h : Sy.Sl w B a len L) {i : Nat} (hi : i < len) : (L.getD i Sy.zero).Ok :=
  h.hok _ (Sy.getD_mem (by have := h.hl; omega))
theorem Sy.Sl.front {w : World} {B : Nat} {a : Option Addr} {len : Nat} {L : List Sy} (h : Sy.Sl w B a len L) {n : Nat} (hn : n ≤ len) : Sy.Sl w B a n (L.take n) :=
  ⟨by rw [List.length_take, h.hl]; omega, fun s hs => h.hok s (List.mem_of_mem_take hs), fun hl => by
    obtain ⟨b, off, e, hb, hc⟩ := h.hc (by omega)
    refine ⟨b, off, e, hb, fun i hi => ?_⟩
    have := hc i (by omega)
    rwa [List.getD_eq_getElem?_getD, List.getElem?_take_of_lt hi, ← List.getD_eq_getElem?_getD]⟩
theorem Sy.of_blk {w : World} {g : Nat} {s : Sy} {t : TypeId} (h : Blk w g s.cells t) : Sy.At w g 0 s :=
  ⟨h.cell 0, h.cell 1, h.cell 2, h.cell 3, h.cell 4, h.cell 5⟩
theorem Sy.cs {w : World} {g : Nat} {v0 v1 v2 v3 v4 v5 : Value} {t : TypeId} (h : Blk w g #[v0, v1, v2, v3, v4, v5] t) :
    w.cell? ⟨g, 0, none⟩ = some v0 ∧ w.cell? ⟨g, 1, none⟩ = some v1 ∧ w.cell? ⟨g, 2, none⟩ = some v2 ∧ w.cell? ⟨g, 3, none⟩ = some v3 ∧ w.cell? ⟨g, 4, none⟩ = some v4 ∧ w.cell? ⟨g, 5, none⟩ = some v5 :=
  ⟨h.cell 0, h.cell 1, h.cell 2, h.cell 3, h.cell 4, h.cell 5⟩
theorem Sy.fs {w : World} {g : Nat} {v0 v1 v2 v3 v4 v5 : Value} {t : TypeId} (h : Blk w g #[v0, v1, v2, v3, v4, v5] t) :
    w.frozen? ⟨g, 0, none⟩ = false ∧ w.frozen? ⟨g, 1, none⟩ = false ∧ w.frozen? ⟨g, 2, none⟩ = false ∧ w.frozen? ⟨g, 3, none⟩ = false ∧ w.frozen? ⟨g, 4, none⟩ = false ∧ w.frozen? ⟨g, 5, none⟩ = false :=
  ⟨h.frozen 0, h.frozen 1, h.frozen 2, h.frozen 3, h.frozen 4, h.frozen 5⟩
/-- All cells of some of them. -/
def Sy.flat (L : List Sy) : List Value := L.flatMap fun s => [.int .u32 s.na, .int .u8 s.inf, .int .u8 s.ot, .int .u16 s.se, .int .u64 s.va, .int .u64 s.si]
theorem Sy.flat_snoc (L : List Sy) (s : Sy) : Sy.flat (L ++ [s]) = Sy.flat L ++ [.int .u32 s.na, .int .u8 s.inf, .int .u8 s.ot, .int .u16 s.se, .int .u64 s.va, .int .u64 s.si] := by
  unfold Sy.flat; rw [List.flatMap_append]; simp
theorem Sy.flat_len : ∀ L : List Sy, (Sy.flat L).length = L.length * 6
  | [] => rfl
  | s :: L => by
    have := Sy.flat_len L
    unfold Sy.flat at this ⊢
    rw [List.flatMap_cons, List.length_append, this]
    simp [Nat.add_mul]; omega
theorem Sy.flat_at : ∀ (L : List Sy) (i : Nat), i < L.length → (Sy.flat L)[i * 6]? = some (.int .u32 (L.getD i Sy.zero).na) ∧ (Sy.flat L)[i * 6 + 1]? = some (.int .u8 (L.getD i Sy.zero).inf) ∧ (Sy.flat L)[i * 6 + 2]? = some (.int .u8 (L.getD i Sy.zero).ot) ∧ (Sy.flat L)[i * 6 + 3]? = some (.int .u16 (L.getD i Sy.zero).se) ∧ (Sy.flat L)[i * 6 + 4]? = some (.int .u64 (L.getD i Sy.zero).va) ∧ (Sy.flat L)[i * 6 + 5]? = some (.int .u64 (L.getD i Sy.zero).si)
  | [], i, h => by simp at h
  | s :: L, 0, _ => by simp [Sy.flat]
  | s :: L, i + 1, h => by
    have := Sy.flat_at L i (by simpa using h)
    unfold Sy.flat at this ⊢
    rw [List.flatMap_cons]
    have e : ∀ j, ([.int .u32 s.na, .int .u8 s.inf, .int .u8 s.ot, .int .u16 s.se, .int .u64 s.va, .int .u64 s.si] ++ L.flatMap (fun s => [.int .u32 s.na, .int .u8 s.inf, .int .u8 s.ot, .int .u16 s.se, .int .u64 s.va, .int .u64 s.si]) : List Value)[(i + 1) * 6 + j]? = (L.flatMap (fun s => [.int .u32 s.na, .int .u8 s.inf, .int .u8 s.ot, .int .u16 s.se, .int .u64 s.va, .int .u64 s.si]) : List Value)[i * 6 + j]? := fun j => by
      rw [List.getElem?_append_right (by simp; omega)]
      congr 1
      simp; omega
    have e0 := e 0
    simp only [Nat.add_zero] at e0
    rw [e0, e 1, e 2, e 3, e 4, e 5]
    simpa using this
/-- A row of the call's own. -/
theorem Sy.Sl.own {w : World} {base : Nat} {e : TypeId} {a : Option Addr} {len cap : Nat} {L : List Sy} (hok : ∀ s ∈ L, s.Ok) (h : w.ownsRow base e 6 (.slice a len cap) len (Sy.flat L)) : Sy.Sl w w.heap.size a len L := by
  have hl : L.length = len := by have := h.1; rw [Sy.flat_len] at this; omega
  refine ⟨hl, hok, fun hp => ?_⟩
  obtain ⟨g, rfl, hlt⟩ : ∃ g, a = some ⟨g, 0, none⟩ ∧ g < w.heap.size := by
    rcases h.2 with ⟨_, e0⟩ | ⟨g, c, cur, hv, _, hg, _⟩
    · omega
    · refine ⟨g, by injection hv, ?_⟩
      obtain ⟨hlt, _⟩ := Array.getElem?_eq_some_iff.1 hg
      exact hlt
  refine ⟨g, 0, rfl, hlt, fun i hi => ?_⟩
  obtain ⟨f0, f1, f2, f3, f4, f5⟩ := Sy.flat_at L i (by omega)
  simp only [Nat.zero_add]
  exact ⟨(h.cellAt _ (by omega)).trans f0, (h.cellAt _ (by omega)).trans f1, (h.cellAt _ (by omega)).trans f2, (h.cellAt _ (by omega)).trans f3, (h.cellAt _ (by omega)).trans f4, (h.cellAt _ (by omega)).trans f5⟩
theorem Sy.own_below {w w' : World} {base n : Nat} {e : TypeId} {v : Value} {xs : List Value} (h : w.ownsRow base e 6 v n xs) (hb : Below w.heap.size w w') : w'.ownsRow base e 6 v n xs :=
  h.kept (row := none) ⟨hb.os, hb.tape, hb.output, hb.size, fun k hk _ => hb.block k hk⟩ (by cases v.ownBlock <;> simp)
theorem Sy.own_base {w : World} {base base' n : Nat} {e : TypeId} {v : Value} {xs : List Value} (h : w.ownsRow base e 6 v n xs) (hb : base' ≤ base) : w.ownsRow base' e 6 v n xs := by
  obtain ⟨hl, ⟨hv, e0⟩ | ⟨g, cap, cur, hv, hg, r⟩⟩ := h
  · exact ⟨hl, .inl ⟨hv, e0⟩⟩
  · exact ⟨hl, .inr ⟨g, cap, cur, hv, Nat.le_trans hb hg, r⟩⟩
theorem Sy.own_slice {w : World} {base n : Nat} {e : TypeId} {v : Value} {xs : List Value} (h : w.ownsRow base e 6 v n xs) : ∃ a c, v = .slice a n c ∧ n ≤ c ∧ (c : Int) ≤ 9223372036854775807 := by
  rcases h.2 with ⟨hv, e0⟩ | ⟨g, c, cur, hv, _, _, h1, h2, _⟩
  · exact ⟨none, 0, by rw [hv, e0], by omega, by omega⟩
  · exact ⟨_, _, hv, h1, by unfold maxLen at h2; omega⟩
/-- A literal's row. -/
theorem Sy.Sl.lit (w : World) (L : List Sy) (h : ∀ s ∈ L, s.Ok) (t : TypeId) (g : Nat) (hg : g = w.heap.size) : Sy.Sl (w.alloc (.cells (Sy.flat L).toArray t)) (w.alloc (.cells (Sy.flat L).toArray t)).heap.size (some ⟨g, 0, none⟩) L.length L := by
  subst hg
  refine ⟨rfl, h, fun _ => ⟨w.heap.size, 0, rfl, by simp, fun i hi => ?_⟩⟩
  have hc : ∀ j, (w.alloc (.cells (Sy.flat L).toArray t)).cell? ⟨w.heap.size, j, none⟩ = (Sy.flat L)[j]? := fun j => by
    rw [(Blk.new w (Sy.flat L).toArray t).cell j]; simp
  obtain ⟨f0, f1, f2, f3, f4, f5⟩ := Sy.flat_at L i hi
  simp only [Nat.zero_add]
  exact ⟨(hc _).trans f0, (hc _).trans f1, (hc _).trans f2, (hc _).trans f3, (hc _).trans f4, (hc _).trans f5⟩
end Go.Proofs.Ytpodnhieaboddaa
