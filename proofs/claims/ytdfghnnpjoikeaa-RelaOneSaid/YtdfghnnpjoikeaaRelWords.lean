/-
  What is proved here: words on memory: the cells of a struct 'Rl'; a slice of such structs; a block that holds one; a row of them of the call's own.
  Conditions: none; nothing here speaks of the program. (Made by structs.py.)
-/
import Derived.Test.YtdfghnnpjoikeaaBlk
namespace Go.Proofs.Ytdfghnnpjoikeaa
open Go.RowKit
set_option linter.unusedVariables false

structure Rl where
  of : Int
  ty : Int
  sy : Int
  ad : Int
structure Rl.Ok (s : Rl) : Prop where
  of : 0 ≤ s.of ∧ s.of ≤ 18446744073709551615
  ty : 0 ≤ s.ty ∧ s.ty ≤ 4294967295
  sy : 0 ≤ s.sy ∧ s.sy ≤ 4294967295
  ad : -9223372036854775808 ≤ s.ad ∧ s.ad ≤ 9223372036854775807
def Rl.cells (s : Rl) : Array Value := #[.int .u64 s.of, .int .u32 s.ty, .int .u32 s.sy, .int .i64 s.ad]
def Rl.val (s : Rl) : Value := .agg #[.int .u64 s.of, .int .u32 s.ty, .int .u32 s.sy, .int .i64 s.ad]
def Rl.zero : Rl := ⟨0, 0, 0, 0⟩
theorem Rl.zero_ok : Rl.zero.Ok := by constructor <;> decide
/-- At place o of block b lies one. -/
structure Rl.At (w : World) (b o : Nat) (s : Rl) : Prop where
  c0 : w.cell? ⟨b, o, none⟩ = some (.int .u64 s.of)
  c1 : w.cell? ⟨b, o + 1, none⟩ = some (.int .u32 s.ty)
  c2 : w.cell? ⟨b, o + 2, none⟩ = some (.int .u32 s.sy)
  c3 : w.cell? ⟨b, o + 3, none⟩ = some (.int .i64 s.ad)
theorem Rl.At.below {w w' : World} {B b o : Nat} {s : Rl} (h : Rl.At w b o s) (hb : Below B w w') (hB : b < B) : Rl.At w' b o s :=
  ⟨(hb.cell hB).trans h.c0, (hb.cell hB).trans h.c1, (hb.cell hB).trans h.c2, (hb.cell hB).trans h.c3⟩
theorem Rl.getD_mem {L : List Rl} {k : Nat} (h : k < L.length) : L.getD k Rl.zero ∈ L := by
  rw [List.getD_eq_getElem?_getD, List.getElem?_eq_getElem h]; exact List.getElem_mem h
theorem Rl.take_snoc {L : List Rl} {k : Nat} (h : k < L.length) : L.take (k + 1) = L.take k ++ [L.getD k Rl.zero] := by
  rw [List.take_succ_eq_append_getElem h, List.getD_eq_getElem?_getD, List.getElem?_eq_getElem h]; rfl
/-- A slice that lies below block B reads as the list L. -/
structure Rl.Sl (w : World) (B : Nat) (a : Option Addr) (len : Nat) (L : List Rl) : Prop where
  hl : L.length = len
  hok : ∀ s ∈ L, s.Ok
  hc : 0 < len → ∃ b off, a = some ⟨b, off, none⟩ ∧ b < B ∧ ∀ i, i < len → Rl.At w b (off + i * 4) (L.getD i Rl.zero)
theorem Rl.Sl.below {w w' : World} {B : Nat} {a : Option Addr} {len : Nat} {L : List Rl} (h : Rl.Sl w B a len L) (hb : Below B w w') : Rl.Sl w' B a len L :=
  ⟨h.hl, h.hok, fun hl => by
    obtain ⟨b, off, e, hB, hc⟩ := h.hc hl
    exact ⟨b, off, e, hB, fun i hi => (hc i hi).below hb hB⟩⟩
theorem Rl.Sl.more {w : World} {B B' : Nat} {a : Option Addr} {len : Nat} {L : List Rl} (h : Rl.Sl w B a len L) (hB : B ≤ B') : Rl.Sl w B' a len L :=
  ⟨h.hl, h.hok, fun hl => by
    obtain ⟨b, off, e, hb, hc⟩ := h.hc hl
    exact ⟨b, off, e, Nat.lt_of_lt_of_le hb hB, hc⟩⟩
theorem Rl.Sl.empty (w : World) (B : Nat) (a : Option Addr) : Rl.Sl w B a 0 [] := ⟨rfl, fun _ h => (by cases h), fun h => absurd h (by omega)⟩
theorem Rl.Sl.okAt {w : World} {B : Nat} {a : Option Addr} {len : Nat} {L : List Rl} (h : Rl.Sl w B a len L) {i : Nat} (hi : i < len) : (L.getD i Rl.zero).Ok :=
  h.hok _ (Rl.getD_mem (by have := h.hl; omega))
theorem Rl.Sl.front {w : World} {B : Nat} {a : Option Addr} {len : Nat} {L : List Rl} (h : Rl.Sl w B a len L) {n : Nat} (hn : n ≤ len) : Rl.Sl w B a n (L.take n) :=
  ⟨by rw [List.length_take, h.hl]; omega, fun s hs => h.hok s (List.mem_of_mem_take hs), fun hl => by
    obtain ⟨b, off, e, hb, hc⟩ := h.hc (by omega)
    refine ⟨b, off, e, hb, fun i hi => ?_⟩
    have := hc i (by omega)
    rwa [List.getD_eq_getElem?_getD, List.getElem?_take_of_lt hi, ← List.getD_eq_getElem?_getD]⟩
theorem Rl.of_blk {w : World} {g : Nat} {s : Rl} {t : TypeId} (h : Blk w g s.cells t) : Rl.At w g 0 s :=
  ⟨h.cell 0, h.cell 1, h.cell 2, h.cell 3⟩
theorem Rl.cs {w : World} {g : Nat} {v0 v1 v2 v3 : Value} {t : TypeId} (h : Blk w g #[v0, v1, v2, v3] t) :
    w.cell? ⟨g, 0, none⟩ = some v0 ∧ w.cell? ⟨g, 1, none⟩ = some v1 ∧ w.cell? ⟨g, 2, none⟩ = some v2 ∧ w.cell? ⟨g, 3, none⟩ = some v3 :=
  ⟨h.cell 0, h.cell 1, h.cell 2, h.cell 3⟩
theorem Rl.fs {w : World} {g : Nat} {v0 v1 v2 v3 : Value} {t : TypeId} (h : Blk w g #[v0, v1, v2, v3] t) :
    w.frozen? ⟨g, 0, none⟩ = false ∧ w.frozen? ⟨g, 1, none⟩ = false ∧ w.frozen? ⟨g, 2, none⟩ = false ∧ w.frozen? ⟨g, 3, none⟩ = false :=
  ⟨h.frozen 0, h.frozen 1, h.frozen 2, h.frozen 3⟩
/-- All cells of some of them. -/
def Rl.flat (L : List Rl) : List Value := L.flatMap fun s => [.int .u64 s.of, .int .u32 s.ty, .int .u32 s.sy, .int .i64 s.ad]
theorem Rl.flat_snoc (L : List Rl) (s : Rl) : Rl.flat (L ++ [s]) = Rl.flat L ++ [.int .u64 s.of, .int .u32 s.ty, .int .u32 s.sy, .int .i64 s.ad] := by
  unfold Rl.flat; rw [List.flatMap_append]; simp
theorem Rl.flat_len : ∀ L : List Rl, (Rl.flat L).length = L.length * 4
  | [] => rfl
  | s :: L => by
    have := Rl.flat_len L
    unfold Rl.flat at this ⊢
    rw [List.flatMap_cons, List.length_append, this]
    simp [Nat.add_mul]; omega
theorem Rl.flat_at : ∀ (L : List Rl) (i : Nat), i < L.length → (Rl.flat L)[i * 4]? = some (.int .u64 (L.getD i Rl.zero).of) ∧ (Rl.flat L)[i * 4 + 1]? = some (.int .u32 (L.getD i Rl.zero).ty) ∧ (Rl.flat L)[i * 4 + 2]? = some (.int .u32 (L.getD i Rl.zero).sy) ∧ (Rl.flat L)[i * 4 + 3]? = some (.int .i64 (L.getD i Rl.zero).ad)
  | [], i, h => by simp at h
  | s :: L, 0, _ => by simp [Rl.flat]
  | s :: L, i + 1, h => by
    have := Rl.flat_at L i (by simpa using h)
    unfold Rl.flat at this ⊢
    rw [List.flatMap_cons]
    have e : ∀ j, ([.int .u64 s.of, .int .u32 s.ty, .int .u32 s.sy, .int .i64 s.ad] ++ L.flatMap (fun s => [.int .u64 s.of, .int .u32 s.ty, .int .u32 s.sy, .int .i64 s.ad]) : List Value)[(i + 1) * 4 + j]? = (L.flatMap (fun s => [.int .u64 s.of, .int .u32 s.ty, .int .u32 s.sy, .int .i64 s.ad]) : List Value)[i * 4 + j]? := fun j => by
      rw [List.getElem?_append_right (by simp; omega)]
      congr 1
      simp; omega
    have e0 := e 0
    simp only [Nat.add_zero] at e0
    rw [e0, e 1, e 2, e 3]
    simpa using this
/-- A row of the call's own. -/
theorem Rl.Sl.own {w : World} {base : Nat} {e : TypeId} {a : Option Addr} {len cap : Nat} {L : List Rl} (hok : ∀ s ∈ L, s.Ok) (h : w.ownsRow base e 4 (.slice a len cap) len (Rl.flat L)) : Rl.Sl w w.heap.size a len L := by
  have hl : L.length = len := by have := h.1; rw [Rl.flat_len] at this; omega
  refine ⟨hl, hok, fun hp => ?_⟩
  obtain ⟨g, rfl, hlt⟩ : ∃ g, a = some ⟨g, 0, none⟩ ∧ g < w.heap.size := by
    rcases h.2 with ⟨_, e0⟩ | ⟨g, c, cur, hv, _, hg, _⟩
    · omega
    · refine ⟨g, by injection hv, ?_⟩
      obtain ⟨hlt, _⟩ := Array.getElem?_eq_some_iff.1 hg
      exact hlt
  refine ⟨g, 0, rfl, hlt, fun i hi => ?_⟩
  obtain ⟨f0, f1, f2, f3⟩ := Rl.flat_at L i (by omega)
  simp only [Nat.zero_add]
  exact ⟨(h.cellAt _ (by omega)).trans f0, (h.cellAt _ (by omega)).trans f1, (h.cellAt _ (by omega)).trans f2, (h.cellAt _ (by omega)).trans f3⟩
theorem Rl.own_below {w w' : World} {base n : Nat} {e : TypeId} {v : Value} {xs : List Value} (h : w.ownsRow base e 4 v n xs) (hb : Below w.heap.size w w') : w'.ownsRow base e 4 v n xs :=
  h.kept (row := none) ⟨hb.os, hb.tape, hb.output, hb.size, fun k hk _ => hb.block k hk⟩ (by cases v.ownBlock <;> simp)
theorem Rl.own_base {w : World} {base base' n : Nat} {e : TypeId} {v : Value} {xs : List Value} (h : w.ownsRow base e 4 v n xs) (hb : base' ≤ base) : w.ownsRow base' e 4 v n xs := by
  obtain ⟨hl, ⟨hv, e0⟩ | ⟨g, cap, cur, hv, hg, r⟩⟩ := h
  · exact ⟨hl, .inl ⟨hv, e0⟩⟩
  · exact ⟨hl, .inr ⟨g, cap, cur, hv, Nat.le_trans hb hg, r⟩⟩
theorem Rl.own_slice {w : World} {base n : Nat} {e : TypeId} {v : Value} {xs : List Value} (h : w.ownsRow base e 4 v n xs) : ∃ a c, v = .slice a n c ∧ n ≤ c ∧ (c : Int) ≤ 9223372036854775807 := by
  rcases h.2 with ⟨hv, e0⟩ | ⟨g, c, cur, hv, _, _, h1, h2, _⟩
  · exact ⟨none, 0, by rw [hv, e0], by omega, by omega⟩
  · exact ⟨_, _, hv, h1, by unfold maxLen at h2; omega⟩
/-- A literal's row. -/
theorem Rl.Sl.lit (w : World) (L : List Rl) (h : ∀ s ∈ L, s.Ok) (t : TypeId) (g : Nat) (hg : g = w.heap.size) : Rl.Sl (w.alloc (.cells (Rl.flat L).toArray t)) (w.alloc (.cells (Rl.flat L).toArray t)).heap.size (some ⟨g, 0, none⟩) L.length L := by
  subst hg
  refine ⟨rfl, h, fun _ => ⟨w.heap.size, 0, rfl, by simp, fun i hi => ?_⟩⟩
  have hc : ∀ j, (w.alloc (.cells (Rl.flat L).toArray t)).cell? ⟨w.heap.size, j, none⟩ = (Rl.flat L)[j]? := fun j => by
    rw [(Blk.new w (Rl.flat L).toArray t).cell j]; simp
  obtain ⟨f0, f1, f2, f3⟩ := Rl.flat_at L i hi
  simp only [Nat.zero_add]
  exact ⟨(hc _).trans f0, (hc _).trans f1, (hc _).trans f2, (hc _).trans f3⟩
end Go.Proofs.Ytdfghnnpjoikeaa
