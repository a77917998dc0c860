/-
  What is proved here: words for slices of uint64: when one reads as a list of numbers, in a later world too, and as a row of the call's own; what the frame hands over of one.
  Conditions: none; nothing here speaks of the program.
-/
import Derived.Test.YtkhfmgifpppcmaaDoorBase
namespace Go.Proofs.YtkhfmgifpppcmaaDoor
open Go.RowKit
set_option linter.unusedVariables false

/-- A slice of uint64 that lies below block B reads as the list zs. -/
structure Nus (w : World) (B : Nat) (a : Option Addr) (len : Nat) (zs : List Int) : Prop where
  hl : zs.length = len
  bd : ∀ n ∈ zs, 0 ≤ n ∧ n ≤ 18446744073709551615
  hc : 0 < len → ∃ b off, a = some ⟨b, off, none⟩ ∧ b < B ∧ ∀ i, i < len → w.cell? ⟨b, off + i, none⟩ = some (.int .u64 (zs.getD i 0))
theorem Nus.below {w w' : World} {B : Nat} {a : Option Addr} {len : Nat} {zs : List Int} (h : Nus w B a len zs) (hb : Below B w w') : Nus w' B a len zs :=
  ⟨h.hl, h.bd, fun hl => by
    obtain ⟨b, off, e, hB, hc⟩ := h.hc hl
    exact ⟨b, off, e, hB, fun i hi => (hb.cell (p := ⟨b, off + i, none⟩) hB).trans (hc i hi)⟩⟩
theorem Nus.more {w : World} {B B' : Nat} {a : Option Addr} {len : Nat} {zs : List Int} (h : Nus w B a len zs) (hB : B ≤ B') : Nus w B' a len zs :=
  ⟨h.hl, h.bd, fun hl => by
    obtain ⟨b, off, e, hb, hc⟩ := h.hc hl
    exact ⟨b, off, e, Nat.lt_of_lt_of_le hb hB, hc⟩⟩
theorem Nus.empty (w : World) (B : Nat) (a : Option Addr) : Nus w B a 0 [] := ⟨rfl, fun _ h => (by cases h), fun h => absurd h (by omega)⟩
theorem getElem_map_u64 {zs : List Int} {i : Nat} (h : i < zs.length) : (zs.map (Value.int .u64))[i]? = some (.int .u64 (zs.getD i 0)) := by
  rw [List.getElem?_map, List.getElem?_eq_getElem h, List.getD_eq_getElem?_getD, List.getElem?_eq_getElem h]; rfl
theorem one_u64 (zs : List Int) : ∀ v ∈ zs.map (Value.int .u64), v.oneCell' = true := by
  intro v hv
  obtain ⟨n, _, rfl⟩ := List.mem_map.1 hv
  rfl
theorem Nus.own {w : World} {base : Nat} {e : TypeId} {a : Option Addr} {len cap : Nat} {zs : List Int} (hz : ∀ n ∈ zs, 0 ≤ n ∧ n ≤ 18446744073709551615)
    (h : w.ownsRow base e 1 (.slice a len cap) len (zs.map (Value.int .u64))) : Nus w w.heap.size a len zs := by
  have hl : zs.length = len := by have := h.1; simpa using this
  refine ⟨hl, hz, fun hp => ?_⟩
  obtain ⟨b, off, e1, hB, hc⟩ := (Cel.own h).2 hp
  refine ⟨b, off, e1, hB, fun i hi => ?_⟩
  rw [hc i hi, getElem_map_u64 (by omega)]
theorem Nus.at {w : World} {B : Nat} {a : Option Addr} {len : Nat} {zs : List Int} (h : Nus w B a len zs) {i : Nat} (hi : i < len) : 0 ≤ zs.getD i 0 ∧ zs.getD i 0 ≤ 18446744073709551615 := by
  have hl := h.hl
  rw [List.getD_eq_getElem?_getD, List.getElem?_eq_getElem (by omega)]
  exact h.bd _ (List.getElem_mem (by omega))
theorem Nus.drewN {w : World} {B : Nat} {a : Option Addr} {len : Nat} {zs : List Int} (h : Nus w B a len zs) (n : Nat) : Nus (w.drewN n) B a len zs := h.below (below_drewN (Below.refl B w) n)
/-- A literal's block. -/
theorem Nus.lit (w : World) (zs : List Int) (hz : ∀ n ∈ zs, 0 ≤ n ∧ n ≤ 18446744073709551615) (t : TypeId) : Nus (w.alloc (.cells (zs.map (Value.int .u64)).toArray t)) (w.heap.size + 1) (some ⟨w.heap.size, 0, none⟩) zs.length zs :=
  ⟨rfl, hz, fun h => ⟨w.heap.size, 0, rfl, by omega, fun i hi => by
    rw [Nat.zero_add, World.cell?_alloc_at _ _ _ _ rfl]
    simpa using getElem_map_u64 hi⟩⟩
theorem IsRow.nus {w : World} {a : Option Addr} {len cap : Nat} {zs : List Int} (h : IsRow .u64 w a len cap zs) :
    Nus w w.heap.size a len (zs.take len) ∧ len ≤ cap ∧ (cap : Int) ≤ 9223372036854775807 := by
  rcases h with ⟨rfl, rfl, rfl, rfl⟩ | ⟨⟨b, off, spot⟩, rfl, hl, hm, hz, hc, hw⟩
  · exact ⟨Nus.empty _ _ _, Nat.le_refl _, by omega⟩
  · have hm' : (cap : Int) ≤ 9223372036854775807 := by unfold maxLen at hm; omega
    refine ⟨⟨by rw [List.length_take]; omega, fun n hn => bd_u64 (hw n (List.mem_of_mem_take hn)), fun h0 => ?_⟩, hl, hm'⟩
    have h1 := hc 0 (by omega)
    have hs : spot = none := by simpa [Addr.add] using World.cell?_spot h1
    subst hs
    rw [add_none] at h1
    refine ⟨b, off, rfl, block_lt h1, fun i hi => ?_⟩
    have h2 := hc i (by omega)
    rw [add_none] at h2
    rw [h2, List.getD_eq_getElem?_getD, List.getD_eq_getElem?_getD, List.getElem?_take_of_lt hi]
end Go.Proofs.YtkhfmgifpppcmaaDoor
