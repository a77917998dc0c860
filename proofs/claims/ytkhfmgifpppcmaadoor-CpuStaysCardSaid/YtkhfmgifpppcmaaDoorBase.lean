/-
  What is proved here: plain words for all layers: when a slice in memory reads as a list of bytes, of strings, of numbers; rows of the call's own; strings as lists of bytes.
  Conditions: none; nothing here speaks of the program.
-/
import Derived.WalkKit
import Derived.Lib.Hide
import Derived.WalkSpells
import Derived.WalkLawsBesides
import Derived.OpenShut
import Derived.ShutString
import Derived.SliceStrings
import Derived.Laws.BytesArg
import Derived.Laws.CopyOwn
import Derived.Lib.AppendStr
import Derived.Lib.BytesEntry
import Derived.Maps.OwnSet
import Derived.StringKeys
import Derived.BigQuiet
import Derived.Deep.QuietTactic
import Derived.ChangeAlike
namespace Go.Proofs.YtkhfmgifpppcmaaDoor
open Go.RowKit
set_option linter.unusedVariables false

/-! ### numbers, endings -/
theorem ret_bool {a b : Bool} (h : a = b) : Ending.returned (.bool a) = .returned (.bool b) := by rw [h]
theorem ret_num {k : IntKind} {a b : Int} {v : Value} (h : a = b) : Ending.returned (.tuple #[.int k a, v]) = .returned (.tuple #[.int k b, v]) := by rw [h]
theorem bd_u64 {n : Int} (h : (Lit.int .u64 n).wf = true) : 0 ≤ n ∧ n ≤ 18446744073709551615 := by
  simpa [Lit.wf, IntKind.min, IntKind.max, IntKind.signed, IntKind.bits] using h
theorem bd_i64 {n : Int} (h : (Lit.int .i64 n).wf = true) : -9223372036854775808 ≤ n ∧ n ≤ 9223372036854775807 := by
  simpa [Lit.wf, IntKind.min, IntKind.max, IntKind.signed, IntKind.bits] using h
theorem add_none (b off j : Nat) : (⟨b, off, none⟩ : Addr).add j = ⟨b, off + j, none⟩ := by
  unfold Addr.add
  by_cases h : j = 0 <;> simp [h]
theorem block_lt {w : World} {p : Addr} {v : Value} (h : w.cell? p = some v) : p.block < w.heap.size := by
  rcases Nat.lt_or_ge p.block w.heap.size with hl | hl
  · exact hl
  · simp [World.cell?, Array.getElem?_eq_none hl] at h

/-! ### slices of any cells -/
/-- A slice that lies below block B holds the cells vs. -/
def Cel (w : World) (B : Nat) (a : Option Addr) (len : Nat) (vs : List Value) : Prop :=
  vs.length = len ∧ (0 < len → ∃ b off, a = some ⟨b, off, none⟩ ∧ b < B ∧ ∀ i, i < len → w.cell? ⟨b, off + i, none⟩ = vs[i]?)
theorem Cel.below {w w' : World} {B : Nat} {a : Option Addr} {len : Nat} {vs : List Value} (h : Cel w B a len vs) (hb : Below B w w') : Cel w' B a len vs :=
  ⟨h.1, fun hl => by
    obtain ⟨b, off, e, hB, hc⟩ := h.2 hl
    exact ⟨b, off, e, hB, fun i hi => (hb.cell (p := ⟨b, off + i, none⟩) hB).trans (hc i hi)⟩⟩
theorem Cel.more {w : World} {B B' : Nat} {a : Option Addr} {len : Nat} {vs : List Value} (h : Cel w B a len vs) (hB : B ≤ B') : Cel w B' a len vs :=
  ⟨h.1, fun hl => by
    obtain ⟨b, off, e, hb, hc⟩ := h.2 hl
    exact ⟨b, off, e, Nat.lt_of_lt_of_le hb hB, hc⟩⟩
theorem Cel.empty (w : World) (B : Nat) (a : Option Addr) : Cel w B a 0 [] := ⟨rfl, fun h => absurd h (by omega)⟩
theorem Cel.own {w : World} {base : Nat} {e : TypeId} {a : Option Addr} {len cap : Nat} {vs : List Value} (h : w.ownsRow base e 1 (.slice a len cap) len vs) : Cel w w.heap.size a len vs := by
  have hl : vs.length = len := by have := h.1; simpa using this
  refine ⟨hl, fun hp => ?_⟩
  obtain ⟨g, rfl, hlt⟩ : ∃ g, a = some ⟨g, 0, none⟩ ∧ g < w.heap.size := by
    rcases h.2 with ⟨_, e0⟩ | ⟨g, c, cur, hv, _, hg, _⟩
    · omega
    · refine ⟨g, by injection hv, ?_⟩
      obtain ⟨hlt, _⟩ := Array.getElem?_eq_some_iff.1 hg
      exact hlt
  refine ⟨g, 0, rfl, hlt, fun i hi => ?_⟩
  have := h.cellAt i (by omega)
  rw [Nat.zero_add, this]
/-- Its cells, as the copy and the append want them. -/
theorem Cel.src {w : World} {b off len : Nat} {vs : List Value} (hl : vs.length = len) (hc : ∀ i, i < len → w.cell? ⟨b, off + i, none⟩ = vs[i]?) :
    ∀ (j : Nat) (v : Value), vs[j]? = some v → w.cell? ((⟨b, off, none⟩ : Addr).add j) = some v := by
  intro j v hv
  have hj : j < vs.length := (List.getElem?_eq_some_iff.1 hv).1
  rw [add_none, hc j (by omega), hv]

/-! ### slices of bytes -/
/-- A slice of bytes that lies below block B reads as the list zs. -/
def Bys (w : World) (B : Nat) (a : Option Addr) (len : Nat) (zs : List Int) : Prop :=
  zs.length = len ∧ (∀ n ∈ zs, 0 ≤ n ∧ n ≤ 255) ∧ (0 < len → ∃ b off, a = some ⟨b, off, none⟩ ∧ b < B ∧ ∀ i, i < len → w.cell? ⟨b, off + i, none⟩ = some (.int .u8 (zs.getD i 0)))

theorem Bys.below {w w' : World} {B : Nat} {a : Option Addr} {len : Nat} {zs : List Int} (h : Bys w B a len zs) (hb : Below B w w') : Bys w' B a len zs :=
  ⟨h.1, h.2.1, fun hl => by
    obtain ⟨b, off, e, hB, hc⟩ := h.2.2 hl
    exact ⟨b, off, e, hB, fun i hi => (hb.cell (p := ⟨b, off + i, none⟩) hB).trans (hc i hi)⟩⟩

/-- Its cells, as the copy wants them. -/
theorem Bys.src {w : World} {b off len : Nat} {zs : List Int} (hl : zs.length = len) (hc : ∀ i, i < len → w.cell? ⟨b, off + i, none⟩ = some (.int .u8 (zs.getD i 0))) :
    ∀ (j : Nat) (v : Value), (zs.map (Value.int .u8))[j]? = some v → w.cell? ((⟨b, off, none⟩ : Addr).add j) = some v := by
  intro j v hv
  have hj : j < zs.length := by
    rcases Nat.lt_or_ge j zs.length with h | h
    · exact h
    · rw [List.getElem?_eq_none (by simpa using h)] at hv; cases hv
  rw [add_none, hc j (by omega), List.getD_eq_getElem?_getD, List.getElem?_eq_getElem hj]
  rw [List.getElem?_map, List.getElem?_eq_getElem hj] at hv
  exact hv
theorem one_u8 (zs : List Int) : ∀ v ∈ zs.map (Value.int .u8), v.oneCell' = true := by
  intro v hv
  obtain ⟨n, _, rfl⟩ := List.mem_map.1 hv
  rfl

theorem Bys.more {w : World} {B B' : Nat} {a : Option Addr} {len : Nat} {zs : List Int} (h : Bys w B a len zs) (hB : B ≤ B') : Bys w B' a len zs :=
  ⟨h.1, h.2.1, fun hl => by
    obtain ⟨b, off, e, hb, hc⟩ := h.2.2 hl
    exact ⟨b, off, e, Nat.lt_of_lt_of_le hb hB, hc⟩⟩

theorem Bys.empty (w : World) (B : Nat) (a : Option Addr) : Bys w B a 0 [] := ⟨rfl, fun _ h => (by cases h), fun h => absurd h (by omega)⟩

/-- What a row of the call's own reads as. -/
theorem Bys.own {w : World} {base : Nat} {e : TypeId} {a : Option Addr} {len cap : Nat} {zs : List Int} (hz : ∀ n ∈ zs, 0 ≤ n ∧ n ≤ 255)
    (h : w.ownsRow base e 1 (.slice a len cap) len (zs.map (Value.int .u8))) : Bys w w.heap.size a len zs := by
  have hl : zs.length = len := by have := h.1; simpa using this
  refine ⟨hl, hz, fun hp => ?_⟩
  obtain ⟨b, off, e1, hB, hc⟩ := (Cel.own h).2 hp
  refine ⟨b, off, e1, hB, fun i hi => ?_⟩
  rw [hc i hi, List.getElem?_map, List.getElem?_eq_getElem (by omega), List.getD_eq_getElem?_getD, List.getElem?_eq_getElem (by omega)]
  rfl

theorem getD_bd {zs : List Int} (h : ∀ n ∈ zs, 0 ≤ n ∧ n ≤ 255) (i : Nat) : 0 ≤ zs.getD i 0 ∧ zs.getD i 0 ≤ 255 := by
  rw [List.getD_eq_getElem?_getD]
  by_cases hi : i < zs.length
  · rw [List.getElem?_eq_getElem hi]; exact h _ (List.getElem_mem hi)
  · rw [List.getElem?_eq_none (by omega)]; simp

/-- A new block of bytes reads as its list. -/
theorem Bys.alloc_new (w : World) (zs : List Int) (hz : ∀ n ∈ zs, 0 ≤ n ∧ n ≤ 255) (t : TypeId) : Bys (w.alloc (.cells (zs.map (Value.int .u8)).toArray t)) (w.heap.size + 1) (some ⟨w.heap.size, 0, none⟩) zs.length zs := by
  refine ⟨rfl, hz, fun h => ⟨w.heap.size, 0, rfl, by omega, fun i hi => ?_⟩⟩
  rw [Nat.zero_add, World.cell?_alloc_at _ _ _ _ rfl]
  have : (zs.map (Value.int .u8))[i]? = some (.int .u8 (zs.getD i 0)) := by
    rw [List.getElem?_map, List.getElem?_eq_getElem hi, List.getD_eq_getElem?_getD, List.getElem?_eq_getElem hi]; rfl
  simpa using this

/-! ### pieces of lists of bytes -/
/-- The bytes of a piece: n of them from p on. -/
def piece (zs : List Int) (p n : Nat) : List Int := (zs.drop p).take n
theorem piece_len {zs : List Int} {p n : Nat} (h : p + n ≤ zs.length) : (piece zs p n).length = n := by
  simp only [piece, List.length_take, List.length_drop]; omega
theorem piece_mem {zs : List Int} {p n : Nat} {P : Int → Prop} (h : ∀ x ∈ zs, P x) : ∀ x ∈ piece zs p n, P x :=
  fun x hx => h x (List.mem_of_mem_drop (List.mem_of_mem_take hx))
theorem piece_succ {zs : List Int} {p k : Nat} (h : p + k < zs.length) : piece zs p (k + 1) = piece zs p k ++ [zs.getD (p + k) 0] := by
  unfold piece
  rw [List.take_succ_eq_append_getElem (by rw [List.length_drop]; omega), List.getElem_drop, List.getD_eq_getElem?_getD, List.getElem?_eq_getElem h]
  rfl
theorem piece_getD {zs : List Int} {p n i : Nat} (h : i < n) : (piece zs p n).getD i 0 = zs.getD (p + i) 0 := by
  unfold piece
  rw [List.getD_eq_getElem?_getD, List.getD_eq_getElem?_getD, List.getElem?_take_of_lt h, List.getElem?_drop]
theorem piece_zero (zs : List Int) (p : Nat) : piece zs p 0 = [] := rfl
theorem piece_cons {zs : List Int} {p k : Nat} (h : p < zs.length) : piece zs p (k + 1) = zs.getD p 0 :: piece zs (p + 1) k := by
  unfold piece
  rw [List.drop_eq_getElem_cons h, List.take_succ_cons, List.getD_eq_getElem?_getD, List.getElem?_eq_getElem h]
  rfl
theorem getElem_map_u8 {zs : List Int} {i : Nat} (h : i < zs.length) : (zs.map (Value.int .u8))[i]? = some (.int .u8 (zs.getD i 0)) := by
  rw [List.getElem?_map, List.getElem?_eq_getElem h, List.getD_eq_getElem?_getD, List.getElem?_eq_getElem h]; rfl
theorem map_set_u8 (zs : List Int) (i : Nat) (c : Int) : (zs.map (Value.int .u8)).set i (.int .u8 c) = (zs.set i c).map (Value.int .u8) := by rw [List.map_set]

/-- A piece of a slice of bytes is one. -/
theorem Bys.sub {w : World} {B b off len : Nat} {zs : List Int} (h : Bys w B (some ⟨b, off, none⟩) len zs) {p n : Nat} (hp : p + n ≤ len) : Bys w B (some ⟨b, off + p, none⟩) n (piece zs p n) := by
  refine ⟨piece_len (by have := h.1; omega), piece_mem h.2.1, fun hn => ?_⟩
  obtain ⟨b', off', e, hB, hc⟩ := h.2.2 (by omega)
  injection e with e; injection e with e1 e2; subst e1; subst e2
  refine ⟨b, off + p, rfl, hB, fun i hi => ?_⟩
  rw [Nat.add_assoc, hc (p + i) (by omega), piece_getD hi]

/-! ### rows of the call's own -/
theorem own_slice {w : World} {base n : Nat} {e : TypeId} {v : Value} {xs : List Value} (h : w.ownsRow base e 1 v n xs) : ∃ a c, v = .slice a n c := by
  rcases h.2 with ⟨hv, e0⟩ | ⟨g, c, cur, hv, _⟩
  · exact ⟨none, 0, by rw [hv, e0]⟩
  · exact ⟨_, _, hv⟩
theorem own_some {w : World} {base n : Nat} {e : TypeId} {v : Value} {xs : List Value} (h : w.ownsRow base e 1 v n xs) (hn : 0 < n) : ∃ g c, v = .slice (some ⟨g, 0, none⟩) n c ∧ base ≤ g := by
  rcases h.2 with ⟨hv, e0⟩ | ⟨g, c, cur, hv, hb, _⟩
  · omega
  · exact ⟨g, c, hv, hb⟩
theorem own_whole {w : World} {base g n : Nat} {e : TypeId} {xs : List Value} (h : w.ownsRow base e 1 (.slice (some ⟨g, 0, none⟩) n n) n xs) : w.heap[g]? = some (.cells xs.toArray e (0, 0)) := by
  obtain ⟨hl, ⟨hv, _⟩ | ⟨g', cap, cur, hv, _, hg, _, _, hs, ht⟩⟩ := h
  · cases hv
  · injection hv with h1 h2 h3
    injection h1 with h1
    injection h1 with h1
    subst h1; subst h3
    rw [hg]
    have : cur.toList.take (n * 1) = cur.toList := List.take_of_length_le (by rw [Array.length_toList]; omega)
    rw [this] at ht
    subst ht
    rfl
theorem own_of_whole {w : World} {base g n : Nat} {e : TypeId} {xs : List Value} (hb : base ≤ g) (hm : n ≤ maxLen) (hl : xs.length = n) (h : w.heap[g]? = some (.cells xs.toArray e (0, 0))) : w.ownsRow base e 1 (.slice (some ⟨g, 0, none⟩) n n) n xs :=
  ⟨by omega, .inr ⟨g, n, xs.toArray, rfl, hb, h, Nat.le_refl _, hm, by simpa using hl, by simpa using List.take_of_length_le (by omega)⟩⟩
/-- A row of the call's own stays one while nothing that was there is written. -/
theorem own_below {w w' : World} {base n : Nat} {e : TypeId} {v : Value} {xs : List Value} (h : w.ownsRow base e 1 v n xs) (hb : Below w.heap.size w w') : w'.ownsRow base e 1 v n xs :=
  h.kept (row := none) ⟨hb.os, hb.tape, hb.output, hb.size, fun k hk _ => hb.block k hk⟩ (by cases v.ownBlock <;> simp)
theorem own_base {w : World} {base base' n : Nat} {e : TypeId} {v : Value} {xs : List Value} (h : w.ownsRow base e 1 v n xs) (hb : base' ≤ base) : w.ownsRow base' e 1 v n xs := by
  obtain ⟨hl, ⟨hv, e0⟩ | ⟨g, cap, cur, hv, hg, r⟩⟩ := h
  · exact ⟨hl, .inl ⟨hv, e0⟩⟩
  · exact ⟨hl, .inr ⟨g, cap, cur, hv, Nat.le_trans hb hg, r⟩⟩
theorem splice_all {α : Type} (L cs : List α) (h : L.length = cs.length) : splice L 0 cs = cs := by
  unfold splice
  rw [List.take_zero, List.nil_append, Nat.zero_add, List.drop_eq_nil_of_le (by omega), List.append_nil]
/-- A new block that a literal made, as a row. -/
theorem own_alloc (w : World) (base : Nat) (e : TypeId) (xs : List Value) (hb : base ≤ w.heap.size) (hm : xs.length ≤ maxLen) : (w.alloc (.cells xs.toArray e)).ownsRow base e 1 (.slice (some ⟨w.heap.size, 0, none⟩) xs.length xs.length) xs.length xs :=
  own_of_whole hb hm rfl (heap_alloc_new w _)

/-! ### what the frame hands over -/
/-- A slice of integers that came in: it is nil, or it leads to a row of 'cap' cells, the numbers 'zs'. -/
def IsRow (k : IntKind) (w : World) (a : Option Addr) (len cap : Nat) (zs : List Int) : Prop :=
  (a = none ∧ len = 0 ∧ cap = 0 ∧ zs = []) ∨
  ∃ x, a = some x ∧ len ≤ cap ∧ cap ≤ maxLen ∧ zs.length = cap ∧ (∀ i, i < zs.length → w.cell? (x.add i) = some (.int k (zs.getD i 0))) ∧ ∀ n ∈ zs, (Lit.int k n).wf = true
theorem IsRow.bys {w : World} {a : Option Addr} {len cap : Nat} {zs : List Int} (h : IsRow .u8 w a len cap zs) :
    Bys w w.heap.size a len (zs.take len) ∧ len ≤ cap ∧ (cap : Int) ≤ 9223372036854775807 := by
  rcases h with ⟨rfl, rfl, rfl, rfl⟩ | ⟨⟨b, off, spot⟩, rfl, hl, hm, hz, hc, hw⟩
  · exact ⟨Bys.empty _ _ _, Nat.le_refl _, by omega⟩
  · have hm' : (cap : Int) ≤ 9223372036854775807 := by unfold maxLen at hm; omega
    refine ⟨⟨by rw [List.length_take]; omega, fun n hn => ?_, fun h0 => ?_⟩, hl, hm'⟩
    · have := hw n (List.mem_of_mem_take hn)
      simpa [Lit.wf, IntKind.min, IntKind.max, IntKind.signed, IntKind.bits] using this
    · have h1 := hc 0 (by omega)
      have hs : spot = none := by simpa [Addr.add] using World.cell?_spot h1
      subst hs
      rw [add_none] at h1
      refine ⟨b, off, rfl, block_lt h1, fun i hi => ?_⟩
      have h2 := hc i (by omega)
      rw [add_none] at h2
      rw [h2, List.getD_eq_getElem?_getD, List.getD_eq_getElem?_getD, List.getElem?_take_of_lt hi]

/-! ### strings as lists of bytes -/
/-- The bytes of a string, as numbers. -/
def bs (s : ByteArray) : List Int := s.data.toList.map fun c => (c.toNat : Int)
theorem bs_len (s : ByteArray) : (bs s).length = s.size := by
  rw [bs, List.length_map, Array.length_toList]; rfl
theorem bs_bd (s : ByteArray) : ∀ n ∈ bs s, 0 ≤ n ∧ n ≤ 255 := by
  intro n hn
  obtain ⟨c, _, rfl⟩ := List.mem_map.1 hn
  have := c.toNat_lt
  omega
theorem bs_cells (s : ByteArray) : Lib.strCells s = (bs s).map (Value.int .u8) := by
  rw [bs, List.map_map]; rfl
theorem bs_inj {s t : ByteArray} (h : bs s = bs t) : s = t := by
  have h1 : s.data.toList = t.data.toList := by
    unfold bs at h
    have hinj : Function.Injective (fun c : UInt8 => (c.toNat : Int)) := fun a b e => UInt8.toNat.inj (Int.ofNat_inj.1 e)
    exact (List.map_inj_right (fun a b e => hinj e)).1 h
  exact ByteArray.ext (Array.ext' h1)
theorem bs_getElem {s : ByteArray} {i : Nat} (h : i < s.size) : (bs s).getD i 0 = ((s.get i h).toNat : Int) := by
  have hl : i < s.data.toList.length := by rw [Array.length_toList]; exact h
  rw [bs, List.getD_eq_getElem?_getD, List.getElem?_map, List.getElem?_eq_getElem hl]
  rfl
theorem bs_strOfNums {zs : List Int} (h : ∀ n ∈ zs, 0 ≤ n ∧ n ≤ 255) : bs (strOfNums zs) = zs := by
  unfold bs strOfNums
  simp only [List.map_map]
  conv => rhs; rw [← List.map_id zs]
  refine List.map_congr_left fun n hn => ?_
  have := h n hn
  simp only [Function.comp, id]
  obtain ⟨m, rfl⟩ := Int.eq_ofNat_of_zero_le this.1
  have hm : m < 256 := by omega
  simp [Nat.mod_eq_of_lt hm]
theorem strOfNums_bs (s : ByteArray) : strOfNums (bs s) = s := bs_inj (bs_strOfNums (bs_bd s))

/-! ### slices of strings -/
/-- A slice of strings that lies below block B reads as the list L. -/
def Strs (w : World) (B : Nat) (a : Option Addr) (len : Nat) (L : List ByteArray) : Prop :=
  L.length = len ∧ (0 < len → ∃ b off, a = some ⟨b, off, none⟩ ∧ b < B ∧ ∀ i, i < len → w.cell? ⟨b, off + i, none⟩ = some (.string (L.getD i .empty)))
theorem Strs.below {w w' : World} {B : Nat} {a : Option Addr} {len : Nat} {L : List ByteArray} (h : Strs w B a len L) (hb : Below B w w') : Strs w' B a len L :=
  ⟨h.1, fun hl => by
    obtain ⟨b, off, e, hB, hc⟩ := h.2 hl
    exact ⟨b, off, e, hB, fun i hi => (hb.cell (p := ⟨b, off + i, none⟩) hB).trans (hc i hi)⟩⟩
theorem Strs.more {w : World} {B B' : Nat} {a : Option Addr} {len : Nat} {L : List ByteArray} (h : Strs w B a len L) (hB : B ≤ B') : Strs w B' a len L :=
  ⟨h.1, fun hl => by
    obtain ⟨b, off, e, hb, hc⟩ := h.2 hl
    exact ⟨b, off, e, Nat.lt_of_lt_of_le hb hB, hc⟩⟩
theorem getElem_map_str {L : List ByteArray} {i : Nat} (h : i < L.length) : (L.map Value.string)[i]? = some (.string (L.getD i .empty)) := by
  rw [List.getElem?_map, List.getElem?_eq_getElem h, List.getD_eq_getElem?_getD, List.getElem?_eq_getElem h]; rfl
theorem Strs.own {w : World} {base : Nat} {e : TypeId} {a : Option Addr} {len cap : Nat} {L : List ByteArray}
    (h : w.ownsRow base e 1 (.slice a len cap) len (L.map Value.string)) : Strs w w.heap.size a len L := by
  have hl : L.length = len := by have := h.1; simpa using this
  refine ⟨hl, fun hp => ?_⟩
  obtain ⟨b, off, e1, hB, hc⟩ := (Cel.own h).2 hp
  exact ⟨b, off, e1, hB, fun i hi => by rw [hc i hi, getElem_map_str (by omega)]⟩
theorem one_str (L : List ByteArray) : ∀ v ∈ L.map Value.string, v.oneCell' = true := by
  intro v hv
  obtain ⟨n, _, rfl⟩ := List.mem_map.1 hv
  rfl
theorem Strs.src {w : World} {b off len : Nat} {L : List ByteArray} (hl : L.length = len) (hc : ∀ i, i < len → w.cell? ⟨b, off + i, none⟩ = some (.string (L.getD i .empty))) :
    ∀ (j : Nat) (v : Value), (L.map Value.string)[j]? = some v → w.cell? ((⟨b, off, none⟩ : Addr).add j) = some v :=
  Cel.src (by simpa using hl) (fun i hi => by rw [hc i hi, getElem_map_str (by omega)])

/-- What a frame hands over of a slice of strings that came in. -/
def IsStrs (w : World) (a : Option Addr) (len cap : Nat) (ss : List ByteArray) : Prop :=
  (a = none ∧ len = 0 ∧ cap = 0 ∧ ss = []) ∨
  ∃ x, a = some x ∧ len ≤ cap ∧ cap ≤ maxLen ∧ ss.length = cap ∧ (∀ i, i < ss.length → w.cell? (x.add i) = some (.string (ss.getD i .empty))) ∧ ∀ s ∈ ss, s.size ≤ maxLen
theorem IsStrs.strs {w : World} {a : Option Addr} {len cap : Nat} {ss : List ByteArray} (h : IsStrs w a len cap ss) :
    Strs w w.heap.size a len (ss.take len) ∧ len ≤ cap ∧ (cap : Int) ≤ 9223372036854775807 ∧ ∀ i, ((ss.take len).getD i .empty).size ≤ maxLen := by
  have hsz : ∀ l : List ByteArray, (∀ s ∈ l, s.size ≤ maxLen) → ∀ i, (l.getD i .empty).size ≤ maxLen := fun l hl i => by
    rw [List.getD_eq_getElem?_getD]
    by_cases hi : i < l.length
    · rw [List.getElem?_eq_getElem hi]; exact hl _ (List.getElem_mem hi)
    · rw [List.getElem?_eq_none (by omega)]; exact Nat.zero_le _
  rcases h with ⟨rfl, rfl, rfl, rfl⟩ | ⟨⟨b, off, spot⟩, rfl, hl, hm, hz, hc, hw⟩
  · exact ⟨⟨rfl, fun h => absurd h (by omega)⟩, Nat.le_refl _, by omega, hsz _ (fun _ h => by simp at h)⟩
  · have hm' : (cap : Int) ≤ 9223372036854775807 := by unfold maxLen at hm; omega
    refine ⟨⟨by rw [List.length_take]; omega, fun h0 => ?_⟩, hl, hm', hsz _ (fun s hs => hw s (List.mem_of_mem_take hs))⟩
    have h1 := hc 0 (by omega)
    have hs : spot = none := by simpa [Addr.add] using World.cell?_spot h1
    subst hs
    rw [add_none] at h1
    refine ⟨b, off, rfl, block_lt h1, fun i hi => ?_⟩
    have h2 := hc i (by omega)
    rw [add_none] at h2
    rw [h2, List.getD_eq_getElem?_getD, List.getD_eq_getElem?_getD, List.getElem?_take_of_lt hi]

/-! ### quiet worlds -/
theorem below_drewN {B : Nat} {w w' : World} (h : Below B w w') (n : Nat) : Below B w (w'.drewN n) := by
  induction n with
  | zero => exact h
  | succ n ih => exact ih.drew
theorem own_drewN {w : World} {base n : Nat} {e : TypeId} {v : Value} {xs : List Value} (h : w.ownsRow base e 1 v n xs) (k : Nat) : (w.drewN k).ownsRow base e 1 v n xs := by
  induction k with
  | zero => exact h
  | succ k ih => exact ih
end Go.Proofs.YtkhfmgifpppcmaaDoor
