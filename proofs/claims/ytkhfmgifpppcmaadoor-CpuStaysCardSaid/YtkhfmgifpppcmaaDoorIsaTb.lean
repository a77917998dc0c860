/-
  What is proved here: the library's contracts at this program, as the shelf's plain mode writes them. · what the listed package-level variables hold (fields, operations, the sizes), in cells; that it stays over calls that only make memory; and that the row's condition gives it. · the small functions of package isa: uses, takes, numbersOf, insOf, the two closures, next, ignored, number.
  Conditions: as they say.
-/
import Derived.Shelf.Strings.Search1
import Derived.Shelf.Strings.Search2
import Derived.Shelf.Strings.Search3
import Derived.Test.YtkhfmgifpppcmaaDoorProg
import Derived.Test.YtkhfmgifpppcmaaDoorRows
import Derived.Test.YtkhfmgifpppcmaaDoorIsaEnc
import Derived.Test.YtkhfmgifpppcmaaDoorBlk
import Derived.Lib.LaidTab
import Derived.Stop.LaidErr
import Derived.OpenShut
import Derived.ChangeArms
import Derived.Handed
import Derived.Stop.Joined
import Derived.LaidByTextLater
import Derived.ProofKit
import Derived.Test.YtkhfmgifpppcmaaDoorFRun
namespace Go.Proofs
open Go.Shelf
def Tryd.lays144_ren : Go.Shelf.Ren := ⟨fun | 144 => 53 | 143 => 54 | 219 => 55 | 217 => 56 | 225 => 57 | 224 => 58 | 267 => 59 | 266 => 60 | 314 => 61 | n => n, fun | 9 => 9 | 4 => 4 | 3 => 3 | 5 => 5 | 46 => 39 | 146 => 115 | 51 => 114 | n => n, fun | 1 => 3 | n => n⟩
theorem Tryd.lays144 : Go.Proofs.Lays.n144 Tryd.prog Tryd.lays144_ren := {
  mixed := by kernel_rfl
  f143 := Tryd.func54.trans (congrArg some (by kernel_rfl))
  f144 := Tryd.func53.trans (congrArg some (by kernel_rfl))
  f217 := Tryd.func56.trans (congrArg some (by kernel_rfl))
  f219 := Tryd.func55.trans (congrArg some (by kernel_rfl))
  f224 := Tryd.func58.trans (congrArg some (by kernel_rfl))
  f225 := Tryd.func57.trans (congrArg some (by kernel_rfl))
  f266 := Tryd.func60.trans (congrArg some (by kernel_rfl))
  f267 := Tryd.func59.trans (congrArg some (by kernel_rfl))
  f314 := Tryd.func61.trans (congrArg some (by kernel_rfl))
  t3 := Tryd.underlying3
  a3 := Tryd.isAgg3
  z3 := Tryd.sizeOf3
  v3 := Tryd.zeroValue3
  t4 := Tryd.underlying4
  a4 := Tryd.isAgg4
  z4 := Tryd.sizeOf4
  v4 := Tryd.zeroValue4
  t5 := Tryd.underlying5
  a5 := Tryd.isAgg5
  z5 := Tryd.sizeOf5
  v5 := Tryd.zeroValue5
  t9 := Tryd.underlying9
  a9 := Tryd.isAgg9
  z9 := Tryd.sizeOf9
  v9 := Tryd.zeroValue9
  t46 := Tryd.underlying39
  a46 := Tryd.isAgg39
  z46 := Tryd.sizeOf39
  v46 := Tryd.zeroValue39
  t51 := Tryd.underlying114
  a51 := Tryd.isAgg114
  z51 := Tryd.sizeOf114
  v51 := Tryd.zeroValue114
  t146 := Tryd.underlying115
  a146 := Tryd.isAgg115
  z146 := Tryd.sizeOf115
  v146 := Tryd.zeroValue115
  g1 := by kernel_rfl }
open Go.RowKit Go.Lib in
/-- strings.Contains: "Contains reports whether substr is within s.": AT A substr OF ONE BYTE c: IT RETURNS 'decide (0 ≤ Lib.indexByte s c)'; the world is as it was. (LAID: no walk: one application.) -/
theorem Tryd.strings_Contains_one (s : ByteArray) (c : UInt8) (w : World) :
    Calls Tryd.prog 53 #[.string s, .string ⟨#[c]⟩] w fun e w' => e = .returned (.bool (decide (0 ≤ Lib.indexByte s.data.toList c))) ∧ w' = w := Any.strings_Contains_one Tryd.lays144 s c w
end Go.Proofs
namespace Go.Proofs.YtkhfmgifpppcmaaDoor
open Go.RowKit Go.ChangeShapes
set_option linter.unusedVariables false
set_option linter.unusedSimpArgs false

def mkB (l : List UInt8) : ByteArray := ⟨l.toArray⟩
theorem mkB_toList (s : ByteArray) : mkB s.data.toList = s := by unfold mkB; exact ByteArray.ext (by simp)
theorem mkB_data (l : List UInt8) : (mkB l).data.toList = l := by unfold mkB; simp
theorem mkB_size (l : List UInt8) : (mkB l).size = l.length := by unfold mkB; simp [ByteArray.size]
/-- An operation: its number, its word, its fields' letters. -/
structure Orow where
  op : Int
  nm : ByteArray
  lt : ByteArray
def Orow.cells (r : Orow) : List Value := [.int .i64 r.op, .string r.nm, .string r.lt]
def Orow.val (r : Orow) : Value := .agg #[.int .i64 r.op, .string r.nm, .string r.lt]
def Orow.zero : Orow := ⟨0, ⟨#[]⟩, ⟨#[]⟩⟩
/-- Which letters an operation's fields have. -/
def lettersI (op : Int) : ByteArray :=
  if op = 1 ∨ op = 40 then ⟨#[]⟩ else if op = 2 ∨ op = 37 then ⟨#[97, 98]⟩ else if op ≤ 15 then ⟨#[97, 98, 99]⟩ else if op = 16 ∨ (20 ≤ op ∧ op ≤ 33) then ⟨#[97, 98, 105]⟩
  else if op = 17 ∨ op = 18 ∨ op = 35 ∨ op = 38 ∨ op = 39 then ⟨#[97, 105]⟩ else if op = 34 ∨ op = 41 then ⟨#[105]⟩ else ⟨#[98]⟩
/-- The numbers of all operations, in order. -/
def opNums : List Int := [1, 2, 3, 4, 5, 6, 7, 8, 9, 10, 11, 12, 13, 14, 15, 16, 17, 18, 20, 21, 22, 23, 24, 25, 26, 27, 30, 31, 32, 33, 34, 35, 36, 37, 38, 39, 40, 41]
def rowK (k : Nat) : Orow := ⟨opNums.getD k 0, wordI (opNums.getD k 0), lettersI (opNums.getD k 0)⟩
def opsL : List Value := (List.range 38).flatMap fun k => (rowK k).cells
/-- A field: its letter, its bounds. -/
structure Frow where
  l : UInt8
  lo : Int
  hi : Int
def Frow.cells (f : Frow) : List Value := [.string ⟨#[f.l]⟩, .int .i64 f.lo, .int .i64 f.hi]
def Frow.val (f : Frow) : Value := .agg #[.string ⟨#[f.l]⟩, .int .i64 f.lo, .int .i64 f.hi]
def fieldF (k : Nat) : Frow := match k with
  | 0 => ⟨97, 0, 31⟩
  | 1 => ⟨98, 0, 31⟩
  | 2 => ⟨99, 0, 31⟩
  | _ => ⟨105, -2147483648, 2147483647⟩
def fieldsL : List Value := (List.range 4).flatMap fun k => (fieldF k).cells
def sizesZ : List Int := [0, 0, 0, 0, 0, 0, 0, 0, 0, 0, 0, 0, 0, 0, 0, 0, 0, 0, 0, 0, 1, 2, 4, 8, 1, 2, 4, 8]
def sizesL : List Value := sizesZ.map fun z => Value.int .i64 z
/-- What the variables hold. -/
structure Tb (w : World) : Prop where
  lo : 3 ≤ w.heap.size
  fl : ∃ t, Blk w 1 fieldsL.toArray t
  ops : ∃ t, Blk w 2 opsL.toArray t
  sz : ∃ t, Blk w 0 sizesL.toArray t
theorem Tb.below {w w' : World} {B : Nat} (h : Tb w) (hb : Below B w w') (hB : 3 ≤ B) : Tb w' := by
  obtain ⟨lo, ⟨t1, h1⟩, ⟨t2, h2⟩, ⟨t3, h3⟩⟩ := h
  exact ⟨Nat.le_trans lo hb.size, ⟨t1, h1.below hb (by omega)⟩, ⟨t2, h2.below hb (by omega)⟩, ⟨t3, h3.below hb (by omega)⟩⟩
theorem Tb.later {w w' : World} (h : Tb w) (hb : Below w.heap.size w w') : Tb w' := h.below hb h.lo
/-! ### from the row's condition -/
theorem chunks {α : Type} (m : Nat) (f : Nat → List α) : ∀ (n : Nat) (cs : List α), cs.length = n * m → (∀ k, k < n → (cs.drop (k * m)).take m = f k) → cs = (List.range n).flatMap f
  | 0, cs, hl, _ => by
    have : cs = [] := List.eq_nil_of_length_eq_zero (by simpa using hl)
    rw [this]; rfl
  | n + 1, cs, hl, hf => by
    have e1 : cs.length = n * m + m := by rw [hl, Nat.succ_mul]
    have h1 := chunks m f n (cs.take (n * m)) (by rw [List.length_take]; omega) (fun k hk => by
      have hle : k * m + m ≤ n * m := by rw [← Nat.succ_mul]; exact Nat.mul_le_mul_right m hk
      rw [← hf k (by omega), List.drop_take, List.take_take, Nat.min_eq_left (by omega)])
    have h2 := hf n (by omega)
    rw [List.take_of_length_le (by rw [List.length_drop]; omega)] at h2
    rw [List.range_succ, List.flatMap_append, ← h1]
    simp only [List.flatMap_cons, List.flatMap_nil, List.append_nil]
    rw [← h2, List.take_append_drop]
theorem three {α : Type} {cs a b c : List α} (hl : cs.length = 3) (h0 : (cs.drop 0).take 1 = a) (h1 : (cs.drop 1).take 1 = b) (h2 : (cs.drop 2).take 1 = c) : cs = a ++ (b ++ c) := by
  match cs, hl with
  | [x, y, z], _ =>
    subst h0 h1 h2
    rfl
section
variable {w : World} {fuel : Nat} {p : List MemPlace}
theorem bytes_mk {s : ByteArray} {l : List UInt8} (h : s.data.toList = l) : s = ⟨l.toArray⟩ := by subst h; exact ByteArray.ext (by simp)
theorem orow_of {cs : List Value} {o : Int} {n l : List UInt8} (h : DataW.trod (fun _ => ()) Tryd.prog w 0 (fun _ => true) false fuel 89 cs = some (.agg [.lit (.int .i64 o), .lit (.string n), .lit (.string l)], p)) :
    cs = [.int .i64 o, .string ⟨n.toArray⟩, .string ⟨l.toArray⟩] := by
  obtain ⟨xs, m, _, ex, hl, hn, hf⟩ := DataW.trod_struct Tryd.underlying89 h
  rw [show Tryd.prog.cellsOf 89 = 3 from by kernel_rfl] at hl
  obtain ⟨e0, _⟩ := Prod.mk.inj ex
  have e0 := DataW.agg.inj e0
  match xs, hn, e0 with
  | [x0, x1, x2], _, e0 =>
    simp only [List.map_cons, List.map_nil, List.cons.injEq, and_true] at e0
    have f0 : DataW.trod (fun _ => ()) Tryd.prog w 0 (fun _ => true) false m 3 ((cs.drop 0).take (Tryd.prog.cellsOf 3)) = some x0 := hf 0 _ rfl
    have f1 : DataW.trod (fun _ => ()) Tryd.prog w 0 (fun _ => true) false m 9 ((cs.drop 1).take (Tryd.prog.cellsOf 9)) = some x1 := hf 1 _ rfl
    have f2 : DataW.trod (fun _ => ()) Tryd.prog w 0 (fun _ => true) false m 9 ((cs.drop 2).take (Tryd.prog.cellsOf 9)) = some x2 := hf 2 _ rfl
    rw [show Tryd.prog.cellsOf 3 = 1 from by kernel_rfl] at f0
    rw [show Tryd.prog.cellsOf 9 = 1 from by kernel_rfl] at f1 f2
    obtain ⟨z, g0, y0, _⟩ := DataW.trod_int Tryd.underlying3 f0
    obtain ⟨s1, g1, y1, _⟩ := DataW.trod_string Tryd.underlying9 f1
    obtain ⟨s2, g2, y2, _⟩ := DataW.trod_string Tryd.underlying9 f2
    rw [y0, y1, y2] at e0
    simp only [DataW.lit.injEq, Lit.int.injEq, Lit.string.injEq, true_and] at e0
    obtain ⟨rfl, hs1, hs2⟩ := e0
    rw [three hl g0 g1 g2, bytes_mk hs1.symm, bytes_mk hs2.symm]
    rfl
theorem frow_of {cs : List Value} {a b : Int} {l : List UInt8} (h : DataW.trod (fun _ => ()) Tryd.prog w 0 (fun _ => true) false fuel 105 cs = some (.agg [.lit (.string l), .lit (.int .i64 a), .lit (.int .i64 b)], p)) :
    cs = [.string ⟨l.toArray⟩, .int .i64 a, .int .i64 b] := by
  obtain ⟨xs, m, _, ex, hl, hn, hf⟩ := DataW.trod_struct Tryd.underlying105 h
  rw [show Tryd.prog.cellsOf 105 = 3 from by kernel_rfl] at hl
  obtain ⟨e0, _⟩ := Prod.mk.inj ex
  have e0 := DataW.agg.inj e0
  match xs, hn, e0 with
  | [x0, x1, x2], _, e0 =>
    simp only [List.map_cons, List.map_nil, List.cons.injEq, and_true] at e0
    have f0 : DataW.trod (fun _ => ()) Tryd.prog w 0 (fun _ => true) false m 9 ((cs.drop 0).take (Tryd.prog.cellsOf 9)) = some x0 := hf 0 _ rfl
    have f1 : DataW.trod (fun _ => ()) Tryd.prog w 0 (fun _ => true) false m 2 ((cs.drop 1).take (Tryd.prog.cellsOf 2)) = some x1 := hf 1 _ rfl
    have f2 : DataW.trod (fun _ => ()) Tryd.prog w 0 (fun _ => true) false m 2 ((cs.drop 2).take (Tryd.prog.cellsOf 2)) = some x2 := hf 2 _ rfl
    rw [show Tryd.prog.cellsOf 9 = 1 from by kernel_rfl] at f0
    rw [show Tryd.prog.cellsOf 2 = 1 from by kernel_rfl] at f1 f2
    obtain ⟨s0, g0, y0, _⟩ := DataW.trod_string Tryd.underlying9 f0
    obtain ⟨z1, g1, y1, _⟩ := DataW.trod_int Tryd.underlying2 f1
    obtain ⟨z2, g2, y2, _⟩ := DataW.trod_int Tryd.underlying2 f2
    rw [y0, y1, y2] at e0
    simp only [DataW.lit.injEq, Lit.int.injEq, Lit.string.injEq, true_and] at e0
    obtain ⟨hs, rfl, rfl⟩ := e0
    rw [three hl g0 g1 g2, bytes_mk hs.symm]
    rfl
end
/-- A list's head, laid: its cells, and that its block is plain. -/
theorem laid_head {n : String} {d : DataW Unit} {r : List (String × DataW Unit)} {W : World} {g : Nat} {t : TypeId} (h : laidMet Tryd.prog ((n, d) :: r) W) (hg : Tryd.prog.globalNamed n = some g) (ht : (Tryd.prog.globals[g]?).map (·.type) = some t) :
    ∃ (cs : List Value) (fuel : Nat) (p : List MemPlace), DataW.trod (fun _ => ()) Tryd.prog W 0 (fun _ => true) false fuel t cs = some (d, p) ∧ W.var? Tryd.prog n = some cs.toArray ∧ (0 < cs.length → ∃ ty, Blk W g cs.toArray ty) := by
  obtain ⟨ps, ⟨g0, t0, cs0, f0, p0, q0, hg0, ht0, hv0, hd0, _, e0⟩, _, hrows⟩ := h
  obtain rfl := Option.some.inj (hg.symm.trans hg0)
  obtain rfl := Option.some.inj (ht.symm.trans ht0)
  subst e0
  obtain ⟨l0⟩ := cs0
  refine ⟨l0, f0, p0, hd0, hv0, fun hl => ?_⟩
  obtain ⟨⟨c, ty, hb⟩, _⟩ := hrows g 0 (List.mem_append_left _ (List.mem_append_left _ (List.mem_map.2 ⟨0, List.mem_range.2 hl, rfl⟩)))
  refine ⟨ty, ?_⟩
  unfold World.var? at hv0
  rw [hg, Option.bind_some, hb] at hv0
  have := Option.some.inj hv0
  rw [this] at hb
  exact hb
def dataO (k : Nat) : DataW Unit := .agg [.lit (.int .i64 (rowK k).op), .lit (.string (rowK k).nm.data.toList), .lit (.string (rowK k).lt.data.toList)]
def dataF (k : Nat) : DataW Unit := .agg [.lit (.string [(fieldF k).l]), .lit (.int .i64 (fieldF k).lo), .lit (.int .i64 (fieldF k).hi)]
theorem ops_data : (Rows.laid_dormouse_isa_operations : DataW Unit) = .agg ((List.range 38).map dataO) := by kernel_rfl
theorem fields_data : (Rows.laid_dormouse_isa_fields : DataW Unit) = .agg ((List.range 4).map dataF) := by kernel_rfl
theorem list_at {α β : Type} {xs : List (α × β)} {n : Nat} {f : Nat → α} (h : (List.range n).map f = xs.map (·.1)) (k : Nat) (hk : k < n) : ∃ y, xs[k]? = some (f k, y) := by
  have hl := congrArg List.length h
  simp at hl
  have h2 := congrArg (fun l => l[k]?) h
  simp only [List.getElem?_map, List.getElem?_range hk] at h2
  have hx : k < xs.length := by omega
  rw [List.getElem?_eq_getElem hx] at h2 ⊢
  simp at h2
  exact ⟨xs[k].2, by rw [h2]⟩
theorem sizes_data : (Rows.laid_dormouse_cpu_sizes : DataW Unit) = Lib.tabData .i64 sizesZ := by kernel_rfl
def laid14 : List (String × DataW Unit) := [("dormouse/isa.fields", Rows.laid_dormouse_isa_fields), ("dormouse/isa.operations", Rows.laid_dormouse_isa_operations), ("dormouse/cpu.sizes", Rows.laid_dormouse_cpu_sizes)]
theorem tb_of_laid {W : World} (h : laidMetH Tryd.prog laid14 W) (hs : W.ShapedOpen Tryd.prog) : Tb W := by
  rw [MakeChecks.laidMetH_plain _ _ _ (by kernel_rfl)] at h
  have h6 : laidMet Tryd.prog (("dormouse/isa.fields", .agg ((List.range 4).map dataF)) :: laid14.drop 1) W := by rw [← fields_data]; exact h
  have h7 : laidMet Tryd.prog (("dormouse/isa.operations", .agg ((List.range 38).map dataO)) :: laid14.drop 2) W := by rw [← ops_data]; exact h6.tail
  have h2 : laidMet Tryd.prog (("dormouse/cpu.sizes", Lib.tabData .i64 sizesZ) :: laid14.drop 3) W := by rw [← sizes_data]; exact h7.tail
  obtain ⟨c2, f2, p2, d2, v2, b2⟩ := laid_head h2 (g := 0) (t := 78) (by kernel_rfl) (by kernel_rfl)
  obtain ⟨c6, f6, p6, d6, v6, b6⟩ := laid_head h6 (g := 1) (t := 106) (by kernel_rfl) (by kernel_rfl)
  obtain ⟨c7, f7, p7, d7, v7, b7⟩ := laid_head h7 (g := 2) (t := 109) (by kernel_rfl) (by kernel_rfl)
  have e2 : c2 = sizesL := Lib.cells_of_tab Tryd.underlying78 Tryd.underlying3 (by kernel_rfl) (by kernel_rfl) d2
  have e6 : c6 = fieldsL := by
    obtain ⟨xs, m, _, ex, hl, hn, hf⟩ := DataW.trod_array Tryd.underlying106 d6
    have c3 : Tryd.prog.cellsOf 105 = 3 := by kernel_rfl
    rw [show Tryd.prog.cellsOf 106 = 4 * 3 from by kernel_rfl] at hl
    rw [c3] at hf
    refine chunks 3 _ 4 c6 hl fun k hk => ?_
    obtain ⟨y, hy⟩ := list_at (DataW.agg.inj (Prod.mk.inj ex).1) k hk
    have := hf k hk
    rw [hy] at this
    exact frow_of this
  have e7 : c7 = opsL := by
    obtain ⟨xs, m, _, ex, hl, hn, hf⟩ := DataW.trod_array Tryd.underlying109 d7
    have c3 : Tryd.prog.cellsOf 89 = 3 := by kernel_rfl
    rw [show Tryd.prog.cellsOf 109 = 38 * 3 from by kernel_rfl] at hl
    rw [c3] at hf
    refine chunks 3 _ 38 c7 hl fun k hk => ?_
    obtain ⟨y, hy⟩ := list_at (DataW.agg.inj (Prod.mk.inj ex).1) k hk
    have := hf k hk
    rw [hy] at this
    exact orow_of this
  subst e2 e6 e7
  obtain ⟨t2, k2⟩ := b2 (by decide)
  obtain ⟨t6, k6⟩ := b6 (by decide)
  obtain ⟨t7, k7⟩ := b7 (by decide)
  have := k7.lt
  exact ⟨by omega, ⟨t6, k6⟩, ⟨t7, k7⟩, ⟨t2, k2⟩⟩
end Go.Proofs.YtkhfmgifpppcmaaDoor
namespace Go.Proofs.YtkhfmgifpppcmaaDoor
open Go.RowKit
set_option linter.unusedVariables false
set_option linter.unusedSimpArgs false

theorem Blk.c3 {w : World} {g : Nat} {v0 v1 v2 : Value} {t : TypeId} (h : Blk w g #[v0, v1, v2] t) :
    w.cell? ⟨g, 0, none⟩ = some v0 ∧ w.cell? ⟨g, 1, none⟩ = some v1 ∧ w.cell? ⟨g, 2, none⟩ = some v2 := ⟨h.cell 0, h.cell 1, h.cell 2⟩
theorem bal {w w1 : World} (h : Below w.heap.size w w1) (o : Obj) : Below w.heap.size w (w1.alloc o) := h.alloc h.size o
theorem bal1 (w : World) (o : Obj) : Below w.heap.size w (w.alloc o) := bal (Below.refl _ w) o
def useB (r : Orow) (f : Frow) : Bool := decide (0 ≤ Lib.indexByte r.lt.data.toList f.l)
def takeB (r : Orow) (f : Frow) (x : Int) : Bool := if useB r f = true then decide (f.lo ≤ x) && decide (x ≤ f.hi) else (x == 0)
set_option maxRecDepth 100000 in
set_option maxHeartbeats 1600000 in
theorem uses_ok (r : Orow) (f : Frow) (w : World) :
    Calls Tryd.prog 52 #[r.val, f.val] w fun e w' => e = .returned (.bool (useB r f)) ∧ Below w.heap.size w w' := by
  obtain ⟨op, nm, lt⟩ := r
  obtain ⟨l, lo, hi⟩ := f
  unfold Orow.val Frow.val useB
  have HC := Lib.hid (fun w => Tryd.strings_Contains_one lt l w)
  have HB := Lib.hid (fun o1 o2 => bal (bal1 w o1) o2)
  generalize decide (0 ≤ Lib.indexByte lt.data.toList l) = b at HC ⊢
  go_enter Tryd.func52, Tryd.ntmps52
  go_wp2_with fail
  refine (HC.out _).mono ?_
  rintro e w1 ⟨rfl, rfl⟩
  go_wp2
  go_ret
  exact ⟨rfl, HB.out _ _⟩
set_option maxRecDepth 100000 in
set_option maxHeartbeats 1600000 in
theorem takes_ok (r : Orow) (f : Frow) (x : Int) (w : World) :
    Calls Tryd.prog 49 #[r.val, f.val, .int .i64 x] w fun e w' => e = .returned (.bool (takeB r f x)) ∧ Below w.heap.size w w' := by
  have HU := Lib.hid (fun w => uses_ok r f w)
  have HB := Lib.hid (fun o1 o2 => bal (bal1 w o1) o2)
  have HK : Hid (∀ o1, Blk ((w.alloc o1).alloc (.cells #[.string ⟨#[f.l]⟩, .int .i64 f.lo, .int .i64 f.hi] 105)) (w.heap.size + 1) #[.string ⟨#[f.l]⟩, .int .i64 f.lo, .int .i64 f.hi] 105) := Lib.hid (fun o1 => by
    have := Blk.new (w.alloc o1) #[.string ⟨#[f.l]⟩, .int .i64 f.lo, .int .i64 f.hi] 105
    simpa using this)
  unfold takeB
  obtain ⟨u, hu⟩ : ∃ u, useB r f = u := ⟨_, rfl⟩
  rw [hu] at HU ⊢
  clear hu
  obtain ⟨op, nm, lt⟩ := r
  obtain ⟨l, lo, hi⟩ := f
  simp only [Orow.val, Frow.val] at HU HK ⊢
  go_enter Tryd.func49, Tryd.ntmps49
  go_wp2_with fail
  refine (HU.out _).mono ?_
  rintro e w1 ⟨rfl, hb1⟩
  obtain ⟨q0, q1, q2⟩ := ((HK.out _).later hb1).c3
  have HB1 := Lib.hid ((HB.out _ _).trans (hb1.mono (HB.out _ _).size))
  clear hb1 HU HB HK
  cases u with
  | false =>
    go_wp2
    go_ret
    exact ⟨rfl, HB1.out⟩
  | true =>
    by_cases h1 : lo ≤ x
    · by_cases h2 : x ≤ hi
      · go_wp2
        go_ret
        exact ⟨by simp [h1, h2], HB1.out⟩
      · go_wp2
        go_ret
        exact ⟨by simp [h2], HB1.out⟩
    · go_wp2
      go_ret
      exact ⟨by simp; omega, HB1.out⟩
end Go.Proofs.YtkhfmgifpppcmaaDoor
