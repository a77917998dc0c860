/-
  What is proved here: what the listed package-level variables hold (fields, operations, the powers of ten, the two errors, MaxLen), in cells; that it stays over calls that only make memory; and that the row's condition gives it.
  Conditions: none.
-/
import Derived.Test.YtjpbbonkmnbabaaDoorRows
import Derived.Test.YtjpbbonkmnbabaaDoorIsaWrd
import Derived.Test.YtjpbbonkmnbabaaDoorBlk
import Derived.Lib.LaidTab
import Derived.Lib.ItoaMem
import Derived.Stop.LaidErr
import Derived.OpenShut
import Derived.ChangeArms
import Derived.Handed
import Derived.Stop.Joined
import Derived.LaidByTextLater
import Derived.Test.YtjpbbonkmnbabaaDoorIsaShelf
import Derived.ProofKit
namespace Go.Proofs.YtjpbbonkmnbabaaDoor
open Go.RowKit Go.ChangeShapes
set_option linter.unusedVariables false
set_option linter.unusedSimpArgs false

/-- An operation: its number, its word, its fields' letters. -/
structure Orow where
  op : Int
  nm : ByteArray
  lt : ByteArray
def Orow.cells (r : Orow) : List Value := [.int .i64 r.op, .string r.nm, .string r.lt]
def Orow.val (r : Orow) : Value := .agg #[.int .i64 r.op, .string r.nm, .string r.lt]
def Orow.zero : Orow := ⟨0, ⟨#[]⟩, ⟨#[]⟩⟩
/-- Which letters an operation's fields have. -/
def lettersI (op : Int) : ByteArray :=
  if op = 1 ∨ op = 40 then ⟨#[]⟩ else if op = 2 ∨ op = 37 then ⟨#[97, 98]⟩ else if op ≤ 15 then ⟨#[97, 98, 99]⟩ else if op = 16 ∨ (20 ≤ op ∧ op ≤ 33) then ⟨#[97, 98, 105]⟩
  else if op = 17 ∨ op = 18 ∨ op = 35 ∨ op = 38 ∨ op = 39 then ⟨#[97, 105]⟩ else if op = 34 ∨ op = 41 then ⟨#[105]⟩ else ⟨#[98]⟩
/-- The numbers of all operations, in order. -/
def opNums : List Int := [1, 2, 3, 4, 5, 6, 7, 8, 9, 10, 11, 12, 13, 14, 15, 16, 17, 18, 20, 21, 22, 23, 24, 25, 26, 27, 30, 31, 32, 33, 34, 35, 36, 37, 38, 39, 40, 41]
def rowK (k : Nat) : Orow := ⟨opNums.getD k 0, wordI (opNums.getD k 0), lettersI (opNums.getD k 0)⟩
def opsL : List Value := (List.range 38).flatMap fun k => (rowK k).cells
/-- A field: its letter, its bounds. -/
structure Frow where
  l : UInt8
  lo : Int
  hi : Int
def Frow.cells (f : Frow) : List Value := [.string ⟨#[f.l]⟩, .int .i64 f.lo, .int .i64 f.hi]
def Frow.val (f : Frow) : Value := .agg #[.string ⟨#[f.l]⟩, .int .i64 f.lo, .int .i64 f.hi]
def fieldF (k : Nat) : Frow := match k with
  | 0 => ⟨97, 0, 31⟩
  | 1 => ⟨98, 0, 31⟩
  | 2 => ⟨99, 0, 31⟩
  | _ => ⟨105, -2147483648, 2147483647⟩
def fieldsL : List Value := (List.range 4).flatMap fun k => (fieldF k).cells
def powL : List Value := Lib.pow10Tab.map fun z => Value.int .u64 z
/-- What the variables hold. -/
structure Tb (w : World) : Prop where
  lo : 10 ≤ w.heap.size
  fl : ∃ t, Blk w 0 fieldsL.toArray t
  ops : ∃ t, Blk w 1 opsL.toArray t
  pow : ∃ t, Blk w 2 powL.toArray t
  ml : ∃ m, w.cell? ⟨3, 0, none⟩ = some (.int .i64 m)
  sy : ∃ te pe, w.cell? ⟨4, 0, none⟩ = some (.iface te pe)
  rg : ∃ te pe, w.cell? ⟨5, 0, none⟩ = some (.iface te pe)
theorem Tb.below {w w' : World} {B : Nat} (h : Tb w) (hb : Below B w w') (hB : 10 ≤ B) : Tb w' := by
  obtain ⟨lo, ⟨t1, h1⟩, ⟨t2, h2⟩, ⟨t3, h3⟩, ⟨m, h4⟩, ⟨a5, b5, h5⟩, ⟨a6, b6, h6⟩⟩ := h
  exact ⟨Nat.le_trans lo hb.size, ⟨t1, h1.below hb (by omega)⟩, ⟨t2, h2.below hb (by omega)⟩, ⟨t3, h3.below hb (by omega)⟩, ⟨m, by rw [hb.cell (show (3 : Nat) < B by omega)]; exact h4⟩,
    ⟨a5, b5, by rw [hb.cell (show (4 : Nat) < B by omega)]; exact h5⟩, ⟨a6, b6, by rw [hb.cell (show (5 : Nat) < B by omega)]; exact h6⟩⟩
theorem Tb.later {w w' : World} (h : Tb w) (hb : Below w.heap.size w w') : Tb w' := h.below hb h.lo
theorem Tb.tab {w : World} (h : Tb w) : Lib.TabIs Tryd.prog w "internal/strconv.uint64pow10" .u64 Lib.pow10Tab := by
  obtain ⟨t, ht⟩ := h.pow
  unfold Lib.TabIs World.var?
  rw [show Tryd.prog.globalNamed "internal/strconv.uint64pow10" = some 2 from by kernel_rfl, Option.bind_some]
  unfold Blk at ht
  rw [ht]
  rfl
/-! ### from the row's condition -/
theorem chunks {α : Type} (m : Nat) (f : Nat → List α) : ∀ (n : Nat) (cs : List α), cs.length = n * m → (∀ k, k < n → (cs.drop (k * m)).take m = f k) → cs = (List.range n).flatMap f
  | 0, cs, hl, _ => by
    have : cs = [] := List.eq_nil_of_length_eq_zero (by simpa using hl)
    rw [this]; rfl
  | n + 1, cs, hl, hf => by
    have e1 : cs.length = n * m + m := by rw [hl, Nat.succ_mul]
    have h1 := chunks m f n (cs.take (n * m)) (by rw [List.length_take]; omega) (fun k hk => by
      have hle : k * m + m ≤ n * m := by rw [← Nat.succ_mul]; exact Nat.mul_le_mul_right m hk
      rw [← hf k (by omega), List.drop_take, List.take_take, Nat.min_eq_left (by omega)])
    have h2 := hf n (by omega)
    rw [List.take_of_length_le (by rw [List.length_drop]; omega)] at h2
    rw [List.range_succ, List.flatMap_append, ← h1]
    simp only [List.flatMap_cons, List.flatMap_nil, List.append_nil]
    rw [← h2, List.take_append_drop]
theorem three {α : Type} {cs a b c : List α} (hl : cs.length = 3) (h0 : (cs.drop 0).take 1 = a) (h1 : (cs.drop 1).take 1 = b) (h2 : (cs.drop 2).take 1 = c) : cs = a ++ (b ++ c) := by
  match cs, hl with
  | [x, y, z], _ =>
    subst h0 h1 h2
    rfl
section
variable {w : World} {fuel : Nat} {p : List MemPlace}
theorem bytes_mk {s : ByteArray} {l : List UInt8} (h : s.data.toList = l) : s = ⟨l.toArray⟩ := by subst h; exact ByteArray.ext (by simp)
theorem orow_of {cs : List Value} {o : Int} {n l : List UInt8} (h : DataW.trod (fun _ => ()) Tryd.prog w 0 (fun _ => true) false fuel 56 cs = some (.agg [.lit (.int .i64 o), .lit (.string n), .lit (.string l)], p)) :
    cs = [.int .i64 o, .string ⟨n.toArray⟩, .string ⟨l.toArray⟩] := by
  obtain ⟨xs, m, _, ex, hl, hn, hf⟩ := DataW.trod_struct Tryd.underlying56 h
  rw [show Tryd.prog.cellsOf 56 = 3 from by kernel_rfl] at hl
  obtain ⟨e0, _⟩ := Prod.mk.inj ex
  have e0 := DataW.agg.inj e0
  match xs, hn, e0 with
  | [x0, x1, x2], _, e0 =>
    simp only [List.map_cons, List.map_nil, List.cons.injEq, and_true] at e0
    have f0 : DataW.trod (fun _ => ()) Tryd.prog w 0 (fun _ => true) false m 3 ((cs.drop 0).take (Tryd.prog.cellsOf 3)) = some x0 := hf 0 _ rfl
    have f1 : DataW.trod (fun _ => ()) Tryd.prog w 0 (fun _ => true) false m 9 ((cs.drop 1).take (Tryd.prog.cellsOf 9)) = some x1 := hf 1 _ rfl
    have f2 : DataW.trod (fun _ => ()) Tryd.prog w 0 (fun _ => true) false m 9 ((cs.drop 2).take (Tryd.prog.cellsOf 9)) = some x2 := hf 2 _ rfl
    rw [show Tryd.prog.cellsOf 3 = 1 from by kernel_rfl] at f0
    rw [show Tryd.prog.cellsOf 9 = 1 from by kernel_rfl] at f1 f2
    obtain ⟨z, g0, y0, _⟩ := DataW.trod_int Tryd.underlying3 f0
    obtain ⟨s1, g1, y1, _⟩ := DataW.trod_string Tryd.underlying9 f1
    obtain ⟨s2, g2, y2, _⟩ := DataW.trod_string Tryd.underlying9 f2
    rw [y0, y1, y2] at e0
    simp only [DataW.lit.injEq, Lit.int.injEq, Lit.string.injEq, true_and] at e0
    obtain ⟨rfl, hs1, hs2⟩ := e0
    rw [three hl g0 g1 g2, bytes_mk hs1.symm, bytes_mk hs2.symm]
    rfl
theorem frow_of {cs : List Value} {a b : Int} {l : List UInt8} (h : DataW.trod (fun _ => ()) Tryd.prog w 0 (fun _ => true) false fuel 65 cs = some (.agg [.lit (.string l), .lit (.int .i64 a), .lit (.int .i64 b)], p)) :
    cs = [.string ⟨l.toArray⟩, .int .i64 a, .int .i64 b] := by
  obtain ⟨xs, m, _, ex, hl, hn, hf⟩ := DataW.trod_struct Tryd.underlying65 h
  rw [show Tryd.prog.cellsOf 65 = 3 from by kernel_rfl] at hl
  obtain ⟨e0, _⟩ := Prod.mk.inj ex
  have e0 := DataW.agg.inj e0
  match xs, hn, e0 with
  | [x0, x1, x2], _, e0 =>
    simp only [List.map_cons, List.map_nil, List.cons.injEq, and_true] at e0
    have f0 : DataW.trod (fun _ => ()) Tryd.prog w 0 (fun _ => true) false m 9 ((cs.drop 0).take (Tryd.prog.cellsOf 9)) = some x0 := hf 0 _ rfl
    have f1 : DataW.trod (fun _ => ()) Tryd.prog w 0 (fun _ => true) false m 2 ((cs.drop 1).take (Tryd.prog.cellsOf 2)) = some x1 := hf 1 _ rfl
    have f2 : DataW.trod (fun _ => ()) Tryd.prog w 0 (fun _ => true) false m 2 ((cs.drop 2).take (Tryd.prog.cellsOf 2)) = some x2 := hf 2 _ rfl
    rw [show Tryd.prog.cellsOf 9 = 1 from by kernel_rfl] at f0
    rw [show Tryd.prog.cellsOf 2 = 1 from by kernel_rfl] at f1 f2
    obtain ⟨s0, g0, y0, _⟩ := DataW.trod_string Tryd.underlying9 f0
    obtain ⟨z1, g1, y1, _⟩ := DataW.trod_int Tryd.underlying2 f1
    obtain ⟨z2, g2, y2, _⟩ := DataW.trod_int Tryd.underlying2 f2
    rw [y0, y1, y2] at e0
    simp only [DataW.lit.injEq, Lit.int.injEq, Lit.string.injEq, true_and] at e0
    obtain ⟨hs, rfl, rfl⟩ := e0
    rw [three hl g0 g1 g2, bytes_mk hs.symm]
    rfl
end
/-- A list's head, laid: its cells, and that its block is plain. -/
theorem laid_head {n : String} {d : DataW Unit} {r : List (String × DataW Unit)} {W : World} {g : Nat} {t : TypeId} (h : laidMet Tryd.prog ((n, d) :: r) W) (hg : Tryd.prog.globalNamed n = some g) (ht : (Tryd.prog.globals[g]?).map (·.type) = some t) :
    ∃ (cs : List Value) (fuel : Nat) (p : List MemPlace), DataW.trod (fun _ => ()) Tryd.prog W 0 (fun _ => true) false fuel t cs = some (d, p) ∧ W.var? Tryd.prog n = some cs.toArray ∧ (0 < cs.length → ∃ ty, Blk W g cs.toArray ty) := by
  obtain ⟨ps, ⟨g0, t0, cs0, f0, p0, q0, hg0, ht0, hv0, hd0, _, e0⟩, _, hrows⟩ := h
  obtain rfl := Option.some.inj (hg.symm.trans hg0)
  obtain rfl := Option.some.inj (ht.symm.trans ht0)
  subst e0
  obtain ⟨l0⟩ := cs0
  refine ⟨l0, f0, p0, hd0, hv0, fun hl => ?_⟩
  obtain ⟨⟨c, ty, hb⟩, _⟩ := hrows g 0 (List.mem_append_left _ (List.mem_append_left _ (List.mem_map.2 ⟨0, List.mem_range.2 hl, rfl⟩)))
  refine ⟨ty, ?_⟩
  unfold World.var? at hv0
  rw [hg, Option.bind_some, hb] at hv0
  have := Option.some.inj hv0
  rw [this] at hb
  exact hb
def dataO (k : Nat) : DataW Unit := .agg [.lit (.int .i64 (rowK k).op), .lit (.string (rowK k).nm.data.toList), .lit (.string (rowK k).lt.data.toList)]
def dataF (k : Nat) : DataW Unit := .agg [.lit (.string [(fieldF k).l]), .lit (.int .i64 (fieldF k).lo), .lit (.int .i64 (fieldF k).hi)]
theorem ops_data : (Rows.laid_dormouse_isa_operations : DataW Unit) = .agg ((List.range 38).map dataO) := by kernel_rfl
theorem fields_data : (Rows.laid_dormouse_isa_fields : DataW Unit) = .agg ((List.range 4).map dataF) := by kernel_rfl
theorem list_at {α β : Type} {xs : List (α × β)} {n : Nat} {f : Nat → α} (h : (List.range n).map f = xs.map (·.1)) (k : Nat) (hk : k < n) : ∃ y, xs[k]? = some (f k, y) := by
  have hl := congrArg List.length h
  simp at hl
  have h2 := congrArg (fun l => l[k]?) h
  simp only [List.getElem?_map, List.getElem?_range hk] at h2
  have hx : k < xs.length := by omega
  rw [List.getElem?_eq_getElem hx] at h2 ⊢
  simp at h2
  exact ⟨xs[k].2, by rw [h2]⟩
theorem star12 : "*" ++ "errors.errorString" = "*errors.errorString" := by decide
theorem row_err (u : TypeId) (h : Tryd.prog.typeName? 3 u = some "*errors.errorString") : u = 147 :=
  typeName_ptr_named (nm := "errors.errorString") (by rw [star12]; kernel_rfl) (by kernel_rfl) (by decide) u (by rw [star12]; exact h)
def laid12 : List (String × DataW Unit) := Rows.isaEncodesRow.laid
theorem tb_of_laid {W : World} (h : laidMetH Tryd.prog laid12 W) (hs : W.ShapedOpen Tryd.prog) : Tb W := by
  rw [MakeChecks.laidMetH_plain _ _ _ (by kernel_rfl)] at h
  have h2 : laidMet Tryd.prog (("internal/strconv.uint64pow10", Lib.tabData .u64 Lib.pow10Tab) :: laid12.drop 3) W := h.tail.tail
  have h4 : laidMet Tryd.prog (("strconv.ErrRange", Rows.laid_strconv_ErrRange) :: laid12.drop 5) W := h2.tail.tail
  have h5 : laidMet Tryd.prog (("strconv.ErrSyntax", Rows.laid_strconv_ErrSyntax) :: laid12.drop 6) W := h4.tail
  have h6 : laidMet Tryd.prog (("dormouse/isa.fields", .agg ((List.range 4).map dataF)) :: laid12.drop 7) W := by rw [← fields_data]; exact h5.tail
  have h7 : laidMet Tryd.prog (("dormouse/isa.operations", .agg ((List.range 38).map dataO)) :: laid12.drop 8) W := by rw [← ops_data]; exact h6.tail
  obtain ⟨c2, f2, p2, d2, v2, b2⟩ := laid_head h2 (g := 2) (t := 113) (by kernel_rfl) (by kernel_rfl)
  obtain ⟨c6, f6, p6, d6, v6, b6⟩ := laid_head h6 (g := 0) (t := 66) (by kernel_rfl) (by kernel_rfl)
  obtain ⟨c7, f7, p7, d7, v7, b7⟩ := laid_head h7 (g := 1) (t := 88) (by kernel_rfl) (by kernel_rfl)
  have e2 : c2 = powL := Lib.cells_of_tab Tryd.underlying113 Tryd.underlying25 (by kernel_rfl) (by kernel_rfl) d2
  have e6 : c6 = fieldsL := by
    obtain ⟨xs, m, _, ex, hl, hn, hf⟩ := DataW.trod_array Tryd.underlying66 d6
    have c3 : Tryd.prog.cellsOf 65 = 3 := by kernel_rfl
    rw [show Tryd.prog.cellsOf 66 = 4 * 3 from by kernel_rfl] at hl
    rw [c3] at hf
    refine chunks 3 _ 4 c6 hl fun k hk => ?_
    obtain ⟨y, hy⟩ := list_at (DataW.agg.inj (Prod.mk.inj ex).1) k hk
    have := hf k hk
    rw [hy] at this
    exact frow_of this
  have e7 : c7 = opsL := by
    obtain ⟨xs, m, _, ex, hl, hn, hf⟩ := DataW.trod_array Tryd.underlying88 d7
    have c3 : Tryd.prog.cellsOf 56 = 3 := by kernel_rfl
    rw [show Tryd.prog.cellsOf 88 = 38 * 3 from by kernel_rfl] at hl
    rw [c3] at hf
    refine chunks 3 _ 38 c7 hl fun k hk => ?_
    obtain ⟨y, hy⟩ := list_at (DataW.agg.inj (Prod.mk.inj ex).1) k hk
    have := hf k hk
    rw [hy] at this
    exact orow_of this
  subst e2 e6 e7
  obtain ⟨t2, k2⟩ := b2 (by decide)
  obtain ⟨t6, k6⟩ := b6 (by decide)
  obtain ⟨t7, k7⟩ := b7 (by decide)
  obtain ⟨a4, s4, hv4, _⟩ := laid_sentinel (g := 5) (ti := 90) h4 (by kernel_rfl) (by kernel_rfl) Tryd.underlying90 row_err Tryd.underlying147 Tryd.underlying149 rfl rfl Tryd.underlying9 (by kernel_rfl) (by kernel_rfl)
  obtain ⟨a5, s5, hv5, _⟩ := laid_sentinel (g := 4) (ti := 90) h5 (by kernel_rfl) (by kernel_rfl) Tryd.underlying90 row_err Tryd.underlying147 Tryd.underlying149 rfl rfl Tryd.underlying9 (by kernel_rfl) (by kernel_rfl)
  have q4 := World.var?_cell (show Tryd.prog.globalNamed "strconv.ErrRange" = some 5 by kernel_rfl) hv4 0
  have q5 := World.var?_cell (show Tryd.prog.globalNamed "strconv.ErrSyntax" = some 4 by kernel_rfl) hv5 0
  refine ⟨?_, ⟨t6, k6⟩, ⟨t7, k7⟩, ⟨t2, k2⟩, Tryd.laysM145.s1_3 W hs, ⟨_, _, q5⟩, ⟨_, _, q4⟩⟩
  have h3 : laidMet Tryd.prog (("unicode/utf8.acceptRanges", Rows.laid_unicode_utf8_acceptRanges) :: laid12.drop 4) W := h2.tail
  obtain ⟨c3, f3, p3, d3, v3, b3⟩ := laid_head h3 (g := 9) (t := 144) (by kernel_rfl) (by kernel_rfl)
  obtain ⟨xs, m, _, ex, hl, hn, hf⟩ := DataW.trod_array Tryd.underlying144 d3
  rw [show Tryd.prog.cellsOf 144 = 32 from by kernel_rfl] at hl
  obtain ⟨t3, k3⟩ := b3 (by omega)
  have := k3.lt
  exact this
end Go.Proofs.YtjpbbonkmnbabaaDoor
