/-
  What is proved here: laws for the walk: building a great struct (its cells given), a word for loads and stores of whole boxes (the walk's own steps over more than some dozen cells outgrow the kernel). · a law for the walk: a box for a great struct.
  Conditions: as they say.
-/
import Derived.Test.YtkhfmgifpppcmaaDoorBlk
import Derived.Laws.Rows
import Derived.Deep.WholeRow
namespace Go.Proofs.YtkhfmgifpppcmaaDoor
open Go.RowKit
set_option linter.unusedVariables false

section
variable {P : Program}
theorem wpList_build_eq {ops : Array Oper} {rest : List Oper} {o : Oper} {a : Act} {w : World} {Q : Exit → Act → World → Prop} (hg : o.guard = none) (t : TypeId) (parts : Array (Nat × Operand)) (ho : o.op = .build t parts) (V : Array Value)
    (hf : P.built t (parts.map fun (i, x) => (i, a.eval x)).toList = some V) (h : wpList P ops Q rest (a.put o.dst (.agg V)) w) : wpList P ops Q (o :: rest) a w := by
  refine wpList_build hg t parts ho (by rw [hf]; rfl) ?_
  rw [hf]
  exact h
theorem wp_alloc_eq {o : Oper} {a : Act} {w : World} {K : Act → World → Prop} {Q : Exit → Act → World → Prop} (t : TypeId) (ho : o.op = .alloc t) (i : TypeInfo) (z : Value) (hi : P.info? t = some i) (hz : i.zero = some z)
    (h : K (a.put o.dst (.pointer (some ⟨w.heap.size, 0, none⟩))) (w.alloc (.cells z.cells t))) : o.wp P a w K Q := by
  unfold Oper.wp execOp
  simp [ho, Instr.alloc, zeroValue, typeInfo, hi, hz, Sem.run_bind]
  exact h
theorem wpList_alloc_eq {ops : Array Oper} {rest : List Oper} {o : Oper} {a : Act} {w : World} {Q : Exit → Act → World → Prop} (hg : o.guard = none) (t : TypeId) (ho : o.op = .alloc t) (Z : Array Value) (hz : (P.info? t).map (fun i => i.zero.map (·.cells)) = some (some Z))
    (h : wpList P ops Q rest (a.put o.dst (.pointer (some ⟨w.heap.size, 0, none⟩))) (w.alloc (.cells Z t))) : wpList P ops Q (o :: rest) a w := by
  cases hi : P.info? t with
  | none => rw [hi] at hz; cases hz
  | some i =>
    cases hq : i.zero with
    | none => rw [hi] at hz; simp [hq] at hz
    | some z =>
      rw [hi] at hz
      simp [hq] at hz
      subst hz
      exact wpList_plain hg fun _ hK => wp_alloc_eq t ho i z hi hq (hK _ _ h)
theorem wp_build_eq {o : Oper} {a : Act} {w : World} {K : Act → World → Prop} {Q : Exit → Act → World → Prop} (t : TypeId) (parts : Array (Nat × Operand)) (ho : o.op = .build t parts) (V : Array Value)
    (hf : P.built t (parts.map fun (i, x) => (i, a.eval x)).toList = some V) (h : K (a.put o.dst (.agg V)) w) : o.wp P a w K Q := by
  refine wp_build t parts ho (by rw [hf]; rfl) ?_
  rw [hf]
  exact h
theorem wp_alloc_eq' {o : Oper} {a : Act} {w : World} {K : Act → World → Prop} {Q : Exit → Act → World → Prop} (t : TypeId) (ho : o.op = .alloc t) (Z : Array Value) (hz : (P.info? t).map (fun i => i.zero.map (·.cells)) = some (some Z))
    (h : K (a.put o.dst (.pointer (some ⟨w.heap.size, 0, none⟩))) (w.alloc (.cells Z t))) : o.wp P a w K Q := by
  cases hi : P.info? t with
  | none => rw [hi] at hz; cases hz
  | some i =>
    cases hq : i.zero with
    | none => rw [hi] at hz; simp [hq] at hz
    | some z =>
      rw [hi] at hz
      simp [hq] at hz
      subst hz
      exact wp_alloc_eq t ho i z hi hq h
/-- A struct built, a box for it, stored there: the world is just a new block. -/
theorem wpList_new {ops : Array Oper} {rest : List Oper} {o1 o2 o3 : Oper} {a : Act} {w : World} {Q : Exit → Act → World → Prop} (t : TypeId) (parts : Array (Nat × Operand)) (V Z : Array Value) (x y : Operand)
    (hg1 : o1.guard = none) (ho1 : o1.op = .build t parts) (hg2 : o2.guard = none) (ho2 : o2.op = .alloc t) (hg3 : o3.guard = none) (ho3 : o3.op = .store t x y)
    (hf : P.built t (parts.map fun (i, x) => (i, a.eval x)).toList = some V) (hz : (P.info? t).map (fun i => i.zero.map (·.cells)) = some (some Z)) (hi : (P.info? t).map (·.size) = some V.size) (hs : Z.size = V.size) (h1 : V.all (·.oneCell') = true)
    (hx : ((a.put o1.dst (.agg V)).put o2.dst (.pointer (some ⟨w.heap.size, 0, none⟩))).eval x = .pointer (some ⟨w.heap.size, 0, none⟩)) (hy : ((a.put o1.dst (.agg V)).put o2.dst (.pointer (some ⟨w.heap.size, 0, none⟩))).eval y = .agg V)
    (h : wpList P ops Q rest (((a.put o1.dst (.agg V)).put o2.dst (.pointer (some ⟨w.heap.size, 0, none⟩))).put o3.dst undef) (w.alloc (.cells V t))) : wpList P ops Q (o1 :: o2 :: o3 :: rest) a w := by
  refine wpList_build_eq hg1 t parts ho1 V hf ?_
  refine wpList_alloc_eq hg2 t ho2 Z hz ?_
  refine wpList_store_row hg3 t x y ho3 w.heap.size V hx hy t Z (Blk.new w Z t) hi hs h1 ?_
  rw [World.setRow_alloc_new]
  exact h
end
theorem alloc_setRow (w : World) (c c' : Array Value) (t : TypeId) : (w.alloc (.cells c t)).setRow w.heap.size c' = w.alloc (.cells c' t) := World.setRow_alloc_new w c c' t
end Go.Proofs.YtkhfmgifpppcmaaDoor
namespace Go.Proofs.YtkhfmgifpppcmaaDoor
open Go.RowKit
set_option linter.unusedSimpArgs false
set_option linter.unusedVariables false
theorem wpList_box_eq {P : Program} {ops : Array Oper} {rest : List Oper} {o : Oper} {a : Act} {w : World} {Q : Exit → Act → World → Prop} (hg : o.guard = none) (t : TypeId) (x : Operand) (ho : o.op = .box t x) (V : Array Value) (hx : a.eval x = .agg V)
    (h : wpList P ops Q rest (a.put o.dst (.pointer (some ⟨w.heap.size, 0, none⟩))) (w.alloc (.cells V t))) : wpList P ops Q (o :: rest) a w := by
  refine wpList_plain hg fun K hK => ?_
  unfold Oper.wp execOp
  simp [ho, hx, Instr.box, newVar, newRow, Value.cells, Sem.run_bind]
  exact hK _ _ h
end Go.Proofs.YtkhfmgifpppcmaaDoor
