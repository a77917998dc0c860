/-
  What is proved here: laws for Put of package vmem: an array loaded out of a slice's bytes, a page built around it.
  Conditions: none.
-/
import Derived.Test.YtahjgbmhleiocaaVmPgs
import Derived.Test.YtahjgbmhleiocaaVmSml
namespace Go.Proofs.Ytahjgbmhleiocaa
open Go.RowKit Go.WideMaps Go.Maps
set_option linter.unusedVariables false
set_option linter.unusedSimpArgs false

theorem fold_set (o : Nat) : ∀ (l : List Value) (n : Nat) (cs : List Value), o + n + l.length ≤ cs.length → (l.zipIdx n).foldl (fun (a : Array Value) (p : Value × Nat) => a.setIfInBounds (o + p.2) p.1) cs.toArray = (cs.take (o + n) ++ (l ++ cs.drop (o + n + l.length))).toArray
  | [], n, cs, h => by simp
  | v :: l, n, cs, h => by
    simp only [List.length_cons] at h
    rw [List.zipIdx_cons, List.foldl_cons]
    have e : (cs.toArray.setIfInBounds (o + n) v) = (cs.set (o + n) v).toArray := by simp
    show (l.zipIdx (n + 1)).foldl _ (cs.toArray.setIfInBounds (o + n) v) = _
    rw [e, fold_set o l (n + 1) (cs.set (o + n) v) (by rw [List.length_set]; omega)]
    congr 1
    have h1 : (cs.set (o + n) v).take (o + (n + 1)) = cs.take (o + n) ++ [v] := by
      rw [show o + (n + 1) = (o + n) + 1 by omega, List.take_succ_eq_append_getElem (by rw [List.length_set]; omega), List.take_set_of_le (Nat.le_refl _), List.getElem_set_self]
    have h2 : (cs.set (o + n) v).drop (o + (n + 1) + l.length) = cs.drop (o + n + (l.length + 1)) := by
      rw [List.drop_set_of_lt (by omega), show o + (n + 1) + l.length = o + n + (l.length + 1) by omega]
    rw [h1, h2]
    simp
theorem load_arr {w : World} {b o : Nat} {zs : List Int} (hl : zs.length = 256) (hc : ∀ i, i < 256 → w.cell? ⟨b, o + i, none⟩ = some (.int .u8 (zs.getD i 0))) : (Instr.loadAt 61 (.pointer (some ⟨b, o, none⟩))).run Try.prog w = .ok (.agg (zs.map (Value.int .u8)).toArray) w := by
  have h0 : (loadCells ⟨b, o, none⟩ (zs.map (Value.int .u8)).length).run Try.prog w = .ok (zs.map (Value.int .u8)).toArray w := run_loadCells_list (P := Try.prog) w ⟨b, o, none⟩ _ (fun j v hv => by
    have hj : j < 256 := by
      have := (List.getElem?_eq_some_iff.1 hv).1
      rw [List.length_map, hl] at this; exact this
    rw [add_none, hc j hj, ← hv, getElem_map_u8 (by omega)])
  rw [List.length_map, hl] at h0
  have hagg : (isAgg 61).run Try.prog w = .ok true w := by kernel_rfl
  have hsz : (sizeOf 61).run Try.prog w = .ok 256 w := by kernel_rfl
  simp only [Instr.loadAt, Instr.sureAddr, loadVar, Sem.run_bind, Sem.run_pure, Result.andThen_ok, hagg, hsz, h0, if_true]
theorem wp_load_run {P : Program} {o : Oper} {a : Act} {w : World} {K : Act → World → Prop} {Q : Exit → Act → World → Prop} (ty : TypeId) (x : Operand) (ho : o.op = .load ty x) (p v : Value) (hx : a.eval x = p) (hr : (Instr.loadAt ty p).run P w = .ok v w) (h : K (a.put o.dst v) w) : o.wp P a w K Q := by
  unfold Oper.wp execOp
  simp only [ho, hx, Sem.run_bind, Sem.run_pure, hr, Result.andThen_ok]
  exact h
theorem built_page {p : Pg} (hl : p.b.length = 256) : Try.prog.built 63 [(0, .int .i64 p.prot), (1, .bool p.dirty), (2, .string p.file), (3, .int .u64 p.off), (4, .agg (p.b.map (Value.int .u8)).toArray)] = some (pgC p) := by
  obtain ⟨cs, hcs⟩ : ∃ cs, p.b.map (Value.int .u8) = cs := ⟨_, rfl⟩
  have hlen : cs.length = 256 := by rw [← hcs, List.length_map, hl]
  have e : Try.prog.built 63 [(0, .int .i64 p.prot), (1, .bool p.dirty), (2, .string p.file), (3, .int .u64 p.off), (4, .agg cs.toArray)] =
      (if (cs.toArray.size ≠ 256 || 4 + cs.toArray.size > 260) = true then none else some (cs.toArray.zipIdx.foldl (fun a (c, j) => a.setIfInBounds (4 + j) c) (pgC ⟨p.a, p.prot, p.dirty, p.file, p.off, zeros⟩))) := by kernel_rfl
  unfold pgC
  rw [hcs, e, if_neg (by simp [hlen])]
  have h1 : cs.toArray.zipIdx.foldl (fun a (c, j) => a.setIfInBounds (4 + j) c) (pgC ⟨p.a, p.prot, p.dirty, p.file, p.off, zeros⟩) = (cs.zipIdx 0).foldl (fun (a : Array Value) (q : Value × Nat) => a.setIfInBounds (4 + q.2) q.1) (pgC ⟨p.a, p.prot, p.dirty, p.file, p.off, zeros⟩) := by
    rw [← Array.foldl_toList, Array.toList_zipIdx]
  obtain ⟨R, hR⟩ : ∃ R, zeros.map (Value.int .u8) = R := ⟨_, rfl⟩
  have hRl : R.length = 256 := by rw [← hR, List.length_map]; unfold zeros; exact List.length_replicate
  have hp0 : pgC ⟨p.a, p.prot, p.dirty, p.file, p.off, zeros⟩ = (.int .i64 p.prot :: .bool p.dirty :: .string p.file :: .int .u64 p.off :: R).toArray := by
    unfold pgC
    rw [← hR]
  rw [h1, hp0]
  have h2 := fold_set 4 cs 0 (.int .i64 p.prot :: .bool p.dirty :: .string p.file :: .int .u64 p.off :: R) (by rw [List.length_cons, List.length_cons, List.length_cons, List.length_cons, hRl, hlen]; decide)
  rw [h2]
  have h3 : R.drop cs.length = [] := List.drop_eq_nil_of_le (by rw [hRl, hlen]; exact Nat.le_refl _)
  have t1 : (Value.int .i64 p.prot :: .bool p.dirty :: .string p.file :: .int .u64 p.off :: R).take (4 + 0) = [.int .i64 p.prot, .bool p.dirty, .string p.file, .int .u64 p.off] := rfl
  have t2 : (Value.int .i64 p.prot :: .bool p.dirty :: .string p.file :: .int .u64 p.off :: R).drop (4 + 0 + cs.length) = R.drop cs.length := by
    rw [show 4 + 0 + cs.length = cs.length + 1 + 1 + 1 + 1 by omega]; rfl
  rw [t1, t2, h3, List.append_nil]; rfl
end Go.Proofs.Ytahjgbmhleiocaa
