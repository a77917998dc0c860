/-
  What is proved here: plain words: what Step does.
  Conditions: as they say.
-/
import Derived.Test.YtkhfmgifpppcmaaDoorCpuL
import Derived.Test.YtkhfmgifpppcmaaDoorCpuC
import Derived.Test.YtkhfmgifpppcmaaDoorCpuB
import Derived.Test.YtkhfmgifpppcmaaDoorCpuT
import Derived.Test.YtkhfmgifpppcmaaDoorVmLd
namespace Go.Proofs.YtkhfmgifpppcmaaDoor
open Go.RowKit
set_option linter.unusedVariables false
set_option linter.unusedSimpArgs false

/-- Of which memory, what comes of an instruction, its error, its address. -/
structure Oc where
  k : Int
  e : Int
  a : Int
def Oc.C (x : Oc) : Array Value := outC x.k x.e x.a
def nxt (s : St) : Int := IntKind.u64.wrap (s.pc + 8)
def atI (s : St) (i : In) : Nat := (IntKind.u64.wrap (s.R.getD i.b.toNat 0 + IntKind.u64.wrap i.imm)).toNat
/-- What an instruction does. -/
def doI (s : St) (M : List Pg) (i : In) : St × List Pg × Oc :=
  if i.op = 1 then (s.setP (nxt s), M, ⟨0, 0, 0⟩) else
  if 20 ≤ i.op ∧ i.op ≤ 23 then
    if (loadR M (atI s i) (sizesZ.getD i.op.toNat 0) 4).2 = 0 then ((s.setR i.a.toNat (loadR M (atI s i) (sizesZ.getD i.op.toNat 0) 4).1).setP (nxt s), M, ⟨0, 0, 0⟩) else (s, M, ⟨3, (loadR M (atI s i) (sizesZ.getD i.op.toNat 0) 4).2, atI s i⟩) else
  if 24 ≤ i.op ∧ i.op ≤ 27 then
    (if (storeR M (atI s i) (sizesZ.getD i.op.toNat 0) (s.R.getD i.a.toNat 0)).2 = 0 then s.setP (nxt s) else s, (storeR M (atI s i) (sizesZ.getD i.op.toNat 0) (s.R.getD i.a.toNat 0)).1, if (storeR M (atI s i) (sizesZ.getD i.op.toNat 0) (s.R.getD i.a.toNat 0)).2 = 0 then ⟨0, 0, 0⟩ else ⟨3, (storeR M (atI s i) (sizesZ.getD i.op.toNat 0) (s.R.getD i.a.toNat 0)).2, atI s i⟩) else
  if 30 ≤ i.op ∧ i.op ≤ 33 then (if holdsB i.op (s.R.getD i.a.toNat 0) (s.R.getD i.b.toNat 0) = true then s.setP (IntKind.u64.wrap (s.pc + IntKind.u64.wrap i.imm)) else s.setP (nxt s), M, ⟨0, 0, 0⟩) else
  if 34 ≤ i.op ∧ i.op ≤ 37 then (jmpS s i.op i.a.toNat i.b.toNat i.imm, M, ⟨0, 0, 0⟩) else
  if i.op = 40 then (s.setP (nxt s), M, ⟨1, 0, 0⟩) else
  if i.op = 41 then (s.setP (nxt s), M, ⟨2, 0, IntKind.u64.wrap i.imm⟩) else
  (if (resZ s i.op i.a.toNat i.b.toNat i.c.toNat i.imm).2 = 0 then (s.setR i.a.toNat (resZ s i.op i.a.toNat i.b.toNat i.c.toNat i.imm).1).setP (nxt s) else s, M, if (resZ s i.op i.a.toNat i.b.toNat i.c.toNat i.imm).2 = 0 then ⟨0, 0, 0⟩ else ⟨3, (resZ s i.op i.a.toNat i.b.toNat i.c.toNat i.imm).2, s.pc⟩)
/-- What Step does. -/
def stepC (s : St) (M : List Pg) : St × List Pg × Oc :=
  if (fetchR M s.pc.toNat).2 = 0 then
    if (decI (fetchR M s.pc.toNat).1).2 = 0 then doI s M (decI (fetchR M s.pc.toNat).1).1 else (s, M, ⟨3, 42, s.pc⟩)
  else (s, M, ⟨3, (fetchR M s.pc.toNat).2, s.pc⟩)
theorem dec_may {x : Int} (h : (decI x).2 = 0) : mayI (decI x).1 = true := by
  by_cases e : encI (cutI x) = (x, 0)
  · rw [decI_yes e]
    show mayI (cutI x) = true
    cases hm : mayI (cutI x) with
    | true => rfl
    | false => rw [encI_no hm] at e; cases e
  · rw [decI_no e] at h; cases h
theorem op_word {i : In} (h : mayI i = true) : (wordI i.op).size ≠ 0 := by
  unfold mayI at h
  simp only [Bool.and_eq_true, decide_eq_true_eq] at h
  exact h.1
theorem op_ways {i : In} (h : mayI i = true) : i.op = 1 ∨ (2 ≤ i.op ∧ i.op ≤ 18) ∨ (20 ≤ i.op ∧ i.op ≤ 23) ∨ (24 ≤ i.op ∧ i.op ≤ 27) ∨ (30 ≤ i.op ∧ i.op ≤ 33) ∨ (34 ≤ i.op ∧ i.op ≤ 37) ∨ i.op = 38 ∨ i.op = 39 ∨ i.op = 40 ∨ i.op = 41 := by
  have hb := (mayI_bd h).1
  have hw := op_word h
  have h0 : i.op ≠ 0 := fun e => hw (by rw [e]; decide)
  have h1 : i.op ≠ 19 := fun e => hw (by rw [e]; decide)
  have h2 : i.op ≠ 28 := fun e => hw (by rw [e]; decide)
  have h3 : i.op ≠ 29 := fun e => hw (by rw [e]; decide)
  omega
theorem loadR_bd {w : World} {S : VS} {M : List Pg} {c : Nat} (h : VAt w S M c) (x : Nat) (n r : Int) : 0 ≤ (loadR M x n r).1 ∧ (loadR M x n r).1 ≤ 18446744073709551615 := by
  unfold loadR
  by_cases h0 : (accR M x n r).1 = 0
  · rw [if_pos h0]
    obtain ⟨hw, hs⟩ := acc_zero h0
    have hg := fun p hp => (span_good (M := M) n.toNat x _ hs p hp)
    obtain ⟨hl, hb⟩ := bytesL_ok h _ (fun p hp => (hg p hp).1)
    rw [span_len (M := M) n.toNat x _ hs] at hl
    exact num_lt hb (by rw [hl]; unfold isW at hw; omega)
  · rw [if_neg h0]; exact ⟨Int.le_refl 0, (by decide : (0 : Int) ≤ 18446744073709551615)⟩
theorem fetchR_bd {w : World} {S : VS} {M : List Pg} {c : Nat} (h : VAt w S M c) (x : Nat) : 0 ≤ (fetchR M x).1 ∧ (fetchR M x).1 ≤ 18446744073709551615 := by
  unfold fetchR
  split
  · exact loadR_bd h x 8 1
  · exact ⟨by decide, by decide⟩
theorem at_nat (s : St) (i : In) : ((atI s i : Nat) : Int) = IntKind.u64.wrap (s.R.getD i.b.toNat 0 + IntKind.u64.wrap i.imm) := by unfold atI; rw [Int.toNat_of_nonneg (u64_bd _).1]
theorem at_bd (s : St) (i : In) : atI s i ≤ 18446744073709551615 := by
  have := u64_bd (s.R.getD i.b.toNat 0 + IntKind.u64.wrap i.imm)
  have h := at_nat s i
  omega
theorem doI_nop {s : St} {M : List Pg} {i : In} (h : i.op = 1) : doI s M i = (s.setP (nxt s), M, ⟨0, 0, 0⟩) := by unfold doI; rw [if_pos h]
theorem doI_ld {s : St} {M : List Pg} {i : In} (h : 20 ≤ i.op ∧ i.op ≤ 23) {x e : Int} (hl : loadR M (atI s i) (sizesZ.getD i.op.toNat 0) 4 = (x, e)) : (doI s M i).1.C = (if e = 0 then ((s.setR i.a.toNat x).setP (nxt s)).C else s.C) ∧ (doI s M i).2.1 = M ∧ (doI s M i).2.2.C = (if e = 0 then outC 0 0 0 else outC 3 e (atI s i)) := by
  unfold doI
  rw [if_neg (by omega), if_pos h, hl]
  by_cases h0 : e = 0
  · simp only [h0, if_true]; exact ⟨trivial, trivial, rfl⟩
  · simp only [h0, if_false]; exact ⟨trivial, trivial, rfl⟩
theorem doI_st {s : St} {M M2 : List Pg} {i : In} (h : 24 ≤ i.op ∧ i.op ≤ 27) {e : Int} (hl : storeR M (atI s i) (sizesZ.getD i.op.toNat 0) (s.R.getD i.a.toNat 0) = (M2, e)) : (doI s M i).1.C = (if e = 0 then (s.setP (nxt s)).C else s.C) ∧ (doI s M i).2.1 = M2 ∧ (doI s M i).2.2.C = (if e = 0 then outC 0 0 0 else outC 3 e (atI s i)) := by
  unfold doI
  rw [if_neg (by omega), if_neg (by omega), if_pos h, hl]
  by_cases h0 : e = 0
  · simp only [h0, if_true]; exact ⟨trivial, trivial, rfl⟩
  · simp only [h0, if_false]; exact ⟨trivial, trivial, rfl⟩
theorem doI_br {s : St} {M : List Pg} {i : In} (h : 30 ≤ i.op ∧ i.op ≤ 33) : doI s M i = (if holdsB i.op (s.R.getD i.a.toNat 0) (s.R.getD i.b.toNat 0) = true then s.setP (IntKind.u64.wrap (s.pc + IntKind.u64.wrap i.imm)) else s.setP (nxt s), M, ⟨0, 0, 0⟩) := by
  unfold doI
  rw [if_neg (by omega), if_neg (by omega), if_neg (by omega), if_pos h]
theorem doI_jm {s : St} {M : List Pg} {i : In} (h : 34 ≤ i.op ∧ i.op ≤ 37) : doI s M i = (jmpS s i.op i.a.toNat i.b.toNat i.imm, M, ⟨0, 0, 0⟩) := by
  unfold doI
  rw [if_neg (by omega), if_neg (by omega), if_neg (by omega), if_neg (by omega), if_pos h]
theorem doI_sy {s : St} {M : List Pg} {i : In} (h : i.op = 40) : doI s M i = (s.setP (nxt s), M, ⟨1, 0, 0⟩) := by
  unfold doI
  rw [if_neg (by omega), if_neg (by omega), if_neg (by omega), if_neg (by omega), if_neg (by omega), if_pos h]
theorem doI_tr {s : St} {M : List Pg} {i : In} (h : i.op = 41) : doI s M i = (s.setP (nxt s), M, ⟨2, 0, IntKind.u64.wrap i.imm⟩) := by
  unfold doI
  rw [if_neg (by omega), if_neg (by omega), if_neg (by omega), if_neg (by omega), if_neg (by omega), if_neg (by omega), if_pos h]
theorem doI_co {s : St} {M : List Pg} {i : In} (h : (2 ≤ i.op ∧ i.op ≤ 18) ∨ i.op = 38 ∨ i.op = 39) : (doI s M i).1.C = (if (resZ s i.op i.a.toNat i.b.toNat i.c.toNat i.imm).2 = 0 then ((s.setR i.a.toNat (resZ s i.op i.a.toNat i.b.toNat i.c.toNat i.imm).1).setP (nxt s)).C else s.C) ∧ (doI s M i).2.1 = M ∧ (doI s M i).2.2.C = (if (resZ s i.op i.a.toNat i.b.toNat i.c.toNat i.imm).2 = 0 then outC 0 0 0 else outC 3 (resZ s i.op i.a.toNat i.b.toNat i.c.toNat i.imm).2 s.pc) := by
  unfold doI
  rw [if_neg (by omega), if_neg (by omega), if_neg (by omega), if_neg (by omega), if_neg (by omega), if_neg (by omega), if_neg (by omega)]
  generalize resZ s i.op i.a.toNat i.b.toNat i.c.toNat i.imm = z
  by_cases h0 : z.2 = 0
  · simp only [h0, if_true]; exact ⟨trivial, trivial, rfl⟩
  · simp only [h0, if_false]; exact ⟨trivial, trivial, rfl⟩
theorem oc_size (x : Oc) : (Tryd.prog.info? 36).map (·.size) = some x.C.size := by unfold Oc.C outC; kernel_rfl
theorem oc_z (x : Oc) : (#[.int .i64 0, .int .i64 0, .int .u64 0] : Array Value).size = x.C.size := rfl
theorem oc_one (x : Oc) : x.C.all (·.oneCell') = true := out_one _ _ _
theorem setR_len (s : St) (i v : Int) : (s.setR i v).R.length = s.R.length := by unfold St.setR; simp
theorem doI_len (s : St) (M : List Pg) (i : In) : (doI s M i).1.R.length = s.R.length := by
  unfold doI jmpS
  repeat' split
  all_goals simp [St.setR, St.setP]
end Go.Proofs.YtkhfmgifpppcmaaDoor
