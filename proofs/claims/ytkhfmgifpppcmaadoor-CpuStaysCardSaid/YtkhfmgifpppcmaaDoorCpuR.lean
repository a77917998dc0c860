/-
  What is proved here: words for a processor's state: its 34 cells, a register set, the place set; whole boxes of it; the small functions of package cpu: fault, number, next, lessSigned, truth. · words for a region that draws its order, loads from boxes that stay, calls what only makes memory and stores results into boxes of its own; two results that stand in boxes.
  Conditions: as they say.
-/
import Derived.Test.YtkhfmgifpppcmaaDoorWholeB
import Derived.Test.YtkhfmgifpppcmaaDoorVmAdd
import Derived.Test.YtkhfmgifpppcmaaDoorIsaCd
import Derived.Test.YtkhfmgifpppcmaaDoorFWords
namespace Go.Proofs.YtkhfmgifpppcmaaDoor
open Go.RowKit
set_option linter.unusedVariables false
set_option linter.unusedSimpArgs false

/-- A state: its registers, its place, its thread's pointer. -/
structure St where
  R : List Int
  pc : Int
  tls : Int
def St.L (s : St) : List Value := s.R.map (Value.int .u64) ++ [.int .u64 s.pc, .int .u64 s.tls]
def St.C (s : St) : Array Value := s.L.toArray
structure St.Ok (s : St) : Prop where
  len : s.R.length = 32
  rb : ∀ z ∈ s.R, 0 ≤ z ∧ z ≤ 18446744073709551615
  p0 : 0 ≤ s.pc
  p1 : s.pc ≤ 18446744073709551615
  t0 : 0 ≤ s.tls
  t1 : s.tls ≤ 18446744073709551615
def St.reg (s : St) (i : Int) : Int := s.R.getD i.toNat 0
def St.setR (s : St) (i v : Int) : St := { s with R := s.R.set i.toNat v }
def St.setP (s : St) (v : Int) : St := { s with pc := v }
def St.zero : St := ⟨List.replicate 32 0, 0, 0⟩
theorem St.lsize {s : St} (h : s.R.length = 32) : s.C.size = 34 := by unfold St.C St.L; simp [h]
theorem St.creg {s : St} (h : s.R.length = 32) {i : Nat} (hi : i < 32) : s.C[i]? = some (.int .u64 (s.R.getD i 0)) := by
  unfold St.C St.L
  rw [List.getElem?_toArray, List.getElem?_append_left (by rw [List.length_map, h]; exact hi), List.getElem?_map, List.getElem?_eq_getElem (by rw [h]; exact hi), List.getD_eq_getElem?_getD, List.getElem?_eq_getElem (by rw [h]; exact hi)]
  rfl
theorem St.cpc {s : St} (h : s.R.length = 32) : s.C[32]? = some (.int .u64 s.pc) := by
  unfold St.C St.L
  rw [List.getElem?_toArray, List.getElem?_append_right (by rw [List.length_map, h]; decide), List.length_map, h]
  rfl
theorem St.ctls {s : St} (h : s.R.length = 32) : s.C[33]? = some (.int .u64 s.tls) := by
  unfold St.C St.L
  rw [List.getElem?_toArray, List.getElem?_append_right (by rw [List.length_map, h]; decide), List.length_map, h]
  rfl
theorem St.set_reg {s : St} (h : s.R.length = 32) {i : Nat} (hi : i < 32) (v : Int) : s.C.setIfInBounds i (.int .u64 v) = (s.setR i v).C := by
  unfold St.C St.L St.setR
  rw [List.setIfInBounds_toArray, List.set_append_left _ _ (by rw [List.length_map, h]; exact hi), ← List.map_set]
  rfl
theorem St.set_pc {s : St} (h : s.R.length = 32) (v : Int) : s.C.setIfInBounds 32 (.int .u64 v) = (s.setP v).C := by
  unfold St.C St.L St.setP
  rw [List.setIfInBounds_toArray, List.set_append_right _ _ (by rw [List.length_map, h]; decide), List.length_map, h]
  rfl
theorem St.one (s : St) : s.C.all (·.oneCell') = true := by
  unfold St.C St.L
  rw [List.all_toArray, List.all_append]
  simp [Value.oneCell']
theorem St.reg_bd {s : St} (h : s.Ok) (i : Int) : 0 ≤ s.reg i ∧ s.reg i ≤ 18446744073709551615 := by
  unfold St.reg
  rw [List.getD_eq_getElem?_getD]
  by_cases hi : i.toNat < s.R.length
  · rw [List.getElem?_eq_getElem hi]; exact h.rb _ (List.getElem_mem _)
  · rw [List.getElem?_eq_none (by omega)]; exact ⟨by decide, by decide⟩
theorem St.Ok.setR {s : St} (h : s.Ok) (i : Int) {v : Int} (v0 : 0 ≤ v) (v1 : v ≤ 18446744073709551615) : (s.setR i v).Ok :=
  ⟨by unfold St.setR; simp [h.len], fun z hz => by
    rcases List.mem_or_eq_of_mem_set hz with h1 | rfl
    · exact h.rb z h1
    · exact ⟨v0, v1⟩, h.p0, h.p1, h.t0, h.t1⟩
theorem St.Ok.setP {s : St} (h : s.Ok) {v : Int} (v0 : 0 ≤ v) (v1 : v ≤ 18446744073709551615) : (s.setP v).Ok := ⟨h.len, h.rb, v0, v1, h.t0, h.t1⟩
theorem St.zero_ok : St.zero.Ok := ⟨by decide, by decide, by decide, by decide, by decide, by decide⟩
theorem u64_bd (z : Int) : 0 ≤ IntKind.u64.wrap z ∧ IntKind.u64.wrap z ≤ 18446744073709551615 := by rw [IntKind.wrap_u64]; omega
/-! ### whole boxes -/
theorem Blk.row {w : World} {g : Nat} {Z C : Array Value} {t : TypeId} (h : Blk w g Z t) : Blk (w.setRow g C) g C t := by
  unfold Blk at *
  simp [World.setRow, h, Array.getElem?_modify]
theorem Blk.row_other {w : World} {g k : Nat} {Z C : Array Value} {t : TypeId} (h : Blk w k Z t) (hk : k ≠ g) : Blk (w.setRow g C) k Z t := by
  unfold Blk at *
  simp [World.setRow, Array.getElem?_modify, Ne.symm hk, h]
theorem below_row {B g : Nat} {w w' : World} (h : Below B w w') (hg : B ≤ g) (C : Array Value) : Below B w (w'.setRow g C) :=
  ⟨h.os, h.tape, h.output, by simpa [World.setRow] using h.size, fun k hk => by
    rw [← h.block k hk]
    have : k ≠ g := by omega
    simp [World.setRow, Array.getElem?_modify, Ne.symm this]⟩
theorem st_size {s : St} (h : s.R.length = 32) : (Tryd.prog.info? 26).map (·.size) = some s.C.size := by rw [St.lsize h]; kernel_rfl
theorem zs_size {s : St} (h : s.R.length = 32) : (St.zero.C).size = s.C.size := by rw [St.lsize h]; kernel_rfl
theorem zs_info : (Tryd.prog.info? 26).map (fun i => i.zero.map (·.cells)) = some (some St.zero.C) := by kernel_rfl
/-- An outcome's cells. -/
def outC (k e a : Int) : Array Value := #[.int .i64 k, .int .i64 e, .int .u64 a]
theorem fault_ok (e a : Int) (w : World) : Calls Tryd.prog 18 #[.int .i64 e, .int .u64 a] w fun r w' => r = .returned (.agg (outC 3 e a)) ∧ Below w.heap.size w w' := by
  obtain ⟨w1, hw1⟩ : ∃ w1, w.alloc (.cells #[.int .i64 0, .int .i64 0, .int .u64 0] 36) = w1 := ⟨_, rfl⟩
  have B1 : Hid (Blk w1 w.heap.size #[.int .i64 0, .int .i64 0, .int .u64 0] 36) := Lib.hid (by rw [← hw1]; exact Blk.new _ _ _)
  have HB : Hid (Below w.heap.size w w1) := Lib.hid (by rw [← hw1]; exact (Below.refl _ _).alloc (Nat.le_refl _) _)
  have k0 := B1.out.cell 0
  have k1 := B1.out.cell 1
  have k2 := B1.out.cell 2
  have f0 := B1.out.frozen 0
  have f1 := B1.out.frozen 1
  have f2 := B1.out.frozen 2
  go_enter Tryd.func18, Tryd.ntmps18
  go_wp2
  have BF := ((B1.out.put 0 (.int .i64 3)).put 1 (.int .i64 e)).put 2 (.int .u64 a)
  have e0 := BF.cell 0
  have e1 := BF.cell 1
  have e2 := BF.cell 2
  refine bodyPost_ret (v := .agg (outC 3 e a)) (by unfold outC; simp [results, Tryd.results18, go_sem, e0, e1, e2]) rfl ?_
  exact ⟨rfl, ((HB.out.setCell (p := ⟨w.heap.size, 0, none⟩) (Nat.le_refl _) _).setCell (p := ⟨w.heap.size, 1, none⟩) (Nat.le_refl _) _).setCell (p := ⟨w.heap.size, 2, none⟩) (Nat.le_refl _) _⟩
theorem number_i (i : In) (w : World) : Calls Tryd.prog 25 #[i.ival] w fun r w' => r = .returned (.int .u64 (IntKind.u64.wrap i.imm)) ∧ Below w.heap.size w w' := by
  unfold In.ival
  have B1 := Blk.new w #[.int .i64 i.op, .int .i64 i.a, .int .i64 i.b, .int .i64 i.c, .int .i32 i.imm] 63
  have k4 := B1.cell 4
  have HB := Lib.hid ((Below.refl w.heap.size w).alloc (Nat.le_refl _) (.cells #[.int .i64 i.op, .int .i64 i.a, .int .i64 i.b, .int .i64 i.c, .int .i32 i.imm] 63))
  clear B1
  go_enter Tryd.func25, Tryd.ntmps25
  go_wp2
  go_ret
  exact ⟨rfl, HB.out⟩
/-- A number as a signed one. -/
def sgn (x : Int) : Int := wrap64 x
theorem lessS_ok (a b : Int) (w : World) : Calls Tryd.prog 42 #[.int .u64 a, .int .u64 b] w fun r w' => r = .returned (.bool (decide (sgn a < sgn b))) ∧ w = w' := by
  unfold sgn
  go_enter Tryd.func42, Tryd.ntmps42
  go_wp2
  go_ret
  exact ⟨rfl, rfl⟩
theorem truth_ok (b : Bool) (w : World) : Calls Tryd.prog 50 #[.bool b] w fun r w' => r = .returned (.int .u64 (if b = true then 1 else 0)) ∧ w = w' := by
  cases b with
  | true =>
    go_enter Tryd.func50, Tryd.ntmps50
    go_wp2
    go_ret
    exact ⟨rfl, rfl⟩
  | false =>
    go_enter Tryd.func50, Tryd.ntmps50
    go_wp2
    go_ret
    exact ⟨rfl, rfl⟩
theorem next_ok (s : St) (h : s.R.length = 32) (w : World) : Calls Tryd.prog 20 #[.agg s.C] w fun r w' => r = .returned (.agg (s.setP (IntKind.u64.wrap (s.pc + 8))).C) ∧ Below w.heap.size w w' := by
  obtain ⟨w1, hw1⟩ : ∃ w1, (w.alloc (.cells s.C 26)).alloc (.cells St.zero.C 26) = w1 := ⟨_, rfl⟩
  have B1 : Hid (Blk w1 w.heap.size s.C 26) := Lib.hid (by rw [← hw1]; exact (Blk.new _ _ _).alloc _)
  have B2 : Hid (Blk w1 (w.heap.size + 1) St.zero.C 26) := Lib.hid (by
    rw [← hw1]
    have := Blk.new (w.alloc (.cells s.C 26)) St.zero.C 26
    rw [World.size_alloc] at this
    exact this)
  have HB : Hid (Below w.heap.size w w1) := Lib.hid (by rw [← hw1]; exact ((Below.refl _ _).alloc (Nat.le_refl _) _).alloc (by rw [World.size_alloc]; omega) _)
  obtain ⟨v, hv⟩ : ∃ v, IntKind.u64.wrap (s.pc + 8) = v := ⟨_, rfl⟩
  rw [hv]
  have c32 := (B1.out.cell 32).trans (St.cpc h)
  have f32 := B1.out.frozen 32
  have hb3 := B1.out.put 32 (.int .u64 v)
  rw [St.set_pc h] at hb3
  have B3 := Lib.hid hb3
  have B4 : Hid (Blk (w1.setCell ⟨w.heap.size, 32, none⟩ (.int .u64 v)) (w.heap.size + 1) St.zero.C 26) := Lib.hid (blk_same B2.out (Below.heap_setCell _ _ _ _ (by show w.heap.size + 1 ≠ w.heap.size; omega)))
  obtain ⟨s2, hs2⟩ : ∃ s2, s.setP v = s2 := ⟨_, rfl⟩
  have h2 : s2.R.length = 32 := by rw [← hs2]; exact h
  rw [hs2] at B3 ⊢
  have HS := Lib.hid (st_size h2)
  have HZ := Lib.hid (zs_size h2)
  have HO := Lib.hid s2.one
  obtain ⟨C, hC⟩ : ∃ C, s.C = C := ⟨_, rfl⟩
  obtain ⟨C2, hC2⟩ : ∃ C, s2.C = C := ⟨_, rfl⟩
  rw [hC] at hw1 ⊢
  rw [hC2] at B3 HS HZ HO ⊢
  clear hb3 hC hC2 hs2 h h2 B1
  obtain ⟨ZC, hZC⟩ : ∃ Z, St.zero.C = Z := ⟨_, rfl⟩
  have HZI := Lib.hid zs_info
  rw [hZC] at hw1 B2 B4 HZ HZI
  clear hZC
  go_enter Tryd.func20, Tryd.ntmps20
  go_wp2_with (first | (refine wpList_alloc_eq rfl 26 rfl ZC HZI.out ?_) | (refine wpList_load_row rfl 26 _ rfl w.heap.size rfl _ C2 (0, 0) _ B3.out Tryd.underlying26 rfl HS.out ?_) | (refine wpList_store_row rfl 26 _ _ rfl (w.heap.size + 1) C2 rfl rfl _ _ B4.out HS.out HZ.out HO.out ?_))
  have BE := B4.out.row (C := C2)
  refine bodyPost_ret (v := .agg C2) (results_cell_row rfl _ _ (w.heap.size + 1) _ C2 (0, 0) _ rfl BE Tryd.underlying26 rfl HS.out) rfl ?_
  exact ⟨rfl, below_row (HB.out.setCell (p := ⟨w.heap.size, 32, none⟩) (Nat.le_refl _) _) (by omega) _⟩
end Go.Proofs.YtkhfmgifpppcmaaDoor
namespace Go.Proofs.YtkhfmgifpppcmaaDoor
open Go.RowKit
set_option linter.unusedVariables false
set_option linter.unusedSimpArgs false

/-- A region's boxes: those that stay (block, cells, type), those for results (the store's number, block, type, cells ahead, cells behind). -/
structure PR (B : Nat) (w : World) (FX : List (Nat × Array Value × TypeId)) (RS : List (Nat × Nat × TypeId × Array Value × Array Value)) (L : Nat → Bool) (w9 : World) : Prop where
  hB : B ≤ w.heap.size
  bel : Below B w w9
  fx : ∀ f ∈ FX, Blk w9 f.1 f.2.1 f.2.2
  rs : ∀ r ∈ RS, Blk w9 r.2.1 (if L r.1 = true then r.2.2.2.2 else r.2.2.2.1) r.2.2.1
/-- The boxes lie apart, the results' behind the call's begin. -/
structure Dist (B : Nat) (FX : List (Nat × Array Value × TypeId)) (RS : List (Nat × Nat × TypeId × Array Value × Array Value)) : Prop where
  a : ∀ r ∈ RS, B ≤ r.2.1 ∧ ∀ f ∈ FX, f.1 ≠ r.2.1
  b : ∀ r ∈ RS, ∀ q ∈ RS, (r.1 = q.1 ∨ r.2.1 = q.2.1) → r = q
section
variable {B : Nat} {w w9 w5 : World} {FX : List (Nat × Array Value × TypeId)} {RS : List (Nat × Nat × TypeId × Array Value × Array Value)} {L L' : Nat → Bool} {S : List Nat} {i g : Nat} {t : TypeId} {Z C : Array Value}
theorem PR.ini (hL : L i = false) (h : Blk w g Z t) : Blk w g (if L i = true then C else Z) t := by rw [hL]; exact h
theorem PR.done (h : PR B w FX RS L w9) (hm : (i, g, t, Z, C) ∈ RS) (hL : L i = true) : Blk w9 g C t := by
  have := h.rs _ hm
  simp only [hL, if_true] at this
  exact this
theorem PR.todo (h : PR B w FX RS L w9) (hm : (i, g, t, Z, C) ∈ RS) (hL : L i = false) : Blk w9 g Z t := by
  have := h.rs _ hm
  simp only [hL] at this
  exact this
theorem PR.later (h : PR B w FX RS L w9) (hb : Below w9.heap.size w9 w5) (hS : RS.map (·.1) = S) (hi : i ∉ S) (h1 : ∀ j ∈ S, j ≠ i → L' j = L j) : PR B w FX RS L' w5 :=
  ⟨h.hB, h.bel.trans (hb.mono (Nat.le_trans h.hB h.bel.size)), fun f hf => (h.fx f hf).later hb, fun r hr => by
    have hj : r.1 ∈ S := by rw [← hS]; exact List.mem_map.2 ⟨r, hr, rfl⟩
    rw [h1 _ hj (fun e => hi (by rw [← e]; exact hj))]
    exact (h.rs r hr).later hb⟩
theorem PR.store (h : PR B w FX RS L w9) (D : Dist B FX RS) (hm : (i, g, t, Z, C) ∈ RS) (hS : RS.map (·.1) = S) (h2 : L' i = true) (h1 : ∀ j ∈ S, j ≠ i → L' j = L j) : PR B w FX RS L' (w9.setRow g C) :=
  ⟨h.hB, below_row h.bel (D.a _ hm).1 C, fun f hf => (h.fx f hf).row_other ((D.a _ hm).2 f hf), fun r hr => by
    by_cases e : r.1 = i
    · have := D.b r hr _ hm (.inl e)
      subst this
      simp only [h2, if_true]
      exact (h.rs _ hm).row
    · have hj : r.1 ∈ S := by rw [← hS]; exact List.mem_map.2 ⟨r, hr, rfl⟩
      rw [h1 _ hj e]
      refine (h.rs r hr).row_other fun e2 => e ?_
      have := D.b r hr _ hm (.inr e2)
      rw [this]⟩
end
theorem dist_none (B : Nat) (FX : List (Nat × Array Value × TypeId)) : Dist B FX [] := ⟨fun _ h => (by cases h), fun _ h => (by cases h)⟩
theorem out_one (k e a : Int) : (outC k e a).all (·.oneCell') = true := by simp [outC, Value.oneCell']
/-- Two results that stand in boxes. -/
theorem results_two {P : Program} {fn : Func} {p q : Tmp} {t1 t2 : TypeId} (h : fn.results = #[.cell p t1, .cell q t2]) (tmps : Array Value) (w : World) (g1 g2 : Nat) (u1 u2 : TypeId) (C1 C2 : Array Value) (f1 f2 : Nat × Nat) (d1 d2 : TypeDesc)
    (hp : tmps.getD p undef = .pointer (some ⟨g1, 0, none⟩)) (hq : tmps.getD q undef = .pointer (some ⟨g2, 0, none⟩)) (hg1 : w.heap[g1]? = some (.cells C1 u1 f1)) (hg2 : w.heap[g2]? = some (.cells C2 u2 f2))
    (hu1 : P.underlying t1 = some d1) (hd1 : (match d1 with | .struct _ | .array _ _ => true | _ => false) = true) (hi1 : (P.info? t1).map (·.size) = some C1.size)
    (hu2 : P.underlying t2 = some d2) (hd2 : (match d2 with | .struct _ | .array _ _ => true | _ => false) = true) (hi2 : (P.info? t2).map (·.size) = some C2.size) :
    (results fn tmps).run P w = .ok (.tuple #[.agg C1, .agg C2]) w := by
  have hp' : tmps[p]?.getD undef = .pointer (some ⟨g1, 0, none⟩) := by simpa using hp
  have hq' : tmps[q]?.getD undef = .pointer (some ⟨g2, 0, none⟩) := by simpa using hq
  simp [results, h, hp', hq', asAddr, run_loadVar_row w g1 u1 t1 C1 f1 d1 hg1 hu1 hd1 hi1, run_loadVar_row w g2 u2 t2 C2 f2 d2 hg2 hu2 hd2 hi2, Sem.run_bind]
end Go.Proofs.YtkhfmgifpppcmaaDoor
