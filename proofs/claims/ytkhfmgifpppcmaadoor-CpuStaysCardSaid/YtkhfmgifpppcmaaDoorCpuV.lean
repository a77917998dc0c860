/-
  What is proved here: holds, divide, combine of package cpu; a state's registers loaded as an array; a cell's store as a row's. · a state equals itself. · a state built of its parts.
  Conditions: as they say.
-/
import Derived.Test.YtkhfmgifpppcmaaDoorCpuR
import Derived.BigQuiet
import Derived.ChangeKeysEq
import Derived.Laws.StructEq
namespace Go.Proofs.YtkhfmgifpppcmaaDoor
open Go.RowKit
set_option linter.unusedVariables false
set_option linter.unusedSimpArgs false

theorem setCell_row {w : World} {g i : Nat} {Z : Array Value} {t : TypeId} (h : Blk w g Z t) (v : Value) : w.setCell ⟨g, i, none⟩ v = w.setRow g (Z.setIfInBounds i v) := by
  have h : w.heap[g]? = some (.cells Z t) := h
  unfold World.setCell World.setRow
  have e : ∀ a b : Array Obj, a = b → ({ w with heap := a } : World) = { w with heap := b } := fun a b h => by rw [h]
  apply e
  apply Array.ext_getElem?
  intro k
  simp only [Array.getElem?_modify]
  by_cases hk : g = k
  · subst hk
    simp [h]
  · simp [hk]
/-- A state's registers, as an array. -/
def St.RA (s : St) : Array Value := (s.R.map (Value.int .u64)).toArray
theorem St.RA_reg {s : St} (h : s.R.length = 32) {i : Nat} (hi : i < 32) : s.RA[i]? = some (.int .u64 (s.R.getD i 0)) := by
  unfold St.RA
  rw [List.getElem?_toArray, List.getElem?_map, List.getElem?_eq_getElem (by rw [h]; exact hi), List.getD_eq_getElem?_getD, List.getElem?_eq_getElem (by rw [h]; exact hi)]
  rfl
theorem St.RA_size {s : St} (h : s.R.length = 32) : s.RA.size = 32 := by unfold St.RA; simp [h]
theorem run_load_regs {s : St} (h : s.R.length = 32) {w : World} {g : Nat} {t : TypeId} (hb : Blk w g s.C t) : (loadVar 23 ⟨g, 0, none⟩).run Tryd.prog w = .ok (.agg s.RA) w := by
  have hl : (loadCells ⟨g, 0, none⟩ s.RA.toList.length).run Tryd.prog w = .ok s.RA.toList.toArray w :=
    run_loadCells_list (P := Tryd.prog) w ⟨g, 0, none⟩ s.RA.toList (fun j v hv => by
      have hadd : (⟨g, 0, none⟩ : Addr).add j = ⟨g, j, none⟩ := by unfold Addr.add; split <;> simp_all
      have hj : j < 32 := by
        have := (List.getElem?_eq_some_iff.1 hv).1
        rw [Array.length_toList, St.RA_size h] at this
        exact this
      rw [hadd, hb.cell j, St.creg h hj]
      rw [Array.getElem?_toList, St.RA_reg h hj] at hv
      exact hv)
  have hagg : (isAgg 23).run Tryd.prog w = .ok true w := by
    unfold isAgg
    rw [Sem.run_bind, run_underlying Tryd.underlying23 w]
    rfl
  have hq : ∃ i, Tryd.prog.info? 23 = some i ∧ i.size = 32 := by
    have : (Tryd.prog.info? 23).map (·.size) = some 32 := by kernel_rfl
    cases hi : Tryd.prog.info? 23 with
    | none => rw [hi] at this; cases this
    | some i => rw [hi] at this; exact ⟨i, rfl, by simpa using this⟩
  obtain ⟨i, hq, hs⟩ := hq
  simp only [Array.length_toList, Array.toArray_toList, St.RA_size h] at hl
  simp [loadVar, Sem.run_bind, hagg, sizeOf, typeInfo, hq, hs, hl]
theorem wpList_load_regs {ops : Array Oper} {rest : List Oper} {o : Oper} {a : Act} {w : World} {Q : Exit → Act → World → Prop} (hgd : o.guard = none) (x : Operand) (ho : o.op = .load 23 x)
    (g : Nat) (hx : a.eval x = .pointer (some ⟨g, 0, none⟩)) (t : TypeId) {s : St} (hs : s.R.length = 32) (hg : Blk w g s.C t)
    (h : wpList Tryd.prog ops Q rest (a.put o.dst (.agg s.RA)) w) : wpList Tryd.prog ops Q (o :: rest) a w :=
  wpList_plain hgd fun K hK => by
    unfold Oper.wp execOp
    simp only [ho, hx, Instr.loadAt, Instr.sureAddr, Sem.run_bind, Sem.run_pure, Result.andThen_ok, run_load_regs hs hg]
    exact hK _ _ h
def holdsB (op x y : Int) : Bool := if op = 30 then x == y else if op = 31 then x != y else if op = 32 then decide (sgn x < sgn y) else decide (x < y)
theorem holds_ok (op x y : Int) (w : World) : Calls Tryd.prog 33 #[.int .i64 op, .int .u64 x, .int .u64 y] w fun r w' => r = .returned (.bool (holdsB op x y)) ∧ w = w' := by
  have HLS := Lib.hid (fun wx => lessS_ok x y wx)
  obtain ⟨lb, hlb⟩ : ∃ b, decide (sgn x < sgn y) = b := ⟨_, rfl⟩
  unfold holdsB
  rw [hlb] at HLS ⊢
  clear hlb
  by_cases h0 : op = 30
  · subst h0
    go_enter Tryd.func33, Tryd.ntmps33
    go_wp2
    go_ret
    exact ⟨rfl, rfl⟩
  · by_cases h1 : op = 31
    · subst h1
      go_enter Tryd.func33, Tryd.ntmps33
      go_wp2
      go_ret
      exact ⟨rfl, rfl⟩
    · by_cases h2 : op = 32
      · subst h2
        go_enter Tryd.func33, Tryd.ntmps33
        go_wp2_with fail
        refine (HLS.out _).mono ?_
        rintro r1 w1 ⟨rfl, rfl⟩
        go_wp2
        go_ret
        exact ⟨rfl, rfl⟩
      · rw [if_neg h0, if_neg h1, if_neg h2]
        go_enter Tryd.func33, Tryd.ntmps33
        go_wp2
        go_ret
        exact ⟨rfl, rfl⟩
/-- A quotient or a remainder. -/
def divZ (op y z : Int) : Int × Int := if z = 0 then (0, 43) else if op = 7 then (y % z, 0) else (y / z, 0)
set_option maxHeartbeats 3200000 in
set_option maxRecDepth 100000 in
theorem divide_ok (s : St) (hs : s.Ok) (op m : Int) (a b c : Nat) (hb : b < 32) (hc : c < 32) (w : World) :
    Calls Tryd.prog 43 #[.agg #[.int .i64 op, .int .i64 (a : Int), .int .i64 (b : Int), .int .i64 (c : Int), .int .i32 m], .agg s.RA] w fun r w' => r = .returned (.tuple #[.int .u64 (divZ op (s.R.getD b 0) (s.R.getD c 0)).1, .int .i64 (divZ op (s.R.getD b 0) (s.R.getD c 0)).2]) ∧ Below w.heap.size w w' := by
  obtain ⟨w1, hw1⟩ : ∃ w1, (w.alloc (.cells #[.int .i64 op, .int .i64 (a : Int), .int .i64 (b : Int), .int .i64 (c : Int), .int .i32 m] 63)).alloc (.cells s.RA 23) = w1 := ⟨_, rfl⟩
  have B0 : Blk w1 w.heap.size #[.int .i64 op, .int .i64 (a : Int), .int .i64 (b : Int), .int .i64 (c : Int), .int .i32 m] 63 := by rw [← hw1]; exact (Blk.new _ _ _).alloc _
  have B1 : Blk w1 (w.heap.size + 1) s.RA 23 := by
    rw [← hw1]
    have := Blk.new (w.alloc (.cells #[.int .i64 op, .int .i64 (a : Int), .int .i64 (b : Int), .int .i64 (c : Int), .int .i32 m] 63)) s.RA 23
    simp only [World.size_alloc] at this
    exact this
  have HB : Hid (Below w.heap.size w w1) := Lib.hid (by rw [← hw1]; exact ((Below.refl _ _).alloc (Nat.le_refl _) _).alloc (by simp only [World.size_alloc]; omega) _)
  have i0 := B0.cell 0
  have i2 := B0.cell 2
  have i3 := B0.cell 3
  have r2 := (B1.cell b).trans (St.RA_reg hs.len hb)
  have r3 := (B1.cell c).trans (St.RA_reg hs.len hc)
  have hy := St.reg_bd hs b
  have hz := St.reg_bd hs c
  unfold St.reg at hy hz
  rw [Int.toNat_natCast] at hy hz
  obtain ⟨y, hyy⟩ : ∃ y, s.R.getD b 0 = y := ⟨_, rfl⟩
  obtain ⟨z, hzz⟩ : ∃ z, s.R.getD c 0 = z := ⟨_, rfl⟩
  rw [hyy] at r2 hy ⊢
  rw [hzz] at r3 hz ⊢
  obtain ⟨RA, hRA⟩ : ∃ RA, s.RA = RA := ⟨_, rfl⟩
  rw [hRA] at hw1 ⊢
  clear B0 B1 hyy hzz hs hRA
  obtain ⟨R, hR⟩ : ∃ R, divZ op y z = R := ⟨_, rfl⟩
  rw [hR]
  unfold divZ at hR
  have HR := Lib.hid hR
  clear hR
  go_enter Tryd.func43, Tryd.ntmps43
  go_wp2_with fail
  clear hw1
  go_quiet (fail)
  have HB2 : Hid (Below w.heap.size w (w1.drewN nq)) := Lib.hid (below_drewN HB.out nq)
  by_cases h0 : z = 0
  · have q := HR.out
    rw [if_pos h0] at q
    subst h0
    have HQ := Lib.hid q
    clear q HR
    go_wp2
    go_ret2
    exact ⟨by rw [← HQ.out]; rfl, HB2.out⟩
  · have h0b : (z == 0) = false := by simp; exact h0
    have q := HR.out
    rw [if_neg h0] at q
    by_cases h7 : op = 7
    · rw [if_pos h7] at q
      subst h7
      have HQ := Lib.hid q
      clear q HR
      go_wp2
      all_goals go_ret2
      all_goals exact ⟨by rw [← HQ.out]; rfl, HB2.out⟩
    · have h7b : (op == 7) = false := by simp; exact h7
      rw [if_neg h7] at q
      have HQ := Lib.hid q
      clear q HR
      go_wp2
      all_goals go_ret2
      all_goals exact ⟨by rw [← HQ.out]; rfl, HB2.out⟩
/-- What an operation makes of two numbers. -/
def combZ (op y z : Int) : Int :=
  if op = 2 then y else
  if op = 3 then IntKind.u64.wrap (y + z) else
  if op = 4 then IntKind.u64.wrap (y - z) else
  if op = 5 then IntKind.u64.wrap (y * z) else
  if op = 8 then bits .and .u64 y z else
  if op = 9 then bits .or .u64 y z else
  if op = 10 then bits .xor .u64 y z else
  if op = 11 then IntKind.u64.wrap (y * 2 ^ (z % 64).toNat) else
  if op = 12 then y / 2 ^ (z % 64).toNat else
  if op = 13 then IntKind.u64.wrap (wrap64 y / 2 ^ (z % 64).toNat) else
  if op = 14 then (if decide (sgn y < sgn z) = true then 1 else 0) else
  (if decide (y < z) = true then 1 else 0)
theorem combZ_2 (y z : Int) : combZ 2 y z = y := rfl
theorem combZ_3 (y z : Int) : combZ 3 y z = IntKind.u64.wrap (y + z) := rfl
theorem combZ_4 (y z : Int) : combZ 4 y z = IntKind.u64.wrap (y - z) := rfl
theorem combZ_5 (y z : Int) : combZ 5 y z = IntKind.u64.wrap (y * z) := rfl
theorem combZ_8 (y z : Int) : combZ 8 y z = bits .and .u64 y z := rfl
theorem combZ_9 (y z : Int) : combZ 9 y z = bits .or .u64 y z := rfl
theorem combZ_10 (y z : Int) : combZ 10 y z = bits .xor .u64 y z := rfl
theorem combZ_11 (y z : Int) : combZ 11 y z = IntKind.u64.wrap (y * 2 ^ (z % 64).toNat) := rfl
theorem combZ_12 (y z : Int) : combZ 12 y z = y / 2 ^ (z % 64).toNat := rfl
theorem combZ_13 (y z : Int) : combZ 13 y z = IntKind.u64.wrap (wrap64 y / 2 ^ (z % 64).toNat) := rfl
theorem combZ_14 (y z : Int) : combZ 14 y z = (if decide (sgn y < sgn z) = true then 1 else 0) := rfl
theorem combZ_else {op y z : Int} (h2 : ¬ op = 2) (h3 : ¬ op = 3) (h4 : ¬ op = 4) (h5 : ¬ op = 5) (h8 : ¬ op = 8) (h9 : ¬ op = 9) (h10 : ¬ op = 10) (h11 : ¬ op = 11) (h12 : ¬ op = 12) (h13 : ¬ op = 13) (h14 : ¬ op = 14) : combZ op y z = (if decide (y < z) = true then 1 else 0) := by
  unfold combZ
  rw [if_neg h2, if_neg h3, if_neg h4, if_neg h5, if_neg h8, if_neg h9, if_neg h10, if_neg h11, if_neg h12, if_neg h13, if_neg h14]
set_option maxHeartbeats 6400000 in
set_option maxRecDepth 100000 in
theorem combine_ok (s : St) (hs : s.Ok) (op m : Int) (a b c : Nat) (hb : b < 32) (hc : c < 32) (w : World) :
    Calls Tryd.prog 44 #[.agg #[.int .i64 op, .int .i64 (a : Int), .int .i64 (b : Int), .int .i64 (c : Int), .int .i32 m], .agg s.RA] w fun r w' => r = .returned (.int .u64 (combZ op (s.R.getD b 0) (s.R.getD c 0))) ∧ Below w.heap.size w w' := by
  obtain ⟨w1, hw1⟩ : ∃ w1, (w.alloc (.cells #[.int .i64 op, .int .i64 (a : Int), .int .i64 (b : Int), .int .i64 (c : Int), .int .i32 m] 63)).alloc (.cells s.RA 23) = w1 := ⟨_, rfl⟩
  have B0 : Blk w1 w.heap.size #[.int .i64 op, .int .i64 (a : Int), .int .i64 (b : Int), .int .i64 (c : Int), .int .i32 m] 63 := by rw [← hw1]; exact (Blk.new _ _ _).alloc _
  have B1 : Blk w1 (w.heap.size + 1) s.RA 23 := by
    rw [← hw1]
    have := Blk.new (w.alloc (.cells #[.int .i64 op, .int .i64 (a : Int), .int .i64 (b : Int), .int .i64 (c : Int), .int .i32 m] 63)) s.RA 23
    simp only [World.size_alloc] at this
    exact this
  have HB : Hid (Below w.heap.size w w1) := Lib.hid (by rw [← hw1]; exact ((Below.refl _ _).alloc (Nat.le_refl _) _).alloc (by simp only [World.size_alloc]; omega) _)
  have i0 := B0.cell 0
  have i2 := B0.cell 2
  have i3 := B0.cell 3
  have r2 := (B1.cell b).trans (St.RA_reg hs.len hb)
  have r3 := (B1.cell c).trans (St.RA_reg hs.len hc)
  have hy := St.reg_bd hs b
  have hz := St.reg_bd hs c
  unfold St.reg at hy hz
  rw [Int.toNat_natCast] at hy hz
  obtain ⟨y, hyy⟩ : ∃ y, s.R.getD b 0 = y := ⟨_, rfl⟩
  obtain ⟨z, hzz⟩ : ∃ z, s.R.getD c 0 = z := ⟨_, rfl⟩
  rw [hyy] at r2 hy ⊢
  rw [hzz] at r3 hz ⊢
  obtain ⟨RA, hRA⟩ : ∃ RA, s.RA = RA := ⟨_, rfl⟩
  rw [hRA] at hw1 ⊢
  clear B0 B1 hyy hzz hs hRA
  obtain ⟨R, hR⟩ : ∃ R, combZ op y z = R := ⟨_, rfl⟩
  rw [hR]
  have HR := Lib.hid hR
  have HLS := Lib.hid (fun wx => lessS_ok y z wx)
  have HTR := Lib.hid (fun b wx => truth_ok b wx)
  obtain ⟨lb, hlb⟩ : ∃ b, decide (sgn y < sgn z) = b := ⟨_, rfl⟩
  have HLB := Lib.hid hlb
  rw [hlb] at HLS
  obtain ⟨ub, hub⟩ : ∃ b, decide (y < z) = b := ⟨_, rfl⟩
  have HUB := Lib.hid hub
  obtain ⟨k, hk⟩ : ∃ k : Nat, z % 64 = (k : Int) := ⟨(z % 64).toNat, by omega⟩
  have hk6 : k < 64 := by omega
  have HK := Lib.hid hk
  clear hR hlb hub
  go_enter Tryd.func44, Tryd.ntmps44
  go_wp2_with fail
  clear hw1
  go_quiet (fail)
  have HB2 : Hid (Below w.heap.size w (w1.drewN nq)) := Lib.hid (below_drewN HB.out nq)
  by_cases h2 : op = 2
  · subst h2
    have q := (combZ_2 y z).symm.trans HR.out
    have HQ := Lib.hid q
    clear q HR
    go_wp2
    all_goals go_ret
    all_goals exact ⟨by rw [← HQ.out]; rfl, HB2.out⟩
  · have h2b : (op == 2) = false := by simp; exact h2
    by_cases h3 : op = 3
    · subst h3
      have q := (combZ_3 y z).symm.trans HR.out
      have HQ := Lib.hid q
      clear q HR
      go_wp2
      all_goals go_ret
      all_goals exact ⟨by rw [← HQ.out]; rfl, HB2.out⟩
    · have h3b : (op == 3) = false := by simp; exact h3
      by_cases h4 : op = 4
      · subst h4
        have q := (combZ_4 y z).symm.trans HR.out
        have HQ := Lib.hid q
        clear q HR
        go_wp2
        all_goals go_ret
        all_goals exact ⟨by rw [← HQ.out]; rfl, HB2.out⟩
      · have h4b : (op == 4) = false := by simp; exact h4
        by_cases h5 : op = 5
        · subst h5
          have q := (combZ_5 y z).symm.trans HR.out
          have HQ := Lib.hid q
          clear q HR
          go_wp2
          all_goals go_ret
          all_goals exact ⟨by rw [← HQ.out]; rfl, HB2.out⟩
        · have h5b : (op == 5) = false := by simp; exact h5
          by_cases h8 : op = 8
          · subst h8
            have q := (combZ_8 y z).symm.trans HR.out
            have HQ := Lib.hid q
            clear q HR
            go_wp2
            all_goals go_ret
            all_goals exact ⟨by rw [← HQ.out]; rfl, HB2.out⟩
          · have h8b : (op == 8) = false := by simp; exact h8
            by_cases h9 : op = 9
            · subst h9
              have q := (combZ_9 y z).symm.trans HR.out
              have HQ := Lib.hid q
              clear q HR
              go_wp2
              all_goals go_ret
              all_goals exact ⟨by rw [← HQ.out]; rfl, HB2.out⟩
            · have h9b : (op == 9) = false := by simp; exact h9
              by_cases h10 : op = 10
              · subst h10
                have q := (combZ_10 y z).symm.trans HR.out
                have HQ := Lib.hid q
                clear q HR
                go_wp2
                all_goals go_ret
                all_goals exact ⟨by rw [← HQ.out]; rfl, HB2.out⟩
              · have h10b : (op == 10) = false := by simp; exact h10
                by_cases h11 : op = 11
                · subst h11
                  have q := (combZ_11 y z).symm.trans HR.out
                  rw [HK.out, Int.toNat_natCast] at q
                  have HQ := Lib.hid q
                  clear q HR
                  go_wp2
                  all_goals go_ret
                  all_goals exact ⟨by rw [← HQ.out]; rfl, HB2.out⟩
                · have h11b : (op == 11) = false := by simp; exact h11
                  by_cases h12 : op = 12
                  · subst h12
                    have q := (combZ_12 y z).symm.trans HR.out
                    rw [HK.out, Int.toNat_natCast] at q
                    have HQ := Lib.hid q
                    clear q HR
                    go_wp2
                    all_goals go_ret
                    all_goals exact ⟨by rw [← HQ.out]; rfl, HB2.out⟩
                  · have h12b : (op == 12) = false := by simp; exact h12
                    by_cases h13 : op = 13
                    · subst h13
                      have q := (combZ_13 y z).symm.trans HR.out
                      rw [HK.out, Int.toNat_natCast] at q
                      have HQ := Lib.hid q
                      clear q HR
                      go_wp2
                      all_goals go_ret
                      all_goals exact ⟨by rw [← HQ.out]; rfl, HB2.out⟩
                    · have h13b : (op == 13) = false := by simp; exact h13
                      by_cases h14 : op = 14
                      · subst h14
                        have q := (combZ_14 y z).symm.trans HR.out
                        rw [HLB.out] at q
                        have HQ := Lib.hid q
                        clear q HR
                        go_wp2_with fail
                        refine (HLS.out _).mono ?_
                        rintro r1 w2 ⟨rfl, rfl⟩
                        go_wp2_with fail
                        refine (HTR.out _ _).mono ?_
                        rintro r2 w3 ⟨rfl, rfl⟩
                        go_wp2
                        all_goals go_ret
                        all_goals refine ⟨?_, HB2.out⟩
                        all_goals rw [← HQ.out]
                        all_goals (split <;> first | rfl | contradiction | (exfalso; simp_all; done))
                      · have h14b : (op == 14) = false := by simp; exact h14
                        have q := (combZ_else (y := y) (z := z) h2 h3 h4 h5 h8 h9 h10 h11 h12 h13 h14).symm.trans HR.out
                        rw [HUB.out] at q
                        have HQ := Lib.hid q
                        clear q HR
                        have hub : decide (y < z) = ub := HUB.out
                        go_wp2_with fail
                        refine (HTR.out _ _).mono ?_
                        rintro r2 w3 ⟨rfl, rfl⟩
                        go_wp2
                        all_goals go_ret
                        all_goals refine ⟨?_, HB2.out⟩
                        all_goals rw [← HQ.out]
                        all_goals (split <;> first | rfl | contradiction | (exfalso; simp_all; done))
end Go.Proofs.YtkhfmgifpppcmaaDoor
namespace Go.Proofs.YtkhfmgifpppcmaaDoor
open Go.RowKit
set_option linter.unusedVariables false
set_option linter.unusedSimpArgs false

theorem part_reg {zs : List Int} {j : Nat} (h : j < zs.length) (w : World) : (part 22 (zs.map (Value.int .u64)).toArray (j * 1)).run Tryd.prog w = .ok (.int .u64 (zs.getD j 0)) w := by
  simp [part, isAgg, run_underlying Tryd.underlying22, List.getD, List.getElem?_eq_getElem h]
theorem items_same (d : Nat) (zs : List Int) (w : World) : ∀ is : List Nat, (∀ j ∈ is, j < zs.length) → (Op.eqItems (d + 1) 22 1 (zs.map (Value.int .u64)).toArray (zs.map (Value.int .u64)).toArray is).run Tryd.prog w = .ok true w
  | [], _ => by simp [Op.eqItems]
  | j :: is, h => by
    have hj := h j (List.mem_cons_self ..)
    have hi := run_equalIn_int (P := Tryd.prog) w d 22 .u64 .u64 (zs.getD j 0) (zs.getD j 0) Tryd.underlying22
    simp only [Op.eqItems, Sem.run_bind, part_reg hj, Result.andThen_ok, hi]
    simp only [beq_self_eq_true, Bool.not_true, Bool.false_eq_true, if_false]
    exact items_same d zs w is (fun k hk => h k (List.mem_cons_of_mem _ hk))
theorem regs_same (d : Nat) {s : St} (h : s.R.length = 32) (w : World) : (Op.equalIn (d + 2) 23 (.agg s.RA) (.agg s.RA)).run Tryd.prog w = .ok true w := by
  have hq : ∃ i, Tryd.prog.info? 22 = some i := by
    have : (Tryd.prog.info? 22).isSome = true := by kernel_rfl
    exact Option.isSome_iff_exists.1 this
  obtain ⟨i, hi⟩ := hq
  rw [run_equalIn_array w (d + 1) s.RA s.RA Tryd.underlying23 hi, show Tryd.prog.cellsOf 22 = 1 from by kernel_rfl]
  unfold St.RA
  exact items_same d s.R w (List.range 32) (fun j hj => by rw [h]; exact List.mem_range.1 hj)
theorem part_regs {s : St} (h : s.R.length = 32) (w : World) : (part 23 s.C 0).run Tryd.prog w = .ok (.agg s.RA) w := by
  have hagg : (isAgg 23).run Tryd.prog w = .ok true w := by
    unfold isAgg
    rw [Sem.run_bind, run_underlying Tryd.underlying23 w]
    rfl
  have hq : ∃ i, Tryd.prog.info? 23 = some i ∧ i.size = 32 := by
    have : (Tryd.prog.info? 23).map (·.size) = some 32 := by kernel_rfl
    cases hi : Tryd.prog.info? 23 with
    | none => rw [hi] at this; cases this
    | some i => rw [hi] at this; exact ⟨i, rfl, by simpa using this⟩
  obtain ⟨i, hi, hs⟩ := hq
  have he : s.C.extract 0 32 = s.RA := by
    unfold St.C St.L St.RA
    apply Array.toList_inj.1
    rw [Array.toList_extract]
    simp [List.take_append_of_le_length, h]
  simp [part, Sem.run_bind, hagg, sizeOf, typeInfo, hi, hs, he]
theorem part_one {s : St} {i : Nat} {v : Int} (h : s.C[i]? = some (.int .u64 v)) (w : World) : (part 22 s.C i).run Tryd.prog w = .ok (.int .u64 v) w := by
  have h2 : s.C.getD i undef = .int .u64 v := by rw [Array.getD_eq_getD_getElem?, h]; rfl
  simp [part, isAgg, run_underlying Tryd.underlying22, h2, h]
theorem run_fields (d : Nat) (C : Array Value) (w : World) (A : Value) (x y : Int) (tr ti : TypeId) (h1 : (part tr C 0).run Tryd.prog w = .ok A w) (h2 : (part ti C 32).run Tryd.prog w = .ok (.int .u64 x) w) (h3 : (part ti C 33).run Tryd.prog w = .ok (.int .u64 y) w)
    (q1 : (Op.equalIn d tr A A).run Tryd.prog w = .ok true w) (q2 : ∀ z : Int, (Op.equalIn d ti (.int .u64 z) (.int .u64 z)).run Tryd.prog w = .ok true w) :
    ∀ fs : List Field, fs.map (fun f => (f.name == "_", f.type, f.offset)) = [(false, tr, 0), (false, ti, 32), (false, ti, 33)] → (Op.eqFields d C C fs).run Tryd.prog w = .ok true w
  | [f1, f2, f3], h => by
    simp only [List.map_cons, List.map_nil, List.cons.injEq, Prod.mk.injEq, and_true] at h
    obtain ⟨⟨n1, t1, o1⟩, ⟨n2, t2, o2⟩, ⟨n3, t3, o3⟩⟩ := h
    have m1 : f1.name ≠ "_" := by intro e; rw [e] at n1; simp at n1
    have m2 : f2.name ≠ "_" := by intro e; rw [e] at n2; simp at n2
    have m3 : f3.name ≠ "_" := by intro e; rw [e] at n3; simp at n3
    simp only [Op.eqFields, if_pos m1, if_pos m2, if_pos m3, t1, t2, t3, o1, o2, o3, Sem.run_bind, h1, h2, h3, q1, q2, Result.andThen_ok, Bool.not_true, Bool.false_eq_true, if_false, Sem.run_pure]
  | [], h => by simp at h
  | [_], h => by simp at h
  | [_, _], h => by simp at h
  | _ :: _ :: _ :: _ :: _, h => by simp at h
theorem st_eqIn {s : St} (h : s.R.length = 32) (w : World) : (Op.equalIn 10000 26 (.agg s.C) (.agg s.C)).run Tryd.prog w = .ok true w := by
  rw [run_equalIn_struct w 9999 26 s.C s.C (by kernel_rfl) (by kernel_rfl)]
  refine run_fields 9999 s.C w (.agg s.RA) s.pc s.tls 23 22 (part_regs h w) (part_one (St.cpc h) w) (part_one (St.ctls h) w) (regs_same 9997 h w) (fun z => ?_) _ (by kernel_rfl)
  rw [run_equalIn_int (P := Tryd.prog) w 9998 22 .u64 .u64 z z Tryd.underlying22, beq_self_eq_true]
theorem st_same {s : St} (h : s.R.length = 32) (w : World) : (binOp .eql 26 (.agg s.C) (.agg s.C)).run Tryd.prog w = .ok (.bool true) w := by
  rw [run_eql_struct, st_eqIn h w]
  rfl
theorem st_differ {s : St} (h : s.R.length = 32) (w : World) : (binOp .neq 26 (.agg s.C) (.agg s.C)).run Tryd.prog w = .ok (.bool false) w := by
  rw [run_neq_struct, st_eqIn h w]
  rfl
end Go.Proofs.YtkhfmgifpppcmaaDoor
namespace Go.Proofs.YtkhfmgifpppcmaaDoor
open Go.RowKit
set_option linter.unusedVariables false
set_option linter.unusedSimpArgs false

theorem built_eq (parts : List (Nat × Value)) : Tryd.prog.built 26 parts = Instr.fill (fun i => (#[(0, 32), (32, 1), (33, 1)] : Array (Nat × Nat))[i]?) St.zero.C parts := by kernel_rfl
theorem fold_set (o : Nat) : ∀ (xs : List Value) (k : Nat) (cs : Array Value), o + k + xs.length ≤ cs.size →
    ((xs.zipIdx k).foldl (fun cs (x : Value × Nat) => cs.setIfInBounds (o + x.2) x.1) cs).size = cs.size ∧ ∀ i, ((xs.zipIdx k).foldl (fun cs (x : Value × Nat) => cs.setIfInBounds (o + x.2) x.1) cs)[i]? = if o + k ≤ i ∧ i < o + k + xs.length then xs[i - (o + k)]? else cs[i]?
  | [], k, cs, h => ⟨rfl, fun i => by rw [if_neg (by simp)]; rfl⟩
  | x :: xs, k, cs, h => by
    rw [List.length_cons] at h
    obtain ⟨h1, h2⟩ := fold_set o xs (k + 1) (cs.setIfInBounds (o + k) x) (by rw [Array.size_setIfInBounds]; omega)
    rw [List.zipIdx_cons, List.foldl_cons]
    refine ⟨by rw [h1, Array.size_setIfInBounds], fun i => ?_⟩
    rw [h2 i, List.length_cons]
    by_cases e : i = o + k
    · rw [if_neg (by omega), if_pos (by omega), e, Nat.sub_self, Array.getElem?_setIfInBounds_self_of_lt (by omega)]
      rfl
    · rw [Array.getElem?_setIfInBounds_ne (Ne.symm e)]
      by_cases h3 : o + (k + 1) ≤ i ∧ i < o + (k + 1) + xs.length
      · rw [if_pos h3, if_pos (by omega), show i - (o + k) = (i - (o + (k + 1))) + 1 by omega, List.getElem?_cons_succ]
      · rw [if_neg h3, if_neg (by omega)]
theorem built_st {s : St} (h : s.R.length = 32) : Tryd.prog.built 26 [(0, .agg s.RA), (1, .int .u64 s.pc), (2, .int .u64 s.tls)] = some s.C := by
  rw [built_eq]
  have hz : St.zero.C.size = 34 := by decide
  have hr := St.RA_size h
  obtain ⟨h1, h2⟩ := fold_set 0 s.RA.toList 0 St.zero.C (by rw [Array.length_toList, hr, hz]; decide)
  obtain ⟨F, hF⟩ : ∃ F, ((s.RA.toList.zipIdx 0).foldl (fun cs (x : Value × Nat) => cs.setIfInBounds (0 + x.2) x.1) St.zero.C) = F := ⟨_, rfl⟩
  rw [hF] at h1 h2
  have hF2 : s.RA.zipIdx.foldl (fun cs (x : Value × Nat) => cs.setIfInBounds x.2 x.1) St.zero.C = F := by
    rw [← hF, ← Array.foldl_toList, Array.toList_zipIdx]
    simp
  have e1 : (Value.agg s.RA).cells = s.RA := rfl
  have e2 : ∀ z : Int, (Value.int .u64 z).cells = #[Value.int .u64 z] := fun _ => rfl
  have hz2 : s.RA.zipIdx.size = 32 := by simp [hr]
  have g : Instr.fill (fun i => (#[(0, 32), (32, 1), (33, 1)] : Array (Nat × Nat))[i]?) St.zero.C [(0, .agg s.RA), (1, .int .u64 s.pc), (2, .int .u64 s.tls)] = some ((F.setIfInBounds 32 (.int .u64 s.pc)).setIfInBounds 33 (.int .u64 s.tls)) := by
    unfold Instr.fill
    simp only [List.getElem?_toArray, List.getElem?_cons_zero, e1, hr, hz]
    have hF3 : Array.foldl (fun (cs : Array Value) (x : Value × Nat) => cs.setIfInBounds (0 + x.snd) x.fst) St.zero.C s.RA.zipIdx = F := by
      simp only [Nat.zero_add]
      exact hF2
    rw [if_neg (by decide), hF3]
    simp [Instr.fill, e2, h1, hz]
  rw [g]
  congr 1
  apply Array.ext_getElem?
  intro i
  have hs := St.lsize h
  by_cases h32 : i < 32
  · rw [Array.getElem?_setIfInBounds_ne (by omega), Array.getElem?_setIfInBounds_ne (by omega), h2 i, if_pos ⟨by omega, by rw [Array.length_toList, hr]; omega⟩, St.creg h h32, Array.getElem?_toList, show i - (0 + 0) = i by omega, St.RA_reg h h32]
  · by_cases e3 : i = 32
    · subst e3
      rw [Array.getElem?_setIfInBounds_ne (by omega), Array.getElem?_setIfInBounds_self_of_lt (by rw [h1, hz]; omega), St.cpc h]
    · by_cases e4 : i = 33
      · subst e4
        rw [Array.getElem?_setIfInBounds_self_of_lt (by rw [Array.size_setIfInBounds, h1, hz]; omega), St.ctls h]
      · rw [Array.getElem?_eq_none (by rw [Array.size_setIfInBounds, Array.size_setIfInBounds, h1, hz]; omega), Array.getElem?_eq_none (by rw [hs]; omega)]
end Go.Proofs.YtkhfmgifpppcmaaDoor
