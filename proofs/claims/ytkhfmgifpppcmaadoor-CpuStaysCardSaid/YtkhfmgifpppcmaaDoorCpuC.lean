/-
  What is proved here: result, compute of package cpu.
  Conditions: as they say.
-/
import Derived.Test.YtkhfmgifpppcmaaDoorCpuV
namespace Go.Proofs.YtkhfmgifpppcmaaDoor
open Go.RowKit
set_option linter.unusedVariables false
set_option linter.unusedSimpArgs false

set_option maxRecDepth 100000 in
theorem frCResult (y : Nat → Value) : frameOf 61 y = #[y 0, y 1, y 2, y 3, y 4, y 5, y 6, y 7, y 8, y 9, y 10, y 11, y 12, y 13, y 14, y 15, y 16, y 17, y 18, y 19, y 20, y 21, y 22, y 23, y 24, y 25, y 26, y 27, y 28, y 29, y 30, y 31, y 32, y 33, y 34, y 35, y 36, y 37, y 38, y 39, y 40, y 41, y 42, y 43, y 44, y 45, y 46, y 47, y 48, y 49, y 50, y 51, y 52, y 53, y 54, y 55, y 56, y 57, y 58, y 59, y 60] := rfl
set_option maxRecDepth 100000 in
theorem frCCompute (y : Nat → Value) : frameOf 29 y = #[y 0, y 1, y 2, y 3, y 4, y 5, y 6, y 7, y 8, y 9, y 10, y 11, y 12, y 13, y 14, y 15, y 16, y 17, y 18, y 19, y 20, y 21, y 22, y 23, y 24, y 25, y 26, y 27, y 28] := rfl
/-- What an operation of the state alone makes, and its error. -/
def resZ (s : St) (op : Int) (a b c : Nat) (m : Int) : Int × Int :=
  if op = 16 then (IntKind.u64.wrap (s.R.getD b 0 + IntKind.u64.wrap m), 0) else
  if op = 17 then (IntKind.u64.wrap m, 0) else
  if op = 18 then (IntKind.u64.wrap (bits .and .u64 (s.R.getD a 0) 4294967295 + IntKind.u64.wrap (IntKind.u64.wrap m * 4294967296)), 0) else
  if op = 38 then (IntKind.u64.wrap (s.pc + IntKind.u64.wrap m), 0) else
  if op = 39 then (IntKind.u64.wrap (s.tls + IntKind.u64.wrap m), 0) else
  if op = 6 then divZ op (s.R.getD b 0) (s.R.getD c 0) else
  if op = 7 then divZ op (s.R.getD b 0) (s.R.getD c 0) else
  (combZ op (s.R.getD b 0) (s.R.getD c 0), 0)
theorem resZ_16 (s : St) (a b c : Nat) (m : Int) : resZ s 16 a b c m = (IntKind.u64.wrap (s.R.getD b 0 + IntKind.u64.wrap m), 0) := rfl
theorem resZ_17 (s : St) (a b c : Nat) (m : Int) : resZ s 17 a b c m = (IntKind.u64.wrap m, 0) := rfl
theorem resZ_18 (s : St) (a b c : Nat) (m : Int) : resZ s 18 a b c m = (IntKind.u64.wrap (bits .and .u64 (s.R.getD a 0) 4294967295 + IntKind.u64.wrap (IntKind.u64.wrap m * 4294967296)), 0) := rfl
theorem resZ_38 (s : St) (a b c : Nat) (m : Int) : resZ s 38 a b c m = (IntKind.u64.wrap (s.pc + IntKind.u64.wrap m), 0) := rfl
theorem resZ_39 (s : St) (a b c : Nat) (m : Int) : resZ s 39 a b c m = (IntKind.u64.wrap (s.tls + IntKind.u64.wrap m), 0) := rfl
theorem resZ_d (s : St) (op : Int) (h : op = 6 ∨ op = 7) (a b c : Nat) (m : Int) : resZ s op a b c m = divZ op (s.R.getD b 0) (s.R.getD c 0) := by
  rcases h with rfl | rfl <;> rfl
theorem resZ_e {s : St} {op : Int} (h16 : ¬ op = 16) (h17 : ¬ op = 17) (h18 : ¬ op = 18) (h38 : ¬ op = 38) (h39 : ¬ op = 39) (h6 : ¬ op = 6) (h7 : ¬ op = 7) {a b c : Nat} {m : Int} : resZ s op a b c m = (combZ op (s.R.getD b 0) (s.R.getD c 0), 0) := by
  unfold resZ
  rw [if_neg h16, if_neg h17, if_neg h18, if_neg h38, if_neg h39, if_neg h6, if_neg h7]
set_option maxHeartbeats 6400000 in
set_option maxRecDepth 100000 in
theorem result_ok (s : St) (hs : s.Ok) (op m : Int) (a b c : Nat) (ha : a < 32) (hb : b < 32) (hc : c < 32) (w : World) :
    Calls Tryd.prog 34 #[.agg s.C, .agg #[.int .i64 op, .int .i64 (a : Int), .int .i64 (b : Int), .int .i64 (c : Int), .int .i32 m]] w fun r w' => r = .returned (.tuple #[.int .u64 (resZ s op a b c m).1, .int .i64 (resZ s op a b c m).2]) ∧ Below w.heap.size w w' := by
  have HL := Lib.hid hs.len
  have HDV := Lib.hid (fun wx => divide_ok s hs op m a b c hb hc wx)
  have HCM := Lib.hid (fun wx => combine_ok s hs op m a b c hb hc wx)
  have hra := St.reg_bd hs a
  unfold St.reg at hra
  rw [Int.toNat_natCast] at hra
  have HNU : Hid (∀ wx, Calls Tryd.prog 25 #[.agg #[.int .i64 op, .int .i64 (a : Int), .int .i64 (b : Int), .int .i64 (c : Int), .int .i32 m]] wx fun r w' => r = .returned (.int .u64 (IntKind.u64.wrap m)) ∧ Below wx.heap.size wx w') := Lib.hid (fun wx => number_i ⟨op, a, b, c, m⟩ wx)
  obtain ⟨w1, hw1⟩ : ∃ w1, (w.alloc (.cells s.C 26)).alloc (.cells #[.int .i64 op, .int .i64 (a : Int), .int .i64 (b : Int), .int .i64 (c : Int), .int .i32 m] 63) = w1 := ⟨_, rfl⟩
  have hz1 : w1.heap.size = w.heap.size + 2 := by rw [← hw1]; simp
  have B0 : Hid (Blk w1 w.heap.size s.C 26) := Lib.hid (by
    rw [← hw1]
    have := Blk.new w s.C 26
    try simp only [World.size_alloc] at this
    exact (this.alloc _))
  have B1 : Hid (Blk w1 (w.heap.size + 1) #[.int .i64 op, .int .i64 (a : Int), .int .i64 (b : Int), .int .i64 (c : Int), .int .i32 m] 63) := Lib.hid (by
    rw [← hw1]
    have := Blk.new (w.alloc (.cells s.C 26)) #[.int .i64 op, .int .i64 (a : Int), .int .i64 (b : Int), .int .i64 (c : Int), .int .i32 m] 63
    try simp only [World.size_alloc] at this
    exact this)
  have HB : Hid (Below w.heap.size w w1) := Lib.hid (by rw [← hw1]; exact (((Below.refl _ _).alloc (by exact Nat.le_refl _) _).alloc (by simp only [World.size_alloc]; omega) _))
  obtain ⟨R, hR⟩ : ∃ R, resZ s op a b c m = R := ⟨_, rfl⟩
  rw [hR]
  have HR := Lib.hid hR
  clear hR hs
  by_cases h16 : op = 16
  · subst h16
    have q := (resZ_16 s a b c m).symm.trans HR.out
    have HQ := Lib.hid q
    clear q HR HDV HCM
    have i0 := B1.out.cell 0
    have i1 := B1.out.cell 1
    have i2 := B1.out.cell 2
    have i3 := B1.out.cell 3
    have i4 := B1.out.cell 4
    go_enter Tryd.func34, Tryd.ntmps34
    go_wp2_with fail
    clear hw1 hz1 i0 i1 i2 i3 i4
    refine wp_region_a (by kernel_rfl) 61 rfl [10, 11, 12, 13, 14, 15, 16, 17, 4, 5] (fun _ _ => True) (factsOf [Is (.pointer (some ⟨(w.heap.size + 1), 2, none⟩)), Is (.int .i64 (b : Int)), Is (.pointer (some ⟨w.heap.size, 0, none⟩)), Is (.pointer (some ⟨w.heap.size, b, none⟩)), Is (.int .u64 (s.R.getD b 0)), Is (.agg #[.int .i64 16, .int .i64 (a : Int), .int .i64 (b : Int), .int .i64 (c : Int), .int .i32 m]), Is (.int .u64 (IntKind.u64.wrap m)), Is (.int .u64 (IntKind.u64.wrap (s.R.getD b 0 + IntKind.u64.wrap m))), Is (.int .u64 (IntKind.u64.wrap (s.R.getD b 0 + IntKind.u64.wrap m))), Is (.int .i64 0)]) (JA [] [] (fun L _ w9 => PR (w.heap.size) w [(w.heap.size, s.C, 26), ((w.heap.size + 1), #[.int .i64 16, .int .i64 (a : Int), .int .i64 (b : Int), .int .i64 (c : Int), .int .i32 m], 63)] [] L w9)) ?mono3 ?hj3 (by kernel_rfl) ?start3 ?steps3 ?fin3
    case mono3 => exact factsOf_monoR (monoR_cons (Is.monoR _ _) (monoR_cons (Is.monoR _ _) (monoR_cons (Is.monoR _ _) (monoR_cons (Is.monoR _ _) (monoR_cons (Is.monoR _ _) (monoR_cons (Is.monoR _ _) (monoR_cons (Is.monoR _ _) (monoR_cons (Is.monoR _ _) (monoR_cons (Is.monoR _ _) (monoR_cons (Is.monoR _ _) (monoR_nil _)))))))))))
    case hj3 => exact JA.congr (by decide)
    case start3 =>
      refine JA.of fun L' y' h1 h2 => ?_
      exact ⟨(Nat.le_refl _), Below.drew (HB.out), (List.forall_mem_cons.2 ⟨Blk.drew (B0.out), (List.forall_mem_cons.2 ⟨Blk.drew (B1.out), (fun _ h => by cases h)⟩)⟩), (fun _ h => by cases h)⟩
    case fin3 =>
      intro y L w9 hJ hall hF hT
      have HP := Lib.hid hJ.out
      have f4 : y 4 = .int .u64 (IntKind.u64.wrap (s.R.getD b 0 + IntKind.u64.wrap m)) := hF 8 (by decide) (by decide)
      have f5 : y 5 = .int .i64 0 := hF 9 (by decide) (by decide)
      clear hJ hF hall
      rw [frCResult]
      simp only [f4, f5, hT 0 (by decide), hT 1 (by decide), hT 2 (by decide), hT 3 (by decide), hT 6 (by decide), hT 7 (by decide), hT 8 (by decide), hT 9 (by decide), hT 18 (by decide), hT 19 (by decide), hT 20 (by decide), hT 21 (by decide), hT 22 (by decide), hT 23 (by decide), hT 24 (by decide), hT 25 (by decide), hT 26 (by decide), hT 27 (by decide), hT 28 (by decide), hT 29 (by decide), hT 30 (by decide), hT 31 (by decide), hT 32 (by decide), hT 33 (by decide), hT 34 (by decide), hT 35 (by decide), hT 36 (by decide), hT 37 (by decide), hT 38 (by decide), hT 39 (by decide), hT 40 (by decide), hT 41 (by decide), hT 42 (by decide), hT 43 (by decide), hT 44 (by decide), hT 45 (by decide), hT 46 (by decide), hT 47 (by decide), hT 48 (by decide), hT 49 (by decide), hT 50 (by decide), hT 51 (by decide), hT 52 (by decide), hT 53 (by decide), hT 54 (by decide), hT 55 (by decide), hT 56 (by decide), hT 57 (by decide), hT 58 (by decide), hT 59 (by decide), hT 60 (by decide), List.getD_cons_succ, List.getD_cons_zero]
      clear hT f4 f5
      have HBF := Lib.hid HP.out.bel
      clear HP
      go_wp2
      go_ret2
      exact ⟨by rw [← HQ.out]; rfl, HBF.out⟩
    case steps3 =>
      refine ⟨?_, ?_, ?_, ?_, ?_, ?_, ?_, ?_, ?_, ?_, trivial⟩
      all_goals intro L y w9 hJ hL hy0 hp0 hcl hun
      all_goals have hy := Lib.hid hy0
      all_goals have hp := Lib.hid hp0
      all_goals have HJ := Lib.hid hJ
      all_goals have HP := Lib.hid hJ.out
      all_goals have hU := Lib.hid hun
      all_goals clear hy0 hp0 hun hJ
      · have e1 : y 3 = .pointer (some ⟨(w.heap.size + 1), 0, none⟩) := hy.out 3 (by decide)
        intro K Q hK
        clear hcl hL
        have v1 := (eval_frame 61 y [] (t := 3) (by decide)).trans e1
        obtain ⟨A, hA⟩ : ∃ A, (⟨frameOf 61 y, []⟩ : Act) = A := ⟨_, rfl⟩
        rw [hA] at v1 hK ⊢
        clear hA hy hp
        simp only [Act.eval] at v1
        go_simp
        exact hK _ _ ⟨trivial, fun _ => rfl, HJ.out.pure (by decide) (by decide)⟩
      · have e1 : y 10 = .pointer (some ⟨(w.heap.size + 1), 2, none⟩) := (hp.out 0 (by decide)).2 (by decide)
        have q2 : w9.cell? ⟨(w.heap.size + 1), 2, none⟩ = some (.int .i64 (b : Int)) := (Blk.cell (HP.out.fx _ (List.mem_iff_getElem?.2 ⟨1, rfl⟩)) 2).trans rfl
        intro K Q hK
        clear hcl hL
        have v1 := (eval_frame 61 y [] (t := 10) (by decide)).trans e1
        obtain ⟨A, hA⟩ : ∃ A, (⟨frameOf 61 y, []⟩ : Act) = A := ⟨_, rfl⟩
        rw [hA] at v1 hK ⊢
        clear hA hy hp
        simp only [Act.eval] at v1
        go_simp
        exact hK _ _ ⟨trivial, fun _ => rfl, HJ.out.pure (by decide) (by decide)⟩
      · have e1 : y 2 = .pointer (some ⟨w.heap.size, 0, none⟩) := hy.out 2 (by decide)
        intro K Q hK
        clear hcl hL
        have v1 := (eval_frame 61 y [] (t := 2) (by decide)).trans e1
        obtain ⟨A, hA⟩ : ∃ A, (⟨frameOf 61 y, []⟩ : Act) = A := ⟨_, rfl⟩
        rw [hA] at v1 hK ⊢
        clear hA hy hp
        simp only [Act.eval] at v1
        go_simp
        exact hK _ _ ⟨trivial, fun _ => rfl, HJ.out.pure (by decide) (by decide)⟩
      · have e1 : y 12 = .pointer (some ⟨w.heap.size, 0, none⟩) := (hp.out 2 (by decide)).2 (by decide)
        have e2 : y 11 = .int .i64 (b : Int) := (hp.out 1 (by decide)).2 (by decide)
        intro K Q hK
        clear hcl hL
        have v1 := (eval_frame 61 y [] (t := 12) (by decide)).trans e1
        have v2 := (eval_frame 61 y [] (t := 11) (by decide)).trans e2
        obtain ⟨A, hA⟩ : ∃ A, (⟨frameOf 61 y, []⟩ : Act) = A := ⟨_, rfl⟩
        rw [hA] at v1 v2 hK ⊢
        clear hA hy hp
        simp only [Act.eval] at v1 v2
        go_simp
        first | exact hK _ _ ⟨trivial, fun _ => rfl, HJ.out.pure (by decide) (by decide)⟩ | (rw [if_pos (by omega)]; exact hK _ _ ⟨trivial, fun _ => rfl, HJ.out.pure (by decide) (by decide)⟩) | (rw [if_pos ⟨by omega, by omega⟩]; exact hK _ _ ⟨trivial, fun _ => rfl, HJ.out.pure (by decide) (by decide)⟩)
      · have e1 : y 13 = .pointer (some ⟨w.heap.size, b, none⟩) := (hp.out 3 (by decide)).2 (by decide)
        have q0 : w9.cell? ⟨w.heap.size, b, none⟩ = some (.int .u64 (s.R.getD b 0)) := (Blk.cell (HP.out.fx _ (List.mem_iff_getElem?.2 ⟨0, rfl⟩)) _).trans (St.creg HL.out (by omega))
        intro K Q hK
        clear hcl hL
        have v1 := (eval_frame 61 y [] (t := 13) (by decide)).trans e1
        obtain ⟨A, hA⟩ : ∃ A, (⟨frameOf 61 y, []⟩ : Act) = A := ⟨_, rfl⟩
        rw [hA] at v1 hK ⊢
        clear hA hy hp
        simp only [Act.eval] at v1
        go_simp
        exact hK _ _ ⟨trivial, fun _ => rfl, HJ.out.pure (by decide) (by decide)⟩
      · have e1 : y 3 = .pointer (some ⟨(w.heap.size + 1), 0, none⟩) := hy.out 3 (by decide)
        have q0 : w9.cell? ⟨(w.heap.size + 1), 0, none⟩ = some (.int .i64 16) := (Blk.cell (HP.out.fx _ (List.mem_iff_getElem?.2 ⟨1, rfl⟩)) 0).trans rfl
        have q1 : w9.cell? ⟨(w.heap.size + 1), 1, none⟩ = some (.int .i64 (a : Int)) := (Blk.cell (HP.out.fx _ (List.mem_iff_getElem?.2 ⟨1, rfl⟩)) 1).trans rfl
        have q2 : w9.cell? ⟨(w.heap.size + 1), 2, none⟩ = some (.int .i64 (b : Int)) := (Blk.cell (HP.out.fx _ (List.mem_iff_getElem?.2 ⟨1, rfl⟩)) 2).trans rfl
        have q3 : w9.cell? ⟨(w.heap.size + 1), 3, none⟩ = some (.int .i64 (c : Int)) := (Blk.cell (HP.out.fx _ (List.mem_iff_getElem?.2 ⟨1, rfl⟩)) 3).trans rfl
        have q4 : w9.cell? ⟨(w.heap.size + 1), 4, none⟩ = some (.int .i32 m) := (Blk.cell (HP.out.fx _ (List.mem_iff_getElem?.2 ⟨1, rfl⟩)) 4).trans rfl
        intro K Q hK
        clear hcl hL
        have v1 := (eval_frame 61 y [] (t := 3) (by decide)).trans e1
        obtain ⟨A, hA⟩ : ∃ A, (⟨frameOf 61 y, []⟩ : Act) = A := ⟨_, rfl⟩
        rw [hA] at v1 hK ⊢
        clear hA hy hp
        simp only [Act.eval] at v1
        go_simp
        exact hK _ _ ⟨trivial, fun _ => rfl, HJ.out.pure (by decide) (by decide)⟩
      · have e1 : y 15 = .agg #[.int .i64 16, .int .i64 (a : Int), .int .i64 (b : Int), .int .i64 (c : Int), .int .i32 m] := (hp.out 5 (by decide)).2 (by decide)
        intro K Q hK
        clear hcl hL
        have v1 := (eval_frame 61 y [] (t := 15) (by decide)).trans e1
        obtain ⟨A, hA⟩ : ∃ A, (⟨frameOf 61 y, []⟩ : Act) = A := ⟨_, rfl⟩
        rw [hA] at v1 hK ⊢
        clear hA hy hp
        simp only [Act.eval] at v1
        go_simp
        refine (HNU.out _).mono ?_
        rintro r w5 ⟨rfl, hb5⟩
        exact hK _ _ ⟨trivial, fun _ => rfl, JA.step fun L' y' h1 h2 h3 h4 => PR.later (S := []) HP.out hb5 rfl (by decide) h1⟩
      · have e1 : y 14 = .int .u64 (s.R.getD b 0) := (hp.out 4 (by decide)).2 (by decide)
        have e2 : y 16 = .int .u64 (IntKind.u64.wrap m) := (hp.out 6 (by decide)).2 (by decide)
        intro K Q hK
        clear hcl hL
        have v1 := (eval_frame 61 y [] (t := 14) (by decide)).trans e1
        have v2 := (eval_frame 61 y [] (t := 16) (by decide)).trans e2
        obtain ⟨A, hA⟩ : ∃ A, (⟨frameOf 61 y, []⟩ : Act) = A := ⟨_, rfl⟩
        rw [hA] at v1 v2 hK ⊢
        clear hA hy hp
        simp only [Act.eval] at v1 v2
        go_simp
        exact hK _ _ ⟨trivial, fun _ => rfl, HJ.out.pure (by decide) (by decide)⟩
      · have e1 : y 17 = .int .u64 (IntKind.u64.wrap (s.R.getD b 0 + IntKind.u64.wrap m)) := (hp.out 7 (by decide)).2 (by decide)
        intro K Q hK
        clear hcl hL
        have v1 := (eval_frame 61 y [] (t := 17) (by decide)).trans e1
        obtain ⟨A, hA⟩ : ∃ A, (⟨frameOf 61 y, []⟩ : Act) = A := ⟨_, rfl⟩
        rw [hA] at v1 hK ⊢
        clear hA hy hp
        simp only [Act.eval] at v1
        go_simp
        exact hK _ _ ⟨trivial, fun _ => rfl, HJ.out.pure (by decide) (by decide)⟩
      · intro K Q hK
        clear hcl hL
        obtain ⟨A, hA⟩ : ∃ A, (⟨frameOf 61 y, []⟩ : Act) = A := ⟨_, rfl⟩
        rw [hA] at hK ⊢
        clear hA hy hp
        go_simp
        exact hK _ _ ⟨trivial, fun _ => rfl, HJ.out.pure (by decide) (by decide)⟩
  · have h16b : (op == 16) = false := by simp; exact h16
    by_cases h17 : op = 17
    · subst h17
      have q := (resZ_17 s a b c m).symm.trans HR.out
      have HQ := Lib.hid q
      clear q HR HDV HCM
      have i0 := B1.out.cell 0
      have i1 := B1.out.cell 1
      have i2 := B1.out.cell 2
      have i3 := B1.out.cell 3
      have i4 := B1.out.cell 4
      go_enter Tryd.func34, Tryd.ntmps34
      go_wp2_with fail
      clear hw1 hz1
      refine (HNU.out _).mono ?_
      rintro r1 w2 ⟨rfl, hb2⟩
      have HB2 : Hid (Below w.heap.size w w2) := Lib.hid (HB.out.trans (hb2.mono HB.out.size))
      clear hb2 i0 i1 i2 i3 i4
      go_wp2
      go_ret2
      exact ⟨by rw [← HQ.out]; rfl, HB2.out⟩
    · have h17b : (op == 17) = false := by simp; exact h17
      by_cases h18 : op = 18
      · subst h18
        have q := (resZ_18 s a b c m).symm.trans HR.out
        have HQ := Lib.hid q
        clear q HR HDV HCM
        have i0 := B1.out.cell 0
        have i1 := B1.out.cell 1
        have i2 := B1.out.cell 2
        have i3 := B1.out.cell 3
        have i4 := B1.out.cell 4
        go_enter Tryd.func34, Tryd.ntmps34
        go_wp2_with fail
        clear hw1 hz1 i0 i1 i2 i3 i4
        refine wp_region_a (by kernel_rfl) 61 rfl [24, 25, 26, 27, 28, 29, 30, 31, 32, 33, 4, 5] (fun _ _ => True) (factsOf [Is (.pointer (some ⟨(w.heap.size + 1), 1, none⟩)), Is (.int .i64 (a : Int)), Is (.pointer (some ⟨w.heap.size, 0, none⟩)), Is (.pointer (some ⟨w.heap.size, a, none⟩)), Is (.int .u64 (s.R.getD a 0)), Is (.int .u64 (bits .and .u64 (s.R.getD a 0) 4294967295)), Is (.agg #[.int .i64 18, .int .i64 (a : Int), .int .i64 (b : Int), .int .i64 (c : Int), .int .i32 m]), Is (.int .u64 (IntKind.u64.wrap m)), Is (.int .u64 (IntKind.u64.wrap (IntKind.u64.wrap m * 4294967296))), Is (.int .u64 (IntKind.u64.wrap (bits .and .u64 (s.R.getD a 0) 4294967295 + IntKind.u64.wrap (IntKind.u64.wrap m * 4294967296)))), Is (.int .u64 (IntKind.u64.wrap (bits .and .u64 (s.R.getD a 0) 4294967295 + IntKind.u64.wrap (IntKind.u64.wrap m * 4294967296)))), Is (.int .i64 0)]) (JA [] [] (fun L _ w9 => PR (w.heap.size) w [(w.heap.size, s.C, 26), ((w.heap.size + 1), #[.int .i64 18, .int .i64 (a : Int), .int .i64 (b : Int), .int .i64 (c : Int), .int .i32 m], 63)] [] L w9)) ?mono7 ?hj7 (by kernel_rfl) ?start7 ?steps7 ?fin7
        case mono7 => exact factsOf_monoR (monoR_cons (Is.monoR _ _) (monoR_cons (Is.monoR _ _) (monoR_cons (Is.monoR _ _) (monoR_cons (Is.monoR _ _) (monoR_cons (Is.monoR _ _) (monoR_cons (Is.monoR _ _) (monoR_cons (Is.monoR _ _) (monoR_cons (Is.monoR _ _) (monoR_cons (Is.monoR _ _) (monoR_cons (Is.monoR _ _) (monoR_cons (Is.monoR _ _) (monoR_cons (Is.monoR _ _) (monoR_nil _)))))))))))))
        case hj7 => exact JA.congr (by decide)
        case start7 =>
          refine JA.of fun L' y' h1 h2 => ?_
          exact ⟨(Nat.le_refl _), Below.drew (HB.out), (List.forall_mem_cons.2 ⟨Blk.drew (B0.out), (List.forall_mem_cons.2 ⟨Blk.drew (B1.out), (fun _ h => by cases h)⟩)⟩), (fun _ h => by cases h)⟩
        case fin7 =>
          intro y L w9 hJ hall hF hT
          have HP := Lib.hid hJ.out
          have f4 : y 4 = .int .u64 (IntKind.u64.wrap (bits .and .u64 (s.R.getD a 0) 4294967295 + IntKind.u64.wrap (IntKind.u64.wrap m * 4294967296))) := hF 10 (by decide) (by decide)
          have f5 : y 5 = .int .i64 0 := hF 11 (by decide) (by decide)
          clear hJ hF hall
          rw [frCResult]
          simp only [f4, f5, hT 0 (by decide), hT 1 (by decide), hT 2 (by decide), hT 3 (by decide), hT 6 (by decide), hT 7 (by decide), hT 8 (by decide), hT 9 (by decide), hT 10 (by decide), hT 11 (by decide), hT 12 (by decide), hT 13 (by decide), hT 14 (by decide), hT 15 (by decide), hT 16 (by decide), hT 17 (by decide), hT 18 (by decide), hT 19 (by decide), hT 20 (by decide), hT 21 (by decide), hT 22 (by decide), hT 23 (by decide), hT 34 (by decide), hT 35 (by decide), hT 36 (by decide), hT 37 (by decide), hT 38 (by decide), hT 39 (by decide), hT 40 (by decide), hT 41 (by decide), hT 42 (by decide), hT 43 (by decide), hT 44 (by decide), hT 45 (by decide), hT 46 (by decide), hT 47 (by decide), hT 48 (by decide), hT 49 (by decide), hT 50 (by decide), hT 51 (by decide), hT 52 (by decide), hT 53 (by decide), hT 54 (by decide), hT 55 (by decide), hT 56 (by decide), hT 57 (by decide), hT 58 (by decide), hT 59 (by decide), hT 60 (by decide), List.getD_cons_succ, List.getD_cons_zero]
          clear hT f4 f5
          have HBF := Lib.hid HP.out.bel
          clear HP
          go_wp2
          go_ret2
          exact ⟨by rw [← HQ.out]; rfl, HBF.out⟩
        case steps7 =>
          refine ⟨?_, ?_, ?_, ?_, ?_, ?_, ?_, ?_, ?_, ?_, ?_, ?_, trivial⟩
          all_goals intro L y w9 hJ hL hy0 hp0 hcl hun
          all_goals have hy := Lib.hid hy0
          all_goals have hp := Lib.hid hp0
          all_goals have HJ := Lib.hid hJ
          all_goals have HP := Lib.hid hJ.out
          all_goals have hU := Lib.hid hun
          all_goals clear hy0 hp0 hun hJ
          · have e1 : y 3 = .pointer (some ⟨(w.heap.size + 1), 0, none⟩) := hy.out 3 (by decide)
            intro K Q hK
            clear hcl hL
            have v1 := (eval_frame 61 y [] (t := 3) (by decide)).trans e1
            obtain ⟨A, hA⟩ : ∃ A, (⟨frameOf 61 y, []⟩ : Act) = A := ⟨_, rfl⟩
            rw [hA] at v1 hK ⊢
            clear hA hy hp
            simp only [Act.eval] at v1
            go_simp
            exact hK _ _ ⟨trivial, fun _ => rfl, HJ.out.pure (by decide) (by decide)⟩
          · have e1 : y 24 = .pointer (some ⟨(w.heap.size + 1), 1, none⟩) := (hp.out 0 (by decide)).2 (by decide)
            have q1 : w9.cell? ⟨(w.heap.size + 1), 1, none⟩ = some (.int .i64 (a : Int)) := (Blk.cell (HP.out.fx _ (List.mem_iff_getElem?.2 ⟨1, rfl⟩)) 1).trans rfl
            intro K Q hK
            clear hcl hL
            have v1 := (eval_frame 61 y [] (t := 24) (by decide)).trans e1
            obtain ⟨A, hA⟩ : ∃ A, (⟨frameOf 61 y, []⟩ : Act) = A := ⟨_, rfl⟩
            rw [hA] at v1 hK ⊢
            clear hA hy hp
            simp only [Act.eval] at v1
            go_simp
            exact hK _ _ ⟨trivial, fun _ => rfl, HJ.out.pure (by decide) (by decide)⟩
          · have e1 : y 2 = .pointer (some ⟨w.heap.size, 0, none⟩) := hy.out 2 (by decide)
            intro K Q hK
            clear hcl hL
            have v1 := (eval_frame 61 y [] (t := 2) (by decide)).trans e1
            obtain ⟨A, hA⟩ : ∃ A, (⟨frameOf 61 y, []⟩ : Act) = A := ⟨_, rfl⟩
            rw [hA] at v1 hK ⊢
            clear hA hy hp
            simp only [Act.eval] at v1
            go_simp
            exact hK _ _ ⟨trivial, fun _ => rfl, HJ.out.pure (by decide) (by decide)⟩
          · have e1 : y 26 = .pointer (some ⟨w.heap.size, 0, none⟩) := (hp.out 2 (by decide)).2 (by decide)
            have e2 : y 25 = .int .i64 (a : Int) := (hp.out 1 (by decide)).2 (by decide)
            intro K Q hK
            clear hcl hL
            have v1 := (eval_frame 61 y [] (t := 26) (by decide)).trans e1
            have v2 := (eval_frame 61 y [] (t := 25) (by decide)).trans e2
            obtain ⟨A, hA⟩ : ∃ A, (⟨frameOf 61 y, []⟩ : Act) = A := ⟨_, rfl⟩
            rw [hA] at v1 v2 hK ⊢
            clear hA hy hp
            simp only [Act.eval] at v1 v2
            go_simp
            first | exact hK _ _ ⟨trivial, fun _ => rfl, HJ.out.pure (by decide) (by decide)⟩ | (rw [if_pos (by omega)]; exact hK _ _ ⟨trivial, fun _ => rfl, HJ.out.pure (by decide) (by decide)⟩) | (rw [if_pos ⟨by omega, by omega⟩]; exact hK _ _ ⟨trivial, fun _ => rfl, HJ.out.pure (by decide) (by decide)⟩)
          · have e1 : y 27 = .pointer (some ⟨w.heap.size, a, none⟩) := (hp.out 3 (by decide)).2 (by decide)
            have q0 : w9.cell? ⟨w.heap.size, a, none⟩ = some (.int .u64 (s.R.getD a 0)) := (Blk.cell (HP.out.fx _ (List.mem_iff_getElem?.2 ⟨0, rfl⟩)) _).trans (St.creg HL.out (by omega))
            intro K Q hK
            clear hcl hL
            have v1 := (eval_frame 61 y [] (t := 27) (by decide)).trans e1
            obtain ⟨A, hA⟩ : ∃ A, (⟨frameOf 61 y, []⟩ : Act) = A := ⟨_, rfl⟩
            rw [hA] at v1 hK ⊢
            clear hA hy hp
            simp only [Act.eval] at v1
            go_simp
            exact hK _ _ ⟨trivial, fun _ => rfl, HJ.out.pure (by decide) (by decide)⟩
          · have e1 : y 28 = .int .u64 (s.R.getD a 0) := (hp.out 4 (by decide)).2 (by decide)
            intro K Q hK
            clear hcl hL
            have v1 := (eval_frame 61 y [] (t := 28) (by decide)).trans e1
            obtain ⟨A, hA⟩ : ∃ A, (⟨frameOf 61 y, []⟩ : Act) = A := ⟨_, rfl⟩
            rw [hA] at v1 hK ⊢
            clear hA hy hp
            simp only [Act.eval] at v1
            go_simp
            exact hK _ _ ⟨trivial, fun _ => rfl, HJ.out.pure (by decide) (by decide)⟩
          · have e1 : y 3 = .pointer (some ⟨(w.heap.size + 1), 0, none⟩) := hy.out 3 (by decide)
            have q0 : w9.cell? ⟨(w.heap.size + 1), 0, none⟩ = some (.int .i64 18) := (Blk.cell (HP.out.fx _ (List.mem_iff_getElem?.2 ⟨1, rfl⟩)) 0).trans rfl
            have q1 : w9.cell? ⟨(w.heap.size + 1), 1, none⟩ = some (.int .i64 (a : Int)) := (Blk.cell (HP.out.fx _ (List.mem_iff_getElem?.2 ⟨1, rfl⟩)) 1).trans rfl
            have q2 : w9.cell? ⟨(w.heap.size + 1), 2, none⟩ = some (.int .i64 (b : Int)) := (Blk.cell (HP.out.fx _ (List.mem_iff_getElem?.2 ⟨1, rfl⟩)) 2).trans rfl
            have q3 : w9.cell? ⟨(w.heap.size + 1), 3, none⟩ = some (.int .i64 (c : Int)) := (Blk.cell (HP.out.fx _ (List.mem_iff_getElem?.2 ⟨1, rfl⟩)) 3).trans rfl
            have q4 : w9.cell? ⟨(w.heap.size + 1), 4, none⟩ = some (.int .i32 m) := (Blk.cell (HP.out.fx _ (List.mem_iff_getElem?.2 ⟨1, rfl⟩)) 4).trans rfl
            intro K Q hK
            clear hcl hL
            have v1 := (eval_frame 61 y [] (t := 3) (by decide)).trans e1
            obtain ⟨A, hA⟩ : ∃ A, (⟨frameOf 61 y, []⟩ : Act) = A := ⟨_, rfl⟩
            rw [hA] at v1 hK ⊢
            clear hA hy hp
            simp only [Act.eval] at v1
            go_simp
            exact hK _ _ ⟨trivial, fun _ => rfl, HJ.out.pure (by decide) (by decide)⟩
          · have e1 : y 30 = .agg #[.int .i64 18, .int .i64 (a : Int), .int .i64 (b : Int), .int .i64 (c : Int), .int .i32 m] := (hp.out 6 (by decide)).2 (by decide)
            intro K Q hK
            clear hcl hL
            have v1 := (eval_frame 61 y [] (t := 30) (by decide)).trans e1
            obtain ⟨A, hA⟩ : ∃ A, (⟨frameOf 61 y, []⟩ : Act) = A := ⟨_, rfl⟩
            rw [hA] at v1 hK ⊢
            clear hA hy hp
            simp only [Act.eval] at v1
            go_simp
            refine (HNU.out _).mono ?_
            rintro r w5 ⟨rfl, hb5⟩
            exact hK _ _ ⟨trivial, fun _ => rfl, JA.step fun L' y' h1 h2 h3 h4 => PR.later (S := []) HP.out hb5 rfl (by decide) h1⟩
          · have e1 : y 31 = .int .u64 (IntKind.u64.wrap m) := (hp.out 7 (by decide)).2 (by decide)
            intro K Q hK
            clear hcl hL
            have v1 := (eval_frame 61 y [] (t := 31) (by decide)).trans e1
            obtain ⟨A, hA⟩ : ∃ A, (⟨frameOf 61 y, []⟩ : Act) = A := ⟨_, rfl⟩
            rw [hA] at v1 hK ⊢
            clear hA hy hp
            simp only [Act.eval] at v1
            go_simp
            exact hK _ _ ⟨trivial, fun _ => rfl, HJ.out.pure (by decide) (by decide)⟩
          · have e1 : y 29 = .int .u64 (bits .and .u64 (s.R.getD a 0) 4294967295) := (hp.out 5 (by decide)).2 (by decide)
            have e2 : y 32 = .int .u64 (IntKind.u64.wrap (IntKind.u64.wrap m * 4294967296)) := (hp.out 8 (by decide)).2 (by decide)
            intro K Q hK
            clear hcl hL
            have v1 := (eval_frame 61 y [] (t := 29) (by decide)).trans e1
            have v2 := (eval_frame 61 y [] (t := 32) (by decide)).trans e2
            obtain ⟨A, hA⟩ : ∃ A, (⟨frameOf 61 y, []⟩ : Act) = A := ⟨_, rfl⟩
            rw [hA] at v1 v2 hK ⊢
            clear hA hy hp
            simp only [Act.eval] at v1 v2
            go_simp
            exact hK _ _ ⟨trivial, fun _ => rfl, HJ.out.pure (by decide) (by decide)⟩
          · have e1 : y 33 = .int .u64 (IntKind.u64.wrap (bits .and .u64 (s.R.getD a 0) 4294967295 + IntKind.u64.wrap (IntKind.u64.wrap m * 4294967296))) := (hp.out 9 (by decide)).2 (by decide)
            intro K Q hK
            clear hcl hL
            have v1 := (eval_frame 61 y [] (t := 33) (by decide)).trans e1
            obtain ⟨A, hA⟩ : ∃ A, (⟨frameOf 61 y, []⟩ : Act) = A := ⟨_, rfl⟩
            rw [hA] at v1 hK ⊢
            clear hA hy hp
            simp only [Act.eval] at v1
            go_simp
            exact hK _ _ ⟨trivial, fun _ => rfl, HJ.out.pure (by decide) (by decide)⟩
          · intro K Q hK
            clear hcl hL
            obtain ⟨A, hA⟩ : ∃ A, (⟨frameOf 61 y, []⟩ : Act) = A := ⟨_, rfl⟩
            rw [hA] at hK ⊢
            clear hA hy hp
            go_simp
            exact hK _ _ ⟨trivial, fun _ => rfl, HJ.out.pure (by decide) (by decide)⟩
      · have h18b : (op == 18) = false := by simp; exact h18
        by_cases h38 : op = 38
        · subst h38
          have q := (resZ_38 s a b c m).symm.trans HR.out
          have HQ := Lib.hid q
          clear q HR HDV HCM
          have i0 := B1.out.cell 0
          have i1 := B1.out.cell 1
          have i2 := B1.out.cell 2
          have i3 := B1.out.cell 3
          have i4 := B1.out.cell 4
          go_enter Tryd.func34, Tryd.ntmps34
          go_wp2_with fail
          clear hw1 hz1 i0 i1 i2 i3 i4
          refine wp_region_a (by kernel_rfl) 61 rfl [36, 37, 38, 39, 40, 4, 5] (fun _ _ => True) (factsOf [Is (.pointer (some ⟨w.heap.size, 32, none⟩)), Is (.int .u64 s.pc), Is (.agg #[.int .i64 38, .int .i64 (a : Int), .int .i64 (b : Int), .int .i64 (c : Int), .int .i32 m]), Is (.int .u64 (IntKind.u64.wrap m)), Is (.int .u64 (IntKind.u64.wrap (s.pc + IntKind.u64.wrap m))), Is (.int .u64 (IntKind.u64.wrap (s.pc + IntKind.u64.wrap m))), Is (.int .i64 0)]) (JA [] [] (fun L _ w9 => PR (w.heap.size) w [(w.heap.size, s.C, 26), ((w.heap.size + 1), #[.int .i64 38, .int .i64 (a : Int), .int .i64 (b : Int), .int .i64 (c : Int), .int .i32 m], 63)] [] L w9)) ?mono9 ?hj9 (by kernel_rfl) ?start9 ?steps9 ?fin9
          case mono9 => exact factsOf_monoR (monoR_cons (Is.monoR _ _) (monoR_cons (Is.monoR _ _) (monoR_cons (Is.monoR _ _) (monoR_cons (Is.monoR _ _) (monoR_cons (Is.monoR _ _) (monoR_cons (Is.monoR _ _) (monoR_cons (Is.monoR _ _) (monoR_nil _))))))))
          case hj9 => exact JA.congr (by decide)
          case start9 =>
            refine JA.of fun L' y' h1 h2 => ?_
            exact ⟨(Nat.le_refl _), Below.drew (HB.out), (List.forall_mem_cons.2 ⟨Blk.drew (B0.out), (List.forall_mem_cons.2 ⟨Blk.drew (B1.out), (fun _ h => by cases h)⟩)⟩), (fun _ h => by cases h)⟩
          case fin9 =>
            intro y L w9 hJ hall hF hT
            have HP := Lib.hid hJ.out
            have f4 : y 4 = .int .u64 (IntKind.u64.wrap (s.pc + IntKind.u64.wrap m)) := hF 5 (by decide) (by decide)
            have f5 : y 5 = .int .i64 0 := hF 6 (by decide) (by decide)
            clear hJ hF hall
            rw [frCResult]
            simp only [f4, f5, hT 0 (by decide), hT 1 (by decide), hT 2 (by decide), hT 3 (by decide), hT 6 (by decide), hT 7 (by decide), hT 8 (by decide), hT 9 (by decide), hT 10 (by decide), hT 11 (by decide), hT 12 (by decide), hT 13 (by decide), hT 14 (by decide), hT 15 (by decide), hT 16 (by decide), hT 17 (by decide), hT 18 (by decide), hT 19 (by decide), hT 20 (by decide), hT 21 (by decide), hT 22 (by decide), hT 23 (by decide), hT 24 (by decide), hT 25 (by decide), hT 26 (by decide), hT 27 (by decide), hT 28 (by decide), hT 29 (by decide), hT 30 (by decide), hT 31 (by decide), hT 32 (by decide), hT 33 (by decide), hT 34 (by decide), hT 35 (by decide), hT 41 (by decide), hT 42 (by decide), hT 43 (by decide), hT 44 (by decide), hT 45 (by decide), hT 46 (by decide), hT 47 (by decide), hT 48 (by decide), hT 49 (by decide), hT 50 (by decide), hT 51 (by decide), hT 52 (by decide), hT 53 (by decide), hT 54 (by decide), hT 55 (by decide), hT 56 (by decide), hT 57 (by decide), hT 58 (by decide), hT 59 (by decide), hT 60 (by decide), List.getD_cons_succ, List.getD_cons_zero]
            clear hT f4 f5
            have HBF := Lib.hid HP.out.bel
            clear HP
            go_wp2
            go_ret2
            exact ⟨by rw [← HQ.out]; rfl, HBF.out⟩
          case steps9 =>
            refine ⟨?_, ?_, ?_, ?_, ?_, ?_, ?_, trivial⟩
            all_goals intro L y w9 hJ hL hy0 hp0 hcl hun
            all_goals have hy := Lib.hid hy0
            all_goals have hp := Lib.hid hp0
            all_goals have HJ := Lib.hid hJ
            all_goals have HP := Lib.hid hJ.out
            all_goals have hU := Lib.hid hun
            all_goals clear hy0 hp0 hun hJ
            · have e1 : y 2 = .pointer (some ⟨w.heap.size, 0, none⟩) := hy.out 2 (by decide)
              intro K Q hK
              clear hcl hL
              have v1 := (eval_frame 61 y [] (t := 2) (by decide)).trans e1
              obtain ⟨A, hA⟩ : ∃ A, (⟨frameOf 61 y, []⟩ : Act) = A := ⟨_, rfl⟩
              rw [hA] at v1 hK ⊢
              clear hA hy hp
              simp only [Act.eval] at v1
              go_simp
              exact hK _ _ ⟨trivial, fun _ => rfl, HJ.out.pure (by decide) (by decide)⟩
            · have e1 : y 36 = .pointer (some ⟨w.heap.size, 32, none⟩) := (hp.out 0 (by decide)).2 (by decide)
              have q0 : w9.cell? ⟨w.heap.size, 32, none⟩ = some (.int .u64 s.pc) := (Blk.cell (HP.out.fx _ (List.mem_iff_getElem?.2 ⟨0, rfl⟩)) _).trans (St.cpc HL.out)
              intro K Q hK
              clear hcl hL
              have v1 := (eval_frame 61 y [] (t := 36) (by decide)).trans e1
              obtain ⟨A, hA⟩ : ∃ A, (⟨frameOf 61 y, []⟩ : Act) = A := ⟨_, rfl⟩
              rw [hA] at v1 hK ⊢
              clear hA hy hp
              simp only [Act.eval] at v1
              go_simp
              exact hK _ _ ⟨trivial, fun _ => rfl, HJ.out.pure (by decide) (by decide)⟩
            · have e1 : y 3 = .pointer (some ⟨(w.heap.size + 1), 0, none⟩) := hy.out 3 (by decide)
              have q0 : w9.cell? ⟨(w.heap.size + 1), 0, none⟩ = some (.int .i64 38) := (Blk.cell (HP.out.fx _ (List.mem_iff_getElem?.2 ⟨1, rfl⟩)) 0).trans rfl
              have q1 : w9.cell? ⟨(w.heap.size + 1), 1, none⟩ = some (.int .i64 (a : Int)) := (Blk.cell (HP.out.fx _ (List.mem_iff_getElem?.2 ⟨1, rfl⟩)) 1).trans rfl
              have q2 : w9.cell? ⟨(w.heap.size + 1), 2, none⟩ = some (.int .i64 (b : Int)) := (Blk.cell (HP.out.fx _ (List.mem_iff_getElem?.2 ⟨1, rfl⟩)) 2).trans rfl
              have q3 : w9.cell? ⟨(w.heap.size + 1), 3, none⟩ = some (.int .i64 (c : Int)) := (Blk.cell (HP.out.fx _ (List.mem_iff_getElem?.2 ⟨1, rfl⟩)) 3).trans rfl
              have q4 : w9.cell? ⟨(w.heap.size + 1), 4, none⟩ = some (.int .i32 m) := (Blk.cell (HP.out.fx _ (List.mem_iff_getElem?.2 ⟨1, rfl⟩)) 4).trans rfl
              intro K Q hK
              clear hcl hL
              have v1 := (eval_frame 61 y [] (t := 3) (by decide)).trans e1
              obtain ⟨A, hA⟩ : ∃ A, (⟨frameOf 61 y, []⟩ : Act) = A := ⟨_, rfl⟩
              rw [hA] at v1 hK ⊢
              clear hA hy hp
              simp only [Act.eval] at v1
              go_simp
              exact hK _ _ ⟨trivial, fun _ => rfl, HJ.out.pure (by decide) (by decide)⟩
            · have e1 : y 38 = .agg #[.int .i64 38, .int .i64 (a : Int), .int .i64 (b : Int), .int .i64 (c : Int), .int .i32 m] := (hp.out 2 (by decide)).2 (by decide)
              intro K Q hK
              clear hcl hL
              have v1 := (eval_frame 61 y [] (t := 38) (by decide)).trans e1
              obtain ⟨A, hA⟩ : ∃ A, (⟨frameOf 61 y, []⟩ : Act) = A := ⟨_, rfl⟩
              rw [hA] at v1 hK ⊢
              clear hA hy hp
              simp only [Act.eval] at v1
              go_simp
              refine (HNU.out _).mono ?_
              rintro r w5 ⟨rfl, hb5⟩
              exact hK _ _ ⟨trivial, fun _ => rfl, JA.step fun L' y' h1 h2 h3 h4 => PR.later (S := []) HP.out hb5 rfl (by decide) h1⟩
            · have e1 : y 37 = .int .u64 s.pc := (hp.out 1 (by decide)).2 (by decide)
              have e2 : y 39 = .int .u64 (IntKind.u64.wrap m) := (hp.out 3 (by decide)).2 (by decide)
              intro K Q hK
              clear hcl hL
              have v1 := (eval_frame 61 y [] (t := 37) (by decide)).trans e1
              have v2 := (eval_frame 61 y [] (t := 39) (by decide)).trans e2
              obtain ⟨A, hA⟩ : ∃ A, (⟨frameOf 61 y, []⟩ : Act) = A := ⟨_, rfl⟩
              rw [hA] at v1 v2 hK ⊢
              clear hA hy hp
              simp only [Act.eval] at v1 v2
              go_simp
              exact hK _ _ ⟨trivial, fun _ => rfl, HJ.out.pure (by decide) (by decide)⟩
            · have e1 : y 40 = .int .u64 (IntKind.u64.wrap (s.pc + IntKind.u64.wrap m)) := (hp.out 4 (by decide)).2 (by decide)
              intro K Q hK
              clear hcl hL
              have v1 := (eval_frame 61 y [] (t := 40) (by decide)).trans e1
              obtain ⟨A, hA⟩ : ∃ A, (⟨frameOf 61 y, []⟩ : Act) = A := ⟨_, rfl⟩
              rw [hA] at v1 hK ⊢
              clear hA hy hp
              simp only [Act.eval] at v1
              go_simp
              exact hK _ _ ⟨trivial, fun _ => rfl, HJ.out.pure (by decide) (by decide)⟩
            · intro K Q hK
              clear hcl hL
              obtain ⟨A, hA⟩ : ∃ A, (⟨frameOf 61 y, []⟩ : Act) = A := ⟨_, rfl⟩
              rw [hA] at hK ⊢
              clear hA hy hp
              go_simp
              exact hK _ _ ⟨trivial, fun _ => rfl, HJ.out.pure (by decide) (by decide)⟩
        · have h38b : (op == 38) = false := by simp; exact h38
          by_cases h39 : op = 39
          · subst h39
            have q := (resZ_39 s a b c m).symm.trans HR.out
            have HQ := Lib.hid q
            clear q HR HDV HCM
            have i0 := B1.out.cell 0
            have i1 := B1.out.cell 1
            have i2 := B1.out.cell 2
            have i3 := B1.out.cell 3
            have i4 := B1.out.cell 4
            go_enter Tryd.func34, Tryd.ntmps34
            go_wp2_with fail
            clear hw1 hz1 i0 i1 i2 i3 i4
            refine wp_region_a (by kernel_rfl) 61 rfl [43, 44, 45, 46, 47, 4, 5] (fun _ _ => True) (factsOf [Is (.pointer (some ⟨w.heap.size, 33, none⟩)), Is (.int .u64 s.tls), Is (.agg #[.int .i64 39, .int .i64 (a : Int), .int .i64 (b : Int), .int .i64 (c : Int), .int .i32 m]), Is (.int .u64 (IntKind.u64.wrap m)), Is (.int .u64 (IntKind.u64.wrap (s.tls + IntKind.u64.wrap m))), Is (.int .u64 (IntKind.u64.wrap (s.tls + IntKind.u64.wrap m))), Is (.int .i64 0)]) (JA [] [] (fun L _ w9 => PR (w.heap.size) w [(w.heap.size, s.C, 26), ((w.heap.size + 1), #[.int .i64 39, .int .i64 (a : Int), .int .i64 (b : Int), .int .i64 (c : Int), .int .i32 m], 63)] [] L w9)) ?mono11 ?hj11 (by kernel_rfl) ?start11 ?steps11 ?fin11
            case mono11 => exact factsOf_monoR (monoR_cons (Is.monoR _ _) (monoR_cons (Is.monoR _ _) (monoR_cons (Is.monoR _ _) (monoR_cons (Is.monoR _ _) (monoR_cons (Is.monoR _ _) (monoR_cons (Is.monoR _ _) (monoR_cons (Is.monoR _ _) (monoR_nil _))))))))
            case hj11 => exact JA.congr (by decide)
            case start11 =>
              refine JA.of fun L' y' h1 h2 => ?_
              exact ⟨(Nat.le_refl _), Below.drew (HB.out), (List.forall_mem_cons.2 ⟨Blk.drew (B0.out), (List.forall_mem_cons.2 ⟨Blk.drew (B1.out), (fun _ h => by cases h)⟩)⟩), (fun _ h => by cases h)⟩
            case fin11 =>
              intro y L w9 hJ hall hF hT
              have HP := Lib.hid hJ.out
              have f4 : y 4 = .int .u64 (IntKind.u64.wrap (s.tls + IntKind.u64.wrap m)) := hF 5 (by decide) (by decide)
              have f5 : y 5 = .int .i64 0 := hF 6 (by decide) (by decide)
              clear hJ hF hall
              rw [frCResult]
              simp only [f4, f5, hT 0 (by decide), hT 1 (by decide), hT 2 (by decide), hT 3 (by decide), hT 6 (by decide), hT 7 (by decide), hT 8 (by decide), hT 9 (by decide), hT 10 (by decide), hT 11 (by decide), hT 12 (by decide), hT 13 (by decide), hT 14 (by decide), hT 15 (by decide), hT 16 (by decide), hT 17 (by decide), hT 18 (by decide), hT 19 (by decide), hT 20 (by decide), hT 21 (by decide), hT 22 (by decide), hT 23 (by decide), hT 24 (by decide), hT 25 (by decide), hT 26 (by decide), hT 27 (by decide), hT 28 (by decide), hT 29 (by decide), hT 30 (by decide), hT 31 (by decide), hT 32 (by decide), hT 33 (by decide), hT 34 (by decide), hT 35 (by decide), hT 36 (by decide), hT 37 (by decide), hT 38 (by decide), hT 39 (by decide), hT 40 (by decide), hT 41 (by decide), hT 42 (by decide), hT 48 (by decide), hT 49 (by decide), hT 50 (by decide), hT 51 (by decide), hT 52 (by decide), hT 53 (by decide), hT 54 (by decide), hT 55 (by decide), hT 56 (by decide), hT 57 (by decide), hT 58 (by decide), hT 59 (by decide), hT 60 (by decide), List.getD_cons_succ, List.getD_cons_zero]
              clear hT f4 f5
              have HBF := Lib.hid HP.out.bel
              clear HP
              go_wp2
              go_ret2
              exact ⟨by rw [← HQ.out]; rfl, HBF.out⟩
            case steps11 =>
              refine ⟨?_, ?_, ?_, ?_, ?_, ?_, ?_, trivial⟩
              all_goals intro L y w9 hJ hL hy0 hp0 hcl hun
              all_goals have hy := Lib.hid hy0
              all_goals have hp := Lib.hid hp0
              all_goals have HJ := Lib.hid hJ
              all_goals have HP := Lib.hid hJ.out
              all_goals have hU := Lib.hid hun
              all_goals clear hy0 hp0 hun hJ
              · have e1 : y 2 = .pointer (some ⟨w.heap.size, 0, none⟩) := hy.out 2 (by decide)
                intro K Q hK
                clear hcl hL
                have v1 := (eval_frame 61 y [] (t := 2) (by decide)).trans e1
                obtain ⟨A, hA⟩ : ∃ A, (⟨frameOf 61 y, []⟩ : Act) = A := ⟨_, rfl⟩
                rw [hA] at v1 hK ⊢
                clear hA hy hp
                simp only [Act.eval] at v1
                go_simp
                exact hK _ _ ⟨trivial, fun _ => rfl, HJ.out.pure (by decide) (by decide)⟩
              · have e1 : y 43 = .pointer (some ⟨w.heap.size, 33, none⟩) := (hp.out 0 (by decide)).2 (by decide)
                have q0 : w9.cell? ⟨w.heap.size, 33, none⟩ = some (.int .u64 s.tls) := (Blk.cell (HP.out.fx _ (List.mem_iff_getElem?.2 ⟨0, rfl⟩)) _).trans (St.ctls HL.out)
                intro K Q hK
                clear hcl hL
                have v1 := (eval_frame 61 y [] (t := 43) (by decide)).trans e1
                obtain ⟨A, hA⟩ : ∃ A, (⟨frameOf 61 y, []⟩ : Act) = A := ⟨_, rfl⟩
                rw [hA] at v1 hK ⊢
                clear hA hy hp
                simp only [Act.eval] at v1
                go_simp
                exact hK _ _ ⟨trivial, fun _ => rfl, HJ.out.pure (by decide) (by decide)⟩
              · have e1 : y 3 = .pointer (some ⟨(w.heap.size + 1), 0, none⟩) := hy.out 3 (by decide)
                have q0 : w9.cell? ⟨(w.heap.size + 1), 0, none⟩ = some (.int .i64 39) := (Blk.cell (HP.out.fx _ (List.mem_iff_getElem?.2 ⟨1, rfl⟩)) 0).trans rfl
                have q1 : w9.cell? ⟨(w.heap.size + 1), 1, none⟩ = some (.int .i64 (a : Int)) := (Blk.cell (HP.out.fx _ (List.mem_iff_getElem?.2 ⟨1, rfl⟩)) 1).trans rfl
                have q2 : w9.cell? ⟨(w.heap.size + 1), 2, none⟩ = some (.int .i64 (b : Int)) := (Blk.cell (HP.out.fx _ (List.mem_iff_getElem?.2 ⟨1, rfl⟩)) 2).trans rfl
                have q3 : w9.cell? ⟨(w.heap.size + 1), 3, none⟩ = some (.int .i64 (c : Int)) := (Blk.cell (HP.out.fx _ (List.mem_iff_getElem?.2 ⟨1, rfl⟩)) 3).trans rfl
                have q4 : w9.cell? ⟨(w.heap.size + 1), 4, none⟩ = some (.int .i32 m) := (Blk.cell (HP.out.fx _ (List.mem_iff_getElem?.2 ⟨1, rfl⟩)) 4).trans rfl
                intro K Q hK
                clear hcl hL
                have v1 := (eval_frame 61 y [] (t := 3) (by decide)).trans e1
                obtain ⟨A, hA⟩ : ∃ A, (⟨frameOf 61 y, []⟩ : Act) = A := ⟨_, rfl⟩
                rw [hA] at v1 hK ⊢
                clear hA hy hp
                simp only [Act.eval] at v1
                go_simp
                exact hK _ _ ⟨trivial, fun _ => rfl, HJ.out.pure (by decide) (by decide)⟩
              · have e1 : y 45 = .agg #[.int .i64 39, .int .i64 (a : Int), .int .i64 (b : Int), .int .i64 (c : Int), .int .i32 m] := (hp.out 2 (by decide)).2 (by decide)
                intro K Q hK
                clear hcl hL
                have v1 := (eval_frame 61 y [] (t := 45) (by decide)).trans e1
                obtain ⟨A, hA⟩ : ∃ A, (⟨frameOf 61 y, []⟩ : Act) = A := ⟨_, rfl⟩
                rw [hA] at v1 hK ⊢
                clear hA hy hp
                simp only [Act.eval] at v1
                go_simp
                refine (HNU.out _).mono ?_
                rintro r w5 ⟨rfl, hb5⟩
                exact hK _ _ ⟨trivial, fun _ => rfl, JA.step fun L' y' h1 h2 h3 h4 => PR.later (S := []) HP.out hb5 rfl (by decide) h1⟩
              · have e1 : y 44 = .int .u64 s.tls := (hp.out 1 (by decide)).2 (by decide)
                have e2 : y 46 = .int .u64 (IntKind.u64.wrap m) := (hp.out 3 (by decide)).2 (by decide)
                intro K Q hK
                clear hcl hL
                have v1 := (eval_frame 61 y [] (t := 44) (by decide)).trans e1
                have v2 := (eval_frame 61 y [] (t := 46) (by decide)).trans e2
                obtain ⟨A, hA⟩ : ∃ A, (⟨frameOf 61 y, []⟩ : Act) = A := ⟨_, rfl⟩
                rw [hA] at v1 v2 hK ⊢
                clear hA hy hp
                simp only [Act.eval] at v1 v2
                go_simp
                exact hK _ _ ⟨trivial, fun _ => rfl, HJ.out.pure (by decide) (by decide)⟩
              · have e1 : y 47 = .int .u64 (IntKind.u64.wrap (s.tls + IntKind.u64.wrap m)) := (hp.out 4 (by decide)).2 (by decide)
                intro K Q hK
                clear hcl hL
                have v1 := (eval_frame 61 y [] (t := 47) (by decide)).trans e1
                obtain ⟨A, hA⟩ : ∃ A, (⟨frameOf 61 y, []⟩ : Act) = A := ⟨_, rfl⟩
                rw [hA] at v1 hK ⊢
                clear hA hy hp
                simp only [Act.eval] at v1
                go_simp
                exact hK _ _ ⟨trivial, fun _ => rfl, HJ.out.pure (by decide) (by decide)⟩
              · intro K Q hK
                clear hcl hL
                obtain ⟨A, hA⟩ : ∃ A, (⟨frameOf 61 y, []⟩ : Act) = A := ⟨_, rfl⟩
                rw [hA] at hK ⊢
                clear hA hy hp
                go_simp
                exact hK _ _ ⟨trivial, fun _ => rfl, HJ.out.pure (by decide) (by decide)⟩
          · have h39b : (op == 39) = false := by simp; exact h39
            by_cases h6 : op = 6
            · subst h6
              have q := (resZ_d s 6 (by decide) a b c m).symm.trans HR.out
              have HQ := Lib.hid q
              clear q HR HCM
              have i0 := B1.out.cell 0
              have i1 := B1.out.cell 1
              have i2 := B1.out.cell 2
              have i3 := B1.out.cell 3
              have i4 := B1.out.cell 4
              go_enter Tryd.func34, Tryd.ntmps34
              go_wp2_with (first | (refine wpList_load_regs rfl _ rfl (w.heap.size) rfl _ HL.out B0.out ?_) | fail)
              clear hw1 hz1
              refine (HDV.out _).mono ?_
              rintro r1 w2 ⟨rfl, hb2⟩
              have HB2 : Hid (Below w.heap.size w w2) := Lib.hid (HB.out.trans (hb2.mono HB.out.size))
              clear hb2 i0 i1 i2 i3 i4
              go_wp2
              go_ret2
              exact ⟨by rw [← HQ.out]; rfl, HB2.out⟩
            · have h6b : (op == 6) = false := by simp; exact h6
              by_cases h7 : op = 7
              · subst h7
                have q := (resZ_d s 7 (by decide) a b c m).symm.trans HR.out
                have HQ := Lib.hid q
                clear q HR HCM
                have i0 := B1.out.cell 0
                have i1 := B1.out.cell 1
                have i2 := B1.out.cell 2
                have i3 := B1.out.cell 3
                have i4 := B1.out.cell 4
                go_enter Tryd.func34, Tryd.ntmps34
                go_wp2_with (first | (refine wpList_load_regs rfl _ rfl (w.heap.size) rfl _ HL.out B0.out ?_) | fail)
                clear hw1 hz1
                refine (HDV.out _).mono ?_
                rintro r1 w2 ⟨rfl, hb2⟩
                have HB2 : Hid (Below w.heap.size w w2) := Lib.hid (HB.out.trans (hb2.mono HB.out.size))
                clear hb2 i0 i1 i2 i3 i4
                go_wp2
                go_ret2
                exact ⟨by rw [← HQ.out]; rfl, HB2.out⟩
              · have h7b : (op == 7) = false := by simp; exact h7
                have q := (resZ_e (s := s) (a := a) (b := b) (c := c) (m := m) h16 h17 h18 h38 h39 h6 h7).symm.trans HR.out
                have HQ := Lib.hid q
                clear q HR HDV
                have i0 := B1.out.cell 0
                have i1 := B1.out.cell 1
                have i2 := B1.out.cell 2
                have i3 := B1.out.cell 3
                have i4 := B1.out.cell 4
                go_enter Tryd.func34, Tryd.ntmps34
                go_wp2_with (first | (refine wpList_load_regs rfl _ rfl (w.heap.size) rfl _ HL.out B0.out ?_) | fail)
                clear hw1 hz1
                refine (HCM.out _).mono ?_
                rintro r1 w2 ⟨rfl, hb2⟩
                have HB2 : Hid (Below w.heap.size w w2) := Lib.hid (HB.out.trans (hb2.mono HB.out.size))
                clear hb2 i0 i1 i2 i3 i4
                go_wp2
                go_ret2
                exact ⟨by rw [← HQ.out]; rfl, HB2.out⟩
set_option maxHeartbeats 6400000 in
set_option maxRecDepth 100000 in
theorem compute_ok (s : St) (hs : s.Ok) (op m : Int) (a b c : Nat) (ha : a < 32) (hb : b < 32) (hc : c < 32) (w : World) :
    Calls Tryd.prog 26 #[.agg s.C, .agg #[.int .i64 op, .int .i64 (a : Int), .int .i64 (b : Int), .int .i64 (c : Int), .int .i32 m]] w fun r w' => r = .returned (.tuple #[.agg (if (resZ s op a b c m).2 = 0 then ((s.setR a (resZ s op a b c m).1).setP (IntKind.u64.wrap (s.pc + 8))).C else s.C), .agg (if (resZ s op a b c m).2 = 0 then outC 0 0 0 else outC 3 (resZ s op a b c m).2 s.pc)]) ∧ Below w.heap.size w w' := by
  have HL := Lib.hid hs.len
  have HRS := Lib.hid (fun wx => result_ok s hs op m a b c ha hb hc wx)
  obtain ⟨x, hx⟩ : ∃ x, (resZ s op a b c m).1 = x := ⟨_, rfl⟩
  obtain ⟨e, he⟩ : ∃ e, (resZ s op a b c m).2 = e := ⟨_, rfl⟩
  simp only [hx, he] at HRS ⊢
  obtain ⟨C1, hC1⟩ : ∃ C1, (if e = 0 then ((s.setR a x).setP (IntKind.u64.wrap (s.pc + 8))).C else s.C) = C1 := ⟨_, rfl⟩
  obtain ⟨C2, hC2⟩ : ∃ C2, (if e = 0 then outC 0 0 0 else outC 3 e s.pc) = C2 := ⟨_, rfl⟩
  have HC1 := Lib.hid hC1
  have HC2 := Lib.hid hC2
  rw [hC1, hC2]
  clear hC1 hC2
  obtain ⟨w1, hw1⟩ : ∃ w1, (((w.alloc (.cells s.C 26)).alloc (.cells #[.int .i64 op, .int .i64 (a : Int), .int .i64 (b : Int), .int .i64 (c : Int), .int .i32 m] 63)).alloc (.cells St.zero.C 26)).alloc (.cells #[.int .i64 0, .int .i64 0, .int .u64 0] 36) = w1 := ⟨_, rfl⟩
  have hz1 : w1.heap.size = w.heap.size + 4 := by rw [← hw1]; simp
  have B0 : Hid (Blk w1 w.heap.size s.C 26) := Lib.hid (by
    rw [← hw1]
    have := Blk.new w s.C 26
    try simp only [World.size_alloc] at this
    exact (((this.alloc _).alloc _).alloc _))
  have B1 : Hid (Blk w1 (w.heap.size + 1) #[.int .i64 op, .int .i64 (a : Int), .int .i64 (b : Int), .int .i64 (c : Int), .int .i32 m] 63) := Lib.hid (by
    rw [← hw1]
    have := Blk.new (w.alloc (.cells s.C 26)) #[.int .i64 op, .int .i64 (a : Int), .int .i64 (b : Int), .int .i64 (c : Int), .int .i32 m] 63
    try simp only [World.size_alloc] at this
    exact ((this.alloc _).alloc _))
  have B2 : Hid (Blk w1 (w.heap.size + 2) St.zero.C 26) := Lib.hid (by
    rw [← hw1]
    have := Blk.new ((w.alloc (.cells s.C 26)).alloc (.cells #[.int .i64 op, .int .i64 (a : Int), .int .i64 (b : Int), .int .i64 (c : Int), .int .i32 m] 63)) St.zero.C 26
    try simp only [World.size_alloc] at this
    exact (this.alloc _))
  have B3 : Hid (Blk w1 (w.heap.size + 3) #[.int .i64 0, .int .i64 0, .int .u64 0] 36) := Lib.hid (by
    rw [← hw1]
    have := Blk.new (((w.alloc (.cells s.C 26)).alloc (.cells #[.int .i64 op, .int .i64 (a : Int), .int .i64 (b : Int), .int .i64 (c : Int), .int .i32 m] 63)).alloc (.cells St.zero.C 26)) #[.int .i64 0, .int .i64 0, .int .u64 0] 36
    try simp only [World.size_alloc] at this
    exact this)
  have HB : Hid (Below w.heap.size w w1) := Lib.hid (by rw [← hw1]; exact (((((Below.refl _ _).alloc (by exact Nat.le_refl _) _).alloc (by simp only [World.size_alloc]; omega) _).alloc (by simp only [World.size_alloc]; omega) _).alloc (by simp only [World.size_alloc]; omega) _))
  have i0 := B1.out.cell 0
  have i1 := B1.out.cell 1
  have i2 := B1.out.cell 2
  have i3 := B1.out.cell 3
  have i4 := B1.out.cell 4
  clear hs hx he
  go_enter Tryd.func26, Tryd.ntmps26
  go_wp2_with (first | (refine wpList_alloc_eq rfl 26 rfl St.zero.C zs_info ?_) | (refine wpList_load_row rfl 26 _ rfl (w.heap.size) rfl _ (s.C) (0, 0) _ B0.out Tryd.underlying26 rfl (st_size HL.out) ?_) | fail)
  clear hw1 hz1 i0 i1 i2 i3 i4
  refine (HRS.out _).mono ?_
  rintro r5 w5 ⟨rfl, hb5⟩
  have HB5 : Hid (Below w.heap.size w w5) := Lib.hid (HB.out.trans (hb5.mono HB.out.size))
  have E0 := Lib.hid (B0.out.later hb5)
  have E1 := Lib.hid (B1.out.later hb5)
  have E2 := Lib.hid (B2.out.later hb5)
  have E3 := Lib.hid (B3.out.later hb5)
  clear hb5 B0 B1 B2 B3 HB HRS
  by_cases he : e = 0
  · subst he
    have q1 := HC1.out
    have q2 := HC2.out
    rw [if_pos rfl] at q1 q2
    have c0 := (E0.out.cell a).trans (St.creg HL.out ha)
    have f0 := E0.out.frozen a
    have i1 : w5.cell? ⟨(w.heap.size + 1), 1, none⟩ = some (.int .i64 (a : Int)) := E1.out.cell 1
    have hp0 := E0.out.put a (.int .u64 x)
    rw [St.set_reg HL.out ha] at hp0
    obtain ⟨w6, hw6⟩ : ∃ w6, w5.setCell ⟨w.heap.size, a, none⟩ (.int .u64 x) = w6 := ⟨_, rfl⟩
    have hb6 : Below w.heap.size w w6 := by rw [← hw6]; exact HB5.out.setCell (p := ⟨w.heap.size, a, none⟩) (Nat.le_refl _) _
    have hl2 : (s.setR a x).R.length = 32 := by show (s.R.set _ _).length = 32; rw [List.length_set]; exact HL.out
    have hsame : ∀ k, k ≠ w.heap.size → w6.heap[k]? = w5.heap[k]? := fun k hk => by rw [← hw6]; exact Below.heap_setCell _ _ _ _ hk
    rw [hw6] at hp0
    obtain ⟨s2, hs2⟩ : ∃ s2, s.setR a x = s2 := ⟨_, rfl⟩
    have hpc : s2.pc = s.pc := by rw [← hs2]; rfl
    rw [hs2] at hp0 hl2 q1
    have G0 := Lib.hid hp0
    have G2 := Lib.hid (blk_same E2.out (hsame _ (by omega)))
    have G3 := Lib.hid (blk_same E3.out (hsame _ (by omega)))
    have HB6 := Lib.hid hb6
    have HL2 := Lib.hid hl2
    have HNX := Lib.hid (next_ok s2 hl2 w6)
    rw [hpc] at HNX
    obtain ⟨s3, hs3⟩ : ∃ s3, s2.setP (IntKind.u64.wrap (s.pc + 8)) = s3 := ⟨_, rfl⟩
    have HL3 : Hid (s3.R.length = 32) := Lib.hid (by rw [← hs3]; exact hl2)
    rw [hs3] at HNX q1
    have HQ1 := Lib.hid q1
    have HQ2 := Lib.hid q2
    clear q1 q2 HC1 HC2
    clear hp0 hb6 hl2 hsame hs2 hpc hs3 E0 E1 E2 E3 HB5
    go_wp2_with (first | (refine wpList_load_row rfl 26 _ rfl (w.heap.size) rfl _ (s2.C) (0, 0) _ G0.out Tryd.underlying26 rfl (st_size HL2.out) ?_) | fail)
    refine HNX.out.mono ?_
    rintro r7 w7 ⟨rfl, hb7⟩
    have K2 := Lib.hid (G2.out.later hb7)
    have K3 := Lib.hid (G3.out.later hb7)
    have HB7 : Hid (Below w.heap.size w w7) := Lib.hid (HB6.out.trans (hb7.mono HB6.out.size))
    have K4 := Lib.hid (K3.out.row_other (g := (w.heap.size + 2)) (C := s3.C) (by omega))
    clear hb7 HNX G0 G2 G3 HB6
    go_wp2_with (first | (refine wpList_store_row rfl 26 _ _ rfl ((w.heap.size + 2)) (s3.C) rfl rfl _ _ K2.out (st_size HL3.out) (zs_size HL3.out) s3.one ?_) | (refine wpList_store_row rfl 36 _ _ rfl ((w.heap.size + 3)) (outC 0 0 0) rfl rfl _ _ K4.out (by kernel_rfl) (by kernel_rfl) (out_one _ _ _) ?_))
    have M2 := (K2.out.row (C := s3.C)).row_other (g := (w.heap.size + 3)) (C := outC 0 0 0) (by omega)
    have M3 := K4.out.row (C := outC 0 0 0)
    refine bodyPost_ret (v := .tuple #[.agg (s3.C), .agg (outC 0 0 0)]) (results_two rfl _ _ ((w.heap.size + 2)) ((w.heap.size + 3)) _ _ (s3.C) (outC 0 0 0) (0, 0) (0, 0) _ _ rfl rfl M2 M3 Tryd.underlying26 rfl (st_size HL3.out) Tryd.underlying36 rfl (by kernel_rfl)) rfl ?_
    exact ⟨by rw [HQ1.out, HQ2.out], below_row (below_row HB7.out (by omega) _) (by omega) _⟩
  · have heb : ¬ e = 0 := he
    have q1 := HC1.out
    have q2 := HC2.out
    rw [if_neg he] at q1 q2
    have HQ1 := Lib.hid q1
    have HQ2 := Lib.hid q2
    clear q1 q2 HC1 HC2
    have HD : Hid (Dist w.heap.size [(w.heap.size, s.C, 26)] [(5, (w.heap.size + 2), 26, St.zero.C, s.C), (6, (w.heap.size + 3), 36, #[.int .i64 0, .int .i64 0, .int .u64 0], (outC 3 e s.pc))]) := Lib.hid ⟨by (intro r hr; simp only [List.mem_cons, List.not_mem_nil, or_false] at hr; rcases hr with rfl | rfl <;> refine ⟨(by dsimp only; omega), fun f hf => ?_⟩ <;> simp only [List.mem_cons, List.not_mem_nil, or_false] at hf <;> (rcases hf with rfl) <;> dsimp only <;> omega), by (intro r hr q hq h; simp only [List.mem_cons, List.not_mem_nil, or_false] at hr hq; rcases hr with rfl | rfl <;> rcases hq with rfl | rfl <;> first | rfl | (exfalso; simp at h; done) | (exfalso; simp at h; omega))⟩
    have HFA := Lib.hid (fun wx => fault_ok e s.pc wx)
    go_wp2_with fail
    refine wp_region_a (by kernel_rfl) 29 rfl [16, 17, 18, 19, 20, 29, 30] (fun _ _ => True) (factsOf [Is (.agg (s.C)), Is (.int .i64 e), Is (.pointer (some ⟨w.heap.size, 32, none⟩)), Is (.int .u64 s.pc), Is (.agg (outC 3 e s.pc)), AnyB, AnyB]) (JA [5, 6] [] (fun L _ w9 => PR (w.heap.size) w [(w.heap.size, s.C, 26)] [(5, (w.heap.size + 2), 26, St.zero.C, s.C), (6, (w.heap.size + 3), 36, #[.int .i64 0, .int .i64 0, .int .u64 0], (outC 3 e s.pc))] L w9)) ?mono3 ?hj3 (by kernel_rfl) ?start3 ?steps3 ?fin3
    case mono3 => exact factsOf_monoR (monoR_cons (Is.monoR _ _) (monoR_cons (Is.monoR _ _) (monoR_cons (Is.monoR _ _) (monoR_cons (Is.monoR _ _) (monoR_cons (Is.monoR _ _) (monoR_cons (AnyB.monoR _) (monoR_cons (AnyB.monoR _) (monoR_nil _))))))))
    case hj3 => exact JA.congr (by decide)
    case start3 =>
      refine JA.of fun L' y' h1 h2 => ?_
      exact ⟨(Nat.le_refl _), Below.drew (HB5.out), (List.forall_mem_cons.2 ⟨Blk.drew (E0.out), (fun _ h => by cases h)⟩), (List.forall_mem_cons.2 ⟨PR.ini (h1 5 (by decide)) (Blk.drew (E2.out)), (List.forall_mem_cons.2 ⟨PR.ini (h1 6 (by decide)) (Blk.drew (E3.out)), (fun _ h => by cases h)⟩)⟩)⟩
    case fin3 =>
      intro y L w9 hJ hall hF hT
      have HP := Lib.hid hJ.out
      have HR0 := Lib.hid (PR.done (i := 5) HP.out (List.mem_iff_getElem?.2 ⟨0, rfl⟩) (hall 5 (by decide)))
      have HR1 := Lib.hid (PR.done (i := 6) HP.out (List.mem_iff_getElem?.2 ⟨1, rfl⟩) (hall 6 (by decide)))
      clear hJ hF hall
      rw [frCCompute]
      simp only [hT 0 (by decide), hT 1 (by decide), hT 2 (by decide), hT 3 (by decide), hT 4 (by decide), hT 5 (by decide), hT 6 (by decide), hT 7 (by decide), hT 8 (by decide), hT 9 (by decide), hT 10 (by decide), hT 11 (by decide), hT 12 (by decide), hT 13 (by decide), hT 14 (by decide), hT 15 (by decide), hT 21 (by decide), hT 22 (by decide), hT 23 (by decide), hT 24 (by decide), hT 25 (by decide), hT 26 (by decide), hT 27 (by decide), hT 28 (by decide), List.getD_cons_succ, List.getD_cons_zero]
      clear hT 
      go_wp2
      refine bodyPost_ret (v := .tuple #[.agg (s.C), .agg (outC 3 e s.pc)]) (results_two rfl _ _ ((w.heap.size + 2)) ((w.heap.size + 3)) _ _ (s.C) (outC 3 e s.pc) (0, 0) (0, 0) _ _ rfl rfl HR0.out HR1.out Tryd.underlying26 rfl (st_size HL.out) Tryd.underlying36 rfl (by kernel_rfl)) rfl ?_
      exact ⟨by rw [HQ1.out, HQ2.out], HP.out.bel⟩
    case steps3 =>
      refine ⟨?_, ?_, ?_, ?_, ?_, ?_, ?_, trivial⟩
      all_goals intro L y w9 hJ hL hy0 hp0 hcl hun
      all_goals have hy := Lib.hid hy0
      all_goals have hp := Lib.hid hp0
      all_goals have HJ := Lib.hid hJ
      all_goals have HP := Lib.hid hJ.out
      all_goals have hU := Lib.hid hun
      all_goals clear hy0 hp0 hun hJ
      · have e1 : y 2 = .pointer (some ⟨w.heap.size, 0, none⟩) := hy.out 2 (by decide)
        intro K Q hK
        clear hcl hL
        have v1 := (eval_frame 29 y [] (t := 2) (by decide)).trans e1
        obtain ⟨A, hA⟩ : ∃ A, (⟨frameOf 29 y, []⟩ : Act) = A := ⟨_, rfl⟩
        rw [hA] at v1 hK ⊢
        clear hA hy hp
        refine wp_load_row 26 (.tmp 2) rfl (w.heap.size) v1 _ _ (0, 0) _ (HP.out.fx _ (List.mem_iff_getElem?.2 ⟨0, rfl⟩)) Tryd.underlying26 rfl (st_size HL.out) ?_
        exact hK _ _ ⟨trivial, fun _ => rfl, HJ.out.pure (by decide) (by decide)⟩
      · have e1 : y 7 = .int .i64 e := hy.out 7 (by decide)
        intro K Q hK
        clear hcl hL
        have v1 := (eval_frame 29 y [] (t := 7) (by decide)).trans e1
        obtain ⟨A, hA⟩ : ∃ A, (⟨frameOf 29 y, []⟩ : Act) = A := ⟨_, rfl⟩
        rw [hA] at v1 hK ⊢
        clear hA hy hp
        simp only [Act.eval] at v1
        go_simp
        exact hK _ _ ⟨trivial, fun _ => rfl, HJ.out.pure (by decide) (by decide)⟩
      · have e1 : y 2 = .pointer (some ⟨w.heap.size, 0, none⟩) := hy.out 2 (by decide)
        intro K Q hK
        clear hcl hL
        have v1 := (eval_frame 29 y [] (t := 2) (by decide)).trans e1
        obtain ⟨A, hA⟩ : ∃ A, (⟨frameOf 29 y, []⟩ : Act) = A := ⟨_, rfl⟩
        rw [hA] at v1 hK ⊢
        clear hA hy hp
        simp only [Act.eval] at v1
        go_simp
        exact hK _ _ ⟨trivial, fun _ => rfl, HJ.out.pure (by decide) (by decide)⟩
      · have e1 : y 18 = .pointer (some ⟨w.heap.size, 32, none⟩) := (hp.out 2 (by decide)).2 (by decide)
        have q0 : w9.cell? ⟨w.heap.size, 32, none⟩ = some (.int .u64 s.pc) := (Blk.cell (HP.out.fx _ (List.mem_iff_getElem?.2 ⟨0, rfl⟩)) _).trans (St.cpc HL.out)
        intro K Q hK
        clear hcl hL
        have v1 := (eval_frame 29 y [] (t := 18) (by decide)).trans e1
        obtain ⟨A, hA⟩ : ∃ A, (⟨frameOf 29 y, []⟩ : Act) = A := ⟨_, rfl⟩
        rw [hA] at v1 hK ⊢
        clear hA hy hp
        simp only [Act.eval] at v1
        go_simp
        exact hK _ _ ⟨trivial, fun _ => rfl, HJ.out.pure (by decide) (by decide)⟩
      · have e1 : y 17 = .int .i64 e := (hp.out 1 (by decide)).2 (by decide)
        have e2 : y 19 = .int .u64 s.pc := (hp.out 3 (by decide)).2 (by decide)
        intro K Q hK
        clear hcl hL
        have v1 := (eval_frame 29 y [] (t := 17) (by decide)).trans e1
        have v2 := (eval_frame 29 y [] (t := 19) (by decide)).trans e2
        obtain ⟨A, hA⟩ : ∃ A, (⟨frameOf 29 y, []⟩ : Act) = A := ⟨_, rfl⟩
        rw [hA] at v1 v2 hK ⊢
        clear hA hy hp
        simp only [Act.eval] at v1 v2
        go_simp
        refine (HFA.out _).mono ?_
        rintro r w5 ⟨rfl, hb5⟩
        exact hK _ _ ⟨trivial, fun _ => rfl, JA.step fun L' y' h1 h2 h3 h4 => PR.later (S := [5, 6]) HP.out hb5 rfl (by decide) h1⟩
      · have e1 : y 4 = .pointer (some ⟨(w.heap.size + 2), 0, none⟩) := hy.out 4 (by decide)
        have e2 : y 16 = .agg (s.C) := (hp.out 0 (by decide)).2 (by decide)
        have hN5 : L 5 = false := hL
        intro K Q hK
        clear hcl hL
        have v1 := (eval_frame 29 y [] (t := 4) (by decide)).trans e1
        have v2 := (eval_frame 29 y [] (t := 16) (by decide)).trans e2
        obtain ⟨A, hA⟩ : ∃ A, (⟨frameOf 29 y, []⟩ : Act) = A := ⟨_, rfl⟩
        rw [hA] at v1 v2 hK ⊢
        clear hA hy hp
        refine wp_store_row 26 (.tmp 4) (.tmp 16) rfl ((w.heap.size + 2)) (s.C) v1 v2 _ _ (PR.todo (i := 5) HP.out (List.mem_iff_getElem?.2 ⟨0, rfl⟩) hN5) (st_size HL.out) (zs_size HL.out) s.one ?_
        exact hK undef _ ⟨trivial, fun h => absurd h (by decide), JA.step fun L' y' h1 h2 h3 h4 => PR.store (i := 5) HP.out HD.out (List.mem_iff_getElem?.2 ⟨0, rfl⟩) rfl (h2 (by decide)) h1⟩
      · have e1 : y 5 = .pointer (some ⟨(w.heap.size + 3), 0, none⟩) := hy.out 5 (by decide)
        have e2 : y 20 = .agg (outC 3 e s.pc) := (hp.out 4 (by decide)).2 (by decide)
        have hN6 : L 6 = false := hL
        intro K Q hK
        clear hcl hL
        have v1 := (eval_frame 29 y [] (t := 5) (by decide)).trans e1
        have v2 := (eval_frame 29 y [] (t := 20) (by decide)).trans e2
        obtain ⟨A, hA⟩ : ∃ A, (⟨frameOf 29 y, []⟩ : Act) = A := ⟨_, rfl⟩
        rw [hA] at v1 v2 hK ⊢
        clear hA hy hp
        refine wp_store_row 36 (.tmp 5) (.tmp 20) rfl ((w.heap.size + 3)) ((outC 3 e s.pc)) v1 v2 _ _ (PR.todo (i := 6) HP.out (List.mem_iff_getElem?.2 ⟨1, rfl⟩) hN6) (by kernel_rfl) (by kernel_rfl) (out_one _ _ _) ?_
        exact hK undef _ ⟨trivial, fun h => absurd h (by decide), JA.step fun L' y' h1 h2 h3 h4 => PR.store (i := 6) HP.out HD.out (List.mem_iff_getElem?.2 ⟨1, rfl⟩) rfl (h2 (by decide)) h1⟩
end Go.Proofs.YtkhfmgifpppcmaaDoor
