/-
  What is proved here: branch of package cpu. · jump of package cpu.
  Conditions: as they say.
-/
import Derived.Test.YtkhfmgifpppcmaaDoorCpuV
namespace Go.Proofs.YtkhfmgifpppcmaaDoor
open Go.RowKit
set_option linter.unusedVariables false
set_option linter.unusedSimpArgs false

set_option maxRecDepth 100000 in
theorem frCBranch (y : Nat → Value) : frameOf 28 y = #[y 0, y 1, y 2, y 3, y 4, y 5, y 6, y 7, y 8, y 9, y 10, y 11, y 12, y 13, y 14, y 15, y 16, y 17, y 18, y 19, y 20, y 21, y 22, y 23, y 24, y 25, y 26, y 27] := rfl
set_option maxHeartbeats 6400000 in
set_option maxRecDepth 100000 in
theorem branch_ok (s : St) (hs : s.Ok) (op m : Int) (a b c : Nat) (ha : a < 32) (hb : b < 32) (w : World) :
    Calls Tryd.prog 23 #[.agg s.C, .agg #[.int .i64 op, .int .i64 (a : Int), .int .i64 (b : Int), .int .i64 (c : Int), .int .i32 m]] w fun r w' => r = .returned (.agg (if (holdsB op (s.R.getD a 0) (s.R.getD b 0)) = true then (s.setP (IntKind.u64.wrap (s.pc + IntKind.u64.wrap m))) else (s.setP (IntKind.u64.wrap (s.pc + 8)))).C) ∧ Below w.heap.size w w' := by
  have HL := Lib.hid hs.len
  obtain ⟨H, hH⟩ : ∃ H, (holdsB op (s.R.getD a 0) (s.R.getD b 0)) = H := ⟨_, rfl⟩
  have HHO : Hid (∀ wx, Calls Tryd.prog 33 #[.int .i64 op, .int .u64 (s.R.getD a 0), .int .u64 (s.R.getD b 0)] wx fun r w' => r = .returned (.bool H) ∧ Below wx.heap.size wx w') := Lib.hid (fun wx => (holds_ok op _ _ wx).mono fun r w' h => ⟨by rw [← hH]; exact h.1, by rw [← h.2]; exact Below.refl _ _⟩)
  rw [hH]
  have HNX := Lib.hid (fun wx => next_ok s hs.len wx)
  have HNU : Hid (∀ wx, Calls Tryd.prog 25 #[.agg #[.int .i64 op, .int .i64 (a : Int), .int .i64 (b : Int), .int .i64 (c : Int), .int .i32 m]] wx fun r w' => r = .returned (.int .u64 (IntKind.u64.wrap m)) ∧ Below wx.heap.size wx w') := Lib.hid (fun wx => number_i ⟨op, a, b, c, m⟩ wx)
  obtain ⟨w1, hw1⟩ : ∃ w1, ((w.alloc (.cells s.C 26)).alloc (.cells #[.int .i64 op, .int .i64 (a : Int), .int .i64 (b : Int), .int .i64 (c : Int), .int .i32 m] 63)).alloc (.cells St.zero.C 26) = w1 := ⟨_, rfl⟩
  have hz1 : w1.heap.size = w.heap.size + 3 := by rw [← hw1]; simp
  have B0 : Hid (Blk w1 w.heap.size s.C 26) := Lib.hid (by
    rw [← hw1]
    have := Blk.new w s.C 26
    try simp only [World.size_alloc] at this
    exact ((this.alloc _).alloc _))
  have B1 : Hid (Blk w1 (w.heap.size + 1) #[.int .i64 op, .int .i64 (a : Int), .int .i64 (b : Int), .int .i64 (c : Int), .int .i32 m] 63) := Lib.hid (by
    rw [← hw1]
    have := Blk.new (w.alloc (.cells s.C 26)) #[.int .i64 op, .int .i64 (a : Int), .int .i64 (b : Int), .int .i64 (c : Int), .int .i32 m] 63
    try simp only [World.size_alloc] at this
    exact (this.alloc _))
  have B2 : Hid (Blk w1 (w.heap.size + 2) St.zero.C 26) := Lib.hid (by
    rw [← hw1]
    have := Blk.new ((w.alloc (.cells s.C 26)).alloc (.cells #[.int .i64 op, .int .i64 (a : Int), .int .i64 (b : Int), .int .i64 (c : Int), .int .i32 m] 63)) St.zero.C 26
    try simp only [World.size_alloc] at this
    exact this)
  have HB : Hid (Below w.heap.size w w1) := Lib.hid (by rw [← hw1]; exact ((((Below.refl _ _).alloc (by exact Nat.le_refl _) _).alloc (by simp only [World.size_alloc]; omega) _).alloc (by simp only [World.size_alloc]; omega) _))
  obtain ⟨S2, hS2⟩ : ∃ S2 : St, (if H = true then (s.setP (IntKind.u64.wrap (s.pc + IntKind.u64.wrap m))) else (s.setP (IntKind.u64.wrap (s.pc + 8)))) = S2 := ⟨_, rfl⟩
  rw [hS2]
  have HS2 := Lib.hid hS2
  clear hS2 hs hH
  go_enter Tryd.func23, Tryd.ntmps23
  go_wp2_with (first | (refine wpList_alloc_eq rfl 26 rfl St.zero.C zs_info ?_))
  try simp only [List.set_cons_succ, List.set_cons_zero, World.size_alloc]
  try rw [hw1]
  clear hw1 hz1
  refine wp_region_a (by kernel_rfl) 28 rfl [5, 6, 7, 8, 9, 10, 11, 12, 13, 14, 15, 16, 17, 18] (fun _ _ => True) (factsOf [Is (.pointer (some ⟨(w.heap.size + 1), 0, none⟩)), Is (.int .i64 op), Is (.pointer (some ⟨(w.heap.size + 1), 1, none⟩)), Is (.int .i64 (a : Int)), Is (.pointer (some ⟨w.heap.size, 0, none⟩)), Is (.pointer (some ⟨w.heap.size, a, none⟩)), Is (.int .u64 (s.R.getD a 0)), Is (.pointer (some ⟨(w.heap.size + 1), 2, none⟩)), Is (.int .i64 (b : Int)), Is (.pointer (some ⟨w.heap.size, 0, none⟩)), Is (.pointer (some ⟨w.heap.size, b, none⟩)), Is (.int .u64 (s.R.getD b 0)), Is (.bool H), Is (.bool (!H))]) (JA [] [] (fun L _ w9 => PR (w.heap.size) w [(w.heap.size, s.C, 26), ((w.heap.size + 1), #[.int .i64 op, .int .i64 (a : Int), .int .i64 (b : Int), .int .i64 (c : Int), .int .i32 m], 63), ((w.heap.size + 2), St.zero.C, 26)] [] L w9)) ?mono1 ?hj1 (by kernel_rfl) ?start1 ?steps1 ?fin1
  case mono1 => exact factsOf_monoR (monoR_cons (Is.monoR _ _) (monoR_cons (Is.monoR _ _) (monoR_cons (Is.monoR _ _) (monoR_cons (Is.monoR _ _) (monoR_cons (Is.monoR _ _) (monoR_cons (Is.monoR _ _) (monoR_cons (Is.monoR _ _) (monoR_cons (Is.monoR _ _) (monoR_cons (Is.monoR _ _) (monoR_cons (Is.monoR _ _) (monoR_cons (Is.monoR _ _) (monoR_cons (Is.monoR _ _) (monoR_cons (Is.monoR _ _) (monoR_cons (Is.monoR _ _) (monoR_nil _)))))))))))))))
  case hj1 => exact JA.congr (by decide)
  case start1 =>
    refine JA.of fun L' y' h1 h2 => ?_
    exact ⟨(Nat.le_refl _), Below.drew (HB.out), (List.forall_mem_cons.2 ⟨Blk.drew (B0.out), (List.forall_mem_cons.2 ⟨Blk.drew (B1.out), (List.forall_mem_cons.2 ⟨Blk.drew (B2.out), (fun _ h => by cases h)⟩)⟩)⟩), (fun _ h => by cases h)⟩
  case fin1 =>
    intro y L w9 hJ hall hF hT
    have HP := Lib.hid hJ.out
    have f18 : y 18 = .bool (!H) := hF 13 (by decide) (by decide)
    clear hJ hF hall
    rw [frCBranch]
    simp only [f18, hT 0 (by decide), hT 1 (by decide), hT 2 (by decide), hT 3 (by decide), hT 4 (by decide), hT 19 (by decide), hT 20 (by decide), hT 21 (by decide), hT 22 (by decide), hT 23 (by decide), hT 24 (by decide), hT 25 (by decide), hT 26 (by decide), hT 27 (by decide), List.getD_cons_succ, List.getD_cons_zero]
    clear hT f18
    have D0 : Hid (Blk w9 w.heap.size s.C 26) := Lib.hid (HP.out.fx _ (List.mem_iff_getElem?.2 ⟨0, rfl⟩))
    have D1 : Hid (Blk w9 (w.heap.size + 1) #[.int .i64 op, .int .i64 (a : Int), .int .i64 (b : Int), .int .i64 (c : Int), .int .i32 m] 63) := Lib.hid (HP.out.fx _ (List.mem_iff_getElem?.2 ⟨1, rfl⟩))
    have D2 : Hid (Blk w9 (w.heap.size + 2) St.zero.C 26) := Lib.hid (HP.out.fx _ (List.mem_iff_getElem?.2 ⟨2, rfl⟩))
    have HBX := Lib.hid HP.out.bel
    clear HP HB B0 B1 B2 HHO
    cases H with
    | false =>
      have HQ : Hid ((s.setP (IntKind.u64.wrap (s.pc + 8))) = S2) := Lib.hid HS2.out
      clear HS2
      go_wp2_with (first | (refine wpList_load_row rfl 26 _ rfl (w.heap.size) rfl _ (s.C) (0, 0) _ D0.out Tryd.underlying26 rfl (st_size HL.out) ?_) | fail)
      refine (HNX.out _).mono ?_
      rintro r7 w7 ⟨rfl, hb7⟩
      rw [HQ.out]
      have HL2 : Hid (S2.R.length = 32) := Lib.hid (by rw [← HQ.out]; exact HL.out)
      have K2 := Lib.hid (D2.out.later hb7)
      have HB7 : Hid (Below w.heap.size w w7) := Lib.hid (HBX.out.trans (hb7.mono HBX.out.size))
      clear hb7 HNX D0 D1 D2 HBX
      go_wp2_with (first | (refine wpList_store_row rfl 26 _ _ rfl ((w.heap.size + 2)) (S2.C) rfl rfl _ _ K2.out (st_size HL2.out) (zs_size HL2.out) S2.one ?_))
      have M2 := K2.out.row (C := S2.C)
      refine bodyPost_ret (v := .agg (S2.C)) (results_cell_row rfl _ _ ((w.heap.size + 2)) _ (S2.C) (0, 0) _ rfl M2 Tryd.underlying26 rfl (st_size HL2.out)) rfl ?_
      exact ⟨rfl, below_row HB7.out (by omega) _⟩
    | true =>
      have HQ : Hid ((s.setP (IntKind.u64.wrap (s.pc + IntKind.u64.wrap m))) = S2) := Lib.hid HS2.out
      clear HS2 HNX
      have HD : Hid (Dist w.heap.size [((w.heap.size + 1), #[.int .i64 op, .int .i64 (a : Int), .int .i64 (b : Int), .int .i64 (c : Int), .int .i32 m], 63), ((w.heap.size + 2), St.zero.C, 26)] [(6, w.heap.size, 26, s.C, (s.setP (IntKind.u64.wrap (s.pc + IntKind.u64.wrap m))).C)]) := Lib.hid ⟨by (intro r hr; simp only [List.mem_cons, List.not_mem_nil, or_false] at hr; rcases hr with rfl <;> refine ⟨(by dsimp only; omega), fun f hf => ?_⟩ <;> simp only [List.mem_cons, List.not_mem_nil, or_false] at hf <;> (rcases hf with rfl | rfl) <;> dsimp only <;> omega), by (intro r hr q hq h; simp only [List.mem_cons, List.not_mem_nil, or_false] at hr hq; rcases hr with rfl <;> rcases hq with rfl <;> first | rfl | (exfalso; simp at h; done) | (exfalso; simp at h; omega))⟩
      go_wp2_with fail
      refine wp_region_a (by kernel_rfl) 28 rfl [21, 22, 23, 24, 25, 26, 28] (fun _ _ => True) (factsOf [Is (.pointer (some ⟨w.heap.size, 32, none⟩)), Is (.int .u64 s.pc), Is (.agg #[.int .i64 op, .int .i64 (a : Int), .int .i64 (b : Int), .int .i64 (c : Int), .int .i32 m]), Is (.int .u64 (IntKind.u64.wrap m)), Is (.int .u64 (IntKind.u64.wrap (s.pc + IntKind.u64.wrap m))), Is (.pointer (some ⟨w.heap.size, 32, none⟩)), AnyB]) (JA [6] [] (fun L _ w9 => PR (w.heap.size) w [((w.heap.size + 1), #[.int .i64 op, .int .i64 (a : Int), .int .i64 (b : Int), .int .i64 (c : Int), .int .i32 m], 63), ((w.heap.size + 2), St.zero.C, 26)] [(6, w.heap.size, 26, s.C, (s.setP (IntKind.u64.wrap (s.pc + IntKind.u64.wrap m))).C)] L w9)) ?mono3 ?hj3 (by kernel_rfl) ?start3 ?steps3 ?fin3
      case mono3 => exact factsOf_monoR (monoR_cons (Is.monoR _ _) (monoR_cons (Is.monoR _ _) (monoR_cons (Is.monoR _ _) (monoR_cons (Is.monoR _ _) (monoR_cons (Is.monoR _ _) (monoR_cons (Is.monoR _ _) (monoR_cons (AnyB.monoR _) (monoR_nil _))))))))
      case hj3 => exact JA.congr (by decide)
      case start3 =>
        refine JA.of fun L' y' h1 h2 => ?_
        exact ⟨(Nat.le_refl _), Below.drew (HBX.out), (List.forall_mem_cons.2 ⟨Blk.drew (D1.out), (List.forall_mem_cons.2 ⟨Blk.drew (D2.out), (fun _ h => by cases h)⟩)⟩), (List.forall_mem_cons.2 ⟨PR.ini (h1 6 (by decide)) (Blk.drew (D0.out)), (fun _ h => by cases h)⟩)⟩
      case fin3 =>
        intro y L w9 hJ hall hF hT
        have HP := Lib.hid hJ.out
        have HR0 := Lib.hid (PR.done (i := 6) HP.out (List.mem_iff_getElem?.2 ⟨0, rfl⟩) (hall 6 (by decide)))
        clear hJ hF hall
        rw [frCBranch]
        simp only [hT 0 (by decide), hT 1 (by decide), hT 2 (by decide), hT 3 (by decide), hT 4 (by decide), hT 5 (by decide), hT 6 (by decide), hT 7 (by decide), hT 8 (by decide), hT 9 (by decide), hT 10 (by decide), hT 11 (by decide), hT 12 (by decide), hT 13 (by decide), hT 14 (by decide), hT 15 (by decide), hT 16 (by decide), hT 17 (by decide), hT 18 (by decide), hT 19 (by decide), hT 20 (by decide), hT 27 (by decide), List.getD_cons_succ, List.getD_cons_zero]
        clear hT 
        have G1 : Hid (Blk w9 (w.heap.size + 1) #[.int .i64 op, .int .i64 (a : Int), .int .i64 (b : Int), .int .i64 (c : Int), .int .i32 m] 63) := Lib.hid (HP.out.fx _ (List.mem_iff_getElem?.2 ⟨0, rfl⟩))
        have G2 : Hid (Blk w9 (w.heap.size + 2) St.zero.C 26) := Lib.hid (HP.out.fx _ (List.mem_iff_getElem?.2 ⟨1, rfl⟩))
        have HB7 := Lib.hid HP.out.bel
        have G0 := HR0
        rw [HQ.out] at G0
        clear HP HR0
        have HL2 : Hid (S2.R.length = 32) := Lib.hid (by rw [← HQ.out]; exact HL.out)
        have HSS := Lib.hid (st_size HL2.out)
        have HZZ := Lib.hid (zs_size HL2.out)
        have HOO := Lib.hid S2.one
        obtain ⟨CC, hCC⟩ : ∃ C, S2.C = C := ⟨_, rfl⟩
        rw [hCC] at HSS HZZ HOO
        have G0 : Hid (Blk w9 (w.heap.size) CC 26) := Lib.hid (by rw [← hCC]; exact G0.out)
        have HCC := Lib.hid hCC
        clear hCC HL2 HQ
        go_wp2_with (first | (refine wpList_load_row rfl 26 _ rfl (w.heap.size) rfl _ (CC) (0, 0) _ G0.out Tryd.underlying26 rfl HSS.out ?_) | (refine wpList_store_row rfl 26 _ _ rfl ((w.heap.size + 2)) (CC) rfl rfl _ _ G2.out HSS.out HZZ.out HOO.out ?_))
        have M2 := G2.out.row (C := CC)
        refine bodyPost_ret (v := .agg (CC)) (results_cell_row rfl _ _ ((w.heap.size + 2)) _ (CC) (0, 0) _ rfl M2 Tryd.underlying26 rfl HSS.out) rfl ?_
        exact ⟨by rw [HCC.out], below_row HB7.out (by omega) _⟩
      case steps3 =>
        refine ⟨?_, ?_, ?_, ?_, ?_, ?_, ?_, trivial⟩
        all_goals intro L y w9 hJ hL hy0 hp0 hcl hun
        all_goals have hy := Lib.hid hy0
        all_goals have hp := Lib.hid hp0
        all_goals have HJ := Lib.hid hJ
        all_goals have HP := Lib.hid hJ.out
        all_goals have hU := Lib.hid hun
        all_goals clear hy0 hp0 hun hJ
        · have e1 : y 2 = .pointer (some ⟨w.heap.size, 0, none⟩) := hy.out 2 (by decide)
          intro K Q hK
          clear hcl hL
          have v1 := (eval_frame 28 y [] (t := 2) (by decide)).trans e1
          obtain ⟨A, hA⟩ : ∃ A, (⟨frameOf 28 y, []⟩ : Act) = A := ⟨_, rfl⟩
          rw [hA] at v1 hK ⊢
          clear hA hy hp
          simp only [Act.eval] at v1
          go_simp
          exact hK _ _ ⟨trivial, fun _ => rfl, HJ.out.pure (by decide) (by decide)⟩
        · have e1 : y 21 = .pointer (some ⟨w.heap.size, 32, none⟩) := (hp.out 0 (by decide)).2 (by decide)
          have hN6 : L 6 = false := by
            cases h : L 6 with
            | false => rfl
            | true => have := (hcl 4 _ rfl (hcl 6 _ rfl h 4 (by decide)) 1 (by decide)); rw [hL] at this; cases this
          have q0 : w9.cell? ⟨w.heap.size, 32, none⟩ = some (.int .u64 s.pc) := (Blk.cell (PR.todo (i := 6) HP.out (List.mem_iff_getElem?.2 ⟨0, rfl⟩) hN6) _).trans (St.cpc HL.out)
          intro K Q hK
          clear hcl hL
          have v1 := (eval_frame 28 y [] (t := 21) (by decide)).trans e1
          obtain ⟨A, hA⟩ : ∃ A, (⟨frameOf 28 y, []⟩ : Act) = A := ⟨_, rfl⟩
          rw [hA] at v1 hK ⊢
          clear hA hy hp
          simp only [Act.eval] at v1
          go_simp
          exact hK _ _ ⟨trivial, fun _ => rfl, HJ.out.pure (by decide) (by decide)⟩
        · have e1 : y 3 = .pointer (some ⟨(w.heap.size + 1), 0, none⟩) := hy.out 3 (by decide)
          have q0 : w9.cell? ⟨(w.heap.size + 1), 0, none⟩ = some (.int .i64 op) := (Blk.cell (HP.out.fx _ (List.mem_iff_getElem?.2 ⟨0, rfl⟩)) 0).trans rfl
          have q1 : w9.cell? ⟨(w.heap.size + 1), 1, none⟩ = some (.int .i64 (a : Int)) := (Blk.cell (HP.out.fx _ (List.mem_iff_getElem?.2 ⟨0, rfl⟩)) 1).trans rfl
          have q2 : w9.cell? ⟨(w.heap.size + 1), 2, none⟩ = some (.int .i64 (b : Int)) := (Blk.cell (HP.out.fx _ (List.mem_iff_getElem?.2 ⟨0, rfl⟩)) 2).trans rfl
          have q3 : w9.cell? ⟨(w.heap.size + 1), 3, none⟩ = some (.int .i64 (c : Int)) := (Blk.cell (HP.out.fx _ (List.mem_iff_getElem?.2 ⟨0, rfl⟩)) 3).trans rfl
          have q4 : w9.cell? ⟨(w.heap.size + 1), 4, none⟩ = some (.int .i32 m) := (Blk.cell (HP.out.fx _ (List.mem_iff_getElem?.2 ⟨0, rfl⟩)) 4).trans rfl
          intro K Q hK
          clear hcl hL
          have v1 := (eval_frame 28 y [] (t := 3) (by decide)).trans e1
          obtain ⟨A, hA⟩ : ∃ A, (⟨frameOf 28 y, []⟩ : Act) = A := ⟨_, rfl⟩
          rw [hA] at v1 hK ⊢
          clear hA hy hp
          simp only [Act.eval] at v1
          go_simp
          exact hK _ _ ⟨trivial, fun _ => rfl, HJ.out.pure (by decide) (by decide)⟩
        · have e1 : y 23 = .agg #[.int .i64 op, .int .i64 (a : Int), .int .i64 (b : Int), .int .i64 (c : Int), .int .i32 m] := (hp.out 2 (by decide)).2 (by decide)
          intro K Q hK
          clear hcl hL
          have v1 := (eval_frame 28 y [] (t := 23) (by decide)).trans e1
          obtain ⟨A, hA⟩ : ∃ A, (⟨frameOf 28 y, []⟩ : Act) = A := ⟨_, rfl⟩
          rw [hA] at v1 hK ⊢
          clear hA hy hp
          simp only [Act.eval] at v1
          go_simp
          refine (HNU.out _).mono ?_
          rintro r w5 ⟨rfl, hb5⟩
          exact hK _ _ ⟨trivial, fun _ => rfl, JA.step fun L' y' h1 h2 h3 h4 => PR.later (S := [6]) HP.out hb5 rfl (by decide) h1⟩
        · have e1 : y 22 = .int .u64 s.pc := (hp.out 1 (by decide)).2 (by decide)
          have e2 : y 24 = .int .u64 (IntKind.u64.wrap m) := (hp.out 3 (by decide)).2 (by decide)
          intro K Q hK
          clear hcl hL
          have v1 := (eval_frame 28 y [] (t := 22) (by decide)).trans e1
          have v2 := (eval_frame 28 y [] (t := 24) (by decide)).trans e2
          obtain ⟨A, hA⟩ : ∃ A, (⟨frameOf 28 y, []⟩ : Act) = A := ⟨_, rfl⟩
          rw [hA] at v1 v2 hK ⊢
          clear hA hy hp
          simp only [Act.eval] at v1 v2
          go_simp
          exact hK _ _ ⟨trivial, fun _ => rfl, HJ.out.pure (by decide) (by decide)⟩
        · have e1 : y 2 = .pointer (some ⟨w.heap.size, 0, none⟩) := hy.out 2 (by decide)
          intro K Q hK
          clear hcl hL
          have v1 := (eval_frame 28 y [] (t := 2) (by decide)).trans e1
          obtain ⟨A, hA⟩ : ∃ A, (⟨frameOf 28 y, []⟩ : Act) = A := ⟨_, rfl⟩
          rw [hA] at v1 hK ⊢
          clear hA hy hp
          simp only [Act.eval] at v1
          go_simp
          exact hK _ _ ⟨trivial, fun _ => rfl, HJ.out.pure (by decide) (by decide)⟩
        · have e1 : y 26 = .pointer (some ⟨w.heap.size, 32, none⟩) := (hp.out 5 (by decide)).2 (by decide)
          have e2 : y 25 = .int .u64 (IntKind.u64.wrap (s.pc + IntKind.u64.wrap m)) := (hp.out 4 (by decide)).2 (by decide)
          have hN6 : L 6 = false := hL
          have hqb := PR.todo (i := 6) HP.out (List.mem_iff_getElem?.2 ⟨0, rfl⟩) hN6
          have q0 := (Blk.cell hqb (32)).trans (St.cpc HL.out)
          have f0 := Blk.frozen hqb (32)
          intro K Q hK
          clear hcl hL
          have v1 := (eval_frame 28 y [] (t := 26) (by decide)).trans e1
          have v2 := (eval_frame 28 y [] (t := 25) (by decide)).trans e2
          obtain ⟨A, hA⟩ : ∃ A, (⟨frameOf 28 y, []⟩ : Act) = A := ⟨_, rfl⟩
          rw [hA] at v1 v2 hK ⊢
          clear hA hy hp
          simp only [Act.eval] at v1 v2
          go_simp
          rw [setCell_row hqb, St.set_pc HL.out]
          exact hK undef _ ⟨trivial, fun h => absurd h (by decide), JA.step fun L' y' h1 h2 h3 h4 => PR.store (i := 6) HP.out HD.out (List.mem_iff_getElem?.2 ⟨0, rfl⟩) rfl (h2 (by decide)) h1⟩
  case steps1 =>
    refine ⟨?_, ?_, ?_, ?_, ?_, ?_, ?_, ?_, ?_, ?_, ?_, ?_, ?_, ?_, trivial⟩
    all_goals intro L y w9 hJ hL hy0 hp0 hcl hun
    all_goals have hy := Lib.hid hy0
    all_goals have hp := Lib.hid hp0
    all_goals have HJ := Lib.hid hJ
    all_goals have HP := Lib.hid hJ.out
    all_goals have hU := Lib.hid hun
    all_goals clear hy0 hp0 hun hJ
    · have e1 : y 3 = .pointer (some ⟨(w.heap.size + 1), 0, none⟩) := hy.out 3 (by decide)
      intro K Q hK
      clear hcl hL
      have v1 := (eval_frame 28 y [] (t := 3) (by decide)).trans e1
      obtain ⟨A, hA⟩ : ∃ A, (⟨frameOf 28 y, []⟩ : Act) = A := ⟨_, rfl⟩
      rw [hA] at v1 hK ⊢
      clear hA hy hp
      simp only [Act.eval] at v1
      go_simp
      exact hK _ _ ⟨trivial, fun _ => rfl, HJ.out.pure (by decide) (by decide)⟩
    · have e1 : y 5 = .pointer (some ⟨(w.heap.size + 1), 0, none⟩) := (hp.out 0 (by decide)).2 (by decide)
      have q0 : w9.cell? ⟨(w.heap.size + 1), 0, none⟩ = some (.int .i64 op) := (Blk.cell (HP.out.fx _ (List.mem_iff_getElem?.2 ⟨1, rfl⟩)) 0).trans rfl
      intro K Q hK
      clear hcl hL
      have v1 := (eval_frame 28 y [] (t := 5) (by decide)).trans e1
      obtain ⟨A, hA⟩ : ∃ A, (⟨frameOf 28 y, []⟩ : Act) = A := ⟨_, rfl⟩
      rw [hA] at v1 hK ⊢
      clear hA hy hp
      simp only [Act.eval] at v1
      go_simp
      exact hK _ _ ⟨trivial, fun _ => rfl, HJ.out.pure (by decide) (by decide)⟩
    · have e1 : y 3 = .pointer (some ⟨(w.heap.size + 1), 0, none⟩) := hy.out 3 (by decide)
      intro K Q hK
      clear hcl hL
      have v1 := (eval_frame 28 y [] (t := 3) (by decide)).trans e1
      obtain ⟨A, hA⟩ : ∃ A, (⟨frameOf 28 y, []⟩ : Act) = A := ⟨_, rfl⟩
      rw [hA] at v1 hK ⊢
      clear hA hy hp
      simp only [Act.eval] at v1
      go_simp
      exact hK _ _ ⟨trivial, fun _ => rfl, HJ.out.pure (by decide) (by decide)⟩
    · have e1 : y 7 = .pointer (some ⟨(w.heap.size + 1), 1, none⟩) := (hp.out 2 (by decide)).2 (by decide)
      have q1 : w9.cell? ⟨(w.heap.size + 1), 1, none⟩ = some (.int .i64 (a : Int)) := (Blk.cell (HP.out.fx _ (List.mem_iff_getElem?.2 ⟨1, rfl⟩)) 1).trans rfl
      intro K Q hK
      clear hcl hL
      have v1 := (eval_frame 28 y [] (t := 7) (by decide)).trans e1
      obtain ⟨A, hA⟩ : ∃ A, (⟨frameOf 28 y, []⟩ : Act) = A := ⟨_, rfl⟩
      rw [hA] at v1 hK ⊢
      clear hA hy hp
      simp only [Act.eval] at v1
      go_simp
      exact hK _ _ ⟨trivial, fun _ => rfl, HJ.out.pure (by decide) (by decide)⟩
    · have e1 : y 2 = .pointer (some ⟨w.heap.size, 0, none⟩) := hy.out 2 (by decide)
      intro K Q hK
      clear hcl hL
      have v1 := (eval_frame 28 y [] (t := 2) (by decide)).trans e1
      obtain ⟨A, hA⟩ : ∃ A, (⟨frameOf 28 y, []⟩ : Act) = A := ⟨_, rfl⟩
      rw [hA] at v1 hK ⊢
      clear hA hy hp
      simp only [Act.eval] at v1
      go_simp
      exact hK _ _ ⟨trivial, fun _ => rfl, HJ.out.pure (by decide) (by decide)⟩
    · have e1 : y 9 = .pointer (some ⟨w.heap.size, 0, none⟩) := (hp.out 4 (by decide)).2 (by decide)
      have e2 : y 8 = .int .i64 (a : Int) := (hp.out 3 (by decide)).2 (by decide)
      intro K Q hK
      clear hcl hL
      have v1 := (eval_frame 28 y [] (t := 9) (by decide)).trans e1
      have v2 := (eval_frame 28 y [] (t := 8) (by decide)).trans e2
      obtain ⟨A, hA⟩ : ∃ A, (⟨frameOf 28 y, []⟩ : Act) = A := ⟨_, rfl⟩
      rw [hA] at v1 v2 hK ⊢
      clear hA hy hp
      simp only [Act.eval] at v1 v2
      go_simp
      first | exact hK _ _ ⟨trivial, fun _ => rfl, HJ.out.pure (by decide) (by decide)⟩ | (rw [if_pos (by omega)]; exact hK _ _ ⟨trivial, fun _ => rfl, HJ.out.pure (by decide) (by decide)⟩) | (rw [if_pos ⟨by omega, by omega⟩]; exact hK _ _ ⟨trivial, fun _ => rfl, HJ.out.pure (by decide) (by decide)⟩)
    · have e1 : y 10 = .pointer (some ⟨w.heap.size, a, none⟩) := (hp.out 5 (by decide)).2 (by decide)
      have q0 : w9.cell? ⟨w.heap.size, a, none⟩ = some (.int .u64 (s.R.getD a 0)) := (Blk.cell (HP.out.fx _ (List.mem_iff_getElem?.2 ⟨0, rfl⟩)) _).trans (St.creg HL.out (by omega))
      intro K Q hK
      clear hcl hL
      have v1 := (eval_frame 28 y [] (t := 10) (by decide)).trans e1
      obtain ⟨A, hA⟩ : ∃ A, (⟨frameOf 28 y, []⟩ : Act) = A := ⟨_, rfl⟩
      rw [hA] at v1 hK ⊢
      clear hA hy hp
      simp only [Act.eval] at v1
      go_simp
      exact hK _ _ ⟨trivial, fun _ => rfl, HJ.out.pure (by decide) (by decide)⟩
    · have e1 : y 3 = .pointer (some ⟨(w.heap.size + 1), 0, none⟩) := hy.out 3 (by decide)
      intro K Q hK
      clear hcl hL
      have v1 := (eval_frame 28 y [] (t := 3) (by decide)).trans e1
      obtain ⟨A, hA⟩ : ∃ A, (⟨frameOf 28 y, []⟩ : Act) = A := ⟨_, rfl⟩
      rw [hA] at v1 hK ⊢
      clear hA hy hp
      simp only [Act.eval] at v1
      go_simp
      exact hK _ _ ⟨trivial, fun _ => rfl, HJ.out.pure (by decide) (by decide)⟩
    · have e1 : y 12 = .pointer (some ⟨(w.heap.size + 1), 2, none⟩) := (hp.out 7 (by decide)).2 (by decide)
      have q2 : w9.cell? ⟨(w.heap.size + 1), 2, none⟩ = some (.int .i64 (b : Int)) := (Blk.cell (HP.out.fx _ (List.mem_iff_getElem?.2 ⟨1, rfl⟩)) 2).trans rfl
      intro K Q hK
      clear hcl hL
      have v1 := (eval_frame 28 y [] (t := 12) (by decide)).trans e1
      obtain ⟨A, hA⟩ : ∃ A, (⟨frameOf 28 y, []⟩ : Act) = A := ⟨_, rfl⟩
      rw [hA] at v1 hK ⊢
      clear hA hy hp
      simp only [Act.eval] at v1
      go_simp
      exact hK _ _ ⟨trivial, fun _ => rfl, HJ.out.pure (by decide) (by decide)⟩
    · have e1 : y 2 = .pointer (some ⟨w.heap.size, 0, none⟩) := hy.out 2 (by decide)
      intro K Q hK
      clear hcl hL
      have v1 := (eval_frame 28 y [] (t := 2) (by decide)).trans e1
      obtain ⟨A, hA⟩ : ∃ A, (⟨frameOf 28 y, []⟩ : Act) = A := ⟨_, rfl⟩
      rw [hA] at v1 hK ⊢
      clear hA hy hp
      simp only [Act.eval] at v1
      go_simp
      exact hK _ _ ⟨trivial, fun _ => rfl, HJ.out.pure (by decide) (by decide)⟩
    · have e1 : y 14 = .pointer (some ⟨w.heap.size, 0, none⟩) := (hp.out 9 (by decide)).2 (by decide)
      have e2 : y 13 = .int .i64 (b : Int) := (hp.out 8 (by decide)).2 (by decide)
      intro K Q hK
      clear hcl hL
      have v1 := (eval_frame 28 y [] (t := 14) (by decide)).trans e1
      have v2 := (eval_frame 28 y [] (t := 13) (by decide)).trans e2
      obtain ⟨A, hA⟩ : ∃ A, (⟨frameOf 28 y, []⟩ : Act) = A := ⟨_, rfl⟩
      rw [hA] at v1 v2 hK ⊢
      clear hA hy hp
      simp only [Act.eval] at v1 v2
      go_simp
      first | exact hK _ _ ⟨trivial, fun _ => rfl, HJ.out.pure (by decide) (by decide)⟩ | (rw [if_pos (by omega)]; exact hK _ _ ⟨trivial, fun _ => rfl, HJ.out.pure (by decide) (by decide)⟩) | (rw [if_pos ⟨by omega, by omega⟩]; exact hK _ _ ⟨trivial, fun _ => rfl, HJ.out.pure (by decide) (by decide)⟩)
    · have e1 : y 15 = .pointer (some ⟨w.heap.size, b, none⟩) := (hp.out 10 (by decide)).2 (by decide)
      have q0 : w9.cell? ⟨w.heap.size, b, none⟩ = some (.int .u64 (s.R.getD b 0)) := (Blk.cell (HP.out.fx _ (List.mem_iff_getElem?.2 ⟨0, rfl⟩)) _).trans (St.creg HL.out (by omega))
      intro K Q hK
      clear hcl hL
      have v1 := (eval_frame 28 y [] (t := 15) (by decide)).trans e1
      obtain ⟨A, hA⟩ : ∃ A, (⟨frameOf 28 y, []⟩ : Act) = A := ⟨_, rfl⟩
      rw [hA] at v1 hK ⊢
      clear hA hy hp
      simp only [Act.eval] at v1
      go_simp
      exact hK _ _ ⟨trivial, fun _ => rfl, HJ.out.pure (by decide) (by decide)⟩
    · have e1 : y 6 = .int .i64 op := (hp.out 1 (by decide)).2 (by decide)
      have e2 : y 11 = .int .u64 (s.R.getD a 0) := (hp.out 6 (by decide)).2 (by decide)
      have e3 : y 16 = .int .u64 (s.R.getD b 0) := (hp.out 11 (by decide)).2 (by decide)
      intro K Q hK
      clear hcl hL
      have v1 := (eval_frame 28 y [] (t := 6) (by decide)).trans e1
      have v2 := (eval_frame 28 y [] (t := 11) (by decide)).trans e2
      have v3 := (eval_frame 28 y [] (t := 16) (by decide)).trans e3
      obtain ⟨A, hA⟩ : ∃ A, (⟨frameOf 28 y, []⟩ : Act) = A := ⟨_, rfl⟩
      rw [hA] at v1 v2 v3 hK ⊢
      clear hA hy hp
      simp only [Act.eval] at v1 v2 v3
      go_simp
      refine (HHO.out _).mono ?_
      rintro r w5 ⟨rfl, hb5⟩
      exact hK _ _ ⟨trivial, fun _ => rfl, JA.step fun L' y' h1 h2 h3 h4 => PR.later (S := []) HP.out hb5 rfl (by decide) h1⟩
    · have e1 : y 17 = .bool H := (hp.out 12 (by decide)).2 (by decide)
      intro K Q hK
      clear hcl hL
      have v1 := (eval_frame 28 y [] (t := 17) (by decide)).trans e1
      obtain ⟨A, hA⟩ : ∃ A, (⟨frameOf 28 y, []⟩ : Act) = A := ⟨_, rfl⟩
      rw [hA] at v1 hK ⊢
      clear hA hy hp
      simp only [Act.eval] at v1
      go_simp
      exact hK _ _ ⟨trivial, fun _ => rfl, HJ.out.pure (by decide) (by decide)⟩
end Go.Proofs.YtkhfmgifpppcmaaDoor
namespace Go.Proofs.YtkhfmgifpppcmaaDoor
open Go.RowKit
set_option linter.unusedVariables false
set_option linter.unusedSimpArgs false

set_option maxRecDepth 100000 in
theorem frCJump (y : Nat → Value) : frameOf 44 y = #[y 0, y 1, y 2, y 3, y 4, y 5, y 6, y 7, y 8, y 9, y 10, y 11, y 12, y 13, y 14, y 15, y 16, y 17, y 18, y 19, y 20, y 21, y 22, y 23, y 24, y 25, y 26, y 27, y 28, y 29, y 30, y 31, y 32, y 33, y 34, y 35, y 36, y 37, y 38, y 39, y 40, y 41, y 42, y 43] := rfl
/-- Where a jump leads. -/
def jmpS (s : St) (op : Int) (a b : Nat) (m : Int) : St := (if op = 35 ∨ op = 37 then s.setR a (IntKind.u64.wrap (s.pc + 8)) else s).setP (if op = 36 ∨ op = 37 then s.R.getD b 0 else IntKind.u64.wrap (s.pc + IntKind.u64.wrap m))
set_option maxHeartbeats 6400000 in
set_option maxRecDepth 100000 in
theorem jump_ok (s : St) (hs : s.Ok) (op m : Int) (hop : op = 34 ∨ op = 35 ∨ op = 36 ∨ op = 37) (a b c : Nat) (ha : a < 32) (hb : b < 32) (w : World) :
    Calls Tryd.prog 24 #[.agg s.C, .agg #[.int .i64 op, .int .i64 (a : Int), .int .i64 (b : Int), .int .i64 (c : Int), .int .i32 m]] w fun r w' => r = .returned (.agg (jmpS s op a b m).C) ∧ Below w.heap.size w w' := by
  have HL := Lib.hid hs.len
  have HOP := Lib.hid hop
  obtain ⟨S2, hS2⟩ : ∃ S2, jmpS s op a b m = S2 := ⟨_, rfl⟩
  rw [hS2]
  have HS2 := Lib.hid hS2
  clear hS2 hs hop
  have HNU : Hid (∀ wx, Calls Tryd.prog 25 #[.agg #[.int .i64 op, .int .i64 (a : Int), .int .i64 (b : Int), .int .i64 (c : Int), .int .i32 m]] wx fun r w' => r = .returned (.int .u64 (IntKind.u64.wrap m)) ∧ Below wx.heap.size wx w') := Lib.hid (fun wx => number_i ⟨op, a, b, c, m⟩ wx)
  obtain ⟨w1, hw1⟩ : ∃ w1, ((w.alloc (.cells s.C 26)).alloc (.cells #[.int .i64 op, .int .i64 (a : Int), .int .i64 (b : Int), .int .i64 (c : Int), .int .i32 m] 63)).alloc (.cells St.zero.C 26) = w1 := ⟨_, rfl⟩
  have hz1 : w1.heap.size = w.heap.size + 3 := by rw [← hw1]; simp
  have B0 : Hid (Blk w1 w.heap.size s.C 26) := Lib.hid (by
    rw [← hw1]
    have := Blk.new w s.C 26
    try simp only [World.size_alloc] at this
    exact ((this.alloc _).alloc _))
  have B1 : Hid (Blk w1 (w.heap.size + 1) #[.int .i64 op, .int .i64 (a : Int), .int .i64 (b : Int), .int .i64 (c : Int), .int .i32 m] 63) := Lib.hid (by
    rw [← hw1]
    have := Blk.new (w.alloc (.cells s.C 26)) #[.int .i64 op, .int .i64 (a : Int), .int .i64 (b : Int), .int .i64 (c : Int), .int .i32 m] 63
    try simp only [World.size_alloc] at this
    exact (this.alloc _))
  have B2 : Hid (Blk w1 (w.heap.size + 2) St.zero.C 26) := Lib.hid (by
    rw [← hw1]
    have := Blk.new ((w.alloc (.cells s.C 26)).alloc (.cells #[.int .i64 op, .int .i64 (a : Int), .int .i64 (b : Int), .int .i64 (c : Int), .int .i32 m] 63)) St.zero.C 26
    try simp only [World.size_alloc] at this
    exact this)
  have HB : Hid (Below w.heap.size w w1) := Lib.hid (by rw [← hw1]; exact ((((Below.refl _ _).alloc (by exact Nat.le_refl _) _).alloc (by simp only [World.size_alloc]; omega) _).alloc (by simp only [World.size_alloc]; omega) _))
  go_enter Tryd.func24, Tryd.ntmps24
  go_wp2_with (first | (refine wpList_alloc_eq rfl 26 rfl St.zero.C zs_info ?_))
  try simp only [List.set_cons_succ, List.set_cons_zero, World.size_alloc]
  try rw [hw1]
  clear hw1 hz1
  refine wp_region_a (by kernel_rfl) 44 rfl [7, 8, 9, 10, 11, 12, 13, 14, 5, 6] (fun _ _ => True) (factsOf [Is (.pointer (some ⟨w.heap.size, 32, none⟩)), Is (.int .u64 s.pc), Is (.agg #[.int .i64 op, .int .i64 (a : Int), .int .i64 (b : Int), .int .i64 (c : Int), .int .i32 m]), Is (.int .u64 (IntKind.u64.wrap m)), Is (.int .u64 (IntKind.u64.wrap (s.pc + IntKind.u64.wrap m))), Is (.pointer (some ⟨w.heap.size, 32, none⟩)), Is (.int .u64 s.pc), Is (.int .u64 (IntKind.u64.wrap (s.pc + 8))), Is (.int .u64 (IntKind.u64.wrap (s.pc + IntKind.u64.wrap m))), Is (.int .u64 (IntKind.u64.wrap (s.pc + 8)))]) (JA [] [] (fun L _ w9 => PR (w.heap.size) w [(w.heap.size, s.C, 26), ((w.heap.size + 1), #[.int .i64 op, .int .i64 (a : Int), .int .i64 (b : Int), .int .i64 (c : Int), .int .i32 m], 63), ((w.heap.size + 2), St.zero.C, 26)] [] L w9)) ?mono1 ?hj1 (by kernel_rfl) ?start1 ?steps1 ?fin1
  case mono1 => exact factsOf_monoR (monoR_cons (Is.monoR _ _) (monoR_cons (Is.monoR _ _) (monoR_cons (Is.monoR _ _) (monoR_cons (Is.monoR _ _) (monoR_cons (Is.monoR _ _) (monoR_cons (Is.monoR _ _) (monoR_cons (Is.monoR _ _) (monoR_cons (Is.monoR _ _) (monoR_cons (Is.monoR _ _) (monoR_cons (Is.monoR _ _) (monoR_nil _)))))))))))
  case hj1 => exact JA.congr (by decide)
  case start1 =>
    refine JA.of fun L' y' h1 h2 => ?_
    exact ⟨(Nat.le_refl _), Below.drew (HB.out), (List.forall_mem_cons.2 ⟨Blk.drew (B0.out), (List.forall_mem_cons.2 ⟨Blk.drew (B1.out), (List.forall_mem_cons.2 ⟨Blk.drew (B2.out), (fun _ h => by cases h)⟩)⟩)⟩), (fun _ h => by cases h)⟩
  case fin1 =>
    intro y L w9 hJ hall hF hT
    have HP := Lib.hid hJ.out
    have f5 : y 5 = .int .u64 (IntKind.u64.wrap (s.pc + IntKind.u64.wrap m)) := hF 8 (by decide) (by decide)
    have f6 : y 6 = .int .u64 (IntKind.u64.wrap (s.pc + 8)) := hF 9 (by decide) (by decide)
    clear hJ hF hall
    rw [frCJump]
    simp only [f5, f6, hT 0 (by decide), hT 1 (by decide), hT 2 (by decide), hT 3 (by decide), hT 4 (by decide), hT 15 (by decide), hT 16 (by decide), hT 17 (by decide), hT 18 (by decide), hT 19 (by decide), hT 20 (by decide), hT 21 (by decide), hT 22 (by decide), hT 23 (by decide), hT 24 (by decide), hT 25 (by decide), hT 26 (by decide), hT 27 (by decide), hT 28 (by decide), hT 29 (by decide), hT 30 (by decide), hT 31 (by decide), hT 32 (by decide), hT 33 (by decide), hT 34 (by decide), hT 35 (by decide), hT 36 (by decide), hT 37 (by decide), hT 38 (by decide), hT 39 (by decide), hT 40 (by decide), hT 41 (by decide), hT 42 (by decide), hT 43 (by decide), List.getD_cons_succ, List.getD_cons_zero]
    clear hT f5 f6
    have D0 : Hid (Blk w9 w.heap.size s.C 26) := Lib.hid (HP.out.fx _ (List.mem_iff_getElem?.2 ⟨0, rfl⟩))
    have D1 : Hid (Blk w9 (w.heap.size + 1) #[.int .i64 op, .int .i64 (a : Int), .int .i64 (b : Int), .int .i64 (c : Int), .int .i32 m] 63) := Lib.hid (HP.out.fx _ (List.mem_iff_getElem?.2 ⟨1, rfl⟩))
    have D2 : Hid (Blk w9 (w.heap.size + 2) St.zero.C 26) := Lib.hid (HP.out.fx _ (List.mem_iff_getElem?.2 ⟨2, rfl⟩))
    have HBX := Lib.hid HP.out.bel
    clear HP HB B0 B1 B2 HNU
    rcases HOP.out with rfl | rfl | rfl | rfl
    · have i0 : w9.cell? ⟨(w.heap.size + 1), 0, none⟩ = some (.int .i64 34) := D1.out.cell 0
      obtain ⟨w6, hw6⟩ : ∃ w6, w9 = w6 := ⟨_, rfl⟩
      have hb6 : Below w.heap.size w w6 := by rw [← hw6]; exact HBX.out
      have hp0 := D0.out
      rw [hw6] at hp0
      obtain ⟨s2, hs2⟩ : ∃ s2, s = s2 := ⟨_, rfl⟩
      have hl2 : s2.R.length = 32 := by rw [← hs2]; exact HL.out
      rw [hs2] at hp0
      have g2 := D2.out
      rw [hw6] at g2
      have c32 := (hp0.cell 32).trans (St.cpc hl2)
      have f32 := hp0.frozen 32
      have hp1 := hp0.put 32 (.int .u64 (IntKind.u64.wrap (s.pc + IntKind.u64.wrap m)))
      rw [St.set_pc hl2] at hp1
      have g3 : Blk (w6.setCell ⟨w.heap.size, 32, none⟩ (.int .u64 (IntKind.u64.wrap (s.pc + IntKind.u64.wrap m)))) ((w.heap.size + 2)) St.zero.C 26 := blk_same g2 (Below.heap_setCell _ _ _ _ (by show w.heap.size + 2 ≠ w.heap.size; omega))
      have hq : s2.setP (IntKind.u64.wrap (s.pc + IntKind.u64.wrap m)) = S2 := by rw [← HS2.out, ← hs2]; rfl
      rw [hq] at hp1
      have hl3 : S2.R.length = 32 := by rw [← hq]; exact hl2
      have HSS := Lib.hid (st_size hl3)
      have HZZ := Lib.hid (zs_size hl3)
      have HOO := Lib.hid S2.one
      obtain ⟨CC, hCC⟩ : ∃ C, S2.C = C := ⟨_, rfl⟩
      rw [hCC] at HSS HZZ HOO hp1
      have G0 := Lib.hid hp1
      have G3 := Lib.hid g3
      have HCC := Lib.hid hCC
      have HB6 := Lib.hid hb6
      clear hp0 hp1 g2 g3 hq hCC hl2 hl3 hb6 HS2 D0 D1 D2 hs2 HBX
      subst hw6
      go_wp2_with (first | (refine wpList_load_row rfl 26 _ rfl (w.heap.size) rfl _ (CC) (0, 0) _ G0.out Tryd.underlying26 rfl HSS.out ?_) | (refine wpList_store_row rfl 26 _ _ rfl ((w.heap.size + 2)) (CC) rfl rfl _ _ G3.out HSS.out HZZ.out HOO.out ?_))
      have M2 := G3.out.row (C := CC)
      refine bodyPost_ret (v := .agg (CC)) (results_cell_row rfl _ _ ((w.heap.size + 2)) _ (CC) (0, 0) _ rfl M2 Tryd.underlying26 rfl HSS.out) rfl ?_
      exact ⟨by rw [HCC.out], below_row (HB6.out.setCell (p := ⟨w.heap.size, 32, none⟩) (Nat.le_refl _) _) (by omega) _⟩
    · have i0 : w9.cell? ⟨(w.heap.size + 1), 0, none⟩ = some (.int .i64 35) := D1.out.cell 0
      have i1 : w9.cell? ⟨(w.heap.size + 1), 1, none⟩ = some (.int .i64 (a : Int)) := D1.out.cell 1
      have c0 := (D0.out.cell a).trans (St.creg HL.out ha)
      have f0 := D0.out.frozen a
      have hp0 := D0.out.put a (.int .u64 (IntKind.u64.wrap (s.pc + 8)))
      rw [St.set_reg HL.out ha] at hp0
      obtain ⟨w6, hw6⟩ : ∃ w6, w9.setCell ⟨w.heap.size, a, none⟩ (.int .u64 (IntKind.u64.wrap (s.pc + 8))) = w6 := ⟨_, rfl⟩
      have hb6 : Below w.heap.size w w6 := by rw [← hw6]; exact HBX.out.setCell (p := ⟨w.heap.size, a, none⟩) (Nat.le_refl _) _
      have hsame : ∀ k, k ≠ w.heap.size → w6.heap[k]? = w9.heap[k]? := fun k hk => by rw [← hw6]; exact Below.heap_setCell _ _ _ _ hk
      rw [hw6] at hp0
      obtain ⟨s2, hs2⟩ : ∃ s2, s.setR a (IntKind.u64.wrap (s.pc + 8)) = s2 := ⟨_, rfl⟩
      have hl2 : s2.R.length = 32 := by rw [← hs2]; show (s.R.set _ _).length = 32; rw [List.length_set]; exact HL.out
      rw [hs2] at hp0
      have g2 := blk_same D2.out (hsame ((w.heap.size + 2)) (by omega))
      have c32 := (hp0.cell 32).trans (St.cpc hl2)
      have f32 := hp0.frozen 32
      have hp1 := hp0.put 32 (.int .u64 (IntKind.u64.wrap (s.pc + IntKind.u64.wrap m)))
      rw [St.set_pc hl2] at hp1
      have g3 : Blk (w6.setCell ⟨w.heap.size, 32, none⟩ (.int .u64 (IntKind.u64.wrap (s.pc + IntKind.u64.wrap m)))) ((w.heap.size + 2)) St.zero.C 26 := blk_same g2 (Below.heap_setCell _ _ _ _ (by show w.heap.size + 2 ≠ w.heap.size; omega))
      have hq : s2.setP (IntKind.u64.wrap (s.pc + IntKind.u64.wrap m)) = S2 := by rw [← HS2.out, ← hs2]; rfl
      rw [hq] at hp1
      have hl3 : S2.R.length = 32 := by rw [← hq]; exact hl2
      have HSS := Lib.hid (st_size hl3)
      have HZZ := Lib.hid (zs_size hl3)
      have HOO := Lib.hid S2.one
      obtain ⟨CC, hCC⟩ : ∃ C, S2.C = C := ⟨_, rfl⟩
      rw [hCC] at HSS HZZ HOO hp1
      have G0 := Lib.hid hp1
      have G3 := Lib.hid g3
      have HCC := Lib.hid hCC
      have HB6 := Lib.hid hb6
      clear hp0 hp1 g2 g3 hq hCC hl2 hl3 hb6 HS2 D0 D1 D2 hs2 HBX hsame
      go_wp2_with (first | (refine wpList_load_row rfl 26 _ rfl (w.heap.size) rfl _ (CC) (0, 0) _ G0.out Tryd.underlying26 rfl HSS.out ?_) | (refine wpList_store_row rfl 26 _ _ rfl ((w.heap.size + 2)) (CC) rfl rfl _ _ G3.out HSS.out HZZ.out HOO.out ?_))
      have M2 := G3.out.row (C := CC)
      refine bodyPost_ret (v := .agg (CC)) (results_cell_row rfl _ _ ((w.heap.size + 2)) _ (CC) (0, 0) _ rfl M2 Tryd.underlying26 rfl HSS.out) rfl ?_
      exact ⟨by rw [HCC.out], below_row (HB6.out.setCell (p := ⟨w.heap.size, 32, none⟩) (Nat.le_refl _) _) (by omega) _⟩
    · have i0 : w9.cell? ⟨(w.heap.size + 1), 0, none⟩ = some (.int .i64 36) := D1.out.cell 0
      have i2 : w9.cell? ⟨(w.heap.size + 1), 2, none⟩ = some (.int .i64 (b : Int)) := D1.out.cell 2
      have cb := (D0.out.cell b).trans (St.creg HL.out hb)
      obtain ⟨rb, hrb⟩ : ∃ x, s.R.getD b 0 = x := ⟨_, rfl⟩
      rw [hrb] at cb
      obtain ⟨w6, hw6⟩ : ∃ w6, w9 = w6 := ⟨_, rfl⟩
      have hb6 : Below w.heap.size w w6 := by rw [← hw6]; exact HBX.out
      have hp0 := D0.out
      rw [hw6] at hp0
      obtain ⟨s2, hs2⟩ : ∃ s2, s = s2 := ⟨_, rfl⟩
      have hl2 : s2.R.length = 32 := by rw [← hs2]; exact HL.out
      rw [hs2] at hp0
      have g2 := D2.out
      rw [hw6] at g2
      have c32 := (hp0.cell 32).trans (St.cpc hl2)
      have f32 := hp0.frozen 32
      have hp1 := hp0.put 32 (.int .u64 rb)
      rw [St.set_pc hl2] at hp1
      have g3 : Blk (w6.setCell ⟨w.heap.size, 32, none⟩ (.int .u64 rb)) ((w.heap.size + 2)) St.zero.C 26 := blk_same g2 (Below.heap_setCell _ _ _ _ (by show w.heap.size + 2 ≠ w.heap.size; omega))
      have hq : s2.setP rb = S2 := by rw [← HS2.out, ← hs2, ← hrb]; rfl
      rw [hq] at hp1
      have hl3 : S2.R.length = 32 := by rw [← hq]; exact hl2
      have HSS := Lib.hid (st_size hl3)
      have HZZ := Lib.hid (zs_size hl3)
      have HOO := Lib.hid S2.one
      obtain ⟨CC, hCC⟩ : ∃ C, S2.C = C := ⟨_, rfl⟩
      rw [hCC] at HSS HZZ HOO hp1
      have G0 := Lib.hid hp1
      have G3 := Lib.hid g3
      have HCC := Lib.hid hCC
      have HB6 := Lib.hid hb6
      clear hp0 hp1 g2 g3 hq hCC hl2 hl3 hb6 HS2 D0 D1 D2 hs2 HBX hrb
      subst hw6
      go_wp2_with (first | (refine wpList_load_row rfl 26 _ rfl (w.heap.size) rfl _ (CC) (0, 0) _ G0.out Tryd.underlying26 rfl HSS.out ?_) | (refine wpList_store_row rfl 26 _ _ rfl ((w.heap.size + 2)) (CC) rfl rfl _ _ G3.out HSS.out HZZ.out HOO.out ?_))
      have M2 := G3.out.row (C := CC)
      refine bodyPost_ret (v := .agg (CC)) (results_cell_row rfl _ _ ((w.heap.size + 2)) _ (CC) (0, 0) _ rfl M2 Tryd.underlying26 rfl HSS.out) rfl ?_
      exact ⟨by rw [HCC.out], below_row (HB6.out.setCell (p := ⟨w.heap.size, 32, none⟩) (Nat.le_refl _) _) (by omega) _⟩
    · have i0 : w9.cell? ⟨(w.heap.size + 1), 0, none⟩ = some (.int .i64 37) := D1.out.cell 0
      have i2 : w9.cell? ⟨(w.heap.size + 1), 2, none⟩ = some (.int .i64 (b : Int)) := D1.out.cell 2
      have cb := (D0.out.cell b).trans (St.creg HL.out hb)
      obtain ⟨rb, hrb⟩ : ∃ x, s.R.getD b 0 = x := ⟨_, rfl⟩
      rw [hrb] at cb
      have i1 : w9.cell? ⟨(w.heap.size + 1), 1, none⟩ = some (.int .i64 (a : Int)) := D1.out.cell 1
      have c0 := (D0.out.cell a).trans (St.creg HL.out ha)
      have f0 := D0.out.frozen a
      have hp0 := D0.out.put a (.int .u64 (IntKind.u64.wrap (s.pc + 8)))
      rw [St.set_reg HL.out ha] at hp0
      obtain ⟨w6, hw6⟩ : ∃ w6, w9.setCell ⟨w.heap.size, a, none⟩ (.int .u64 (IntKind.u64.wrap (s.pc + 8))) = w6 := ⟨_, rfl⟩
      have hb6 : Below w.heap.size w w6 := by rw [← hw6]; exact HBX.out.setCell (p := ⟨w.heap.size, a, none⟩) (Nat.le_refl _) _
      have hsame : ∀ k, k ≠ w.heap.size → w6.heap[k]? = w9.heap[k]? := fun k hk => by rw [← hw6]; exact Below.heap_setCell _ _ _ _ hk
      rw [hw6] at hp0
      obtain ⟨s2, hs2⟩ : ∃ s2, s.setR a (IntKind.u64.wrap (s.pc + 8)) = s2 := ⟨_, rfl⟩
      have hl2 : s2.R.length = 32 := by rw [← hs2]; show (s.R.set _ _).length = 32; rw [List.length_set]; exact HL.out
      rw [hs2] at hp0
      have g2 := blk_same D2.out (hsame ((w.heap.size + 2)) (by omega))
      have c32 := (hp0.cell 32).trans (St.cpc hl2)
      have f32 := hp0.frozen 32
      have hp1 := hp0.put 32 (.int .u64 rb)
      rw [St.set_pc hl2] at hp1
      have g3 : Blk (w6.setCell ⟨w.heap.size, 32, none⟩ (.int .u64 rb)) ((w.heap.size + 2)) St.zero.C 26 := blk_same g2 (Below.heap_setCell _ _ _ _ (by show w.heap.size + 2 ≠ w.heap.size; omega))
      have hq : s2.setP rb = S2 := by rw [← HS2.out, ← hs2, ← hrb]; rfl
      rw [hq] at hp1
      have hl3 : S2.R.length = 32 := by rw [← hq]; exact hl2
      have HSS := Lib.hid (st_size hl3)
      have HZZ := Lib.hid (zs_size hl3)
      have HOO := Lib.hid S2.one
      obtain ⟨CC, hCC⟩ : ∃ C, S2.C = C := ⟨_, rfl⟩
      rw [hCC] at HSS HZZ HOO hp1
      have G0 := Lib.hid hp1
      have G3 := Lib.hid g3
      have HCC := Lib.hid hCC
      have HB6 := Lib.hid hb6
      clear hp0 hp1 g2 g3 hq hCC hl2 hl3 hb6 HS2 D0 D1 D2 hs2 HBX hrb hsame
      go_wp2_with (first | (refine wpList_load_row rfl 26 _ rfl (w.heap.size) rfl _ (CC) (0, 0) _ G0.out Tryd.underlying26 rfl HSS.out ?_) | (refine wpList_store_row rfl 26 _ _ rfl ((w.heap.size + 2)) (CC) rfl rfl _ _ G3.out HSS.out HZZ.out HOO.out ?_))
      have M2 := G3.out.row (C := CC)
      refine bodyPost_ret (v := .agg (CC)) (results_cell_row rfl _ _ ((w.heap.size + 2)) _ (CC) (0, 0) _ rfl M2 Tryd.underlying26 rfl HSS.out) rfl ?_
      exact ⟨by rw [HCC.out], below_row (HB6.out.setCell (p := ⟨w.heap.size, 32, none⟩) (Nat.le_refl _) _) (by omega) _⟩
  case steps1 =>
    refine ⟨?_, ?_, ?_, ?_, ?_, ?_, ?_, ?_, ?_, ?_, trivial⟩
    all_goals intro L y w9 hJ hL hy0 hp0 hcl hun
    all_goals have hy := Lib.hid hy0
    all_goals have hp := Lib.hid hp0
    all_goals have HJ := Lib.hid hJ
    all_goals have HP := Lib.hid hJ.out
    all_goals have hU := Lib.hid hun
    all_goals clear hy0 hp0 hun hJ
    · have e1 : y 2 = .pointer (some ⟨w.heap.size, 0, none⟩) := hy.out 2 (by decide)
      intro K Q hK
      clear hcl hL
      have v1 := (eval_frame 44 y [] (t := 2) (by decide)).trans e1
      obtain ⟨A, hA⟩ : ∃ A, (⟨frameOf 44 y, []⟩ : Act) = A := ⟨_, rfl⟩
      rw [hA] at v1 hK ⊢
      clear hA hy hp
      simp only [Act.eval] at v1
      go_simp
      exact hK _ _ ⟨trivial, fun _ => rfl, HJ.out.pure (by decide) (by decide)⟩
    · have e1 : y 7 = .pointer (some ⟨w.heap.size, 32, none⟩) := (hp.out 0 (by decide)).2 (by decide)
      have q0 : w9.cell? ⟨w.heap.size, 32, none⟩ = some (.int .u64 s.pc) := (Blk.cell (HP.out.fx _ (List.mem_iff_getElem?.2 ⟨0, rfl⟩)) _).trans (St.cpc HL.out)
      intro K Q hK
      clear hcl hL
      have v1 := (eval_frame 44 y [] (t := 7) (by decide)).trans e1
      obtain ⟨A, hA⟩ : ∃ A, (⟨frameOf 44 y, []⟩ : Act) = A := ⟨_, rfl⟩
      rw [hA] at v1 hK ⊢
      clear hA hy hp
      simp only [Act.eval] at v1
      go_simp
      exact hK _ _ ⟨trivial, fun _ => rfl, HJ.out.pure (by decide) (by decide)⟩
    · have e1 : y 3 = .pointer (some ⟨(w.heap.size + 1), 0, none⟩) := hy.out 3 (by decide)
      have q0 : w9.cell? ⟨(w.heap.size + 1), 0, none⟩ = some (.int .i64 op) := (Blk.cell (HP.out.fx _ (List.mem_iff_getElem?.2 ⟨1, rfl⟩)) 0).trans rfl
      have q1 : w9.cell? ⟨(w.heap.size + 1), 1, none⟩ = some (.int .i64 (a : Int)) := (Blk.cell (HP.out.fx _ (List.mem_iff_getElem?.2 ⟨1, rfl⟩)) 1).trans rfl
      have q2 : w9.cell? ⟨(w.heap.size + 1), 2, none⟩ = some (.int .i64 (b : Int)) := (Blk.cell (HP.out.fx _ (List.mem_iff_getElem?.2 ⟨1, rfl⟩)) 2).trans rfl
      have q3 : w9.cell? ⟨(w.heap.size + 1), 3, none⟩ = some (.int .i64 (c : Int)) := (Blk.cell (HP.out.fx _ (List.mem_iff_getElem?.2 ⟨1, rfl⟩)) 3).trans rfl
      have q4 : w9.cell? ⟨(w.heap.size + 1), 4, none⟩ = some (.int .i32 m) := (Blk.cell (HP.out.fx _ (List.mem_iff_getElem?.2 ⟨1, rfl⟩)) 4).trans rfl
      intro K Q hK
      clear hcl hL
      have v1 := (eval_frame 44 y [] (t := 3) (by decide)).trans e1
      obtain ⟨A, hA⟩ : ∃ A, (⟨frameOf 44 y, []⟩ : Act) = A := ⟨_, rfl⟩
      rw [hA] at v1 hK ⊢
      clear hA hy hp
      simp only [Act.eval] at v1
      go_simp
      exact hK _ _ ⟨trivial, fun _ => rfl, HJ.out.pure (by decide) (by decide)⟩
    · have e1 : y 9 = .agg #[.int .i64 op, .int .i64 (a : Int), .int .i64 (b : Int), .int .i64 (c : Int), .int .i32 m] := (hp.out 2 (by decide)).2 (by decide)
      intro K Q hK
      clear hcl hL
      have v1 := (eval_frame 44 y [] (t := 9) (by decide)).trans e1
      obtain ⟨A, hA⟩ : ∃ A, (⟨frameOf 44 y, []⟩ : Act) = A := ⟨_, rfl⟩
      rw [hA] at v1 hK ⊢
      clear hA hy hp
      simp only [Act.eval] at v1
      go_simp
      refine (HNU.out _).mono ?_
      rintro r w5 ⟨rfl, hb5⟩
      exact hK _ _ ⟨trivial, fun _ => rfl, JA.step fun L' y' h1 h2 h3 h4 => PR.later (S := []) HP.out hb5 rfl (by decide) h1⟩
    · have e1 : y 8 = .int .u64 s.pc := (hp.out 1 (by decide)).2 (by decide)
      have e2 : y 10 = .int .u64 (IntKind.u64.wrap m) := (hp.out 3 (by decide)).2 (by decide)
      intro K Q hK
      clear hcl hL
      have v1 := (eval_frame 44 y [] (t := 8) (by decide)).trans e1
      have v2 := (eval_frame 44 y [] (t := 10) (by decide)).trans e2
      obtain ⟨A, hA⟩ : ∃ A, (⟨frameOf 44 y, []⟩ : Act) = A := ⟨_, rfl⟩
      rw [hA] at v1 v2 hK ⊢
      clear hA hy hp
      simp only [Act.eval] at v1 v2
      go_simp
      exact hK _ _ ⟨trivial, fun _ => rfl, HJ.out.pure (by decide) (by decide)⟩
    · have e1 : y 2 = .pointer (some ⟨w.heap.size, 0, none⟩) := hy.out 2 (by decide)
      intro K Q hK
      clear hcl hL
      have v1 := (eval_frame 44 y [] (t := 2) (by decide)).trans e1
      obtain ⟨A, hA⟩ : ∃ A, (⟨frameOf 44 y, []⟩ : Act) = A := ⟨_, rfl⟩
      rw [hA] at v1 hK ⊢
      clear hA hy hp
      simp only [Act.eval] at v1
      go_simp
      exact hK _ _ ⟨trivial, fun _ => rfl, HJ.out.pure (by decide) (by decide)⟩
    · have e1 : y 12 = .pointer (some ⟨w.heap.size, 32, none⟩) := (hp.out 5 (by decide)).2 (by decide)
      have q0 : w9.cell? ⟨w.heap.size, 32, none⟩ = some (.int .u64 s.pc) := (Blk.cell (HP.out.fx _ (List.mem_iff_getElem?.2 ⟨0, rfl⟩)) _).trans (St.cpc HL.out)
      intro K Q hK
      clear hcl hL
      have v1 := (eval_frame 44 y [] (t := 12) (by decide)).trans e1
      obtain ⟨A, hA⟩ : ∃ A, (⟨frameOf 44 y, []⟩ : Act) = A := ⟨_, rfl⟩
      rw [hA] at v1 hK ⊢
      clear hA hy hp
      simp only [Act.eval] at v1
      go_simp
      exact hK _ _ ⟨trivial, fun _ => rfl, HJ.out.pure (by decide) (by decide)⟩
    · have e1 : y 13 = .int .u64 s.pc := (hp.out 6 (by decide)).2 (by decide)
      intro K Q hK
      clear hcl hL
      have v1 := (eval_frame 44 y [] (t := 13) (by decide)).trans e1
      obtain ⟨A, hA⟩ : ∃ A, (⟨frameOf 44 y, []⟩ : Act) = A := ⟨_, rfl⟩
      rw [hA] at v1 hK ⊢
      clear hA hy hp
      simp only [Act.eval] at v1
      go_simp
      exact hK _ _ ⟨trivial, fun _ => rfl, HJ.out.pure (by decide) (by decide)⟩
    · have e1 : y 11 = .int .u64 (IntKind.u64.wrap (s.pc + IntKind.u64.wrap m)) := (hp.out 4 (by decide)).2 (by decide)
      intro K Q hK
      clear hcl hL
      have v1 := (eval_frame 44 y [] (t := 11) (by decide)).trans e1
      obtain ⟨A, hA⟩ : ∃ A, (⟨frameOf 44 y, []⟩ : Act) = A := ⟨_, rfl⟩
      rw [hA] at v1 hK ⊢
      clear hA hy hp
      simp only [Act.eval] at v1
      go_simp
      exact hK _ _ ⟨trivial, fun _ => rfl, HJ.out.pure (by decide) (by decide)⟩
    · have e1 : y 14 = .int .u64 (IntKind.u64.wrap (s.pc + 8)) := (hp.out 7 (by decide)).2 (by decide)
      intro K Q hK
      clear hcl hL
      have v1 := (eval_frame 44 y [] (t := 14) (by decide)).trans e1
      obtain ⟨A, hA⟩ : ∃ A, (⟨frameOf 44 y, []⟩ : Act) = A := ⟨_, rfl⟩
      rw [hA] at v1 hK ⊢
      clear hA hy hp
      simp only [Act.eval] at v1
      go_simp
      exact hK _ _ ⟨trivial, fun _ => rfl, HJ.out.pure (by decide) (by decide)⟩
end Go.Proofs.YtkhfmgifpppcmaaDoor
