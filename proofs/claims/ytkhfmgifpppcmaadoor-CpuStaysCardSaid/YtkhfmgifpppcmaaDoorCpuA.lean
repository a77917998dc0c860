/-
  What is proved here: Step of package cpu where nothing is fetched. · the awake of the laws of layer 14. · small words for CpuStays: a move ahead of a build; '!=' of a state and itself behind a guard; what stays.
  Conditions: as they say.
-/
import Derived.Test.YtkhfmgifpppcmaaDoorCpuV
import Derived.Test.YtkhfmgifpppcmaaDoorCpuM
import Derived.Test.YtkhfmgifpppcmaaDoorCpuS
import Derived.Test.YtkhfmgifpppcmaaDoorVmAw
namespace Go.Proofs.YtkhfmgifpppcmaaDoor
open Go.RowKit
set_option linter.unusedVariables false
set_option linter.unusedSimpArgs false

set_option maxRecDepth 100000 in
theorem frCStepF (y : Nat → Value) : frameOf 98 y = #[y 0, y 1, y 2, y 3, y 4, y 5, y 6, y 7, y 8, y 9, y 10, y 11, y 12, y 13, y 14, y 15, y 16, y 17, y 18, y 19, y 20, y 21, y 22, y 23, y 24, y 25, y 26, y 27, y 28, y 29, y 30, y 31, y 32, y 33, y 34, y 35, y 36, y 37, y 38, y 39, y 40, y 41, y 42, y 43, y 44, y 45, y 46, y 47, y 48, y 49, y 50, y 51, y 52, y 53, y 54, y 55, y 56, y 57, y 58, y 59, y 60, y 61, y 62, y 63, y 64, y 65, y 66, y 67, y 68, y 69, y 70, y 71, y 72, y 73, y 74, y 75, y 76, y 77, y 78, y 79, y 80, y 81, y 82, y 83, y 84, y 85, y 86, y 87, y 88, y 89, y 90, y 91, y 92, y 93, y 94, y 95, y 96, y 97] := rfl
set_option maxHeartbeats 6400000 in
set_option maxRecDepth 100000 in
theorem step_fail (s : St) (hs : s.Ok) (w : World) (mp : Value) (fw fe : Int) (he : ¬ fe = 0)
    (hf : ∀ wx, Below w.heap.size w wx → Calls Tryd.prog 17 #[mp, .int .u64 s.pc] wx fun e w' => e = .returned (.tuple #[.int .u64 fw, .int .i64 fe]) ∧ Below wx.heap.size wx w') :
    Calls Tryd.prog 9 #[.agg s.C, mp] w fun r w' => r = .returned (.tuple #[.agg s.C, .agg (outC 3 fe s.pc)]) ∧ Below w.heap.size w w' := by
  have HL := Lib.hid hs.len
  have HF := Lib.hid hf
  clear hf hs
  obtain ⟨w1, hw1⟩ : ∃ w1, ((w.alloc (.cells s.C 26)).alloc (.cells St.zero.C 26)).alloc (.cells #[.int .i64 0, .int .i64 0, .int .u64 0] 36) = w1 := ⟨_, rfl⟩
  have hz1 : w1.heap.size = w.heap.size + 3 := by rw [← hw1]; simp
  have B0 : Hid (Blk w1 w.heap.size s.C 26) := Lib.hid (by
    rw [← hw1]
    have := Blk.new w s.C 26
    try simp only [World.size_alloc] at this
    exact ((this.alloc _).alloc _))
  have B1 : Hid (Blk w1 (w.heap.size + 1) St.zero.C 26) := Lib.hid (by
    rw [← hw1]
    have := Blk.new (w.alloc (.cells s.C 26)) St.zero.C 26
    try simp only [World.size_alloc] at this
    exact (this.alloc _))
  have B2 : Hid (Blk w1 (w.heap.size + 2) #[.int .i64 0, .int .i64 0, .int .u64 0] 36) := Lib.hid (by
    rw [← hw1]
    have := Blk.new ((w.alloc (.cells s.C 26)).alloc (.cells St.zero.C 26)) #[.int .i64 0, .int .i64 0, .int .u64 0] 36
    try simp only [World.size_alloc] at this
    exact this)
  have HB : Hid (Below w.heap.size w w1) := Lib.hid (by rw [← hw1]; exact ((((Below.refl _ _).alloc (by exact Nat.le_refl _) _).alloc (by simp only [World.size_alloc]; omega) _).alloc (by simp only [World.size_alloc]; omega) _))
  have c32 := (B0.out.cell 32).trans (St.cpc HL.out)
  go_enter Tryd.func9, Tryd.ntmps9
  go_wp2_with (first | (refine wpList_alloc_eq rfl 26 rfl St.zero.C zs_info ?_) | fail)
  clear hw1 hz1
  refine (HF.out _ HB.out).mono ?_
  rintro r5 w5 ⟨rfl, hb5⟩
  have HB5 : Hid (Below w.heap.size w w5) := Lib.hid (HB.out.trans (hb5.mono HB.out.size))
  have E0 := Lib.hid (B0.out.later hb5)
  have E1 := Lib.hid (B1.out.later hb5)
  have E2 := Lib.hid (B2.out.later hb5)
  clear hb5 B0 B1 B2 HB HF c32
  have HD : Hid (Dist w.heap.size [(w.heap.size, s.C, 26)] [(5, (w.heap.size + 1), 26, St.zero.C, s.C), (6, (w.heap.size + 2), 36, #[.int .i64 0, .int .i64 0, .int .u64 0], (outC 3 fe s.pc))]) := Lib.hid ⟨by (intro r hr; simp only [List.mem_cons, List.not_mem_nil, or_false] at hr; rcases hr with rfl | rfl <;> refine ⟨(by dsimp only; omega), fun f hf => ?_⟩ <;> simp only [List.mem_cons, List.not_mem_nil, or_false] at hf <;> (rcases hf with rfl) <;> dsimp only <;> omega), by (intro r hr q hq h; simp only [List.mem_cons, List.not_mem_nil, or_false] at hr hq; rcases hr with rfl | rfl <;> rcases hq with rfl | rfl <;> first | rfl | (exfalso; simp at h; done) | (exfalso; simp at h; omega))⟩
  have HFA := Lib.hid (fun wx => fault_ok fe s.pc wx)
  go_wp2_with fail
  refine wp_region_a (by kernel_rfl) 98 rfl [18, 19, 20, 21, 22, 98, 99] (fun _ _ => True) (factsOf [Is (.agg (s.C)), Is (.int .i64 fe), Is (.pointer (some ⟨w.heap.size, 32, none⟩)), Is (.int .u64 s.pc), Is (.agg (outC 3 fe s.pc)), AnyB, AnyB]) (JA [5, 6] [] (fun L _ w9 => PR (w.heap.size) w [(w.heap.size, s.C, 26)] [(5, (w.heap.size + 1), 26, St.zero.C, s.C), (6, (w.heap.size + 2), 36, #[.int .i64 0, .int .i64 0, .int .u64 0], (outC 3 fe s.pc))] L w9)) ?mono3 ?hj3 (by kernel_rfl) ?start3 ?steps3 ?fin3
  case mono3 => exact factsOf_monoR (monoR_cons (Is.monoR _ _) (monoR_cons (Is.monoR _ _) (monoR_cons (Is.monoR _ _) (monoR_cons (Is.monoR _ _) (monoR_cons (Is.monoR _ _) (monoR_cons (AnyB.monoR _) (monoR_cons (AnyB.monoR _) (monoR_nil _))))))))
  case hj3 => exact JA.congr (by decide)
  case start3 =>
    refine JA.of fun L' y' h1 h2 => ?_
    exact ⟨(Nat.le_refl _), Below.drew (HB5.out), (List.forall_mem_cons.2 ⟨Blk.drew (E0.out), (fun _ h => by cases h)⟩), (List.forall_mem_cons.2 ⟨PR.ini (h1 5 (by decide)) (Blk.drew (E1.out)), (List.forall_mem_cons.2 ⟨PR.ini (h1 6 (by decide)) (Blk.drew (E2.out)), (fun _ h => by cases h)⟩)⟩)⟩
  case fin3 =>
    intro y L w9 hJ hall hF hT
    have HP := Lib.hid hJ.out
    have HR0 := Lib.hid (PR.done (i := 5) HP.out (List.mem_iff_getElem?.2 ⟨0, rfl⟩) (hall 5 (by decide)))
    have HR1 := Lib.hid (PR.done (i := 6) HP.out (List.mem_iff_getElem?.2 ⟨1, rfl⟩) (hall 6 (by decide)))
    clear hJ hF hall
    rw [frCStepF]
    simp only [hT 0 (by decide), hT 1 (by decide), hT 2 (by decide), hT 3 (by decide), hT 4 (by decide), hT 5 (by decide), hT 6 (by decide), hT 7 (by decide), hT 8 (by decide), hT 9 (by decide), hT 10 (by decide), hT 11 (by decide), hT 12 (by decide), hT 13 (by decide), hT 14 (by decide), hT 15 (by decide), hT 16 (by decide), hT 17 (by decide), hT 23 (by decide), hT 24 (by decide), hT 25 (by decide), hT 26 (by decide), hT 27 (by decide), hT 28 (by decide), hT 29 (by decide), hT 30 (by decide), hT 31 (by decide), hT 32 (by decide), hT 33 (by decide), hT 34 (by decide), hT 35 (by decide), hT 36 (by decide), hT 37 (by decide), hT 38 (by decide), hT 39 (by decide), hT 40 (by decide), hT 41 (by decide), hT 42 (by decide), hT 43 (by decide), hT 44 (by decide), hT 45 (by decide), hT 46 (by decide), hT 47 (by decide), hT 48 (by decide), hT 49 (by decide), hT 50 (by decide), hT 51 (by decide), hT 52 (by decide), hT 53 (by decide), hT 54 (by decide), hT 55 (by decide), hT 56 (by decide), hT 57 (by decide), hT 58 (by decide), hT 59 (by decide), hT 60 (by decide), hT 61 (by decide), hT 62 (by decide), hT 63 (by decide), hT 64 (by decide), hT 65 (by decide), hT 66 (by decide), hT 67 (by decide), hT 68 (by decide), hT 69 (by decide), hT 70 (by decide), hT 71 (by decide), hT 72 (by decide), hT 73 (by decide), hT 74 (by decide), hT 75 (by decide), hT 76 (by decide), hT 77 (by decide), hT 78 (by decide), hT 79 (by decide), hT 80 (by decide), hT 81 (by decide), hT 82 (by decide), hT 83 (by decide), hT 84 (by decide), hT 85 (by decide), hT 86 (by decide), hT 87 (by decide), hT 88 (by decide), hT 89 (by decide), hT 90 (by decide), hT 91 (by decide), hT 92 (by decide), hT 93 (by decide), hT 94 (by decide), hT 95 (by decide), hT 96 (by decide), hT 97 (by decide), List.getD_cons_succ, List.getD_cons_zero]
    clear hT 
    go_wp2
    refine bodyPost_ret (v := .tuple #[.agg (s.C), .agg (outC 3 fe s.pc)]) (results_two rfl _ _ ((w.heap.size + 1)) ((w.heap.size + 2)) _ _ (s.C) (outC 3 fe s.pc) (0, 0) (0, 0) _ _ rfl rfl HR0.out HR1.out Tryd.underlying26 rfl (st_size HL.out) Tryd.underlying36 rfl (by kernel_rfl)) rfl ?_
    exact ⟨rfl, HP.out.bel⟩
  case steps3 =>
    refine ⟨?_, ?_, ?_, ?_, ?_, ?_, ?_, trivial⟩
    all_goals intro L y w9 hJ hL hy0 hp0 hcl hun
    all_goals have hy := Lib.hid hy0
    all_goals have hp := Lib.hid hp0
    all_goals have HJ := Lib.hid hJ
    all_goals have HP := Lib.hid hJ.out
    all_goals have hU := Lib.hid hun
    all_goals clear hy0 hp0 hun hJ
    · have e1 : y 2 = .pointer (some ⟨w.heap.size, 0, none⟩) := hy.out 2 (by decide)
      intro K Q hK
      clear hcl hL
      have v1 := (eval_frame 98 y [] (t := 2) (by decide)).trans e1
      obtain ⟨A, hA⟩ : ∃ A, (⟨frameOf 98 y, []⟩ : Act) = A := ⟨_, rfl⟩
      rw [hA] at v1 hK ⊢
      clear hA hy hp
      refine wp_load_row 26 (.tmp 2) rfl (w.heap.size) v1 _ _ (0, 0) _ (HP.out.fx _ (List.mem_iff_getElem?.2 ⟨0, rfl⟩)) Tryd.underlying26 rfl (st_size HL.out) ?_
      exact hK _ _ ⟨trivial, fun _ => rfl, HJ.out.pure (by decide) (by decide)⟩
    · have e1 : y 7 = .int .i64 fe := hy.out 7 (by decide)
      intro K Q hK
      clear hcl hL
      have v1 := (eval_frame 98 y [] (t := 7) (by decide)).trans e1
      obtain ⟨A, hA⟩ : ∃ A, (⟨frameOf 98 y, []⟩ : Act) = A := ⟨_, rfl⟩
      rw [hA] at v1 hK ⊢
      clear hA hy hp
      simp only [Act.eval] at v1
      go_simp
      exact hK _ _ ⟨trivial, fun _ => rfl, HJ.out.pure (by decide) (by decide)⟩
    · have e1 : y 2 = .pointer (some ⟨w.heap.size, 0, none⟩) := hy.out 2 (by decide)
      intro K Q hK
      clear hcl hL
      have v1 := (eval_frame 98 y [] (t := 2) (by decide)).trans e1
      obtain ⟨A, hA⟩ : ∃ A, (⟨frameOf 98 y, []⟩ : Act) = A := ⟨_, rfl⟩
      rw [hA] at v1 hK ⊢
      clear hA hy hp
      simp only [Act.eval] at v1
      go_simp
      exact hK _ _ ⟨trivial, fun _ => rfl, HJ.out.pure (by decide) (by decide)⟩
    · have e1 : y 20 = .pointer (some ⟨w.heap.size, 32, none⟩) := (hp.out 2 (by decide)).2 (by decide)
      have q0 : w9.cell? ⟨w.heap.size, 32, none⟩ = some (.int .u64 s.pc) := (Blk.cell (HP.out.fx _ (List.mem_iff_getElem?.2 ⟨0, rfl⟩)) _).trans (St.cpc HL.out)
      intro K Q hK
      clear hcl hL
      have v1 := (eval_frame 98 y [] (t := 20) (by decide)).trans e1
      obtain ⟨A, hA⟩ : ∃ A, (⟨frameOf 98 y, []⟩ : Act) = A := ⟨_, rfl⟩
      rw [hA] at v1 hK ⊢
      clear hA hy hp
      simp only [Act.eval] at v1
      go_simp
      exact hK _ _ ⟨trivial, fun _ => rfl, HJ.out.pure (by decide) (by decide)⟩
    · have e1 : y 19 = .int .i64 fe := (hp.out 1 (by decide)).2 (by decide)
      have e2 : y 21 = .int .u64 s.pc := (hp.out 3 (by decide)).2 (by decide)
      intro K Q hK
      clear hcl hL
      have v1 := (eval_frame 98 y [] (t := 19) (by decide)).trans e1
      have v2 := (eval_frame 98 y [] (t := 21) (by decide)).trans e2
      obtain ⟨A, hA⟩ : ∃ A, (⟨frameOf 98 y, []⟩ : Act) = A := ⟨_, rfl⟩
      rw [hA] at v1 v2 hK ⊢
      clear hA hy hp
      simp only [Act.eval] at v1 v2
      go_simp
      refine (HFA.out _).mono ?_
      rintro r w5 ⟨rfl, hb5⟩
      exact hK _ _ ⟨trivial, fun _ => rfl, JA.step fun L' y' h1 h2 h3 h4 => PR.later (S := [5, 6]) HP.out hb5 rfl (by decide) h1⟩
    · have e1 : y 4 = .pointer (some ⟨(w.heap.size + 1), 0, none⟩) := hy.out 4 (by decide)
      have e2 : y 18 = .agg (s.C) := (hp.out 0 (by decide)).2 (by decide)
      have hN5 : L 5 = false := hL
      intro K Q hK
      clear hcl hL
      have v1 := (eval_frame 98 y [] (t := 4) (by decide)).trans e1
      have v2 := (eval_frame 98 y [] (t := 18) (by decide)).trans e2
      obtain ⟨A, hA⟩ : ∃ A, (⟨frameOf 98 y, []⟩ : Act) = A := ⟨_, rfl⟩
      rw [hA] at v1 v2 hK ⊢
      clear hA hy hp
      refine wp_store_row 26 (.tmp 4) (.tmp 18) rfl ((w.heap.size + 1)) (s.C) v1 v2 _ _ (PR.todo (i := 5) HP.out (List.mem_iff_getElem?.2 ⟨0, rfl⟩) hN5) (st_size HL.out) (zs_size HL.out) s.one ?_
      exact hK undef _ ⟨trivial, fun h => absurd h (by decide), JA.step fun L' y' h1 h2 h3 h4 => PR.store (i := 5) HP.out HD.out (List.mem_iff_getElem?.2 ⟨0, rfl⟩) rfl (h2 (by decide)) h1⟩
    · have e1 : y 5 = .pointer (some ⟨(w.heap.size + 2), 0, none⟩) := hy.out 5 (by decide)
      have e2 : y 22 = .agg (outC 3 fe s.pc) := (hp.out 4 (by decide)).2 (by decide)
      have hN6 : L 6 = false := hL
      intro K Q hK
      clear hcl hL
      have v1 := (eval_frame 98 y [] (t := 5) (by decide)).trans e1
      have v2 := (eval_frame 98 y [] (t := 22) (by decide)).trans e2
      obtain ⟨A, hA⟩ : ∃ A, (⟨frameOf 98 y, []⟩ : Act) = A := ⟨_, rfl⟩
      rw [hA] at v1 v2 hK ⊢
      clear hA hy hp
      refine wp_store_row 36 (.tmp 5) (.tmp 22) rfl ((w.heap.size + 2)) ((outC 3 fe s.pc)) v1 v2 _ _ (PR.todo (i := 6) HP.out (List.mem_iff_getElem?.2 ⟨1, rfl⟩) hN6) (by kernel_rfl) (by kernel_rfl) (out_one _ _ _) ?_
      exact hK undef _ ⟨trivial, fun h => absurd h (by decide), JA.step fun L' y' h1 h2 h3 h4 => PR.store (i := 6) HP.out HD.out (List.mem_iff_getElem?.2 ⟨1, rfl⟩) rfl (h2 (by decide)) h1⟩
end Go.Proofs.YtkhfmgifpppcmaaDoor
namespace Go.Proofs.YtkhfmgifpppcmaaDoor
open Go.RowKit Go.WideMaps Go.Maps
set_option linter.unusedVariables false
set_option linter.unusedSimpArgs false

/-- A state and an outcome laid into new boxes. -/
def pairW (w : World) (C O : Array Value) : World := (((w.alloc (.cells St.zero.C 26)).alloc (.cells #[.int .i64 0, .int .i64 0, .int .u64 0] 36)).setRow w.heap.size C).setRow (w.heap.size + 1) O
theorem pair_a (w : World) : Blk ((w.alloc (.cells St.zero.C 26)).alloc (.cells #[.int .i64 0, .int .i64 0, .int .u64 0] 36)) w.heap.size St.zero.C 26 := (Blk.new _ _ _).alloc _
theorem pair_b (w : World) (C : Array Value) : Blk (((w.alloc (.cells St.zero.C 26)).alloc (.cells #[.int .i64 0, .int .i64 0, .int .u64 0] 36)).setRow w.heap.size C) (w.heap.size + 1) #[.int .i64 0, .int .i64 0, .int .u64 0] 36 := by
  have := Blk.new (w.alloc (.cells St.zero.C 26)) #[.int .i64 0, .int .i64 0, .int .u64 0] 36
  rw [World.size_alloc] at this
  exact this.row_other (by omega)
theorem pair_1 (w : World) (C O : Array Value) : Blk (pairW w C O) w.heap.size C 26 := ((pair_a w).row).row_other (by omega)
theorem pair_2 (w : World) (C O : Array Value) : Blk (pairW w C O) (w.heap.size + 1) O 36 := (pair_b w C).row
theorem pair_below (w : World) (C O : Array Value) : Below w.heap.size w (pairW w C O) :=
  below_row (below_row (((Below.refl _ _).alloc (Nat.le_refl _) _).alloc (by rw [World.size_alloc]; omega) _) (Nat.le_refl _) _) (by omega) _
theorem aw0_ok : aw0.Ok := St.zero_ok.setP (by decide) (by decide)
theorem aw1_ok : aw1.Ok := (aw0_ok.setR 1 (by decide) (by decide)).setP (by decide) (by decide)
set_option maxHeartbeats 12800000 in
set_option maxRecDepth 100000 in
theorem awake14_ok {w : World} (hT : Tb w) : Calls Tryd.prog 4 #[] w fun r w' => r = .returned (.bool true) ∧ Below w.heap.size w w' := by
  have HT := Lib.hid hT
  have HE1 := Lib.hid (fun wx => renc_any awI wx ⟨by decide, by decide, by decide, by decide, by decide⟩)
  have HE2 := Lib.hid (fun wx => renc_any awJ wx ⟨by decide, by decide, by decide, by decide, by decide⟩)
  rw [aw_encI] at HE1
  rw [aw_encJ] at HE2
  unfold awI In.val at HE1
  unfold awJ In.val at HE2
  clear hT
  go_enter Tryd.func4, Tryd.ntmps4
  go_wp2_with fail
  refine (HE1.out _).mono ?_
  rintro r1 w1 ⟨rfl, hb1⟩
  have HB1 := Lib.hid hb1
  clear hb1 HE1
  go_wp2_with fail
  refine (HE2.out _).mono ?_
  rintro r2 w2 ⟨rfl, hb2⟩
  have HB2 : Hid (Below w.heap.size w w2) := Lib.hid (HB1.out.trans (hb2.mono HB1.out.size))
  clear hb2 HE2 HB1
  go_wp2_with fail
  refine (AW.new w2).mono ?_
  rintro r3 w3 ⟨rfl, H3⟩
  obtain ⟨g, hg⟩ : ∃ g, w2.heap.size = g := ⟨_, rfl⟩
  rw [hg] at H3 ⊢
  have h4 := H3.out.map 256 256 7 ⟨#[]⟩ 0 (by decide) (by decide) (by decide) (by decide) (by decide) (by decide)
  rw [show (7 : Int) = ((7 : Nat) : Int) from rfl, pgA_map (m := 7) (by decide)] at h4
  have H4 := Lib.hid h4
  have hcs := fun g w => cmp_sp g w
  clear h4
  go_wp2_with fail
  refine H4.out.mono ?_
  rintro r4 w4 ⟨rfl, h5⟩
  obtain ⟨S, hS⟩ := h5.out
  have H5 := Lib.hid hS
  clear hS h5 H4 H3
  have hw5 : (w4.alloc (.cells #[.int .u64 awX, .int .u64 awY] 22)).heap.size = w4.heap.size + 1 := by simp
  have hnu : Nus (w4.alloc (.cells #[.int .u64 awX, .int .u64 awY] 22)) (w4.alloc (.cells #[.int .u64 awX, .int .u64 awY] 22)).heap.size (some ⟨w4.heap.size, 0, none⟩) 2 [awX, awY] := by
    rw [hw5]
    exact Nus.lit w4 [awX, awY] awL_bd 22
  have HCO := Lib.hid (code_ok (c := 2) hnu (by decide))
  have H6 := Lib.hid (H5.out.later ((Below.refl w4.heap.size w4).alloc (Nat.le_refl _) (.cells #[.int .u64 awX, .int .u64 awY] 22)))
  clear hw5 hnu H5
  go_wp2_with fail
  refine HCO.out.mono ?_
  rintro r6 w6 ⟨v, rfl, hrow, hb6⟩
  obtain ⟨va, vc, rfl⟩ := own_slp hrow
  have hcl : (codeB [awX, awY]).length = 16 := codeB_len _
  have hlc : 16 ≤ vc ∧ vc ≤ 9223372036854775807 := by
    rcases hrow.2 with ⟨e0, e1⟩ | ⟨gg, cap, cur, hv, _, hg, h1, h2, _⟩
    · exact absurd e1 (by decide)
    · injection hv with _ _ e3
      subst e3
      exact ⟨by omega, by unfold maxLen at h2; omega⟩
  have H7 := Lib.hid (H6.out.later hb6)
  have hno : ∀ gb ob, va = some ⟨gb, ob, none⟩ → ¬ S.own gb := fun gb ob e ho => by
    have h1 := H6.out.at0.sm gb ho
    have h2 := (hrow.lt gb (by rw [e]; rfl)).1
    omega
  have h8 := Poke_ok H7.out.at0 256 (by decide) (codeB [awX, awY]) va 16 vc (Bys.own (codeB_bd _) hrow) (fun gb ob e ho => hno gb ob e ho) hlc.1 hlc.2 (by decide)
  have e8 : pokeR [pgA 7 ⟨#[]⟩] 256 (codeB [awX, awY]) = (cpM, 0) := pgA_poke (by rw [hcl]; decide)
  rw [e8] at h8
  unfold ptrV at h8
  rw [H7.out.g] at h8
  have H8 := Lib.hid h8
  clear h8 e8 hno hrow hb6 hlc hcl HCO H6
  go_wp2_with fail
  refine H8.out.mono ?_
  rintro r8 w8 ⟨rfl, hv8, ht8⟩
  have H9 := Lib.hid (H7.out.turn hv8 ht8)
  clear hv8 ht8 H8 H7 hcs
  have HS1 := Lib.hid (step_ok aw0 aw0_ok (HT.out.later (HB2.out.trans (H9.out.bel.mono HB2.out.size))) H9.out.at0)
  rw [aw_step1] at HS1
  unfold ptrV at HS1
  rw [H9.out.g] at HS1
  go_wp2_with (first | (refine wpList_build_eq rfl 26 _ rfl aw0.C (by kernel_rfl) ?_) | fail)
  refine HS1.out.mono ?_
  rintro r9 w9 ⟨rfl, ht9, hv9⟩
  have H10 := Lib.hid (H9.out.turn hv9 ht9)
  clear hv9 ht9 HS1 H9
  have HW := Lib.hid (pair_below w9 aw1.C (Oc.mk 0 0 0).C)
  have HK1 := Lib.hid (pair_1 w9 aw1.C (Oc.mk 0 0 0).C)
  have HK2 := Lib.hid (pair_2 w9 aw1.C (Oc.mk 0 0 0).C)
  have H11 := Lib.hid (H10.out.later HW.out)
  have HS2 := Lib.hid (step_ok aw1 aw1_ok (HT.out.later (HB2.out.trans (H11.out.bel.mono HB2.out.size))) H11.out.at0)
  rw [aw_step2] at HS2
  unfold ptrV at HS2
  rw [H11.out.g] at HS2
  go_wp2_with (first | (refine wpList_alloc_eq rfl 26 rfl St.zero.C zs_info ?_) | (refine wpList_store_row rfl 26 _ _ rfl w9.heap.size (aw1.C) rfl rfl _ _ (pair_a w9) (st_size aw1_ok.len) (zs_size aw1_ok.len) (St.one _) ?_) | (refine wpList_store_row rfl 36 _ _ rfl (w9.heap.size + 1) ((Oc.mk 0 0 0).C) rfl rfl _ _ (pair_b w9 (aw1.C)) (oc_size _) (oc_z _) (oc_one _) ?_; rw [show ((((w9.alloc (.cells St.zero.C 26)).alloc (.cells #[.int .i64 0, .int .i64 0, .int .u64 0] 36)).setRow w9.heap.size (aw1.C)).setRow (w9.heap.size + 1) ((Oc.mk 0 0 0).C)) = pairW w9 (aw1.C) ((Oc.mk 0 0 0).C) from rfl]) | (refine wpList_load_row rfl 26 _ rfl w9.heap.size rfl _ aw1.C (0, 0) _ HK1.out Tryd.underlying26 rfl (st_size aw1_ok.len) ?_) | fail)
  refine HS2.out.mono ?_
  rintro r10 w10 ⟨rfl, ht10, hv10⟩
  have hno : ∀ k, w9.heap.size ≤ k → ¬ S.own k := fun k hk ho => by have := H10.out.at0.sm k ho; omega
  have HJ1 := Lib.hid (blk_same HK1.out (ht10.block _ HK1.out.lt (hno _ (Nat.le_refl _))))
  have HJ2 := Lib.hid (blk_same HK2.out (ht10.block _ HK2.out.lt (hno _ (by omega))))
  have H12 := Lib.hid (H11.out.turn hv10 ht10)
  have HBE : Hid (Below w.heap.size w (pairW w10 aw1.C (Oc.mk 3 43 264).C)) := Lib.hid (HB2.out.trans ((H12.out.later (pair_below w10 aw1.C (Oc.mk 3 43 264).C)).bel.mono HB2.out.size))
  have hb := pair_below w10 aw1.C (Oc.mk 3 43 264).C
  have hj1 := HJ1.out.later hb
  have hj2 := HJ2.out.later hb
  have hm1 := pair_1 w10 aw1.C (Oc.mk 3 43 264).C
  have hm2 := pair_2 w10 aw1.C (Oc.mk 3 43 264).C
  have q1 : (pairW w10 aw1.C (Oc.mk 3 43 264).C).cell? ⟨w9.heap.size, 1, none⟩ = some (.int .u64 18446744073709551615) := hj1.cell 1
  have q2 : (pairW w10 aw1.C (Oc.mk 3 43 264).C).cell? ⟨w9.heap.size, 32, none⟩ = some (.int .u64 264) := hj1.cell 32
  have q3 : (pairW w10 aw1.C (Oc.mk 3 43 264).C).cell? ⟨w9.heap.size + 1, 0, none⟩ = some (.int .i64 0) := hj2.cell 0
  have q4 : (pairW w10 aw1.C (Oc.mk 3 43 264).C).cell? ⟨w10.heap.size + 1, 0, none⟩ = some (.int .i64 3) := hm2.cell 0
  have q5 : (pairW w10 aw1.C (Oc.mk 3 43 264).C).cell? ⟨w10.heap.size + 1, 1, none⟩ = some (.int .i64 43) := hm2.cell 1
  have q6 : (pairW w10 aw1.C (Oc.mk 3 43 264).C).cell? ⟨w10.heap.size + 1, 2, none⟩ = some (.int .u64 264) := hm2.cell 2
  have hse := st_same aw1_ok.len (pairW w10 aw1.C (Oc.mk 3 43 264).C)
  have HM1 := Lib.hid hm1
  have HX1 := Lib.hid hj1
  clear hb hj1 hj2 hm1 hm2 ht10 hv10 hno HS2 H11 H10 HK1 HK2 HW HJ1 HJ2 H12
  go_wp2_with (first | (refine wpList_alloc_eq rfl 26 rfl St.zero.C zs_info ?_) | (refine wpList_store_row rfl 26 _ _ rfl w10.heap.size (aw1.C) rfl rfl _ _ (pair_a w10) (st_size aw1_ok.len) (zs_size aw1_ok.len) (St.one _) ?_) | (refine wpList_store_row rfl 36 _ _ rfl (w10.heap.size + 1) ((Oc.mk 3 43 264).C) rfl rfl _ _ (pair_b w10 (aw1.C)) (oc_size _) (oc_z _) (oc_one _) ?_; rw [show ((((w10.alloc (.cells St.zero.C 26)).alloc (.cells #[.int .i64 0, .int .i64 0, .int .u64 0] 36)).setRow w10.heap.size (aw1.C)).setRow (w10.heap.size + 1) ((Oc.mk 3 43 264).C)) = pairW w10 (aw1.C) ((Oc.mk 3 43 264).C) from rfl]) | (refine wpList_load_row_g (by rfl) 26 _ rfl w10.heap.size rfl _ aw1.C (0, 0) _ HM1.out Tryd.underlying26 rfl (st_size aw1_ok.len) ?_) | (refine wpList_load_row_g (by rfl) 26 _ rfl w9.heap.size rfl _ aw1.C (0, 0) _ HX1.out Tryd.underlying26 rfl (st_size aw1_ok.len) ?_) | (refine wpList_same_g aw1_ok.len (by rfl) (.tmp 60) (.tmp 61) _ rfl rfl rfl ?_))
  go_ret
  exact ⟨rfl, HBE.out⟩
end Go.Proofs.YtkhfmgifpppcmaaDoor
namespace Go.Proofs.YtkhfmgifpppcmaaDoor
open Go.RowKit
set_option linter.unusedVariables false
set_option linter.unusedSimpArgs false

theorem wpList_move_eq {P : Program} {ops : Array Oper} {rest : List Oper} {o : Oper} {a : Act} {w : World} {Q : Exit → Act → World → Prop} (hg : o.guard = none) (x : Operand) (ho : o.op = .move x) (v : Value) (hv : a.eval x = v)
    (h : wpList P ops Q rest (a.put o.dst v) w) : wpList P ops Q (o :: rest) a w :=
  wpList_plain hg fun K hK => by
    unfold Oper.wp execOp
    simp only [ho, hv, Sem.run_pure]
    exact hK _ _ h
theorem wpList_build_l {P : Program} {ops : Array Oper} {rest : List Oper} {o : Oper} {a : Act} {w : World} {Q : Exit → Act → World → Prop} (hg : o.guard = none) (t : TypeId) (parts : Array (Nat × Operand)) (ho : o.op = .build t parts) (V : Array Value) (L : List (Nat × Value))
    (hL : (parts.map fun (i, x) => (i, a.eval x)).toList = L) (hf : P.built t L = some V) (h : wpList P ops Q rest (a.put o.dst (.agg V)) w) : wpList P ops Q (o :: rest) a w :=
  wpList_build_eq hg t parts ho V (by rw [hL]; exact hf) h
theorem wp_differ_st {s : St} (hs : s.R.length = 32) {o : Oper} {a : Act} {w : World} {K : Act → World → Prop} {Q : Exit → Act → World → Prop} (x y : Operand) (yt : TypeId) (ho : o.op = .binOp .neq 26 x y yt)
    (hx : a.eval x = .agg s.C) (hy : a.eval y = .agg s.C) (h : K (a.put o.dst (.bool false)) w) : o.wp Tryd.prog a w K Q := by
  unfold Oper.wp execOp
  simp only [ho, hx, hy, Sem.run_bind, run_eqGuard_agg (P := Tryd.prog) w .neq 26 x y s.C s.C (by kernel_rfl), st_differ hs, Result.andThen_ok, Sem.run_pure]
  exact h
theorem wpList_differ_g {s : St} (hs : s.R.length = 32) {ops : Array Oper} {rest : List Oper} {o : Oper} {a : Act} {w : World} {Q : Exit → Act → World → Prop} (hw : Region.wanted o (yielded ops a.tmps) = true) (x y : Operand) (yt : TypeId) (ho : o.op = .binOp .neq 26 x y yt)
    (hx : a.eval x = .agg s.C) (hy : a.eval y = .agg s.C) (h : wpList Tryd.prog ops Q rest (a.put o.dst (.bool false)) w) : wpList Tryd.prog ops Q (o :: rest) a w :=
  wpList_step fun K hK => by
    simp only [hw, if_true]
    exact wp_differ_st hs x y yt ho hx hy (hK _ _ h)
theorem and31 {n : Int} (h0 : 0 ≤ n) (h1 : n ≤ 18446744073709551615) : bits .and .u64 n 31 = n % 32 := by
  obtain ⟨m, rfl⟩ := Int.eq_ofNat_of_zero_le h0
  have hm : m < 2 ^ 64 := by omega
  unfold bits
  have e1 : BitVec.ofInt IntKind.u64.bits 31 = BitVec.ofNat 64 31 := rfl
  have e2 : BitVec.ofInt IntKind.u64.bits (m : Int) = BitVec.ofNat 64 m := BitVec.ofInt_natCast ..
  simp only [e1, e2]
  show IntKind.u64.wrap (((BitVec.ofNat 64 m) &&& (BitVec.ofNat 64 31)).toNat : Int) = _
  rw [BitVec.toNat_and, BitVec.toNat_ofNat, BitVec.toNat_ofNat, Nat.mod_eq_of_lt hm, show 31 % 2 ^ 64 = 2 ^ 5 - 1 from rfl, Nat.and_two_pow_sub_one_eq_mod, IntKind.wrap_u64]
  omega
theorem stays {s : St} {M : List Pg} {u : Int} (hf : fetchR M s.pc.toNat = (u, 0)) {k : Nat} (hk : k ≠ (u / 256 % 32).toNat) : (stepC s M).1.R.getD k 0 = s.R.getD k 0 := by
  unfold stepC
  rw [hf, if_pos rfl]
  show (if (decI u).2 = 0 then doI s M (decI u).1 else _).1.R.getD k 0 = _
  by_cases hd : (decI u).2 = 0
  · rw [if_pos hd]
    have e : (decI u).1 = cutI u := by
      by_cases e : encI (cutI u) = (u, 0)
      · rw [decI_yes e]
      · rw [decI_no e] at hd; cases hd
    rw [e]
    exact doI_other s M _ hk
  · rw [if_neg hd]
theorem stepC_len (s : St) (M : List Pg) : (stepC s M).1.R.length = s.R.length := by
  unfold stepC
  split
  · split
    · exact doI_len s M _
    · rfl
  · rfl
theorem built_pc (x : Int) : Tryd.prog.built 26 [(1, .int .u64 x)] = some (St.zero.setP x).C := by
  rw [built_eq]
  rfl
end Go.Proofs.YtkhfmgifpppcmaaDoor
