/-
  What is proved here: load of package cpu.
  Conditions: as they say.
-/
import Derived.Test.YtkhfmgifpppcmaaDoorCpuV
namespace Go.Proofs.YtkhfmgifpppcmaaDoor
open Go.RowKit
set_option linter.unusedVariables false
set_option linter.unusedSimpArgs false

set_option maxRecDepth 100000 in
theorem frCLoad (y : Nat → Value) : frameOf 43 y = #[y 0, y 1, y 2, y 3, y 4, y 5, y 6, y 7, y 8, y 9, y 10, y 11, y 12, y 13, y 14, y 15, y 16, y 17, y 18, y 19, y 20, y 21, y 22, y 23, y 24, y 25, y 26, y 27, y 28, y 29, y 30, y 31, y 32, y 33, y 34, y 35, y 36, y 37, y 38, y 39, y 40, y 41, y 42] := rfl
set_option maxHeartbeats 6400000 in
set_option maxRecDepth 100000 in
theorem cload_ok (s : St) (hs : s.Ok) (o : Nat) (m : Int) (a b c : Nat) (ha : a < 32) (hb : b < 32) (ho : o < 28) (mp : Value) (x e : Int) (w : World) (hT : Tb w)
    (hld : ∀ wx, Below w.heap.size w wx → Calls Tryd.prog 31 #[mp, .int .u64 (IntKind.u64.wrap (s.R.getD b 0 + IntKind.u64.wrap m)), .int .i64 (sizesZ.getD o 0)] wx fun r w' => r = .returned (.tuple #[.int .u64 x, .int .i64 e]) ∧ Below wx.heap.size wx w') :
    Calls Tryd.prog 21 #[.agg s.C, .agg #[.int .i64 (o : Int), .int .i64 (a : Int), .int .i64 (b : Int), .int .i64 (c : Int), .int .i32 m], mp] w fun r w' => r = .returned (.tuple #[.agg (if e = 0 then ((s.setR a x).setP (IntKind.u64.wrap (s.pc + 8))).C else s.C), .agg (if e = 0 then outC 0 0 0 else outC 3 e (IntKind.u64.wrap (s.R.getD b 0 + IntKind.u64.wrap m)))]) ∧ Below w.heap.size w w' := by
  have HLD := Lib.hid hld
  have HL := Lib.hid hs.len
  obtain ⟨tz, hz⟩ := hT.sz
  have HSZ := Lib.hid hz
  have hz0 : 0 < w.heap.size := hz.lt
  obtain ⟨op, hop⟩ : ∃ op : Int, (o : Int) = op := ⟨_, rfl⟩
  obtain ⟨C1, hC1⟩ : ∃ C1, (if e = 0 then ((s.setR a x).setP (IntKind.u64.wrap (s.pc + 8))).C else s.C) = C1 := ⟨_, rfl⟩
  obtain ⟨C2, hC2⟩ : ∃ C2, (if e = 0 then outC 0 0 0 else outC 3 e (IntKind.u64.wrap (s.R.getD b 0 + IntKind.u64.wrap m))) = C2 := ⟨_, rfl⟩
  have HC1 := Lib.hid hC1
  have HC2 := Lib.hid hC2
  rw [hC1, hC2]
  clear hC1 hC2
  have HNU : Hid (∀ wx, Calls Tryd.prog 25 #[.agg #[.int .i64 op, .int .i64 (a : Int), .int .i64 (b : Int), .int .i64 (c : Int), .int .i32 m]] wx fun r w' => r = .returned (.int .u64 (IntKind.u64.wrap m)) ∧ Below wx.heap.size wx w') := Lib.hid (fun wx => number_i ⟨op, a, b, c, m⟩ wx)
  rw [hop]
  obtain ⟨w1, hw1⟩ : ∃ w1, (((w.alloc (.cells s.C 26)).alloc (.cells #[.int .i64 op, .int .i64 (a : Int), .int .i64 (b : Int), .int .i64 (c : Int), .int .i32 m] 63)).alloc (.cells St.zero.C 26)).alloc (.cells #[.int .i64 0, .int .i64 0, .int .u64 0] 36) = w1 := ⟨_, rfl⟩
  have hz1 : w1.heap.size = w.heap.size + 4 := by rw [← hw1]; simp
  have B0 : Hid (Blk w1 w.heap.size s.C 26) := Lib.hid (by
    rw [← hw1]
    have := Blk.new w s.C 26
    try simp only [World.size_alloc] at this
    exact (((this.alloc _).alloc _).alloc _))
  have B1 : Hid (Blk w1 (w.heap.size + 1) #[.int .i64 op, .int .i64 (a : Int), .int .i64 (b : Int), .int .i64 (c : Int), .int .i32 m] 63) := Lib.hid (by
    rw [← hw1]
    have := Blk.new (w.alloc (.cells s.C 26)) #[.int .i64 op, .int .i64 (a : Int), .int .i64 (b : Int), .int .i64 (c : Int), .int .i32 m] 63
    try simp only [World.size_alloc] at this
    exact ((this.alloc _).alloc _))
  have B2 : Hid (Blk w1 (w.heap.size + 2) St.zero.C 26) := Lib.hid (by
    rw [← hw1]
    have := Blk.new ((w.alloc (.cells s.C 26)).alloc (.cells #[.int .i64 op, .int .i64 (a : Int), .int .i64 (b : Int), .int .i64 (c : Int), .int .i32 m] 63)) St.zero.C 26
    try simp only [World.size_alloc] at this
    exact (this.alloc _))
  have B3 : Hid (Blk w1 (w.heap.size + 3) #[.int .i64 0, .int .i64 0, .int .u64 0] 36) := Lib.hid (by
    rw [← hw1]
    have := Blk.new (((w.alloc (.cells s.C 26)).alloc (.cells #[.int .i64 op, .int .i64 (a : Int), .int .i64 (b : Int), .int .i64 (c : Int), .int .i32 m] 63)).alloc (.cells St.zero.C 26)) #[.int .i64 0, .int .i64 0, .int .u64 0] 36
    try simp only [World.size_alloc] at this
    exact this)
  have HB : Hid (Below w.heap.size w w1) := Lib.hid (by rw [← hw1]; exact (((((Below.refl _ _).alloc (by exact Nat.le_refl _) _).alloc (by simp only [World.size_alloc]; omega) _).alloc (by simp only [World.size_alloc]; omega) _).alloc (by simp only [World.size_alloc]; omega) _))
  clear hld hT hz hs
  go_enter Tryd.func21, Tryd.ntmps21
  go_wp2_with (first | (refine wpList_alloc_eq rfl 26 rfl St.zero.C zs_info ?_))
  clear hw1 hz1
  refine wp_region_a (by kernel_rfl) 43 rfl [11, 12, 13, 14, 15, 16, 17, 18, 8] (fun _ _ => True) (factsOf [Is (.pointer (some ⟨(w.heap.size + 1), 2, none⟩)), Is (.int .i64 (b : Int)), Is (.pointer (some ⟨w.heap.size, 0, none⟩)), Is (.pointer (some ⟨w.heap.size, b, none⟩)), Is (.int .u64 (s.R.getD b 0)), Is (.agg #[.int .i64 op, .int .i64 (a : Int), .int .i64 (b : Int), .int .i64 (c : Int), .int .i32 m]), Is (.int .u64 (IntKind.u64.wrap m)), Is (.int .u64 (IntKind.u64.wrap (s.R.getD b 0 + IntKind.u64.wrap m))), Is (.int .u64 (IntKind.u64.wrap (s.R.getD b 0 + IntKind.u64.wrap m)))]) (JA [] [] (fun L _ w9 => PR (w.heap.size) w [(w.heap.size, s.C, 26), ((w.heap.size + 1), #[.int .i64 op, .int .i64 (a : Int), .int .i64 (b : Int), .int .i64 (c : Int), .int .i32 m], 63), ((w.heap.size + 2), St.zero.C, 26), ((w.heap.size + 3), #[.int .i64 0, .int .i64 0, .int .u64 0], 36)] [] L w9)) ?mono1 ?hj1 (by kernel_rfl) ?start1 ?steps1 ?fin1
  case mono1 => exact factsOf_monoR (monoR_cons (Is.monoR _ _) (monoR_cons (Is.monoR _ _) (monoR_cons (Is.monoR _ _) (monoR_cons (Is.monoR _ _) (monoR_cons (Is.monoR _ _) (monoR_cons (Is.monoR _ _) (monoR_cons (Is.monoR _ _) (monoR_cons (Is.monoR _ _) (monoR_cons (Is.monoR _ _) (monoR_nil _))))))))))
  case hj1 => exact JA.congr (by decide)
  case start1 =>
    refine JA.of fun L' y' h1 h2 => ?_
    exact ⟨(Nat.le_refl _), Below.drew (HB.out), (List.forall_mem_cons.2 ⟨Blk.drew (B0.out), (List.forall_mem_cons.2 ⟨Blk.drew (B1.out), (List.forall_mem_cons.2 ⟨Blk.drew (B2.out), (List.forall_mem_cons.2 ⟨Blk.drew (B3.out), (fun _ h => by cases h)⟩)⟩)⟩)⟩), (fun _ h => by cases h)⟩
  case fin1 =>
    intro y L w9 hJ hall hF hT
    have HP := Lib.hid hJ.out
    have f8 : y 8 = .int .u64 (IntKind.u64.wrap (s.R.getD b 0 + IntKind.u64.wrap m)) := hF 8 (by decide) (by decide)
    clear hJ hF hall
    rw [frCLoad]
    simp only [f8, hT 0 (by decide), hT 1 (by decide), hT 2 (by decide), hT 3 (by decide), hT 4 (by decide), hT 5 (by decide), hT 6 (by decide), hT 7 (by decide), hT 9 (by decide), hT 10 (by decide), hT 19 (by decide), hT 20 (by decide), hT 21 (by decide), hT 22 (by decide), hT 23 (by decide), hT 24 (by decide), hT 25 (by decide), hT 26 (by decide), hT 27 (by decide), hT 28 (by decide), hT 29 (by decide), hT 30 (by decide), hT 31 (by decide), hT 32 (by decide), hT 33 (by decide), hT 34 (by decide), hT 35 (by decide), hT 36 (by decide), hT 37 (by decide), hT 38 (by decide), hT 39 (by decide), hT 40 (by decide), hT 41 (by decide), hT 42 (by decide), List.getD_cons_succ, List.getD_cons_zero]
    clear hT f8
    have D0 : Hid (Blk w9 w.heap.size s.C 26) := Lib.hid (HP.out.fx _ (List.mem_iff_getElem?.2 ⟨0, rfl⟩))
    have D1 : Hid (Blk w9 (w.heap.size + 1) #[.int .i64 op, .int .i64 (a : Int), .int .i64 (b : Int), .int .i64 (c : Int), .int .i32 m] 63) := Lib.hid (HP.out.fx _ (List.mem_iff_getElem?.2 ⟨1, rfl⟩))
    have D2 : Hid (Blk w9 (w.heap.size + 2) St.zero.C 26) := Lib.hid (HP.out.fx _ (List.mem_iff_getElem?.2 ⟨2, rfl⟩))
    have D3 : Hid (Blk w9 (w.heap.size + 3) #[.int .i64 0, .int .i64 0, .int .u64 0] 36) := Lib.hid (HP.out.fx _ (List.mem_iff_getElem?.2 ⟨3, rfl⟩))
    have HBX := Lib.hid HP.out.bel
    have hbx := HP.out.bel
    clear HP HB B0 B1 B2 B3
    have i0 : w9.cell? ⟨(w.heap.size + 1), 0, none⟩ = some (.int .i64 op) := D1.out.cell 0
    have hz9 : w9.cell? ⟨0, o, none⟩ = some (.int .i64 (sizesZ.getD o 0)) := by
      rw [Blk.cell (HSZ.out.below hbx hz0)]
      show sizesL.toArray[o]? = _
      unfold sizesL
      rw [List.getElem?_toArray, List.getElem?_map, List.getD_eq_getElem?_getD, List.getElem?_eq_getElem (show o < sizesZ.length from ho)]
      rfl
    obtain ⟨AT, hAT⟩ : ∃ AT, (IntKind.u64.wrap (s.R.getD b 0 + IntKind.u64.wrap m)) = AT := ⟨_, rfl⟩
    rw [hAT] at HLD HC2 ⊢
    obtain ⟨sz, hsz⟩ : ∃ z, sizesZ.getD o 0 = z := ⟨_, rfl⟩
    rw [hsz] at HLD hz9
    have hop2 : op = (o : Int) := hop.symm
    clear hbx hAT hsz hop
    subst hop2
    go_wp2_with fail
    refine (HLD.out _ HBX.out).mono ?_
    rintro r5 w5 ⟨rfl, hb5⟩
    have HB5 : Hid (Below w.heap.size w w5) := Lib.hid (HBX.out.trans (hb5.mono HBX.out.size))
    have E0 := Lib.hid (D0.out.later hb5)
    have E1 := Lib.hid (D1.out.later hb5)
    have E2 := Lib.hid (D2.out.later hb5)
    have E3 := Lib.hid (D3.out.later hb5)
    clear hb5 D0 D1 D2 D3 HBX HLD i0 hz9
    by_cases he : e = 0
    · subst he
      have q1 := HC1.out
      have q2 := HC2.out
      rw [if_pos rfl] at q1 q2
      have c0 := (E0.out.cell a).trans (St.creg HL.out ha)
      have f0 := E0.out.frozen a
      have i1 : w5.cell? ⟨(w.heap.size + 1), 1, none⟩ = some (.int .i64 (a : Int)) := E1.out.cell 1
      have hp0 := E0.out.put a (.int .u64 x)
      rw [St.set_reg HL.out ha] at hp0
      obtain ⟨w6, hw6⟩ : ∃ w6, w5.setCell ⟨w.heap.size, a, none⟩ (.int .u64 x) = w6 := ⟨_, rfl⟩
      have hb6 : Below w.heap.size w w6 := by rw [← hw6]; exact HB5.out.setCell (p := ⟨w.heap.size, a, none⟩) (Nat.le_refl _) _
      have hl2 : (s.setR a x).R.length = 32 := by show (s.R.set _ _).length = 32; rw [List.length_set]; exact HL.out
      have hsame : ∀ k, k ≠ w.heap.size → w6.heap[k]? = w5.heap[k]? := fun k hk => by rw [← hw6]; exact Below.heap_setCell _ _ _ _ hk
      rw [hw6] at hp0
      obtain ⟨s2, hs2⟩ : ∃ s2, s.setR a x = s2 := ⟨_, rfl⟩
      have hpc : s2.pc = s.pc := by rw [← hs2]; rfl
      rw [hs2] at hp0 hl2 q1
      have G0 := Lib.hid hp0
      have G2 := Lib.hid (blk_same E2.out (hsame _ (by omega)))
      have G3 := Lib.hid (blk_same E3.out (hsame _ (by omega)))
      have HB6 := Lib.hid hb6
      have HL2 := Lib.hid hl2
      have HNX := Lib.hid (next_ok s2 hl2 w6)
      rw [hpc] at HNX
      obtain ⟨s3, hs3⟩ : ∃ s3, s2.setP (IntKind.u64.wrap (s.pc + 8)) = s3 := ⟨_, rfl⟩
      have HL3 : Hid (s3.R.length = 32) := Lib.hid (by rw [← hs3]; exact hl2)
      rw [hs3] at HNX q1
      have HQ1 := Lib.hid q1
      have HQ2 := Lib.hid q2
      clear q1 q2 HC1 HC2
      clear hp0 hb6 hl2 hsame hs2 hpc hs3 E0 E1 E2 E3 HB5
      go_wp2_with (first | (refine wpList_load_row rfl 26 _ rfl (w.heap.size) rfl _ (s2.C) (0, 0) _ G0.out Tryd.underlying26 rfl (st_size HL2.out) ?_) | fail)
      refine HNX.out.mono ?_
      rintro r7 w7 ⟨rfl, hb7⟩
      have K2 := Lib.hid (G2.out.later hb7)
      have K3 := Lib.hid (G3.out.later hb7)
      have HB7 : Hid (Below w.heap.size w w7) := Lib.hid (HB6.out.trans (hb7.mono HB6.out.size))
      have K4 := Lib.hid (K3.out.row_other (g := (w.heap.size + 2)) (C := s3.C) (by omega))
      clear hb7 HNX G0 G2 G3 HB6
      go_wp2_with (first | (refine wpList_store_row rfl 26 _ _ rfl ((w.heap.size + 2)) (s3.C) rfl rfl _ _ K2.out (st_size HL3.out) (zs_size HL3.out) s3.one ?_) | (refine wpList_store_row rfl 36 _ _ rfl ((w.heap.size + 3)) (outC 0 0 0) rfl rfl _ _ K4.out (by kernel_rfl) (by kernel_rfl) (out_one _ _ _) ?_))
      have M2 := (K2.out.row (C := s3.C)).row_other (g := (w.heap.size + 3)) (C := outC 0 0 0) (by omega)
      have M3 := K4.out.row (C := outC 0 0 0)
      refine bodyPost_ret (v := .tuple #[.agg (s3.C), .agg (outC 0 0 0)]) (results_two rfl _ _ ((w.heap.size + 2)) ((w.heap.size + 3)) _ _ (s3.C) (outC 0 0 0) (0, 0) (0, 0) _ _ rfl rfl M2 M3 Tryd.underlying26 rfl (st_size HL3.out) Tryd.underlying36 rfl (by kernel_rfl)) rfl ?_
      exact ⟨by rw [HQ1.out, HQ2.out], below_row (below_row HB7.out (by omega) _) (by omega) _⟩
    · have heb : ¬ e = 0 := he
      have q1 := HC1.out
      have q2 := HC2.out
      rw [if_neg he] at q1 q2
      have HQ1 := Lib.hid q1
      have HQ2 := Lib.hid q2
      clear q1 q2 HC1 HC2
      have HD : Hid (Dist w.heap.size [(w.heap.size, s.C, 26)] [(4, (w.heap.size + 2), 26, St.zero.C, s.C), (5, (w.heap.size + 3), 36, #[.int .i64 0, .int .i64 0, .int .u64 0], (outC 3 e AT))]) := Lib.hid ⟨by (intro r hr; simp only [List.mem_cons, List.not_mem_nil, or_false] at hr; rcases hr with rfl | rfl <;> refine ⟨(by dsimp only; omega), fun f hf => ?_⟩ <;> simp only [List.mem_cons, List.not_mem_nil, or_false] at hf <;> (rcases hf with rfl) <;> dsimp only <;> omega), by (intro r hr q hq h; simp only [List.mem_cons, List.not_mem_nil, or_false] at hr hq; rcases hr with rfl | rfl <;> rcases hq with rfl | rfl <;> first | rfl | (exfalso; simp at h; done) | (exfalso; simp at h; omega))⟩
      have HFA := Lib.hid (fun wx => fault_ok e AT wx)
      go_wp2_with fail
      refine wp_region_a (by kernel_rfl) 43 rfl [31, 32, 33, 34, 43, 44] (fun _ _ => True) (factsOf [Is (.agg (s.C)), Is (.int .i64 e), Is (.int .u64 AT), Is (.agg (outC 3 e AT)), AnyB, AnyB]) (JA [4, 5] [] (fun L _ w9 => PR (w.heap.size) w [(w.heap.size, s.C, 26)] [(4, (w.heap.size + 2), 26, St.zero.C, s.C), (5, (w.heap.size + 3), 36, #[.int .i64 0, .int .i64 0, .int .u64 0], (outC 3 e AT))] L w9)) ?mono4 ?hj4 (by kernel_rfl) ?start4 ?steps4 ?fin4
      case mono4 => exact factsOf_monoR (monoR_cons (Is.monoR _ _) (monoR_cons (Is.monoR _ _) (monoR_cons (Is.monoR _ _) (monoR_cons (Is.monoR _ _) (monoR_cons (AnyB.monoR _) (monoR_cons (AnyB.monoR _) (monoR_nil _)))))))
      case hj4 => exact JA.congr (by decide)
      case start4 =>
        refine JA.of fun L' y' h1 h2 => ?_
        exact ⟨(Nat.le_refl _), Below.drew (HB5.out), (List.forall_mem_cons.2 ⟨Blk.drew (E0.out), (fun _ h => by cases h)⟩), (List.forall_mem_cons.2 ⟨PR.ini (h1 4 (by decide)) (Blk.drew (E2.out)), (List.forall_mem_cons.2 ⟨PR.ini (h1 5 (by decide)) (Blk.drew (E3.out)), (fun _ h => by cases h)⟩)⟩)⟩
      case fin4 =>
        intro y L w9 hJ hall hF hT
        have HP := Lib.hid hJ.out
        have HR0 := Lib.hid (PR.done (i := 4) HP.out (List.mem_iff_getElem?.2 ⟨0, rfl⟩) (hall 4 (by decide)))
        have HR1 := Lib.hid (PR.done (i := 5) HP.out (List.mem_iff_getElem?.2 ⟨1, rfl⟩) (hall 5 (by decide)))
        clear hJ hF hall
        rw [frCLoad]
        simp only [hT 0 (by decide), hT 1 (by decide), hT 2 (by decide), hT 3 (by decide), hT 4 (by decide), hT 5 (by decide), hT 6 (by decide), hT 7 (by decide), hT 8 (by decide), hT 9 (by decide), hT 10 (by decide), hT 11 (by decide), hT 12 (by decide), hT 13 (by decide), hT 14 (by decide), hT 15 (by decide), hT 16 (by decide), hT 17 (by decide), hT 18 (by decide), hT 19 (by decide), hT 20 (by decide), hT 21 (by decide), hT 22 (by decide), hT 23 (by decide), hT 24 (by decide), hT 25 (by decide), hT 26 (by decide), hT 27 (by decide), hT 28 (by decide), hT 29 (by decide), hT 30 (by decide), hT 35 (by decide), hT 36 (by decide), hT 37 (by decide), hT 38 (by decide), hT 39 (by decide), hT 40 (by decide), hT 41 (by decide), hT 42 (by decide), List.getD_cons_succ, List.getD_cons_zero]
        clear hT 
        go_wp2
        refine bodyPost_ret (v := .tuple #[.agg (s.C), .agg (outC 3 e AT)]) (results_two rfl _ _ ((w.heap.size + 2)) ((w.heap.size + 3)) _ _ (s.C) (outC 3 e AT) (0, 0) (0, 0) _ _ rfl rfl HR0.out HR1.out Tryd.underlying26 rfl (st_size HL.out) Tryd.underlying36 rfl (by kernel_rfl)) rfl ?_
        exact ⟨by rw [HQ1.out, HQ2.out], HP.out.bel⟩
      case steps4 =>
        refine ⟨?_, ?_, ?_, ?_, ?_, ?_, trivial⟩
        all_goals intro L y w9 hJ hL hy0 hp0 hcl hun
        all_goals have hy := Lib.hid hy0
        all_goals have hp := Lib.hid hp0
        all_goals have HJ := Lib.hid hJ
        all_goals have HP := Lib.hid hJ.out
        all_goals have hU := Lib.hid hun
        all_goals clear hy0 hp0 hun hJ
        · have e1 : y 3 = .pointer (some ⟨w.heap.size, 0, none⟩) := hy.out 3 (by decide)
          intro K Q hK
          clear hcl hL
          have v1 := (eval_frame 43 y [] (t := 3) (by decide)).trans e1
          obtain ⟨A, hA⟩ : ∃ A, (⟨frameOf 43 y, []⟩ : Act) = A := ⟨_, rfl⟩
          rw [hA] at v1 hK ⊢
          clear hA hy hp
          refine wp_load_row 26 (.tmp 3) rfl (w.heap.size) v1 _ _ (0, 0) _ (HP.out.fx _ (List.mem_iff_getElem?.2 ⟨0, rfl⟩)) Tryd.underlying26 rfl (st_size HL.out) ?_
          exact hK _ _ ⟨trivial, fun _ => rfl, HJ.out.pure (by decide) (by decide)⟩
        · have e1 : y 10 = .int .i64 e := hy.out 10 (by decide)
          intro K Q hK
          clear hcl hL
          have v1 := (eval_frame 43 y [] (t := 10) (by decide)).trans e1
          obtain ⟨A, hA⟩ : ∃ A, (⟨frameOf 43 y, []⟩ : Act) = A := ⟨_, rfl⟩
          rw [hA] at v1 hK ⊢
          clear hA hy hp
          simp only [Act.eval] at v1
          go_simp
          exact hK _ _ ⟨trivial, fun _ => rfl, HJ.out.pure (by decide) (by decide)⟩
        · have e1 : y 8 = .int .u64 AT := hy.out 8 (by decide)
          intro K Q hK
          clear hcl hL
          have v1 := (eval_frame 43 y [] (t := 8) (by decide)).trans e1
          obtain ⟨A, hA⟩ : ∃ A, (⟨frameOf 43 y, []⟩ : Act) = A := ⟨_, rfl⟩
          rw [hA] at v1 hK ⊢
          clear hA hy hp
          simp only [Act.eval] at v1
          go_simp
          exact hK _ _ ⟨trivial, fun _ => rfl, HJ.out.pure (by decide) (by decide)⟩
        · have e1 : y 32 = .int .i64 e := (hp.out 1 (by decide)).2 (by decide)
          have e2 : y 33 = .int .u64 AT := (hp.out 2 (by decide)).2 (by decide)
          intro K Q hK
          clear hcl hL
          have v1 := (eval_frame 43 y [] (t := 32) (by decide)).trans e1
          have v2 := (eval_frame 43 y [] (t := 33) (by decide)).trans e2
          obtain ⟨A, hA⟩ : ∃ A, (⟨frameOf 43 y, []⟩ : Act) = A := ⟨_, rfl⟩
          rw [hA] at v1 v2 hK ⊢
          clear hA hy hp
          simp only [Act.eval] at v1 v2
          go_simp
          refine (HFA.out _).mono ?_
          rintro r w5 ⟨rfl, hb5⟩
          exact hK _ _ ⟨trivial, fun _ => rfl, JA.step fun L' y' h1 h2 h3 h4 => PR.later (S := [4, 5]) HP.out hb5 rfl (by decide) h1⟩
        · have e1 : y 6 = .pointer (some ⟨(w.heap.size + 2), 0, none⟩) := hy.out 6 (by decide)
          have e2 : y 31 = .agg (s.C) := (hp.out 0 (by decide)).2 (by decide)
          have hN4 : L 4 = false := hL
          intro K Q hK
          clear hcl hL
          have v1 := (eval_frame 43 y [] (t := 6) (by decide)).trans e1
          have v2 := (eval_frame 43 y [] (t := 31) (by decide)).trans e2
          obtain ⟨A, hA⟩ : ∃ A, (⟨frameOf 43 y, []⟩ : Act) = A := ⟨_, rfl⟩
          rw [hA] at v1 v2 hK ⊢
          clear hA hy hp
          refine wp_store_row 26 (.tmp 6) (.tmp 31) rfl ((w.heap.size + 2)) (s.C) v1 v2 _ _ (PR.todo (i := 4) HP.out (List.mem_iff_getElem?.2 ⟨0, rfl⟩) hN4) (st_size HL.out) (zs_size HL.out) s.one ?_
          exact hK undef _ ⟨trivial, fun h => absurd h (by decide), JA.step fun L' y' h1 h2 h3 h4 => PR.store (i := 4) HP.out HD.out (List.mem_iff_getElem?.2 ⟨0, rfl⟩) rfl (h2 (by decide)) h1⟩
        · have e1 : y 7 = .pointer (some ⟨(w.heap.size + 3), 0, none⟩) := hy.out 7 (by decide)
          have e2 : y 34 = .agg (outC 3 e AT) := (hp.out 3 (by decide)).2 (by decide)
          have hN5 : L 5 = false := hL
          intro K Q hK
          clear hcl hL
          have v1 := (eval_frame 43 y [] (t := 7) (by decide)).trans e1
          have v2 := (eval_frame 43 y [] (t := 34) (by decide)).trans e2
          obtain ⟨A, hA⟩ : ∃ A, (⟨frameOf 43 y, []⟩ : Act) = A := ⟨_, rfl⟩
          rw [hA] at v1 v2 hK ⊢
          clear hA hy hp
          refine wp_store_row 36 (.tmp 7) (.tmp 34) rfl ((w.heap.size + 3)) ((outC 3 e AT)) v1 v2 _ _ (PR.todo (i := 5) HP.out (List.mem_iff_getElem?.2 ⟨1, rfl⟩) hN5) (by kernel_rfl) (by kernel_rfl) (out_one _ _ _) ?_
          exact hK undef _ ⟨trivial, fun h => absurd h (by decide), JA.step fun L' y' h1 h2 h3 h4 => PR.store (i := 5) HP.out HD.out (List.mem_iff_getElem?.2 ⟨1, rfl⟩) rfl (h2 (by decide)) h1⟩
  case steps1 =>
    refine ⟨?_, ?_, ?_, ?_, ?_, ?_, ?_, ?_, ?_, trivial⟩
    all_goals intro L y w9 hJ hL hy0 hp0 hcl hun
    all_goals have hy := Lib.hid hy0
    all_goals have hp := Lib.hid hp0
    all_goals have HJ := Lib.hid hJ
    all_goals have HP := Lib.hid hJ.out
    all_goals have hU := Lib.hid hun
    all_goals clear hy0 hp0 hun hJ
    · have e1 : y 4 = .pointer (some ⟨(w.heap.size + 1), 0, none⟩) := hy.out 4 (by decide)
      intro K Q hK
      clear hcl hL
      have v1 := (eval_frame 43 y [] (t := 4) (by decide)).trans e1
      obtain ⟨A, hA⟩ : ∃ A, (⟨frameOf 43 y, []⟩ : Act) = A := ⟨_, rfl⟩
      rw [hA] at v1 hK ⊢
      clear hA hy hp
      simp only [Act.eval] at v1
      go_simp
      exact hK _ _ ⟨trivial, fun _ => rfl, HJ.out.pure (by decide) (by decide)⟩
    · have e1 : y 11 = .pointer (some ⟨(w.heap.size + 1), 2, none⟩) := (hp.out 0 (by decide)).2 (by decide)
      have q2 : w9.cell? ⟨(w.heap.size + 1), 2, none⟩ = some (.int .i64 (b : Int)) := (Blk.cell (HP.out.fx _ (List.mem_iff_getElem?.2 ⟨1, rfl⟩)) 2).trans rfl
      intro K Q hK
      clear hcl hL
      have v1 := (eval_frame 43 y [] (t := 11) (by decide)).trans e1
      obtain ⟨A, hA⟩ : ∃ A, (⟨frameOf 43 y, []⟩ : Act) = A := ⟨_, rfl⟩
      rw [hA] at v1 hK ⊢
      clear hA hy hp
      simp only [Act.eval] at v1
      go_simp
      exact hK _ _ ⟨trivial, fun _ => rfl, HJ.out.pure (by decide) (by decide)⟩
    · have e1 : y 3 = .pointer (some ⟨w.heap.size, 0, none⟩) := hy.out 3 (by decide)
      intro K Q hK
      clear hcl hL
      have v1 := (eval_frame 43 y [] (t := 3) (by decide)).trans e1
      obtain ⟨A, hA⟩ : ∃ A, (⟨frameOf 43 y, []⟩ : Act) = A := ⟨_, rfl⟩
      rw [hA] at v1 hK ⊢
      clear hA hy hp
      simp only [Act.eval] at v1
      go_simp
      exact hK _ _ ⟨trivial, fun _ => rfl, HJ.out.pure (by decide) (by decide)⟩
    · have e1 : y 13 = .pointer (some ⟨w.heap.size, 0, none⟩) := (hp.out 2 (by decide)).2 (by decide)
      have e2 : y 12 = .int .i64 (b : Int) := (hp.out 1 (by decide)).2 (by decide)
      intro K Q hK
      clear hcl hL
      have v1 := (eval_frame 43 y [] (t := 13) (by decide)).trans e1
      have v2 := (eval_frame 43 y [] (t := 12) (by decide)).trans e2
      obtain ⟨A, hA⟩ : ∃ A, (⟨frameOf 43 y, []⟩ : Act) = A := ⟨_, rfl⟩
      rw [hA] at v1 v2 hK ⊢
      clear hA hy hp
      simp only [Act.eval] at v1 v2
      go_simp
      first | exact hK _ _ ⟨trivial, fun _ => rfl, HJ.out.pure (by decide) (by decide)⟩ | (rw [if_pos (by omega)]; exact hK _ _ ⟨trivial, fun _ => rfl, HJ.out.pure (by decide) (by decide)⟩) | (rw [if_pos ⟨by omega, by omega⟩]; exact hK _ _ ⟨trivial, fun _ => rfl, HJ.out.pure (by decide) (by decide)⟩)
    · have e1 : y 14 = .pointer (some ⟨w.heap.size, b, none⟩) := (hp.out 3 (by decide)).2 (by decide)
      have q0 : w9.cell? ⟨w.heap.size, b, none⟩ = some (.int .u64 (s.R.getD b 0)) := (Blk.cell (HP.out.fx _ (List.mem_iff_getElem?.2 ⟨0, rfl⟩)) _).trans (St.creg HL.out (by omega))
      intro K Q hK
      clear hcl hL
      have v1 := (eval_frame 43 y [] (t := 14) (by decide)).trans e1
      obtain ⟨A, hA⟩ : ∃ A, (⟨frameOf 43 y, []⟩ : Act) = A := ⟨_, rfl⟩
      rw [hA] at v1 hK ⊢
      clear hA hy hp
      simp only [Act.eval] at v1
      go_simp
      exact hK _ _ ⟨trivial, fun _ => rfl, HJ.out.pure (by decide) (by decide)⟩
    · have e1 : y 4 = .pointer (some ⟨(w.heap.size + 1), 0, none⟩) := hy.out 4 (by decide)
      have q0 : w9.cell? ⟨(w.heap.size + 1), 0, none⟩ = some (.int .i64 op) := (Blk.cell (HP.out.fx _ (List.mem_iff_getElem?.2 ⟨1, rfl⟩)) 0).trans rfl
      have q1 : w9.cell? ⟨(w.heap.size + 1), 1, none⟩ = some (.int .i64 (a : Int)) := (Blk.cell (HP.out.fx _ (List.mem_iff_getElem?.2 ⟨1, rfl⟩)) 1).trans rfl
      have q2 : w9.cell? ⟨(w.heap.size + 1), 2, none⟩ = some (.int .i64 (b : Int)) := (Blk.cell (HP.out.fx _ (List.mem_iff_getElem?.2 ⟨1, rfl⟩)) 2).trans rfl
      have q3 : w9.cell? ⟨(w.heap.size + 1), 3, none⟩ = some (.int .i64 (c : Int)) := (Blk.cell (HP.out.fx _ (List.mem_iff_getElem?.2 ⟨1, rfl⟩)) 3).trans rfl
      have q4 : w9.cell? ⟨(w.heap.size + 1), 4, none⟩ = some (.int .i32 m) := (Blk.cell (HP.out.fx _ (List.mem_iff_getElem?.2 ⟨1, rfl⟩)) 4).trans rfl
      intro K Q hK
      clear hcl hL
      have v1 := (eval_frame 43 y [] (t := 4) (by decide)).trans e1
      obtain ⟨A, hA⟩ : ∃ A, (⟨frameOf 43 y, []⟩ : Act) = A := ⟨_, rfl⟩
      rw [hA] at v1 hK ⊢
      clear hA hy hp
      simp only [Act.eval] at v1
      go_simp
      exact hK _ _ ⟨trivial, fun _ => rfl, HJ.out.pure (by decide) (by decide)⟩
    · have e1 : y 16 = .agg #[.int .i64 op, .int .i64 (a : Int), .int .i64 (b : Int), .int .i64 (c : Int), .int .i32 m] := (hp.out 5 (by decide)).2 (by decide)
      intro K Q hK
      clear hcl hL
      have v1 := (eval_frame 43 y [] (t := 16) (by decide)).trans e1
      obtain ⟨A, hA⟩ : ∃ A, (⟨frameOf 43 y, []⟩ : Act) = A := ⟨_, rfl⟩
      rw [hA] at v1 hK ⊢
      clear hA hy hp
      simp only [Act.eval] at v1
      go_simp
      refine (HNU.out _).mono ?_
      rintro r w5 ⟨rfl, hb5⟩
      exact hK _ _ ⟨trivial, fun _ => rfl, JA.step fun L' y' h1 h2 h3 h4 => PR.later (S := []) HP.out hb5 rfl (by decide) h1⟩
    · have e1 : y 15 = .int .u64 (s.R.getD b 0) := (hp.out 4 (by decide)).2 (by decide)
      have e2 : y 17 = .int .u64 (IntKind.u64.wrap m) := (hp.out 6 (by decide)).2 (by decide)
      intro K Q hK
      clear hcl hL
      have v1 := (eval_frame 43 y [] (t := 15) (by decide)).trans e1
      have v2 := (eval_frame 43 y [] (t := 17) (by decide)).trans e2
      obtain ⟨A, hA⟩ : ∃ A, (⟨frameOf 43 y, []⟩ : Act) = A := ⟨_, rfl⟩
      rw [hA] at v1 v2 hK ⊢
      clear hA hy hp
      simp only [Act.eval] at v1 v2
      go_simp
      exact hK _ _ ⟨trivial, fun _ => rfl, HJ.out.pure (by decide) (by decide)⟩
    · have e1 : y 18 = .int .u64 (IntKind.u64.wrap (s.R.getD b 0 + IntKind.u64.wrap m)) := (hp.out 7 (by decide)).2 (by decide)
      intro K Q hK
      clear hcl hL
      have v1 := (eval_frame 43 y [] (t := 18) (by decide)).trans e1
      obtain ⟨A, hA⟩ : ∃ A, (⟨frameOf 43 y, []⟩ : Act) = A := ⟨_, rfl⟩
      rw [hA] at v1 hK ⊢
      clear hA hy hp
      simp only [Act.eval] at v1
      go_simp
      exact hK _ _ ⟨trivial, fun _ => rfl, HJ.out.pure (by decide) (by decide)⟩
end Go.Proofs.YtkhfmgifpppcmaaDoor
