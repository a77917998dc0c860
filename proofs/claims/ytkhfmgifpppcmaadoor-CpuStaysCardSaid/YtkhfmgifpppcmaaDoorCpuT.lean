/-
  What is proved here: store of package cpu.
  Conditions: as they say.
-/
import Derived.Test.YtkhfmgifpppcmaaDoorCpuV
import Derived.Test.YtkhfmgifpppcmaaDoorVmSto
namespace Go.Proofs.YtkhfmgifpppcmaaDoor
open Go.RowKit
set_option linter.unusedVariables false
set_option linter.unusedSimpArgs false

set_option maxRecDepth 100000 in
theorem frCStore (y : Nat → Value) : frameOf 39 y = #[y 0, y 1, y 2, y 3, y 4, y 5, y 6, y 7, y 8, y 9, y 10, y 11, y 12, y 13, y 14, y 15, y 16, y 17, y 18, y 19, y 20, y 21, y 22, y 23, y 24, y 25, y 26, y 27, y 28, y 29, y 30, y 31, y 32, y 33, y 34, y 35, y 36, y 37, y 38] := rfl
theorem sizes_at {o : Nat} (ho : o < 28) : sizesL.toArray[o]? = some (.int .i64 (sizesZ.getD o 0)) := by
  unfold sizesL
  rw [List.getElem?_toArray, List.getElem?_map, List.getD_eq_getElem?_getD, List.getElem?_eq_getElem (show o < sizesZ.length from ho)]
  rfl
theorem turn_row {S : VS} {w w' w5 : World} {B : Nat} (h : TurnV S w w') (hb : Below B w' w5) (hB : w.heap.size ≤ B) (hBw : B ≤ w'.heap.size) : TurnV S w w5 :=
  ⟨hb.os.trans h.os, hb.tape.trans h.tape, hb.output.trans h.output, Nat.le_trans h.size hb.size, fun k hk hno => by rw [hb.block k (by omega)]; exact h.block k hk hno⟩
set_option maxHeartbeats 6400000 in
set_option maxRecDepth 100000 in
theorem cstore_ok (s : St) (hs : s.Ok) (o : Nat) (m : Int) (a b c : Nat) (ha : a < 32) (hb : b < 32) (ho : o < 28) (mp : Value) (e : Int) (w : World) (hT : Tb w) (S : VS) (hown : ∀ k, S.own k → k < w.heap.size) (Q : World → Prop) (hQ : ∀ x y, Q x → Below w.heap.size x y → Q y)
    (hst : ∀ wx, Below w.heap.size w wx → Calls Tryd.prog 32 #[mp, .int .u64 (IntKind.u64.wrap (s.R.getD b 0 + IntKind.u64.wrap m)), .int .i64 (sizesZ.getD o 0), .int .u64 (s.R.getD a 0)] wx fun r w' => r = .returned (.int .i64 e) ∧ TurnV S wx w' ∧ Q w') :
    Calls Tryd.prog 22 #[.agg s.C, .agg #[.int .i64 (o : Int), .int .i64 (a : Int), .int .i64 (b : Int), .int .i64 (c : Int), .int .i32 m], mp] w fun r w' => r = .returned (.tuple #[.agg (if e = 0 then (s.setP (IntKind.u64.wrap (s.pc + 8))).C else s.C), .agg (if e = 0 then outC 0 0 0 else outC 3 e (IntKind.u64.wrap (s.R.getD b 0 + IntKind.u64.wrap m)))]) ∧ TurnV S w w' ∧ Q w' := by
  have HST := Lib.hid hst
  have HQQ := Lib.hid hQ
  have HL := Lib.hid hs.len
  obtain ⟨tz, hz⟩ := hT.sz
  have HSZ := Lib.hid hz
  have hz0 : 0 < w.heap.size := hz.lt
  have HNX := Lib.hid (fun wx => next_ok s hs.len wx)
  have HOWN := Lib.hid hown
  obtain ⟨C1, hC1⟩ : ∃ C1, (if e = 0 then (s.setP (IntKind.u64.wrap (s.pc + 8))).C else s.C) = C1 := ⟨_, rfl⟩
  obtain ⟨C2, hC2⟩ : ∃ C2, (if e = 0 then outC 0 0 0 else outC 3 e (IntKind.u64.wrap (s.R.getD b 0 + IntKind.u64.wrap m))) = C2 := ⟨_, rfl⟩
  have HC1 := Lib.hid hC1
  have HC2 := Lib.hid hC2
  rw [hC1, hC2]
  clear hC1 hC2 hst hT hz hs hQ hown
  have HNU : Hid (∀ wx, Calls Tryd.prog 25 #[.agg #[.int .i64 (o : Int), .int .i64 (a : Int), .int .i64 (b : Int), .int .i64 (c : Int), .int .i32 m]] wx fun r w' => r = .returned (.int .u64 (IntKind.u64.wrap m)) ∧ Below wx.heap.size wx w') := Lib.hid (fun wx => number_i ⟨o, a, b, c, m⟩ wx)
  obtain ⟨w1, hw1⟩ : ∃ w1, (((w.alloc (.cells s.C 26)).alloc (.cells #[.int .i64 (o : Int), .int .i64 (a : Int), .int .i64 (b : Int), .int .i64 (c : Int), .int .i32 m] 63)).alloc (.cells St.zero.C 26)).alloc (.cells #[.int .i64 0, .int .i64 0, .int .u64 0] 36) = w1 := ⟨_, rfl⟩
  have hz1 : w1.heap.size = w.heap.size + 4 := by rw [← hw1]; simp
  have B0 : Hid (Blk w1 w.heap.size s.C 26) := Lib.hid (by
    rw [← hw1]
    have := Blk.new w s.C 26
    try simp only [World.size_alloc] at this
    exact (((this.alloc _).alloc _).alloc _))
  have B1 : Hid (Blk w1 (w.heap.size + 1) #[.int .i64 (o : Int), .int .i64 (a : Int), .int .i64 (b : Int), .int .i64 (c : Int), .int .i32 m] 63) := Lib.hid (by
    rw [← hw1]
    have := Blk.new (w.alloc (.cells s.C 26)) #[.int .i64 (o : Int), .int .i64 (a : Int), .int .i64 (b : Int), .int .i64 (c : Int), .int .i32 m] 63
    try simp only [World.size_alloc] at this
    exact ((this.alloc _).alloc _))
  have B2 : Hid (Blk w1 (w.heap.size + 2) St.zero.C 26) := Lib.hid (by
    rw [← hw1]
    have := Blk.new ((w.alloc (.cells s.C 26)).alloc (.cells #[.int .i64 (o : Int), .int .i64 (a : Int), .int .i64 (b : Int), .int .i64 (c : Int), .int .i32 m] 63)) St.zero.C 26
    try simp only [World.size_alloc] at this
    exact (this.alloc _))
  have B3 : Hid (Blk w1 (w.heap.size + 3) #[.int .i64 0, .int .i64 0, .int .u64 0] 36) := Lib.hid (by
    rw [← hw1]
    have := Blk.new (((w.alloc (.cells s.C 26)).alloc (.cells #[.int .i64 (o : Int), .int .i64 (a : Int), .int .i64 (b : Int), .int .i64 (c : Int), .int .i32 m] 63)).alloc (.cells St.zero.C 26)) #[.int .i64 0, .int .i64 0, .int .u64 0] 36
    try simp only [World.size_alloc] at this
    exact this)
  have HB : Hid (Below w.heap.size w w1) := Lib.hid (by rw [← hw1]; exact (((((Below.refl _ _).alloc (by exact Nat.le_refl _) _).alloc (by simp only [World.size_alloc]; omega) _).alloc (by simp only [World.size_alloc]; omega) _).alloc (by simp only [World.size_alloc]; omega) _))
  go_enter Tryd.func22, Tryd.ntmps22
  go_wp2_with (first | (refine wpList_alloc_eq rfl 26 rfl St.zero.C zs_info ?_))
  try simp only [List.set_cons_succ, List.set_cons_zero, World.size_alloc]
  try rw [hw1]
  clear hw1 hz1
  refine wp_region_a (by kernel_rfl) 39 rfl [10, 11, 12, 13, 14, 15, 16, 17, 8] (fun _ _ => True) (factsOf [Is (.pointer (some ⟨(w.heap.size + 1), 2, none⟩)), Is (.int .i64 (b : Int)), Is (.pointer (some ⟨w.heap.size, 0, none⟩)), Is (.pointer (some ⟨w.heap.size, b, none⟩)), Is (.int .u64 (s.R.getD b 0)), Is (.agg #[.int .i64 (o : Int), .int .i64 (a : Int), .int .i64 (b : Int), .int .i64 (c : Int), .int .i32 m]), Is (.int .u64 (IntKind.u64.wrap m)), Is (.int .u64 (IntKind.u64.wrap (s.R.getD b 0 + IntKind.u64.wrap m))), Is (.int .u64 (IntKind.u64.wrap (s.R.getD b 0 + IntKind.u64.wrap m)))]) (JA [] [] (fun L _ w9 => PR (w.heap.size) w [(w.heap.size, s.C, 26), ((w.heap.size + 1), #[.int .i64 (o : Int), .int .i64 (a : Int), .int .i64 (b : Int), .int .i64 (c : Int), .int .i32 m], 63), ((w.heap.size + 2), St.zero.C, 26), ((w.heap.size + 3), #[.int .i64 0, .int .i64 0, .int .u64 0], 36)] [] L w9)) ?mono1 ?hj1 (by kernel_rfl) ?start1 ?steps1 ?fin1
  case mono1 => exact factsOf_monoR (monoR_cons (Is.monoR _ _) (monoR_cons (Is.monoR _ _) (monoR_cons (Is.monoR _ _) (monoR_cons (Is.monoR _ _) (monoR_cons (Is.monoR _ _) (monoR_cons (Is.monoR _ _) (monoR_cons (Is.monoR _ _) (monoR_cons (Is.monoR _ _) (monoR_cons (Is.monoR _ _) (monoR_nil _))))))))))
  case hj1 => exact JA.congr (by decide)
  case start1 =>
    refine JA.of fun L' y' h1 h2 => ?_
    exact ⟨(Nat.le_refl _), Below.drew (HB.out), (List.forall_mem_cons.2 ⟨Blk.drew (B0.out), (List.forall_mem_cons.2 ⟨Blk.drew (B1.out), (List.forall_mem_cons.2 ⟨Blk.drew (B2.out), (List.forall_mem_cons.2 ⟨Blk.drew (B3.out), (fun _ h => by cases h)⟩)⟩)⟩)⟩), (fun _ h => by cases h)⟩
  case fin1 =>
    intro y L w9 hJ hall hF hT
    have HP := Lib.hid hJ.out
    have f8 : y 8 = .int .u64 (IntKind.u64.wrap (s.R.getD b 0 + IntKind.u64.wrap m)) := hF 8 (by decide) (by decide)
    clear hJ hF hall
    rw [frCStore]
    simp only [f8, hT 0 (by decide), hT 1 (by decide), hT 2 (by decide), hT 3 (by decide), hT 4 (by decide), hT 5 (by decide), hT 6 (by decide), hT 7 (by decide), hT 9 (by decide), hT 18 (by decide), hT 19 (by decide), hT 20 (by decide), hT 21 (by decide), hT 22 (by decide), hT 23 (by decide), hT 24 (by decide), hT 25 (by decide), hT 26 (by decide), hT 27 (by decide), hT 28 (by decide), hT 29 (by decide), hT 30 (by decide), hT 31 (by decide), hT 32 (by decide), hT 33 (by decide), hT 34 (by decide), hT 35 (by decide), hT 36 (by decide), hT 37 (by decide), hT 38 (by decide), List.getD_cons_succ, List.getD_cons_zero]
    clear hT f8
    have D0 : Hid (Blk w9 w.heap.size s.C 26) := Lib.hid (HP.out.fx _ (List.mem_iff_getElem?.2 ⟨0, rfl⟩))
    have D1 : Hid (Blk w9 (w.heap.size + 1) #[.int .i64 (o : Int), .int .i64 (a : Int), .int .i64 (b : Int), .int .i64 (c : Int), .int .i32 m] 63) := Lib.hid (HP.out.fx _ (List.mem_iff_getElem?.2 ⟨1, rfl⟩))
    have D2 : Hid (Blk w9 (w.heap.size + 2) St.zero.C 26) := Lib.hid (HP.out.fx _ (List.mem_iff_getElem?.2 ⟨2, rfl⟩))
    have D3 : Hid (Blk w9 (w.heap.size + 3) #[.int .i64 0, .int .i64 0, .int .u64 0] 36) := Lib.hid (HP.out.fx _ (List.mem_iff_getElem?.2 ⟨3, rfl⟩))
    have HBX := Lib.hid HP.out.bel
    have hbx := HP.out.bel
    clear HP HB B0 B1 B2 B3 HNU
    have hz9 : Hid (Blk w9 0 sizesL.toArray tz) := Lib.hid (HSZ.out.below hbx hz0)
    obtain ⟨W6, hW6⟩ : ∃ W : World, W = w9 := ⟨_, rfl⟩
    subst hW6
    obtain ⟨AT, hAT⟩ : ∃ AT, (IntKind.u64.wrap (s.R.getD b 0 + IntKind.u64.wrap m)) = AT := ⟨_, rfl⟩
    rw [hAT] at HST HC2 ⊢
    clear hAT hbx
    go_wp2_with fail
    refine wp_region_a (by kernel_rfl) 39 rfl [18, 19, 20, 21, 22, 23, 24, 25, 26, 27, 28, 29, 9] (fun _ _ => True) (factsOf [Is (mp), Is (.int .u64 AT), Is (.pointer (some ⟨(w.heap.size + 1), 0, none⟩)), Is (.int .i64 (o : Int)), Is (.pointer (some ⟨0, o, none⟩)), Is (.int .i64 (sizesZ.getD o 0)), Is (.pointer (some ⟨(w.heap.size + 1), 1, none⟩)), Is (.int .i64 (a : Int)), Is (.pointer (some ⟨w.heap.size, 0, none⟩)), Is (.pointer (some ⟨w.heap.size, a, none⟩)), Is (.int .u64 (s.R.getD a 0)), Is (.int .i64 e), Is (.int .i64 e)]) (JA [11] [] (fun L _ w9 => (L 11 = false → PR (w.heap.size) w [(w.heap.size, s.C, 26), ((w.heap.size + 1), #[.int .i64 (o : Int), .int .i64 (a : Int), .int .i64 (b : Int), .int .i64 (c : Int), .int .i32 m], 63), ((w.heap.size + 2), St.zero.C, 26), ((w.heap.size + 3), #[.int .i64 0, .int .i64 0, .int .u64 0], 36), (0, sizesL.toArray, tz)] [] L w9) ∧ (L 11 = true → ∃ wx, Below w.heap.size w wx ∧ Blk wx (w.heap.size) s.C 26 ∧ Blk wx ((w.heap.size + 2)) St.zero.C 26 ∧ Blk wx ((w.heap.size + 3)) #[.int .i64 0, .int .i64 0, .int .u64 0] 36 ∧ TurnV S wx w9 ∧ Q w9))) ?mono2 ?hj2 (by kernel_rfl) ?start2 ?steps2 ?fin2
    case mono2 => exact factsOf_monoR (monoR_cons (Is.monoR _ _) (monoR_cons (Is.monoR _ _) (monoR_cons (Is.monoR _ _) (monoR_cons (Is.monoR _ _) (monoR_cons (Is.monoR _ _) (monoR_cons (Is.monoR _ _) (monoR_cons (Is.monoR _ _) (monoR_cons (Is.monoR _ _) (monoR_cons (Is.monoR _ _) (monoR_cons (Is.monoR _ _) (monoR_cons (Is.monoR _ _) (monoR_cons (Is.monoR _ _) (monoR_cons (Is.monoR _ _) (monoR_nil _))))))))))))))
    case hj2 => exact JA.congr (by decide)
    case start2 =>
      refine JA.of fun L' y' h1 h2 => ?_
      exact ⟨fun _ => ⟨(Nat.le_refl _), Below.drew (HBX.out), (List.forall_mem_cons.2 ⟨Blk.drew (D0.out), (List.forall_mem_cons.2 ⟨Blk.drew (D1.out), (List.forall_mem_cons.2 ⟨Blk.drew (D2.out), (List.forall_mem_cons.2 ⟨Blk.drew (D3.out), (List.forall_mem_cons.2 ⟨Blk.drew (hz9.out), (fun _ h => by cases h)⟩)⟩)⟩)⟩)⟩), (fun _ h => by cases h)⟩, fun h => (by rw [h1 11 (by decide)] at h; cases h)⟩
    case fin2 =>
      intro y L w9 hJ hall hF hT
      have HP := Lib.hid (hJ.out.2 (hall 11 (by decide)))
      have f9 : y 9 = .int .i64 e := hF 12 (by decide) (by decide)
      clear hJ hF hall
      rw [frCStore]
      simp only [f9, hT 0 (by decide), hT 1 (by decide), hT 2 (by decide), hT 3 (by decide), hT 4 (by decide), hT 5 (by decide), hT 6 (by decide), hT 7 (by decide), hT 8 (by decide), hT 10 (by decide), hT 11 (by decide), hT 12 (by decide), hT 13 (by decide), hT 14 (by decide), hT 15 (by decide), hT 16 (by decide), hT 17 (by decide), hT 30 (by decide), hT 31 (by decide), hT 32 (by decide), hT 33 (by decide), hT 34 (by decide), hT 35 (by decide), hT 36 (by decide), hT 37 (by decide), hT 38 (by decide), List.getD_cons_succ, List.getD_cons_zero]
      clear hT f9
      obtain ⟨wx, hbx, e0, e2, e3, ht, hq⟩ := HP.out
      have hno : ∀ k, w.heap.size ≤ k → ¬ S.own k := fun k hk hk2 => absurd (HOWN.out k hk2) (by omega)
      have E0 := Lib.hid (blk_same e0 (ht.block _ e0.lt (hno _ (by omega))))
      have E2 := Lib.hid (blk_same e2 (ht.block _ e2.lt (hno _ (by omega))))
      have E3 := Lib.hid (blk_same e3 (ht.block _ e3.lt (hno _ (by omega))))
      have HTV : Hid (TurnV S w w9) := Lib.hid ((TurnV.of_below hbx).trans ht)
      have HQ9 := Lib.hid hq
      have hsz9 : w.heap.size ≤ w9.heap.size := Nat.le_trans hbx.size ht.size
      have HS9 := Lib.hid hsz9
      clear HP hbx e0 e2 e3 ht hq hno hsz9 D0 D1 D2 D3 hz9 HSZ HBX HST
      obtain ⟨W5, hW5⟩ : ∃ W : World, W = w9 := ⟨_, rfl⟩
      subst hW5
      by_cases he : e = 0
      · subst he
        have q1 := HC1.out
        have q2 := HC2.out
        rw [if_pos rfl] at q1 q2
        obtain ⟨s3, hs3⟩ : ∃ s3, s.setP (IntKind.u64.wrap (s.pc + 8)) = s3 := ⟨_, rfl⟩
        have HL3 : Hid (s3.R.length = 32) := Lib.hid (by rw [← hs3]; exact HL.out)
        rw [hs3] at HNX q1
        have HQ1 := Lib.hid q1
        have HQ2 := Lib.hid q2
        clear q1 q2 HC1 HC2 hs3
        go_wp2_with (first | (refine wpList_load_row rfl 26 _ rfl (w.heap.size) rfl _ (s.C) (0, 0) _ E0.out Tryd.underlying26 rfl (st_size HL.out) ?_) | fail)
        refine (HNX.out _).mono ?_
        rintro r7 w7 ⟨rfl, hb7⟩
        have K2 := Lib.hid (E2.out.later hb7)
        have K3 := Lib.hid (E3.out.later hb7)
        have HB7 := Lib.hid hb7
        have K4 := Lib.hid (K3.out.row_other (g := (w.heap.size + 2)) (C := s3.C) (by omega))
        clear hb7 HNX E0 E2 E3
        go_wp2_with (first | (refine wpList_store_row rfl 26 _ _ rfl ((w.heap.size + 2)) (s3.C) rfl rfl _ _ K2.out (st_size HL3.out) (zs_size HL3.out) s3.one ?_) | (refine wpList_store_row rfl 36 _ _ rfl ((w.heap.size + 3)) (outC 0 0 0) rfl rfl _ _ K4.out (by kernel_rfl) (by kernel_rfl) (out_one _ _ _) ?_))
        have M2 := (K2.out.row (C := s3.C)).row_other (g := (w.heap.size + 3)) (C := outC 0 0 0) (by omega)
        have M3 := K4.out.row (C := outC 0 0 0)
        refine bodyPost_ret (v := .tuple #[.agg (s3.C), .agg (outC 0 0 0)]) (results_two rfl _ _ ((w.heap.size + 2)) ((w.heap.size + 3)) _ _ (s3.C) (outC 0 0 0) (0, 0) (0, 0) _ _ rfl rfl M2 M3 Tryd.underlying26 rfl (st_size HL3.out) Tryd.underlying36 rfl (by kernel_rfl)) rfl ?_
        have hbe : Below w.heap.size W5 ((w7.setRow ((w.heap.size + 2)) s3.C).setRow ((w.heap.size + 3)) (outC 0 0 0)) := below_row (below_row (HB7.out.mono HS9.out) (by omega) _) (by omega) _
        exact ⟨by rw [HQ1.out, HQ2.out], turn_row HTV.out hbe (Nat.le_refl _) HS9.out, HQQ.out _ _ HQ9.out hbe⟩
      · have heb : ¬ e = 0 := he
        have q1 := HC1.out
        have q2 := HC2.out
        rw [if_neg he] at q1 q2
        have HQ1 := Lib.hid q1
        have HQ2 := Lib.hid q2
        clear q1 q2 HC1 HC2
        have HD : Hid (Dist w.heap.size [(w.heap.size, s.C, 26)] [(4, (w.heap.size + 2), 26, St.zero.C, s.C), (5, (w.heap.size + 3), 36, #[.int .i64 0, .int .i64 0, .int .u64 0], (outC 3 e AT))]) := Lib.hid ⟨by (intro r hr; simp only [List.mem_cons, List.not_mem_nil, or_false] at hr; rcases hr with rfl | rfl <;> refine ⟨(by dsimp only; omega), fun f hf => ?_⟩ <;> simp only [List.mem_cons, List.not_mem_nil, or_false] at hf <;> (rcases hf with rfl) <;> dsimp only <;> omega), by (intro r hr q hq h; simp only [List.mem_cons, List.not_mem_nil, or_false] at hr hq; rcases hr with rfl | rfl <;> rcases hq with rfl | rfl <;> first | rfl | (exfalso; simp at h; done) | (exfalso; simp at h; omega))⟩
        have HFA := Lib.hid (fun wx => fault_ok e AT wx)
        go_wp2_with fail
        refine wp_region_a (by kernel_rfl) 39 rfl [32, 33, 34, 35, 39, 40] (fun _ _ => True) (factsOf [Is (.agg (s.C)), Is (.int .i64 e), Is (.int .u64 AT), Is (.agg (outC 3 e AT)), AnyB, AnyB]) (JA [4, 5] [] (fun L _ w9 => PR (w.heap.size) W5 [(w.heap.size, s.C, 26)] [(4, (w.heap.size + 2), 26, St.zero.C, s.C), (5, (w.heap.size + 3), 36, #[.int .i64 0, .int .i64 0, .int .u64 0], (outC 3 e AT))] L w9)) ?mono4 ?hj4 (by kernel_rfl) ?start4 ?steps4 ?fin4
        case mono4 => exact factsOf_monoR (monoR_cons (Is.monoR _ _) (monoR_cons (Is.monoR _ _) (monoR_cons (Is.monoR _ _) (monoR_cons (Is.monoR _ _) (monoR_cons (AnyB.monoR _) (monoR_cons (AnyB.monoR _) (monoR_nil _)))))))
        case hj4 => exact JA.congr (by decide)
        case start4 =>
          refine JA.of fun L' y' h1 h2 => ?_
          exact ⟨HS9.out, Below.drew ((Below.refl _ _)), (List.forall_mem_cons.2 ⟨Blk.drew (E0.out), (fun _ h => by cases h)⟩), (List.forall_mem_cons.2 ⟨PR.ini (h1 4 (by decide)) (Blk.drew (E2.out)), (List.forall_mem_cons.2 ⟨PR.ini (h1 5 (by decide)) (Blk.drew (E3.out)), (fun _ h => by cases h)⟩)⟩)⟩
        case fin4 =>
          intro y L w9 hJ hall hF hT
          have HP := Lib.hid hJ.out
          have HR0 := Lib.hid (PR.done (i := 4) HP.out (List.mem_iff_getElem?.2 ⟨0, rfl⟩) (hall 4 (by decide)))
          have HR1 := Lib.hid (PR.done (i := 5) HP.out (List.mem_iff_getElem?.2 ⟨1, rfl⟩) (hall 5 (by decide)))
          clear hJ hF hall
          rw [frCStore]
          simp only [hT 0 (by decide), hT 1 (by decide), hT 2 (by decide), hT 3 (by decide), hT 4 (by decide), hT 5 (by decide), hT 6 (by decide), hT 7 (by decide), hT 8 (by decide), hT 9 (by decide), hT 10 (by decide), hT 11 (by decide), hT 12 (by decide), hT 13 (by decide), hT 14 (by decide), hT 15 (by decide), hT 16 (by decide), hT 17 (by decide), hT 18 (by decide), hT 19 (by decide), hT 20 (by decide), hT 21 (by decide), hT 22 (by decide), hT 23 (by decide), hT 24 (by decide), hT 25 (by decide), hT 26 (by decide), hT 27 (by decide), hT 28 (by decide), hT 29 (by decide), hT 30 (by decide), hT 31 (by decide), hT 36 (by decide), hT 37 (by decide), hT 38 (by decide), List.getD_cons_succ, List.getD_cons_zero]
          clear hT 
          go_wp2
          refine bodyPost_ret (v := .tuple #[.agg (s.C), .agg (outC 3 e AT)]) (results_two rfl _ _ ((w.heap.size + 2)) ((w.heap.size + 3)) _ _ (s.C) (outC 3 e AT) (0, 0) (0, 0) _ _ rfl rfl HR0.out HR1.out Tryd.underlying26 rfl (st_size HL.out) Tryd.underlying36 rfl (by kernel_rfl)) rfl ?_
          exact ⟨by rw [HQ1.out, HQ2.out], turn_row HTV.out HP.out.bel (Nat.le_refl _) HS9.out, HQQ.out _ _ HQ9.out HP.out.bel⟩
        case steps4 =>
          refine ⟨?_, ?_, ?_, ?_, ?_, ?_, trivial⟩
          all_goals intro L y w9 hJ hL hy0 hp0 hcl hun
          all_goals have hy := Lib.hid hy0
          all_goals have hp := Lib.hid hp0
          all_goals have HJ := Lib.hid hJ
          all_goals have HP := Lib.hid hJ.out
          all_goals have hU := Lib.hid hun
          all_goals clear hy0 hp0 hun hJ
          · have e1 : y 3 = .pointer (some ⟨w.heap.size, 0, none⟩) := hy.out 3 (by decide)
            intro K Q hK
            clear hcl hL
            have v1 := (eval_frame 39 y [] (t := 3) (by decide)).trans e1
            obtain ⟨A, hA⟩ : ∃ A, (⟨frameOf 39 y, []⟩ : Act) = A := ⟨_, rfl⟩
            rw [hA] at v1 hK ⊢
            clear hA hy hp
            refine wp_load_row 26 (.tmp 3) rfl (w.heap.size) v1 _ _ (0, 0) _ (HP.out.fx _ (List.mem_iff_getElem?.2 ⟨0, rfl⟩)) Tryd.underlying26 rfl (st_size HL.out) ?_
            exact hK _ _ ⟨trivial, fun _ => rfl, HJ.out.pure (by decide) (by decide)⟩
          · have e1 : y 9 = .int .i64 e := hy.out 9 (by decide)
            intro K Q hK
            clear hcl hL
            have v1 := (eval_frame 39 y [] (t := 9) (by decide)).trans e1
            obtain ⟨A, hA⟩ : ∃ A, (⟨frameOf 39 y, []⟩ : Act) = A := ⟨_, rfl⟩
            rw [hA] at v1 hK ⊢
            clear hA hy hp
            simp only [Act.eval] at v1
            go_simp
            exact hK _ _ ⟨trivial, fun _ => rfl, HJ.out.pure (by decide) (by decide)⟩
          · have e1 : y 8 = .int .u64 AT := hy.out 8 (by decide)
            intro K Q hK
            clear hcl hL
            have v1 := (eval_frame 39 y [] (t := 8) (by decide)).trans e1
            obtain ⟨A, hA⟩ : ∃ A, (⟨frameOf 39 y, []⟩ : Act) = A := ⟨_, rfl⟩
            rw [hA] at v1 hK ⊢
            clear hA hy hp
            simp only [Act.eval] at v1
            go_simp
            exact hK _ _ ⟨trivial, fun _ => rfl, HJ.out.pure (by decide) (by decide)⟩
          · have e1 : y 33 = .int .i64 e := (hp.out 1 (by decide)).2 (by decide)
            have e2 : y 34 = .int .u64 AT := (hp.out 2 (by decide)).2 (by decide)
            intro K Q hK
            clear hcl hL
            have v1 := (eval_frame 39 y [] (t := 33) (by decide)).trans e1
            have v2 := (eval_frame 39 y [] (t := 34) (by decide)).trans e2
            obtain ⟨A, hA⟩ : ∃ A, (⟨frameOf 39 y, []⟩ : Act) = A := ⟨_, rfl⟩
            rw [hA] at v1 v2 hK ⊢
            clear hA hy hp
            simp only [Act.eval] at v1 v2
            go_simp
            refine (HFA.out _).mono ?_
            rintro r w5 ⟨rfl, hb5⟩
            exact hK _ _ ⟨trivial, fun _ => rfl, JA.step fun L' y' h1 h2 h3 h4 => PR.later (S := [4, 5]) HP.out hb5 rfl (by decide) h1⟩
          · have e1 : y 6 = .pointer (some ⟨(w.heap.size + 2), 0, none⟩) := hy.out 6 (by decide)
            have e2 : y 32 = .agg (s.C) := (hp.out 0 (by decide)).2 (by decide)
            have hN4 : L 4 = false := hL
            intro K Q hK
            clear hcl hL
            have v1 := (eval_frame 39 y [] (t := 6) (by decide)).trans e1
            have v2 := (eval_frame 39 y [] (t := 32) (by decide)).trans e2
            obtain ⟨A, hA⟩ : ∃ A, (⟨frameOf 39 y, []⟩ : Act) = A := ⟨_, rfl⟩
            rw [hA] at v1 v2 hK ⊢
            clear hA hy hp
            refine wp_store_row 26 (.tmp 6) (.tmp 32) rfl ((w.heap.size + 2)) (s.C) v1 v2 _ _ (PR.todo (i := 4) HP.out (List.mem_iff_getElem?.2 ⟨0, rfl⟩) hN4) (st_size HL.out) (zs_size HL.out) s.one ?_
            exact hK undef _ ⟨trivial, fun h => absurd h (by decide), JA.step fun L' y' h1 h2 h3 h4 => PR.store (i := 4) HP.out HD.out (List.mem_iff_getElem?.2 ⟨0, rfl⟩) rfl (h2 (by decide)) h1⟩
          · have e1 : y 7 = .pointer (some ⟨(w.heap.size + 3), 0, none⟩) := hy.out 7 (by decide)
            have e2 : y 35 = .agg (outC 3 e AT) := (hp.out 3 (by decide)).2 (by decide)
            have hN5 : L 5 = false := hL
            intro K Q hK
            clear hcl hL
            have v1 := (eval_frame 39 y [] (t := 7) (by decide)).trans e1
            have v2 := (eval_frame 39 y [] (t := 35) (by decide)).trans e2
            obtain ⟨A, hA⟩ : ∃ A, (⟨frameOf 39 y, []⟩ : Act) = A := ⟨_, rfl⟩
            rw [hA] at v1 v2 hK ⊢
            clear hA hy hp
            refine wp_store_row 36 (.tmp 7) (.tmp 35) rfl ((w.heap.size + 3)) ((outC 3 e AT)) v1 v2 _ _ (PR.todo (i := 5) HP.out (List.mem_iff_getElem?.2 ⟨1, rfl⟩) hN5) (by kernel_rfl) (by kernel_rfl) (out_one _ _ _) ?_
            exact hK undef _ ⟨trivial, fun h => absurd h (by decide), JA.step fun L' y' h1 h2 h3 h4 => PR.store (i := 5) HP.out HD.out (List.mem_iff_getElem?.2 ⟨1, rfl⟩) rfl (h2 (by decide)) h1⟩
    case steps2 =>
      refine ⟨?_, ?_, ?_, ?_, ?_, ?_, ?_, ?_, ?_, ?_, ?_, ?_, ?_, trivial⟩
      all_goals intro L y w9 hJ hL hy0 hp0 hcl hun
      all_goals have hy := Lib.hid hy0
      all_goals have hp := Lib.hid hp0
      all_goals have HJ := Lib.hid hJ
      all_goals have HP := Lib.hid hJ.out
      all_goals have hU := Lib.hid hun
      all_goals clear hy0 hp0 hun hJ
      · have e1 : y 2 = mp := hy.out 2 (by decide)
        intro K Q hK
        clear hcl hL
        have v1 := (eval_frame 39 y [] (t := 2) (by decide)).trans e1
        obtain ⟨A, hA⟩ : ∃ A, (⟨frameOf 39 y, []⟩ : Act) = A := ⟨_, rfl⟩
        rw [hA] at v1 hK ⊢
        clear hA hy hp
        simp only [Act.eval] at v1
        go_simp
        exact hK _ _ ⟨trivial, fun _ => rfl, HJ.out.pure (by decide) (by decide)⟩
      · have e1 : y 8 = .int .u64 AT := hy.out 8 (by decide)
        intro K Q hK
        clear hcl hL
        have v1 := (eval_frame 39 y [] (t := 8) (by decide)).trans e1
        obtain ⟨A, hA⟩ : ∃ A, (⟨frameOf 39 y, []⟩ : Act) = A := ⟨_, rfl⟩
        rw [hA] at v1 hK ⊢
        clear hA hy hp
        simp only [Act.eval] at v1
        go_simp
        exact hK _ _ ⟨trivial, fun _ => rfl, HJ.out.pure (by decide) (by decide)⟩
      · have e1 : y 4 = .pointer (some ⟨(w.heap.size + 1), 0, none⟩) := hy.out 4 (by decide)
        intro K Q hK
        clear hcl hL
        have v1 := (eval_frame 39 y [] (t := 4) (by decide)).trans e1
        obtain ⟨A, hA⟩ : ∃ A, (⟨frameOf 39 y, []⟩ : Act) = A := ⟨_, rfl⟩
        rw [hA] at v1 hK ⊢
        clear hA hy hp
        simp only [Act.eval] at v1
        go_simp
        exact hK _ _ ⟨trivial, fun _ => rfl, HJ.out.pure (by decide) (by decide)⟩
      · have e1 : y 20 = .pointer (some ⟨(w.heap.size + 1), 0, none⟩) := (hp.out 2 (by decide)).2 (by decide)
        have hN11 : L 11 = false := by
          cases h : L 11 with
          | false => rfl
          | true => have := (hcl 4 _ rfl (hcl 5 _ rfl (hcl 11 _ rfl h 5 (by decide)) 4 (by decide)) 3 (by decide)); rw [hL] at this; cases this
        have q0 : w9.cell? ⟨(w.heap.size + 1), 0, none⟩ = some (.int .i64 (o : Int)) := (Blk.cell ((HP.out.1 hN11).fx _ (List.mem_iff_getElem?.2 ⟨1, rfl⟩)) 0).trans rfl
        intro K Q hK
        clear hcl hL
        have v1 := (eval_frame 39 y [] (t := 20) (by decide)).trans e1
        obtain ⟨A, hA⟩ : ∃ A, (⟨frameOf 39 y, []⟩ : Act) = A := ⟨_, rfl⟩
        rw [hA] at v1 hK ⊢
        clear hA hy hp
        simp only [Act.eval] at v1
        go_simp
        exact hK _ _ ⟨trivial, fun _ => rfl, HJ.out.pure (by decide) (by decide)⟩
      · have e1 : y 21 = .int .i64 (o : Int) := (hp.out 3 (by decide)).2 (by decide)
        intro K Q hK
        clear hcl hL
        have v1 := (eval_frame 39 y [] (t := 21) (by decide)).trans e1
        obtain ⟨A, hA⟩ : ∃ A, (⟨frameOf 39 y, []⟩ : Act) = A := ⟨_, rfl⟩
        rw [hA] at v1 hK ⊢
        clear hA hy hp
        simp only [Act.eval] at v1
        go_simp
        first | exact hK _ _ ⟨trivial, fun _ => rfl, HJ.out.pure (by decide) (by decide)⟩ | (rw [if_pos (by omega)]; exact hK _ _ ⟨trivial, fun _ => rfl, HJ.out.pure (by decide) (by decide)⟩) | (rw [if_pos ⟨by omega, by omega⟩]; exact hK _ _ ⟨trivial, fun _ => rfl, HJ.out.pure (by decide) (by decide)⟩)
      · have e1 : y 22 = .pointer (some ⟨0, o, none⟩) := (hp.out 4 (by decide)).2 (by decide)
        have hN11 : L 11 = false := by
          cases h : L 11 with
          | false => rfl
          | true => have := (hcl 11 _ rfl h 5 (by decide)); rw [hL] at this; cases this
        have q0 : w9.cell? ⟨0, o, none⟩ = some (.int .i64 (sizesZ.getD o 0)) := (Blk.cell ((HP.out.1 hN11).fx _ (List.mem_iff_getElem?.2 ⟨4, rfl⟩)) _).trans (sizes_at ho)
        intro K Q hK
        clear hcl hL
        have v1 := (eval_frame 39 y [] (t := 22) (by decide)).trans e1
        obtain ⟨A, hA⟩ : ∃ A, (⟨frameOf 39 y, []⟩ : Act) = A := ⟨_, rfl⟩
        rw [hA] at v1 hK ⊢
        clear hA hy hp
        simp only [Act.eval] at v1
        go_simp
        exact hK _ _ ⟨trivial, fun _ => rfl, HJ.out.pure (by decide) (by decide)⟩
      · have e1 : y 4 = .pointer (some ⟨(w.heap.size + 1), 0, none⟩) := hy.out 4 (by decide)
        intro K Q hK
        clear hcl hL
        have v1 := (eval_frame 39 y [] (t := 4) (by decide)).trans e1
        obtain ⟨A, hA⟩ : ∃ A, (⟨frameOf 39 y, []⟩ : Act) = A := ⟨_, rfl⟩
        rw [hA] at v1 hK ⊢
        clear hA hy hp
        simp only [Act.eval] at v1
        go_simp
        exact hK _ _ ⟨trivial, fun _ => rfl, HJ.out.pure (by decide) (by decide)⟩
      · have e1 : y 24 = .pointer (some ⟨(w.heap.size + 1), 1, none⟩) := (hp.out 6 (by decide)).2 (by decide)
        have hN11 : L 11 = false := by
          cases h : L 11 with
          | false => rfl
          | true => have := (hcl 9 _ rfl (hcl 10 _ rfl (hcl 11 _ rfl h 10 (by decide)) 9 (by decide)) 7 (by decide)); rw [hL] at this; cases this
        have q1 : w9.cell? ⟨(w.heap.size + 1), 1, none⟩ = some (.int .i64 (a : Int)) := (Blk.cell ((HP.out.1 hN11).fx _ (List.mem_iff_getElem?.2 ⟨1, rfl⟩)) 1).trans rfl
        intro K Q hK
        clear hcl hL
        have v1 := (eval_frame 39 y [] (t := 24) (by decide)).trans e1
        obtain ⟨A, hA⟩ : ∃ A, (⟨frameOf 39 y, []⟩ : Act) = A := ⟨_, rfl⟩
        rw [hA] at v1 hK ⊢
        clear hA hy hp
        simp only [Act.eval] at v1
        go_simp
        exact hK _ _ ⟨trivial, fun _ => rfl, HJ.out.pure (by decide) (by decide)⟩
      · have e1 : y 3 = .pointer (some ⟨w.heap.size, 0, none⟩) := hy.out 3 (by decide)
        intro K Q hK
        clear hcl hL
        have v1 := (eval_frame 39 y [] (t := 3) (by decide)).trans e1
        obtain ⟨A, hA⟩ : ∃ A, (⟨frameOf 39 y, []⟩ : Act) = A := ⟨_, rfl⟩
        rw [hA] at v1 hK ⊢
        clear hA hy hp
        simp only [Act.eval] at v1
        go_simp
        exact hK _ _ ⟨trivial, fun _ => rfl, HJ.out.pure (by decide) (by decide)⟩
      · have e1 : y 26 = .pointer (some ⟨w.heap.size, 0, none⟩) := (hp.out 8 (by decide)).2 (by decide)
        have e2 : y 25 = .int .i64 (a : Int) := (hp.out 7 (by decide)).2 (by decide)
        intro K Q hK
        clear hcl hL
        have v1 := (eval_frame 39 y [] (t := 26) (by decide)).trans e1
        have v2 := (eval_frame 39 y [] (t := 25) (by decide)).trans e2
        obtain ⟨A, hA⟩ : ∃ A, (⟨frameOf 39 y, []⟩ : Act) = A := ⟨_, rfl⟩
        rw [hA] at v1 v2 hK ⊢
        clear hA hy hp
        simp only [Act.eval] at v1 v2
        go_simp
        first | exact hK _ _ ⟨trivial, fun _ => rfl, HJ.out.pure (by decide) (by decide)⟩ | (rw [if_pos (by omega)]; exact hK _ _ ⟨trivial, fun _ => rfl, HJ.out.pure (by decide) (by decide)⟩) | (rw [if_pos ⟨by omega, by omega⟩]; exact hK _ _ ⟨trivial, fun _ => rfl, HJ.out.pure (by decide) (by decide)⟩)
      · have e1 : y 27 = .pointer (some ⟨w.heap.size, a, none⟩) := (hp.out 9 (by decide)).2 (by decide)
        have hN11 : L 11 = false := by
          cases h : L 11 with
          | false => rfl
          | true => have := (hcl 11 _ rfl h 10 (by decide)); rw [hL] at this; cases this
        have q0 : w9.cell? ⟨w.heap.size, a, none⟩ = some (.int .u64 (s.R.getD a 0)) := (Blk.cell ((HP.out.1 hN11).fx _ (List.mem_iff_getElem?.2 ⟨0, rfl⟩)) _).trans (St.creg HL.out (by omega))
        intro K Q hK
        clear hcl hL
        have v1 := (eval_frame 39 y [] (t := 27) (by decide)).trans e1
        obtain ⟨A, hA⟩ : ∃ A, (⟨frameOf 39 y, []⟩ : Act) = A := ⟨_, rfl⟩
        rw [hA] at v1 hK ⊢
        clear hA hy hp
        simp only [Act.eval] at v1
        go_simp
        exact hK _ _ ⟨trivial, fun _ => rfl, HJ.out.pure (by decide) (by decide)⟩
      · have e1 : y 18 = mp := (hp.out 0 (by decide)).2 (by decide)
        have e2 : y 19 = .int .u64 AT := (hp.out 1 (by decide)).2 (by decide)
        have e3 : y 23 = .int .i64 (sizesZ.getD o 0) := (hp.out 5 (by decide)).2 (by decide)
        have e4 : y 28 = .int .u64 (s.R.getD a 0) := (hp.out 10 (by decide)).2 (by decide)
        have hN11 : L 11 = false := hL
        have HPX := Lib.hid (HP.out.1 hN11)
        intro K Q hK
        clear hcl hL
        have v1 := (eval_frame 39 y [] (t := 18) (by decide)).trans e1
        have v2 := (eval_frame 39 y [] (t := 19) (by decide)).trans e2
        have v3 := (eval_frame 39 y [] (t := 23) (by decide)).trans e3
        have v4 := (eval_frame 39 y [] (t := 28) (by decide)).trans e4
        obtain ⟨A, hA⟩ : ∃ A, (⟨frameOf 39 y, []⟩ : Act) = A := ⟨_, rfl⟩
        rw [hA] at v1 v2 v3 v4 hK ⊢
        clear hA hy hp
        simp only [Act.eval] at v1 v2 v3 v4
        go_simp
        refine (HST.out _ HPX.out.bel).mono ?_
        rintro r w5 ⟨rfl, ht5, hq5⟩
        exact hK _ _ ⟨trivial, fun _ => rfl, JA.step fun L' y' h1 h2 h3 h4 => ⟨fun h => (by rw [h2 (by decide)] at h; cases h), fun _ => ⟨_, HPX.out.bel, HPX.out.fx _ (List.mem_iff_getElem?.2 ⟨0, rfl⟩), HPX.out.fx _ (List.mem_iff_getElem?.2 ⟨2, rfl⟩), HPX.out.fx _ (List.mem_iff_getElem?.2 ⟨3, rfl⟩), ht5, hq5⟩⟩⟩
      · have e1 : y 29 = .int .i64 e := (hp.out 11 (by decide)).2 (by decide)
        intro K Q hK
        clear hcl hL
        have v1 := (eval_frame 39 y [] (t := 29) (by decide)).trans e1
        obtain ⟨A, hA⟩ : ∃ A, (⟨frameOf 39 y, []⟩ : Act) = A := ⟨_, rfl⟩
        rw [hA] at v1 hK ⊢
        clear hA hy hp
        simp only [Act.eval] at v1
        go_simp
        exact hK _ _ ⟨trivial, fun _ => rfl, HJ.out.pure (by decide) (by decide)⟩
  case steps1 =>
    refine ⟨?_, ?_, ?_, ?_, ?_, ?_, ?_, ?_, ?_, trivial⟩
    all_goals intro L y w9 hJ hL hy0 hp0 hcl hun
    all_goals have hy := Lib.hid hy0
    all_goals have hp := Lib.hid hp0
    all_goals have HJ := Lib.hid hJ
    all_goals have HP := Lib.hid hJ.out
    all_goals have hU := Lib.hid hun
    all_goals clear hy0 hp0 hun hJ
    · have e1 : y 4 = .pointer (some ⟨(w.heap.size + 1), 0, none⟩) := hy.out 4 (by decide)
      intro K Q hK
      clear hcl hL
      have v1 := (eval_frame 39 y [] (t := 4) (by decide)).trans e1
      obtain ⟨A, hA⟩ : ∃ A, (⟨frameOf 39 y, []⟩ : Act) = A := ⟨_, rfl⟩
      rw [hA] at v1 hK ⊢
      clear hA hy hp
      simp only [Act.eval] at v1
      go_simp
      exact hK _ _ ⟨trivial, fun _ => rfl, HJ.out.pure (by decide) (by decide)⟩
    · have e1 : y 10 = .pointer (some ⟨(w.heap.size + 1), 2, none⟩) := (hp.out 0 (by decide)).2 (by decide)
      have q2 : w9.cell? ⟨(w.heap.size + 1), 2, none⟩ = some (.int .i64 (b : Int)) := (Blk.cell (HP.out.fx _ (List.mem_iff_getElem?.2 ⟨1, rfl⟩)) 2).trans rfl
      intro K Q hK
      clear hcl hL
      have v1 := (eval_frame 39 y [] (t := 10) (by decide)).trans e1
      obtain ⟨A, hA⟩ : ∃ A, (⟨frameOf 39 y, []⟩ : Act) = A := ⟨_, rfl⟩
      rw [hA] at v1 hK ⊢
      clear hA hy hp
      simp only [Act.eval] at v1
      go_simp
      exact hK _ _ ⟨trivial, fun _ => rfl, HJ.out.pure (by decide) (by decide)⟩
    · have e1 : y 3 = .pointer (some ⟨w.heap.size, 0, none⟩) := hy.out 3 (by decide)
      intro K Q hK
      clear hcl hL
      have v1 := (eval_frame 39 y [] (t := 3) (by decide)).trans e1
      obtain ⟨A, hA⟩ : ∃ A, (⟨frameOf 39 y, []⟩ : Act) = A := ⟨_, rfl⟩
      rw [hA] at v1 hK ⊢
      clear hA hy hp
      simp only [Act.eval] at v1
      go_simp
      exact hK _ _ ⟨trivial, fun _ => rfl, HJ.out.pure (by decide) (by decide)⟩
    · have e1 : y 12 = .pointer (some ⟨w.heap.size, 0, none⟩) := (hp.out 2 (by decide)).2 (by decide)
      have e2 : y 11 = .int .i64 (b : Int) := (hp.out 1 (by decide)).2 (by decide)
      intro K Q hK
      clear hcl hL
      have v1 := (eval_frame 39 y [] (t := 12) (by decide)).trans e1
      have v2 := (eval_frame 39 y [] (t := 11) (by decide)).trans e2
      obtain ⟨A, hA⟩ : ∃ A, (⟨frameOf 39 y, []⟩ : Act) = A := ⟨_, rfl⟩
      rw [hA] at v1 v2 hK ⊢
      clear hA hy hp
      simp only [Act.eval] at v1 v2
      go_simp
      first | exact hK _ _ ⟨trivial, fun _ => rfl, HJ.out.pure (by decide) (by decide)⟩ | (rw [if_pos (by omega)]; exact hK _ _ ⟨trivial, fun _ => rfl, HJ.out.pure (by decide) (by decide)⟩) | (rw [if_pos ⟨by omega, by omega⟩]; exact hK _ _ ⟨trivial, fun _ => rfl, HJ.out.pure (by decide) (by decide)⟩)
    · have e1 : y 13 = .pointer (some ⟨w.heap.size, b, none⟩) := (hp.out 3 (by decide)).2 (by decide)
      have q0 : w9.cell? ⟨w.heap.size, b, none⟩ = some (.int .u64 (s.R.getD b 0)) := (Blk.cell (HP.out.fx _ (List.mem_iff_getElem?.2 ⟨0, rfl⟩)) _).trans (St.creg HL.out (by omega))
      intro K Q hK
      clear hcl hL
      have v1 := (eval_frame 39 y [] (t := 13) (by decide)).trans e1
      obtain ⟨A, hA⟩ : ∃ A, (⟨frameOf 39 y, []⟩ : Act) = A := ⟨_, rfl⟩
      rw [hA] at v1 hK ⊢
      clear hA hy hp
      simp only [Act.eval] at v1
      go_simp
      exact hK _ _ ⟨trivial, fun _ => rfl, HJ.out.pure (by decide) (by decide)⟩
    · have e1 : y 4 = .pointer (some ⟨(w.heap.size + 1), 0, none⟩) := hy.out 4 (by decide)
      have q0 : w9.cell? ⟨(w.heap.size + 1), 0, none⟩ = some (.int .i64 (o : Int)) := (Blk.cell (HP.out.fx _ (List.mem_iff_getElem?.2 ⟨1, rfl⟩)) 0).trans rfl
      have q1 : w9.cell? ⟨(w.heap.size + 1), 1, none⟩ = some (.int .i64 (a : Int)) := (Blk.cell (HP.out.fx _ (List.mem_iff_getElem?.2 ⟨1, rfl⟩)) 1).trans rfl
      have q2 : w9.cell? ⟨(w.heap.size + 1), 2, none⟩ = some (.int .i64 (b : Int)) := (Blk.cell (HP.out.fx _ (List.mem_iff_getElem?.2 ⟨1, rfl⟩)) 2).trans rfl
      have q3 : w9.cell? ⟨(w.heap.size + 1), 3, none⟩ = some (.int .i64 (c : Int)) := (Blk.cell (HP.out.fx _ (List.mem_iff_getElem?.2 ⟨1, rfl⟩)) 3).trans rfl
      have q4 : w9.cell? ⟨(w.heap.size + 1), 4, none⟩ = some (.int .i32 m) := (Blk.cell (HP.out.fx _ (List.mem_iff_getElem?.2 ⟨1, rfl⟩)) 4).trans rfl
      intro K Q hK
      clear hcl hL
      have v1 := (eval_frame 39 y [] (t := 4) (by decide)).trans e1
      obtain ⟨A, hA⟩ : ∃ A, (⟨frameOf 39 y, []⟩ : Act) = A := ⟨_, rfl⟩
      rw [hA] at v1 hK ⊢
      clear hA hy hp
      simp only [Act.eval] at v1
      go_simp
      exact hK _ _ ⟨trivial, fun _ => rfl, HJ.out.pure (by decide) (by decide)⟩
    · have e1 : y 15 = .agg #[.int .i64 (o : Int), .int .i64 (a : Int), .int .i64 (b : Int), .int .i64 (c : Int), .int .i32 m] := (hp.out 5 (by decide)).2 (by decide)
      intro K Q hK
      clear hcl hL
      have v1 := (eval_frame 39 y [] (t := 15) (by decide)).trans e1
      obtain ⟨A, hA⟩ : ∃ A, (⟨frameOf 39 y, []⟩ : Act) = A := ⟨_, rfl⟩
      rw [hA] at v1 hK ⊢
      clear hA hy hp
      simp only [Act.eval] at v1
      go_simp
      refine (HNU.out _).mono ?_
      rintro r w5 ⟨rfl, hb5⟩
      exact hK _ _ ⟨trivial, fun _ => rfl, JA.step fun L' y' h1 h2 h3 h4 => PR.later (S := []) HP.out hb5 rfl (by decide) h1⟩
    · have e1 : y 14 = .int .u64 (s.R.getD b 0) := (hp.out 4 (by decide)).2 (by decide)
      have e2 : y 16 = .int .u64 (IntKind.u64.wrap m) := (hp.out 6 (by decide)).2 (by decide)
      intro K Q hK
      clear hcl hL
      have v1 := (eval_frame 39 y [] (t := 14) (by decide)).trans e1
      have v2 := (eval_frame 39 y [] (t := 16) (by decide)).trans e2
      obtain ⟨A, hA⟩ : ∃ A, (⟨frameOf 39 y, []⟩ : Act) = A := ⟨_, rfl⟩
      rw [hA] at v1 v2 hK ⊢
      clear hA hy hp
      simp only [Act.eval] at v1 v2
      go_simp
      exact hK _ _ ⟨trivial, fun _ => rfl, HJ.out.pure (by decide) (by decide)⟩
    · have e1 : y 17 = .int .u64 (IntKind.u64.wrap (s.R.getD b 0 + IntKind.u64.wrap m)) := (hp.out 7 (by decide)).2 (by decide)
      intro K Q hK
      clear hcl hL
      have v1 := (eval_frame 39 y [] (t := 17) (by decide)).trans e1
      obtain ⟨A, hA⟩ : ∃ A, (⟨frameOf 39 y, []⟩ : Act) = A := ⟨_, rfl⟩
      rw [hA] at v1 hK ⊢
      clear hA hy hp
      simp only [Act.eval] at v1
      go_simp
      exact hK _ _ ⟨trivial, fun _ => rfl, HJ.out.pure (by decide) (by decide)⟩
end Go.Proofs.YtkhfmgifpppcmaaDoor
